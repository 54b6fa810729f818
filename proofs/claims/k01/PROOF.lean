import PyProof.Rows.All
import Wide.All
import OpenK.AllK
import Wide.FinOn
import KE.KOpsOwn
import HandS.ForMost
import HandS.Exc
import HandS.ExcOwn
import HandS.WordsExc
import HandS.IsInst
import HandS.Defaults
import HandS.Wide
import HandS.Gcd
import HandS.Lambda
import HandS.ExcInit
import HandS.ExcField
import HandS.Flow
import HandS.Rev
import HandS.HeadHook4
import HandS.HeadWalk
import HandS.NoneIn
import KE.KStateDown
import HandS.Head0
import HandS.Head1
import HandS.Head2
import HandS.Head3
import HandS.Text
import HandS.Codes
import HandS.StrMore
import KE.IntTextLaws
import PyProof.StrLawsTight
import PyProof.TupleOfStr
import PyProof.Rows.StrFacts
import HandS.ExcValue
import HandS.ExcIs
import HandS.TryMany
import HandS.Small
import PyProof.ReprRoads
import KE.KExcIs
import KE.KStar
import HandS.Walk
import HandS.Zip
import KE.GoesMore
import KE.GoesEnum
import HandS.OwnEq
import PyProof.NeKinds
import HandS.FStr
import KE.KIntText
import PyProof.Rows.StrOr
import PyProof.Rows.StrPadFill
import PyProof.StrBlock2
import HandS.WideBits
import HandS.RevRange
import KE.IntTextText
import HandS.Style
import PySem.Challenge.RW_hingeworks_k01_long_ratios
set_option Elab.async false
set_option linter.all false
set_option maxRecDepth 100000
set_option maxHeartbeats 4000000
section
/-! Ratios as rationals; Euclid. -/
namespace HwM
theorem fdiv_exact {a g : Int} (h : g ∣ a) : a.fdiv g = a / g := Int.fdiv_eq_ediv_of_dvd h
/-- the top of the lowest terms, by floor division -/
theorem num_fdiv {t b : Int} (hb : b ≠ 0) : t.fdiv (if b < 0 then -((Nat.gcd t.natAbs b.natAbs : Nat) : Int) else ((Nat.gcd t.natAbs b.natAbs : Nat) : Int)) = (Rat.divInt t b).num := by
  have hg : ((Nat.gcd t.natAbs b.natAbs : Nat) : Int) ∣ t := Int.ofNat_dvd_left.mpr (Nat.gcd_dvd_left _ _)
  have e : (b.gcd t : Nat) = Nat.gcd t.natAbs b.natAbs := by unfold Int.gcd; exact Nat.gcd_comm _ _
  rw [Rat.num_divInt, e]
  split
  · rename_i h
    rw [fdiv_exact (Int.neg_dvd.mpr hg), Int.sign_eq_neg_one_of_neg h, Int.ediv_neg, Int.neg_one_mul, Int.neg_ediv_of_dvd hg]
  · rename_i h
    rw [fdiv_exact hg, Int.sign_eq_one_of_pos (by omega), Int.one_mul]
theorem den_fdiv {t b : Int} (hb : b ≠ 0) : b.fdiv (if b < 0 then -((Nat.gcd t.natAbs b.natAbs : Nat) : Int) else ((Nat.gcd t.natAbs b.natAbs : Nat) : Int)) = ((Rat.divInt t b).den : Int) := by
  have hg : ((Nat.gcd t.natAbs b.natAbs : Nat) : Int) ∣ b := Int.ofNat_dvd_left.mpr (Nat.gcd_dvd_right _ _)
  have e : (b.gcd t : Nat) = Nat.gcd t.natAbs b.natAbs := by unfold Int.gcd; exact Nat.gcd_comm _ _
  rw [Rat.den_divInt, e, if_neg hb, Int.natCast_ediv]
  split
  · rename_i h
    rw [fdiv_exact (Int.neg_dvd.mpr hg), Int.ediv_neg]
    have : (b.natAbs : Int) = -b := by omega
    rw [this, Int.neg_ediv_of_dvd hg]
  · rename_i h
    rw [fdiv_exact hg]
    have : (b.natAbs : Int) = b := by omega
    rw [this]
theorem gcd_ne {t b : Int} (hb : b ≠ 0) : (if b < 0 then -((Nat.gcd t.natAbs b.natAbs : Nat) : Int) else ((Nat.gcd t.natAbs b.natAbs : Nat) : Int)) ≠ 0 := by
  have : 0 < Nat.gcd t.natAbs b.natAbs := Nat.gcd_pos_of_pos_right _ (by omega)
  split <;> omega
theorem gcd_le {t b : Int} (hb : b ≠ 0) : (if b < 0 then -((Nat.gcd t.natAbs b.natAbs : Nat) : Int) else ((Nat.gcd t.natAbs b.natAbs : Nat) : Int)).natAbs ≤ b.natAbs := by
  have : Nat.gcd t.natAbs b.natAbs ≤ b.natAbs := Nat.gcd_le_right _ (by omega)
  split <;> omega
theorem fdiv_le (a : Int) {b : Int} (hb : 0 < b) : (a.fdiv b).natAbs ≤ a.natAbs := by
  rw [Int.fdiv_eq_ediv_of_nonneg _ (by omega)]
  have h1 := Int.mul_ediv_add_emod a b
  have h2 := Int.emod_nonneg a (b := b) (by omega)
  have h3 := Int.emod_lt_of_pos a hb
  by_cases h : 0 ≤ a
  · have := Int.ediv_le_self b h
    have := Int.ediv_nonneg h (show 0 ≤ b by omega)
    omega
  · have h4 : a ≤ a / b := by
      rw [Int.le_ediv_iff_mul_le hb]
      have : a * b ≤ a * 1 := Int.mul_le_mul_of_nonpos_left (by omega) (by omega)
      omega
    have h5 : a / b < 0 := Int.ediv_neg_of_neg_of_pos (by omega) hb
    omega
theorem log2_lt {n k : Nat} (hk : 0 < k) (h : n < 2 ^ k) : n.log2 < k := by
  by_cases z : n = 0
  · subst z; simpa using hk
  · exact (Nat.log2_lt z).mpr h
/-! sizes -/
/-- both parts are below 2 ^ n -/
def Bd (n : Nat) (q : Rat) : Prop := q.num.natAbs < 2 ^ n ∧ q.den < 2 ^ n
theorem Bd.mono {m n : Nat} {q : Rat} (h : Bd m q) (hn : m ≤ n) : Bd n q :=
  ⟨Nat.lt_of_lt_of_le h.1 (Nat.pow_le_pow_right (by decide) hn), Nat.lt_of_lt_of_le h.2 (Nat.pow_le_pow_right (by decide) hn)⟩
theorem mul_lt {a b m n : Nat} (ha : a < 2 ^ m) (hb : b < 2 ^ n) : a * b < 2 ^ (m + n) := by
  rw [Nat.pow_add]; exact Nat.mul_lt_mul'' ha hb
theorem add_lt {a b n : Nat} (ha : a < 2 ^ n) (hb : b < 2 ^ n) : a + b < 2 ^ (n + 1) := by
  rw [Nat.pow_succ]; omega
theorem lt_mono {a m n : Nat} (h : a < 2 ^ m) (hn : m ≤ n) : a < 2 ^ n := Nat.lt_of_lt_of_le h (Nat.pow_le_pow_right (by decide) hn)
theorem divInt_bd {t b : Int} {n : Nat} (hn : 0 < n) (ht : t.natAbs < 2 ^ n) (hb : b.natAbs < 2 ^ n) : Bd n (Rat.divInt t b) := by
  refine ⟨?_, ?_⟩
  · rw [Rat.num_divInt]
    refine Nat.lt_of_le_of_lt ?_ ht
    refine Nat.le_trans (Int.natAbs_ediv_le_natAbs _ _) ?_
    rw [Int.natAbs_mul]
    have : b.sign.natAbs ≤ 1 := by
      rcases Int.lt_trichotomy b 0 with h | h | h
      · rw [Int.sign_eq_neg_one_of_neg h]; decide
      · subst h; decide
      · rw [Int.sign_eq_one_of_pos h]; decide
    calc b.sign.natAbs * t.natAbs ≤ 1 * t.natAbs := Nat.mul_le_mul_right _ this
      _ = t.natAbs := Nat.one_mul _
  · rw [Rat.den_divInt]
    split
    · exact Nat.one_lt_two_pow (by omega)
    · exact Nat.lt_of_le_of_lt (Nat.div_le_self _ _) hb
theorem num_add_bd {q r : Rat} {m n : Nat} (hq : Bd m q) (hr : Bd n r) : (q.num * r.den + r.num * q.den).natAbs < 2 ^ (m + n + 1) := by
  refine Nat.lt_of_le_of_lt (Int.natAbs_add_le _ _) ?_
  rw [Int.natAbs_mul, Int.natAbs_mul]
  refine add_lt ?_ ?_
  · exact mul_lt hq.1 (by simpa using hr.2)
  · rw [Nat.mul_comm]; exact mul_lt (by simpa using hq.2) hr.1
theorem num_sub_bd {q r : Rat} {m n : Nat} (hq : Bd m q) (hr : Bd n r) : (q.num * r.den - r.num * q.den).natAbs < 2 ^ (m + n + 1) := by
  refine Nat.lt_of_le_of_lt (Int.natAbs_sub_le _ _) ?_
  rw [Int.natAbs_mul, Int.natAbs_mul]
  refine add_lt ?_ ?_
  · exact mul_lt hq.1 (by simpa using hr.2)
  · rw [Nat.mul_comm]; exact mul_lt (by simpa using hq.2) hr.1
theorem den_bd {q r : Rat} {m n : Nat} (hq : Bd m q) (hr : Bd n r) : ((q.den : Int) * r.den).natAbs < 2 ^ (m + n) := by
  rw [Int.natAbs_mul]; exact mul_lt (by simpa using hq.2) (by simpa using hr.2)
theorem num_mul_bd {q r : Rat} {m n : Nat} (hq : Bd m q) (hr : Bd n r) : (q.num * r.num).natAbs < 2 ^ (m + n) := by
  rw [Int.natAbs_mul]; exact mul_lt hq.1 hr.1
theorem den_ne (q : Rat) : (q.den : Int) ≠ 0 := by have := q.den_pos; omega
theorem dens_ne (q r : Rat) : (q.den : Int) * r.den ≠ 0 := Int.mul_ne_zero (den_ne q) (den_ne r)
theorem add_eq (q r : Rat) : Rat.divInt (q.num * r.den + r.num * q.den) ((q.den : Int) * r.den) = q + r := by
  rw [Rat.add_def', ← Rat.divInt_ofNat]; norm_cast
theorem sub_eq (q r : Rat) : Rat.divInt (q.num * r.den - r.num * q.den) ((q.den : Int) * r.den) = q - r := by
  rw [Rat.sub_def', ← Rat.divInt_ofNat]; norm_cast
theorem mul_eq (q r : Rat) : Rat.divInt (q.num * r.num) ((q.den : Int) * r.den) = q * r := by
  rw [Rat.mul_def', ← Rat.divInt_ofNat]; norm_cast
theorem div_eq (q r : Rat) : Rat.divInt (q.num * r.den) ((q.den : Int) * r.num) = q / r := by
  rw [Rat.div_def, Rat.inv_def, ← Rat.divInt_mul_divInt, Rat.num_divInt_den]
theorem neg_eq (q : Rat) : Rat.divInt (-q.num) (q.den : Int) = -q := by
  rw [← Rat.neg_divInt, Rat.num_divInt_den]
theorem self_eq (q : Rat) : Rat.divInt q.num (q.den : Int) = q := Rat.num_divInt_den q
theorem scale_eq (q : Rat) {k : Int} (hk : k ≠ 0) : Rat.divInt (q.num * k) ((q.den : Int) * k) = q := by
  rw [Rat.divInt_mul_right hk, Rat.num_divInt_den]
theorem int_eq (i : Int) : Rat.divInt i 1 = (i : Rat) := by
  have := Rat.num_divInt_den (i : Rat)
  simpa using this
theorem add_bd {q r : Rat} {m n : Nat} (hq : Bd m q) (hr : Bd n r) : Bd (m + n + 1) (q + r) := by
  rw [← add_eq]; exact divInt_bd (by omega) (num_add_bd hq hr) (lt_mono (den_bd hq hr) (by omega))
theorem sub_bd {q r : Rat} {m n : Nat} (hq : Bd m q) (hr : Bd n r) : Bd (m + n + 1) (q - r) := by
  rw [← sub_eq]; exact divInt_bd (by omega) (num_sub_bd hq hr) (lt_mono (den_bd hq hr) (by omega))
theorem mul_bd {q r : Rat} {m n : Nat} (h0 : 0 < m + n) (hq : Bd m q) (hr : Bd n r) : Bd (m + n) (q * r) := by
  rw [← mul_eq]; exact divInt_bd h0 (num_mul_bd hq hr) (den_bd hq hr)
theorem neg_bd {q : Rat} {n : Nat} (hq : Bd n q) : Bd n (-q) := ⟨by simpa using hq.1, hq.2⟩
theorem int_bd {i : Int} {n : Nat} (hn : 0 < n) (h : i.natAbs < 2 ^ n) : Bd n (i : Rat) := ⟨by simpa using h, by simpa using Nat.one_lt_two_pow (by omega)⟩
/-! signs -/
theorem sign_num (q : Rat) : (q.num < 0 ↔ q < 0) ∧ (0 < q.num ↔ 0 < q) := by
  constructor
  · rw [Rat.lt_iff]; simp
  · rw [Rat.lt_iff]; simp
/-- -1, 0, 1 -/
def cmp (q r : Rat) : Int := if q < r then -1 else if r < q then 1 else 0
theorem gap_neg (q r : Rat) : q.num * r.den - r.num * q.den < 0 ↔ q < r := by rw [Rat.lt_iff]; omega
theorem gap_pos (q r : Rat) : 0 < q.num * r.den - r.num * q.den ↔ r < q := by rw [Rat.lt_iff]; omega
theorem cmp_lt (q r : Rat) : cmp q r < 0 ↔ q < r := by
  unfold cmp
  split
  · simp [*]
  · split <;> simp [*]
theorem cmp_le (q r : Rat) : cmp q r ≤ 0 ↔ q ≤ r := by
  unfold cmp
  split
  · rename_i h; simp [Rat.le_of_lt h]
  · rename_i h
    split
    · rename_i h2; simp [Rat.not_le.mpr h2]
    · rename_i h2; simp [Rat.not_lt.mp h2]
theorem cmp_zero (q r : Rat) : cmp q r = 0 ↔ q = r := by
  unfold cmp
  split
  · rename_i h; simp [Rat.ne_of_lt h]
  · rename_i h
    split
    · rename_i h2; simp [Rat.ne_of_gt h2]
    · rename_i h2; simp [Rat.le_antisymm (Rat.not_lt.mp h2) (Rat.not_lt.mp h)]
theorem cmp_sub (q r : Rat) : cmp (q - r) 0 = cmp q r := by
  have h1 : (q - r < 0) ↔ q < r := by
    rw [Rat.lt_iff_sub_pos, Rat.lt_iff_sub_pos q r]
    have : (0 : Rat) - (q - r) = r - q := by grind
    rw [this]
  have h2 : (0 < q - r) ↔ r < q := by rw [Rat.lt_iff_sub_pos r q]
  unfold cmp
  simp [h1, h2]
/-! Euclid's laps -/
theorem lap {x y : Int} {i n : Nat} (h0 : 0 ≤ x) (hy : 0 < y) (hyn : y.natAbs < 2 ^ n) (hi : i = 0 ∨ (y < x ∧ x.natAbs * y.natAbs * 2 ^ i < 2 ^ (2 * n + 2))) :
    x % y < y ∧ 0 ≤ x % y ∧ (x % y).natAbs < 2 ^ n ∧ y.natAbs * (x % y).natAbs * 2 ^ (i + 1) < 2 ^ (2 * n + 2) := by
  have a := Int.emod_nonneg x (show y ≠ 0 by omega)
  have b := Int.emod_lt_of_pos x hy
  have hr : (x % y).natAbs < 2 ^ n := by omega
  refine ⟨b, a, hr, ?_⟩
  rcases hi with rfl | ⟨h1, h2⟩
  · have := mul_lt hyn hr
    have e : 2 ^ (2 * n + 2) = 2 ^ (n + n) * 4 := by rw [show 2 * n + 2 = (n + n) + 2 by omega, Nat.pow_add]
    rw [e]
    simp only [Nat.zero_add, Nat.pow_one]
    omega
  · have hx : 2 * (x % y) < x := by
      have e := Int.mul_ediv_add_emod x y
      have q : 1 ≤ x / y := (Int.le_ediv_iff_mul_le hy).mpr (by omega)
      have : y * 1 ≤ y * (x / y) := Int.mul_le_mul_of_nonneg_left q (by omega)
      omega
    have h3 : 2 * (x % y).natAbs ≤ x.natAbs := by omega
    refine Nat.lt_of_le_of_lt ?_ h2
    calc y.natAbs * (x % y).natAbs * 2 ^ (i + 1) = y.natAbs * (2 * (x % y).natAbs) * 2 ^ i := by rw [Nat.pow_succ]; grind
      _ ≤ y.natAbs * x.natAbs * 2 ^ i := Nat.mul_le_mul_right _ (Nat.mul_le_mul_left _ h3)
      _ = x.natAbs * y.natAbs * 2 ^ i := by rw [Nat.mul_comm y.natAbs]
theorem laps_end {x y : Int} {n : Nat} (h0 : 0 ≤ y) (hy : y < x) (h : x.natAbs * y.natAbs * 2 ^ n < 2 ^ n) : y = 0 := by
  have : x.natAbs * y.natAbs < 1 := by
    have h2 : x.natAbs * y.natAbs * 2 ^ n < 1 * 2 ^ n := by simpa using h
    exact Nat.lt_of_mul_lt_mul_right h2
  have h3 : x.natAbs * y.natAbs = 0 := by omega
  rcases Nat.mul_eq_zero.mp h3 with e | e <;> omega
theorem gcd_step {x y : Int} (h0 : 0 ≤ x) (hy : 0 < y) : Nat.gcd y.natAbs (x % y).natAbs = Nat.gcd x.natAbs y.natAbs := by
  have e : (x % y).natAbs = x.natAbs % y.natAbs := by
    have := Int.natAbs_emod_of_nonneg h0 y
    exact this
  rw [e, Nat.gcd_comm y.natAbs, ← Nat.gcd_rec, Nat.gcd_comm]
end HwM
end

section
/-! Operators of an own class. -/
namespace Hw
open PySem PySem.W PySem.Calls PyProof.Rows

section
variable {prog : Program} {w : World} {A : Around} {E : Value → Shared → Prop} {s : Shared} {K : Frag} {x y C L f : Addr} {h₀ : Heap} {m : Str → Option Value} {ox oy : Obj} {od ody : Option Obj}
/-- a + b, both of the same own class -/
theorem bin_same {op : Operator} {Q : Value → Shared → Prop} (F : Fr h₀ L s.heap m) (X₀ : K.In h₀) (I : InstAt s.heap x ox C od) (J : InstAt s.heap y oy C ody) (hc : selfFirst K C = true)
    (hs : findIn K (.ref C) (PySem.dunder op.info.2) = some (some (.ref f))) (hf : isFn K (.ref f) = true)
    (h : wpAny (model prog w) A (call (.ref f) [.ref x, .ref y]) (PySem.W.CmpBack Q) E s) : wpAny (model prog w) A (binaryOp op (.ref x) (.ref y)) Q E s := by
  have X := X₀.keeps F.keep
  obtain ⟨cd, rest, hcd, hm⟩ := ksp_first hc
  rcases hi : op.info with ⟨sym, nm'⟩
  rw [hi] at hs
  dsimp only at hs
  have one := ksp_try X I hs hf h
  obtain ⟨hh, g, d, tt, os⟩ := s
  have L1 : Looks (model prog w) hh (typeOf (.ref x)) (.ref C) := I.type
  have L2 : Looks (model prog w) hh (typeOf (.ref y)) (.ref C) := J.type
  have L3 : Looks (model prog w) hh (fillsNumberSlot (.ref C) nm') true := fills_K X hcd hm hs
  have heq : (Value.ref C == Value.ref C) = true := by simp
  simp only [binaryOp, hi]
  refine wpAny_holding (wpAny_bind ?_)
  unfold binaryOp1
  refine wpAny_bind (L1.at (wpAny_bind (L2.at (wpAny_bind (L3.at ?_)))))
  simp only [heq, if_true]
  repeat ((fail_if_success (with_reducible show wpAny _ _ (tryMethod _ _ _) _ _ _)); lk)
  refine wpAny_mono one (fun r s' hr' => ?_) fun _ _ e => e
  obtain ⟨v, rfl, hq⟩ := hr'
  repeat ((fail_if_success (with_reducible show wpAny _ _ (tryMethod _ _ _) _ _ _)); lk)
  exact hq
end
end Hw

namespace L2
open PySem PySem.Spec PyProof.Rows
/-- what an own class must have for its operators -/
structure OpC (K : PySem.W.Frag) (C : Addr) (op : Operator) (f : Addr) : Prop where
  first : PySem.W.selfFirst K C = true
  at_ : PySem.W.findIn K (.ref C) (PySem.dunder op.info.2) = some (some (.ref f))
  fn : PySem.W.isFn K (.ref f) = true
  refl : PySem.W.findIn K (.ref C) (dunderR op.info.2) = some none
theorem cmpBack_of {X : Cx} {pins : List (Addr × Obj)} {σ : St} {Q : VK} {u : Value} {s : Shared} (h : EP X pins σ Q u s) : PySem.W.CmpBack (EP X pins σ Q) u s := by
  obtain ⟨v, H, I, r, q⟩ := id h
  cases v with
  | non => cases (show u = Value.none from r); exact h
  | bl b => cases (show u = Value.bool b from r); exact h
  | int i => obtain ⟨t, e⟩ := (show ∃ t, u = Value.int i t from r); cases e; exact h
  | str x => obtain ⟨t, e⟩ := (show ∃ t, u = Value.str x t from r); cases e; exact h
  | byt b => obtain ⟨t, e⟩ := (show ∃ t, u = Value.bytes b t from r); cases e; exact h
  | flt b => obtain ⟨t, e⟩ := (show ∃ t, u = Value.float b t from r); cases e; exact h
  | ref a => cases (show u = Value.ref a from r); exact h
  | ty n => cases (show u = Value.type n from r); exact h
/-- an instance at a -/
def Inst (H : Hp) (C : Addr) (x : V) : Prop := ∃ a dx fs, x = .ref a ∧ H a = some (.ins C dx fs)
def rOwn (C : Addr) (sp : Sp) (E : XK) : R2 := fun x y H Q => Inst H C x ∧ ((∃ i, y = .int i) ∨ Inst H C y) ∧ sp [x, y] H Q E
section
variable {X : Cx} {CX : CXT} {k : Nat} {f C : Addr} {fd : FuncData} {ps : List Str} {sp : Sp} {E : XK} {op : Operator}
theorem op_own (c : OpC X.K C op f) (F : FnOk X.prog X.w X.K X.mg X.base CX k f fd ps sp) (hr : Room k X.A) (hb : Binds X.K fd ps []) (hx : Passes CX X E)
    {fo ro : Option Value} (h1 : PySem.W.findIn X.K (.type "int") (PySem.dunder op.info.2) = some fo) (h2 : PySem.W.findIn X.K (.type "int") (dunderR op.info.2) = some ro) (hsub : PySem.W.subIn X.K (.type "int") (.ref C) = some false) :
    OpR X (binaryOp op) (rOwn C sp E) := by
  intro pins s σ H x y u v Q I rx ry h
  obtain ⟨⟨a, dx, fs, ex, ha⟩, hy, hs⟩ := h
  subst ex
  obtain rfl : u = Value.ref a := rx
  obtain ⟨mA, O, _⟩ := ins_get I.hok ha
  obtain ⟨od, J, _⟩ := O.look
  obtain ⟨m, fr⟩ := I.fr
  have run : wpAny (model X.prog X.w) X.A (call (.ref f) [Value.ref a, v]) (PySem.W.CmpBack (EP X pins σ Q)) X.xe s :=
    wpAny_mono (run_fn (vs := [.ref a, y]) (us := [.ref a, v]) F hr hb .nil hx I (.cons rfl (.cons ry .nil)) (by simpa using hs)) (fun _ _ z => cmpBack_of z) fun _ _ z => z
  rcases hy with ⟨i, rfl⟩ | ⟨b, dy, gs, rfl, hb'⟩
  · obtain ⟨t, rfl⟩ := (show ∃ t, v = Value.int i t from ry)
    exact PySem.W.ksp_binT fr I.ok.mod.kin J rfl c.first c.at_ c.fn c.refl (.inl rfl) h1 h2 hsub run
  · obtain rfl : v = Value.ref b := ry
    obtain ⟨mB, O2, _⟩ := ins_get I.hok hb'
    obtain ⟨od2, J2, _⟩ := O2.look
    exact Hw.bin_same fr I.ok.mod.kin J J2 c.first c.at_ c.fn run
/-- -a -/
def rOwn1 (C : Addr) (sp : Sp) (E : XK) : V → Hp → VK → Prop := fun x H Q => Inst H C x ∧ sp [x] H Q E
theorem un_own (hs : PySem.W.findIn X.K (.ref C) "__neg__" = some (some (.ref f))) (hf : PySem.W.isFn X.K (.ref f) = true) (F : FnOk X.prog X.w X.K X.mg X.base CX k f fd ps sp) (hr : Room k X.A) (hb : Binds X.K fd ps []) (hx : Passes CX X E) :
    UnR X (unaryOp .USub) (rOwn1 C sp E) := by
  intro pins s σ H x u Q I rx h
  obtain ⟨⟨a, dx, fs, ex, ha⟩, hs'⟩ := h
  subst ex
  obtain rfl : u = Value.ref a := rx
  obtain ⟨mA, O, _⟩ := ins_get I.hok ha
  obtain ⟨od, J, _⟩ := O.look
  obtain ⟨m, fr⟩ := I.fr
  exact PySem.W.ksp_neg fr I.ok.mod.kin J hs hf (run_fn (vs := [.ref a]) (us := [.ref a]) F hr hb .nil hx I (.cons rfl .nil) (by simpa using hs'))
/-- a == b by an own __eq__, b any value whose type is known -/
def rOwnEq (K : PySem.W.Frag) (C : Addr) (sp : Sp) (E : XK) : R2 := fun x y H Q => Inst H C x ∧ (∃ t, TyX K H y t ∧ PySem.W.notFirst K C t = true) ∧ sp [x, y] H Q E
theorem typ_of {pins : List (Addr × Obj)} {σ : St} {H : Hp} {s : Shared} {x : V} {u t : Value} (I : Inv X pins σ H s) (rx : RelV x u) (ty : TyX X.K H x t) : PySem.W.Looks (model X.prog X.w) s.heap (typeOf u) t := by
  obtain ⟨P, Z, p, _⟩ := kit_of I rx ty
  exact Z.ty _ _ I.kIn p
theorem op_ownEq (hs : PySem.W.findIn X.K (.ref C) "__eq__" = some (some (.ref f))) (hf : PySem.W.isFn X.K (.ref f) = true) (F : FnOk X.prog X.w X.K X.mg X.base CX k f fd ps sp) (hr : Room k X.A) (hb : Binds X.K fd ps []) (hx : Passes CX X E) :
    OpR X (compareOp .Eq) (rOwnEq X.K C sp E) := by
  intro pins s σ H x y u v Q I rx ry h
  obtain ⟨⟨a, dx, fs, ex, ha⟩, ⟨t, ty, nf⟩, hs'⟩ := h
  subst ex
  obtain rfl : u = Value.ref a := rx
  obtain ⟨mA, O, _⟩ := ins_get I.hok ha
  obtain ⟨od, J, _⟩ := O.look
  obtain ⟨m, fr⟩ := I.fr
  show wpAny (model X.prog X.w) X.A (richCompare .Eq (.ref a) v) (EP X pins σ Q) X.xe s
  refine PySem.W.cmp_K (op := .Eq) hr.units0 fr I.ok.mod.kin J (typ_of I ry ty) nf hs hf ?_
  exact wpAny_mono (run_fn (vs := [.ref a, y]) (us := [.ref a, v]) F hr hb .nil hx I (.cons rfl (.cons ry .nil)) (by simpa using hs')) (fun _ _ z => cmpBack_of z) fun _ _ z => z
end
end L2
end

section
/-! Calls by name, in short. -/
namespace L2
open PySem PySem.Spec PyProof.Rows
/-- a def of the text, as it stands behind the top -/
abbrev FD (K : PySem.W.Frag) (st : Stmt) (x qual : Str) (f : Addr) (fd : FuncData) : Prop := FunD K x qual (defArgs st) (defBody st) (defScope st) [] [] f fd
section
variable {P : Program} {w : World} {K : PySem.W.Frag} {mg : Str → Option Value} {base : Heap} {x qual : Str} {params : Arguments} {body : List Stmt} {scope : Scope} {dvs : List V} {kws : List (Str × V)} {f : Addr} {fd : FuncData}
/-- a def that lets no exception out -/
theorem FunD.ok0 {N ps : List Str} {k : Nat} {sp : Sp} (F : FunD K x qual params body scope dvs kws f fd) (S : FnScope N ps scope) (len : ∀ vs H Q E, sp vs H Q E → vs.length = ps.length)
    (hbody : ∀ (cdv : Value) (A : Around) (outer : List Env) (s : Shared) (H : Hp) (vs : List V) (Q : VK) (E : XK), Room k (A.deeper (envOfC qual scope s.heap.objs.size f cdv)) → sp vs H Q E →
      ∃ t, PSs (cxOf (L2.CX P w) P w K mg base N qual scope f cdv A outer s H E).nox body t ∧ t { nx := fun _ H' => Q .non H', rt := Q } (start N vs) H) : FnOk P w K mg base (L2.CX P w) (k + 1) f fd ps sp :=
  FunD.ok F S len fun cdv A outer s H vs Q E hr hsp => let ⟨t, h, q⟩ := hbody cdv A outer s H vs Q E hr hsp; ⟨t, h.nox, q⟩
theorem FunD.okX {N ps : List Str} {k : Nat} {sp : Sp} (F : FunD K x qual params body scope dvs kws f fd) (S : FnScope N ps scope) (len : ∀ vs H Q E, sp vs H Q E → vs.length = ps.length)
    (hbody : ∀ (cdv : Value) (A : Around) (outer : List Env) (s : Shared) (H : Hp) (vs : List V) (Q : VK) (E : XK), Room k (A.deeper (envOfC qual scope s.heap.objs.size f cdv)) → sp vs H Q E →
      ∃ t, PSs (cxOf (L2.CX P w) P w K mg base N qual scope f cdv A outer s H E) body t ∧ t { nx := fun _ H' => Q .non H', rt := Q } (start N vs) H) : FnOk P w K mg base (L2.CX P w) (k + 1) f fd ps sp :=
  FunD.ok F S len hbody
end
/-- a def that stands at the module's name x and keeps the promise sp -/
structure Gf (P : Program) (w : World) (K : PySem.W.Frag) (mg : Str → Option Value) (base : Heap) (x : Str) (k : Nat) (ps : List Str) (sp : Sp) : Prop where
  ex : ∃ (f : Addr) (fd : FuncData), mg x = some (.ref f) ∧ PySem.W.keepIn K (.ref f) = true ∧ Binds K fd ps [] ∧ FnOk P w K mg base (L2.CX P w) k f fd ps sp
/-- a method of the class at C -/
structure Mf (P : Program) (w : World) (K : PySem.W.Frag) (mg : Str → Option Value) (base : Heap) (C : Addr) (m : Str) (k : Nat) (ps : List Str) (sp : Sp) : Prop where
  cl : Cls K C
  ex : ∃ (f : Addr) (fd : FuncData), Meth K C m f ∧ Binds K fd ps [] ∧ FnOk P w K mg base (L2.CX P w) k f fd ps sp
/-- a class whose __init__ keeps sp; dvs: the defaults that are filled in -/
structure Kf (P : Program) (w : World) (K : PySem.W.Frag) (mg : Str → Option Value) (base : Heap) (x : Str) (C : Addr) (k : Nat) (ps : List Str) (dvs : List V) (sp : Sp) : Prop where
  ex : ∃ (f : Addr) (fd : FuncData) (ds : List Value), mg x = some (.ref C) ∧ Mk K C f ∧ Binds K fd ps ds ∧ Vals dvs ds ∧ FnOk P w K mg base (L2.CX P w) k f fd ps sp
section
variable {X : Cx} {j k : Nat} {x m : Str} {C : Addr} {ps : List Str} {dvs : List V} {sp : Sp} {E : XK} {e o : Expr} {es : List Expr} {t : TA} {ta : TE} {p pos apos : Pos}
theorem pe_g (c : Gf X.prog X.w X.K X.mg X.base x k ps sp) (hr : Room j X.A) (hk : k ≤ j) (hx : Passes (L2.CX X.prog X.w) X E) (hg : Gl X x) (ha : PA X (e :: es) t) (hdb : (x == ("__debug__" : Str)) = false := by decide)
    (he : starEach (e :: es) X.env = (false, eval e X.env) :: starEach es X.env := by rfl) (hpl : (backTo pos (starEach es X.env)).any (·.1) = false := by rfl) : PE X (.Call (.Name x p) (e :: es) [] pos) (tCall sp [] E t) := by
  obtain ⟨f, fd, h1, h2, h3, h4⟩ := c.ex
  exact pe_call h4 (hr.mono hk) hg h1 h2 h3 .nil hx ha hdb he hpl
theorem pe_g0 (c : Gf X.prog X.w X.K X.mg X.base x k ps sp) (hr : Room j X.A) (hk : k ≤ j) (hx : Passes (L2.CX X.prog X.w) X E) (hg : Gl X x) (hdb : (x == ("__debug__" : Str)) = false := by decide) : PE X (.Call (.Name x p) [] [] pos) (tCall sp [] E tNil) := by
  obtain ⟨f, fd, h1, h2, h3, h4⟩ := c.ex
  exact pe_call0 h4 (hr.mono hk) hg h1 h2 h3 .nil hx hdb
theorem pe_m {pl : Sem Bool} (c : Mf X.prog X.w X.K X.mg X.base C m k ps sp) (hr : Room j X.A) (hk : k ≤ j) (hx : Passes (L2.CX X.prog X.w) X E) (he : PE X o ta) (ha : PA X (e :: es) t)
    (hst : starEach (e :: es) X.env = (false, eval e X.env) :: starEach es X.env := by rfl) (hpl : (backTo pos (starEach es X.env)).any (·.1) = false := by rfl)
    (ht : eval (.Call (.Attribute o m apos) (e :: es) [] pos) X.env = (do
      let ov ← eval o X.env
      standAt apos.atName
      let (f, first) ← holding [ov] (getMethod ov m pl)
      callWith pos f first (backTo pos (starEach (e :: es) X.env)) (backToKw pos (keywordEach [] X.env))) := by rfl) :
    PE X (.Call (.Attribute o m apos) (e :: es) [] pos) (tMeth C m sp [] E ta t) := by
  obtain ⟨f, fd, h1, h2, h3⟩ := c.ex
  exact pe_meth he c.cl h1 h3 (hr.mono hk) h2 .nil hx ha hst hpl ht
theorem pe_k (c : Kf X.prog X.w X.K X.mg X.base x C k ps dvs sp) (hr : Room j X.A) (hk : k + 1 ≤ j) (hx : Passes (L2.CX X.prog X.w) X E) (hg : Gl X x) (ha : PA X (e :: es) t) (hdb : (x == ("__debug__" : Str)) = false := by decide)
    (he : starEach (e :: es) X.env = (false, eval e X.env) :: starEach es X.env := by rfl) (hpl : (backTo pos (starEach es X.env)).any (·.1) = false := by rfl) : PE X (.Call (.Name x p) (e :: es) [] pos) (tMake C sp dvs E t) := by
  obtain ⟨f, fd, ds, h1, h2, h3, h4, h5⟩ := c.ex
  exact pe_make h2 h5 (hr.mono hk) hg h1 h3 h4 hx ha hdb he hpl
theorem cxOf_K {CX : CXT} {P : Program} {w : World} {K : PySem.W.Frag} {mg : Str → Option Value} {base : Heap} {N : List Str} {q : Str} {sc : Scope} {f : Addr} {cd : Value} {A : Around} {o : List Env} {s : Shared} {H : Hp} {E : XK} : (cxOf CX P w K mg base N q sc f cd A o s H E).K = K := rfl
/-- a tuple (top, bottom) -/
def qv (q : Rat) : List V := [.int q.num, .int (q.den : Int)]
theorem at0 {q : Rat} {v : V} : atI (qv q) 0 = some v ↔ v = .int q.num := by
  have e : atI (qv q) ((0 : Nat) : Int) = some (.int q.num) := atI_nat rfl
  have e2 : atI (qv q) 0 = some (.int q.num) := e
  rw [e2]
  exact ⟨fun z => (Option.some.inj z).symm, fun z => by rw [z]⟩
theorem at1 {q : Rat} {v : V} : atI (qv q) 1 = some v ↔ v = .int (q.den : Int) := by
  have e : atI (qv q) ((1 : Nat) : Int) = some (.int (q.den : Int)) := atI_nat rfl
  have e2 : atI (qv q) 1 = some (.int (q.den : Int)) := e
  rw [e2]
  exact ⟨fun z => (Option.some.inj z).symm, fun z => by rw [z]⟩
def rIxTH : R2 := fun x y H Q => ∃ p xs i v, x = .ref p ∧ y = .int i ∧ H p = some (.tup xs) ∧ atI xs i = some v ∧ Q v H
def rIxLH : R2 := fun x y H Q => ∃ p xs i v, x = .ref p ∧ y = .int i ∧ H p = some (.lst xs) ∧ atI xs i = some v ∧ Q v H
theorem ix_tupH {X : Cx} : IxR X rIxTH := fun va sl pins s σ H x y v u Q I rx ry h hs => by
  obtain ⟨p, xs, i, z, e1, e2, e3, e4, q⟩ := h
  exact ix_tup va sl pins s σ H x y v u Q I rx ry ⟨p, xs, i, z, e1, e2, SqT.of e3, e4, q⟩ hs
theorem ix_listH {X : Cx} : IxR X rIxLH := fun va sl pins s σ H x y v u Q I rx ry h hs => by
  obtain ⟨p, xs, i, z, e1, e2, e3, e4, q⟩ := h
  exact ix_list va sl pins s σ H x y v u Q I rx ry ⟨p, xs, i, z, e1, e2, SqL.of e3, e4, q⟩ hs
theorem call_isiE {X : Cx} {K : PySem.W.Frag} (h : X.K = K) : CallR X (.builtin "isinstance") (rIsi K) := by subst h; exact call_isi
theorem ne_nil {K : PySem.W.Frag} {H : Hp} {a b : Addr} {Q : VK} (ha : H a = some (.lst [])) (hb : H b = some (.lst [])) (k : Q (.bl false) H) : rNeD K (.ref a) (.ref b) H Q :=
  ⟨.list [], .list [], .lst (SqL.of ha) .nil, .lst (SqL.of hb) .nil, by rfl, by rfl, k⟩
theorem eq_pair {K : PySem.W.Frag} {H : Hp} {a b : Addr} {t1 b1 t2 b2 : Int} {Q : VK} (ha : H a = some (.tup [.int t1, .int b1])) (hb : H b = some (.tup [.int t2, .int b2])) (k : Q (.bl (decide (t1 = t2 ∧ b1 = b2))) H) : rEqD K (.ref a) (.ref b) H Q := by
  refine ⟨.tuple [.int t1, .int b1], .tuple [.int t2, .int b2], .tup (SqT.of ha) (.cons (.int _) (.cons (.int _) .nil)), .tup (SqT.of hb) (.cons (.int _) (.cons (.int _) .nil)), by rfl, by rfl, ?_⟩
  have e : PyData.eqv (.tuple [.int t1, .int b1]) (.tuple [.int t2, .int b2]) = decide (t1 = t2 ∧ b1 = b2) := by
    simp [PyData.eqv, PyData.eqvAll, Bool.beq_eq_decide_eq]
  rw [e]
  exact k
section
variable {K : PySem.W.Frag} {H : Hp} {R : Bool → Prop} {i : Int} {c : Bool}
theorem isi_ii (h : R true) : ∃ x x1, ClsV (.ty "int") x1 ∧ TyX K H (.int i) x ∧ ∃ b, PySem.W.kitOne K x x1 = some b ∧ R b := ⟨.type "int", .type "int", .ty _, .base (.int i), true, kit_ty (by decide +kernel), h⟩
theorem isi_ib (h : R false) : ∃ x x1, ClsV (.ty "bool") x1 ∧ TyX K H (.int i) x ∧ ∃ b, PySem.W.kitOne K x x1 = some b ∧ R b := ⟨.type "int", .type "bool", .ty _, .base (.int i), false, kit_ty (by decide +kernel), h⟩
theorem isi_bb (h : R true) : ∃ x x1, ClsV (.ty "bool") x1 ∧ TyX K H (.bl c) x ∧ ∃ b, PySem.W.kitOne K x x1 = some b ∧ R b := ⟨.type "bool", .type "bool", .ty _, .base (.bl c), true, kit_ty (by decide +kernel), h⟩
end
theorem eq_bl3 {K : PySem.W.Frag} {H : Hp} {a b : Addr} {x y z : Bool} {Q : VK} (ha : H a = some (.lst [.bl x, .bl y, .bl z])) (hb : H b = some (.lst [.bl x, .bl y, .bl z])) (k : Q (.bl true) H) : rEqD K (.ref a) (.ref b) H Q := by
  refine ⟨.list [.bool x, .bool y, .bool z], .list [.bool x, .bool y, .bool z], .lst (SqL.of ha) (.cons (.bl _) (.cons (.bl _) (.cons (.bl _) .nil))), .lst (SqL.of hb) (.cons (.bl _) (.cons (.bl _) (.cons (.bl _) .nil))), by rfl, by rfl, ?_⟩
  have e : PyData.eqv (.list [.bool x, .bool y, .bool z]) (.list [.bool x, .bool y, .bool z]) = true := by simp [PyData.eqv, PyData.eqvAll]
  rw [e]
  exact k
def gTupH (n : Nat) (t : TGs) : TG := fun v σ H Q => ∃ a xs, v = .ref a ∧ H a = some (.tup xs) ∧ xs.length = n ∧ t xs σ H Q
theorem pg_tupH {X : Cx} {es : List Expr} {k : Nat} {t : TGs} {n : Nat} {pos : Pos} (hc : X.calm = true) (h : PGs X es t)
    (hn : (assignEach es X.env).length = n := by rfl) (hst : (assignEach es X.env).findIdx? (·.1) = none := by rfl) : PG X (.Tuple es k pos) (gTupH n t) :=
  ⟨fun pins s σ H v u Q I r hw => by
    obtain ⟨a, xs, e1, e2, e3, e4⟩ := hw
    exact (pg_tup (pos := pos) (k := k) hc h hn hst).run pins s σ H v u Q I r ⟨a, xs, e1, SqT.of e2, e3, e4⟩⟩
theorem line_le {n : Nat} (h : n ≤ 1000) : n ≤ sizeLine := Nat.le_trans h (by decide)
theorem scal_ii {i j : Int} : scal (.int i) (.int j) = true := rfl
theorem scal_bb {i j : Bool} : scal (.bl i) (.bl j) = true := rfl
theorem scal_ss {i j : Str} : scal (.str i) (.str j) = true := rfl
theorem same_new {H : Hp} {p : Addr} {o : HO} (h : H p = none) : Same H (upd H p o) := fun b u e => by rw [upd_ne (ne_of_none e h)]; exact e
theorem seqL_same {K : PySem.W.Frag} {H H' : Hp} {a : Addr} {xs : List V} (e : Same H H') (h : SqL K H a xs) : SqL K H' a xs := e.seq h
theorem seqT_same {K : PySem.W.Frag} {H H' : Hp} {a : Addr} {xs : List V} (e : Same H H') (h : SqT K H a xs) : SqT K H' a xs :=
  h.elim (fun h => .inl (h.elim (fun h => .inl (e _ _ h)) fun ⟨o, h⟩ => .inr ⟨o, e _ _ h⟩)) fun h => .inr h
theorem upd_get {H : Hp} {p : Addr} {o u : HO} (h : H p = none) {b : Addr} (e : H b = some u) : upd H p o b = some u := by rw [upd_ne (ne_of_none e h)]; exact e
/-- floor division by any divisor below 2 ^ 9000 in size, not 0 -/
def CDivX (_ j : Int) : Prop := j ≠ 0 ∧ j.natAbs.log2 < 9000
theorem op_fdivX : OpR X (binaryOp .FloorDiv) (rI CDivX fun i j => .int (i.fdiv j)) := opI fun i j _ _ _ _ _ hc q => floordiv_int hc.1 q (.inl (PyProof.noPylong_of_log2 hc.2))
end

/-- an operator of the own class at C -/
structure Of (P : Program) (w : World) (K : PySem.W.Frag) (mg : Str → Option Value) (base : Heap) (C : Addr) (op : Operator) (k : Nat) (sp : Sp) : Prop where
  ex : ∃ (f : Addr) (fd : FuncData) (ps : List Str) (fo ro : Option Value), OpC K C op f ∧ Binds K fd ps [] ∧ FnOk P w K mg base (L2.CX P w) k f fd ps sp ∧
    PySem.W.findIn K (.type "int") (PySem.dunder op.info.2) = some fo ∧ PySem.W.findIn K (.type "int") (dunderR op.info.2) = some ro ∧ PySem.W.subIn K (.type "int") (.ref C) = some false
/-- -x of the own class at C -/
structure Nf (P : Program) (w : World) (K : PySem.W.Frag) (mg : Str → Option Value) (base : Heap) (C : Addr) (k : Nat) (sp : Sp) : Prop where
  ex : ∃ (f : Addr) (fd : FuncData) (ps : List Str), PySem.W.findIn K (.ref C) "__neg__" = some (some (.ref f)) ∧ PySem.W.isFn K (.ref f) = true ∧ Binds K fd ps [] ∧ FnOk P w K mg base (L2.CX P w) k f fd ps sp
/-- == of the own class at C -/
structure Ef (P : Program) (w : World) (K : PySem.W.Frag) (mg : Str → Option Value) (base : Heap) (C : Addr) (k : Nat) (sp : Sp) : Prop where
  ex : ∃ (f : Addr) (fd : FuncData) (ps : List Str), PySem.W.findIn K (.ref C) "__eq__" = some (some (.ref f)) ∧ PySem.W.isFn K (.ref f) = true ∧ Binds K fd ps [] ∧ FnOk P w K mg base (L2.CX P w) k f fd ps sp
/-- an own exception class at C, its __init__ keeps sp -/
structure Xf (P : Program) (w : World) (K : PySem.W.Frag) (mg : Str → Option Value) (base : Heap) (x : Str) (C : Addr) (k : Nat) (sp : Sp) : Prop where
  ex : ∃ (f : Addr) (fd : FuncData) (ps : List Str), mg x = some (.ref C) ∧ OexC K C ∧ PySem.W.findIn K (.ref C) "__init__" = some (some (.ref f)) ∧ PySem.W.typeIn K (.ref f) = some (.type "function") ∧ Binds K fd ps [] ∧ FnOk P w K mg base (L2.CX P w) k f fd ps sp
section
variable {X : Cx} {j k : Nat} {x : Str} {C : Addr} {sp : Sp} {E : XK} {op : Operator} {e : Expr} {es : List Expr} {t : TA} {p pos pos2 : Pos} {W : WX}
theorem op_o (c : Of X.prog X.w X.K X.mg X.base C op k sp) (hr : Room j X.A) (hk : k ≤ j) (hx : Passes (L2.CX X.prog X.w) X E) : OpR X (binaryOp op) (rOwn C sp E) := by
  obtain ⟨f, fd, ps, fo, ro, h1, h2, h3, h4, h5, h6⟩ := c.ex
  exact op_own h1 h3 (hr.mono hk) h2 hx h4 h5 h6
theorem un_o (c : Nf X.prog X.w X.K X.mg X.base C k sp) (hr : Room j X.A) (hk : k ≤ j) (hx : Passes (L2.CX X.prog X.w) X E) : UnR X (unaryOp .USub) (rOwn1 C sp E) := by
  obtain ⟨f, fd, ps, h1, h2, h3, h4⟩ := c.ex
  exact un_own h1 h2 h4 (hr.mono hk) h3 hx
theorem eq_o (c : Ef X.prog X.w X.K X.mg X.base C k sp) (hr : Room j X.A) (hk : k ≤ j) (hx : Passes (L2.CX X.prog X.w) X E) : OpR X (compareOp .Eq) (rOwnEq X.K C sp E) := by
  obtain ⟨f, fd, ps, h1, h2, h3, h4⟩ := c.ex
  exact op_ownEq h1 h2 h4 (hr.mono hk) h3 hx
theorem ps_raiseX (c : Xf X.prog X.w X.K X.mg X.base x C k sp) (hr : Room j X.A) (hk : k + 1 ≤ j) (hc : X.calm = true) (tk : Takes X W) (hg : Gl X x) (ha : PA X (e :: es) t)
    (hdb : (x == ("__debug__" : Str)) = false := by decide) (he : starEach (e :: es) X.env = (false, eval e X.env) :: starEach es X.env := by rfl) (hpl : (backTo pos (starEach es X.env)).any (·.1) = false := by rfl) :
    PS X (.Raise (some (.Call (.Name x p) (e :: es) [] pos)) none pos2) (fun _ σ H => tMkO C sp [] t σ H fun cls d H' => W cls d σ H') := by
  obtain ⟨f, fd, ps, h1, h2, h3, h4, h5, h6⟩ := c.ex
  exact ps_raise hc tk (pmk_oex h2 h3 h4 h6 (hr.mono hk) h5 .nil passL hg h1 ha hdb he hpl)
theorem passX (hs : X.stack = X.env :: X.outer) (hf : X.env.frame = some X.env.locals) (hex : X.ex = []) {E₁ : Value → Shared → Prop}
    (hx : X.xe = fun e s' => wpAny (model X.prog X.w) X.A (leaving X.env e) (fun _ s'' => CX X.prog X.w X.outer X.H_0 X.s_0 E e s'') E₁ s') : Passes (L2.CX X.prog X.w) X E :=
  passes_call (takes_of hs hf hex hx) fun _ _ _ _ z => z
end
/-! ### own exceptions with fields -/
/-- __init__(self, a, b): self.a = a; self.b = b -/
def spX2 (C : Addr) (f1 f2 : Str) : Sp := fun vs H Q _ => ∃ (a : Addr) (x y : V), vs = [.ref a, x, y] ∧ H a = some (exo a C none) ∧
  ∀ d, H d = none → d ≠ a → Q .non (upd (upd (upd H d (exd d [(f1, x)])) a (exo a C (some d))) d (exd d [(f2, y), (f1, x)]))
def spX1 (C : Addr) (f1 : Str) : Sp := fun vs H Q _ => ∃ (a : Addr) (x : V), vs = [.ref a, x] ∧ H a = some (exo a C none) ∧
  ∀ d, H d = none → d ≠ a → Q .non (upd (upd H d (exd d [(f1, x)])) a (exo a C (some d)))
theorem x2_made {H1 : Hp} {a d C : Addr} {f1 f2 : Str} {x y : V} {Q : XK} (ha : H1 a = none) (hd : H1 d = none) (hda : d ≠ a)
    (k : ∀ H', Same H1 H' → H' d = some (.xd [(f2, y), (f1, x)]) → Q (.ref C) (some d) H') :
    ∃ (d' : Addr), (upd (upd (upd (upd H1 a (exo a C none)) d (exd d [(f1, x)])) a (exo a C (some d))) d (exd d [(f2, y), (f1, x)])) a = some (exo a C (some d')) ∧ ∃ (fs : List (Str × V)),
      (upd (upd (upd (upd H1 a (exo a C none)) d (exd d [(f1, x)])) a (exo a C (some d))) d (exd d [(f2, y), (f1, x)])) d' = some (exd d' fs) ∧ H1 d' = none ∧
      Q (.ref C) (some d') (upd (del (upd (upd (upd (upd H1 a (exo a C none)) d (exd d [(f1, x)])) a (exo a C (some d))) d (exd d [(f2, y), (f1, x)])) a) d' (.xd fs)) := by
  refine ⟨d, by rw [upd_ne hda.symm, upd_same], _, upd_same, hd, k _ (fun b o e => ?_) upd_same⟩
  have n1 := ne_of_none e ha
  have n2 := ne_of_none e hd
  rw [upd_ne n2, del_ne n1, upd_ne n2, upd_ne n1, upd_ne n2, upd_ne n1]
  exact e
theorem x1_made {H1 : Hp} {a d C : Addr} {f1 : Str} {x : V} {Q : XK} (ha : H1 a = none) (hd : H1 d = none) (hda : d ≠ a)
    (k : ∀ H', Same H1 H' → H' d = some (.xd [(f1, x)]) → Q (.ref C) (some d) H') :
    ∃ (d' : Addr), (upd (upd (upd H1 a (exo a C none)) d (exd d [(f1, x)])) a (exo a C (some d))) a = some (exo a C (some d')) ∧ ∃ (fs : List (Str × V)),
      (upd (upd (upd H1 a (exo a C none)) d (exd d [(f1, x)])) a (exo a C (some d))) d' = some (exd d' fs) ∧ H1 d' = none ∧
      Q (.ref C) (some d') (upd (del (upd (upd (upd H1 a (exo a C none)) d (exd d [(f1, x)])) a (exo a C (some d))) a) d' (.xd fs)) := by
  refine ⟨d, upd_same, _, by rw [upd_ne hda, upd_same], hd, k _ (fun b o e => ?_) upd_same⟩
  have n1 := ne_of_none e ha
  have n2 := ne_of_none e hd
  rw [upd_ne n2, del_ne n1, upd_ne n1, upd_ne n2, upd_ne n1]
  exact e
end L2
end

section
/-! Lambdas handed to a def of the text; the tables of code objects beside a thing that changes. -/
namespace L2
open PySem PySem.Spec PyProof.Rows LamX
section
variable {P : Program} {w : World} {K : PySem.W.Frag} {mg : Str → Option Value} {base : Heap} {x qual : Str} {params : Arguments} {body : List Stmt} {scope : Scope} {dvs : List V} {kws : List (Str × V)} {f : Addr} {fd : FuncData}
/-- a def that lets no exception out, its code object named -/
theorem FunD.okC {N ps : List Str} {k : Nat} {sp : Sp} (F : FunD K x qual params body scope dvs kws f fd) (S : FnScope N ps scope) (len : ∀ vs H Q E, sp vs H Q E → vs.length = ps.length)
    (hbody : ∀ (A : Around) (outer : List Env) (s : Shared) (H : Hp) (vs : List V) (Q : VK) (E : XK), Room k (A.deeper (envOfC qual scope s.heap.objs.size f fd.code)) → sp vs H Q E →
      ∃ t, PSs (cxOf (L2.CX P w) P w K mg base N qual scope f fd.code A outer s H E).nox body t ∧ t { nx := fun _ H' => Q .non H', rt := Q } (start N vs) H) : FnOk P w K mg base (L2.CX P w) (k + 1) f fd ps sp := by
  obtain ⟨oc, od, dV, kV, doc, pm, an, cdv, ct, osl, rfl, lk, hcd, _, _⟩ := F.ex
  exact fn_of lk hcd S len fun A outer s H vs Q E hr hsp => let ⟨t, h, q⟩ := hbody A outer s H vs Q E hr hsp; ⟨t, h.nox, q⟩
end
section
variable {X : Cx}
/-- x(lambda: body), x a def of the text -/
theorem pe_lamF {T : List (Addr × Str)} {TT : (XK → Hp → VK → Prop) → Hp → VK → Prop} {x a : Str} {g c P : Addr} {fdg : FuncData} {k : Nat} {pg : Arguments} {bg : List Stmt} {sg : Scope} {Ng : List Str}
    {params : Arguments} {body : Expr} {scope : Scope} {t : XK → TE} {p lpos pos : Pos} (F : FunD X.K x x pg bg sg [] [] g fdg) (bB : Binds X.K fdg [a] []) (hg : Gl X x) (hm : X.mg x = some (.ref g)) (Sg : FnScope Ng [a] sg) (hNg : Ng[0]? = some a) (hva : Vis sg a)
    (hG : ∀ cdg : Value, GivesTo X Ng x sg g cdg bg a (X.env.qual ++ "<lambda>") TT)
    (TB : TabB X.base X.mg c P) (hcode : X.env.code = .ref c) (hmT : (P, X.env.qual ++ "<lambda>") ∈ T) (hu : ∀ p ∈ T, p.1 = P → p.2 = X.env.qual ++ "<lambda>") (hr : Room (k + 2) X.A) (L : LamS X.env.scope scope) (hdef : defaultsOf params X.env = ([], []))
    (hbind : ∀ (q : Str) (cl : List (Str × Addr)) (pm cv ctv : Value), bindArgs (PySem.W.kla_fn "<lambda>" q params body scope cl pm cv ctv) ⟨[], []⟩ = pure [])
    (hbody : ∀ (A : Around) (outer : List Env) (s : Shared) (H : Hp) (E : XK) (f c' : Addr), Room k (A.deeper (lamEnv X scope s.heap.objs.size f c')) → PE (lamCx X A outer s H E scope f c') body (t E))
    (hdb : (x == ("__debug__" : Str)) = false := by decide) (hd : (a == ("__debug__" : Str)) = false := by decide) (hcd : (a == ("__classdict__" : Str)) = false := by decide) :
    PE X (.Call (.Name x p) [.Lambda params body scope lpos] [] pos) (tLam T TT t) := by
  obtain ⟨oc, od, dV, kV, doc, pm, an, cdv, ct, osl, rfl, lk, hcg, _, _⟩ := F.ex
  exact pe_lamcall hg hm F.kp lk hcg bB Sg hNg hva (hG cdv) TB hcode hmT hu hr L hdef hbind hbody hdb hd hcd
end
/-- at a raise, all slots are there -/
theorem takes_len {X : Cx} {W : WX} (t : Takes X W) : Takes X (fun cls d σ H => σ.length = X.N.length → W cls d σ H) := fun e s1 h => by
  obtain ⟨a, B, sI, pins, σ', H', cls, d, e1, J, r1, r2, r3, r4, r5, r6, z⟩ := h
  exact t e s1 ⟨a, B, sI, pins, σ', H', cls, d, e1, J, r1, r2, r3, r4, r5, r6, z J.len⟩
theorem Room.u200 {k : Nat} {A : Around} (r : Room k A) : A.units + 200 < cLine := by have := r.un; omega
theorem mem1 {P : Addr} {q : Str} : ∀ p ∈ [(P, q)], p.1 = P → p.2 = q := fun p hp _ => by rw [List.mem_singleton.mp hp]
abbrev qL : Str := ("law" : Str) ++ ".<locals>." ++ "<lambda>"
/-- the tables, the heap changed at p only, which is neither a table nor a code object -/
theorem tabS_at {H H' : Hp} {T p : Addr} {q : Str} {o : HO} (t : TabS H T q) (hp : H p = some o) (h1 : ∀ ps, o ≠ .tbl ps) (h2 : ∀ c, o ≠ CodeO c q) (e : ∀ b u, b ≠ p → H b = some u → H' b = some u) : TabS H' T q := by
  obtain ⟨ps, e1, e2, e3⟩ := t
  refine ⟨ps, e _ _ (fun z => ?_) e1, e2, fun pos cv hc => ?_⟩
  · rw [z, hp] at e1
    exact h1 _ (Option.some.inj e1)
  · obtain ⟨c, r1, r2⟩ := e3 pos cv hc
    refine ⟨c, r1, e _ _ (fun z => ?_) r2⟩
    rw [z, hp] at r2
    exact h2 _ (Option.some.inj r2)
theorem tabs_at {T : List (Addr × Str)} {H H' : Hp} {p : Addr} {o : HO} (t : Tabs T H) (hp : H p = some o) (h1 : ∀ ps, o ≠ .tbl ps) (h2 : ∀ c q, o ≠ CodeO c q) (e : ∀ b u, b ≠ p → H b = some u → H' b = some u) : Tabs T H' :=
  fun z hz => tabS_at (t z hz) hp h1 (fun c => h2 c _) e
theorem ne_bls {K : PySem.W.Frag} {H : Hp} {a b : Addr} {Q : VK} (bs : List Bool) (ha : H a = some (.lst (bs.map V.bl))) (hb : H b = some (.lst (bs.map V.bl))) (sh : SeqAt.shaped (.list (bs.map PyData.bool)) = true) (k : Q (.bl false) H) : rNeD K (.ref a) (.ref b) H Q := by
  have d : ∀ (l : List Bool), DpAll K H (l.map V.bl) (l.map PyData.bool) := fun l => by
    induction l with
    | nil => exact .nil
    | cons x l ih => exact .cons (.bl x) ih
  refine ⟨.list (bs.map .bool), .list (bs.map .bool), .lst (SqL.of ha) (d bs), .lst (SqL.of hb) (d bs), sh, sh, ?_⟩
  have e : ∀ l : List Bool, PyData.eqvAll (l.map PyData.bool) (l.map PyData.bool) = true := fun l => by
    induction l with
    | nil => rfl
    | cons x l ih => simp [PyData.eqvAll, PyData.eqv, ih]
  have e2 : PyData.eqv (.list (bs.map PyData.bool)) (.list (bs.map PyData.bool)) = true := by simp [PyData.eqv, e]
  rw [e2]
  exact k
/-- what is asked of an own exception class whose fields are read -/
structure XrC (K : PySem.W.Frag) (C : Addr) (f1 f2 : Str) : Prop where
  T : XfC K C
  n1 : PySem.W.findIn K (.ref C) f1 = some none
  n2 : PySem.W.findIn K (.ref C) f2 = some none
  me : PySem.W.exmOne K (.ref C) (.ref C) = some true
/-- calls; only the exception with these two fields is wished -/
def TBot (CB : Addr) (f1 f2 : Str) (v1 v2 : V) : (XK → Hp → VK → Prop) → Hp → VK → Prop := fun tl H Q =>
  tl (fun cls d H' => cls = .ref CB ∧ ∃ dd, d = some dd ∧ H' dd = some (.xd [(f2, v2), (f1, v1)]) ∧ ∀ H'', Same H' H'' → Q (.bl true) H'') H fun _ H' => Q (.bl false) H'
theorem eq_sn {K : PySem.W.Frag} {H : Hp} {a b : Addr} {i j : Str} {m n : Int} {Q : VK} (ha : H a = some (.tup [.str i, .int m])) (hb : H b = some (.tup [.str j, .int n])) (si : SeqAt.shaped (.tuple [.str i, .int m]) = true) (sj : SeqAt.shaped (.tuple [.str j, .int n]) = true) (k : Q (.bl (decide (i = j ∧ m = n))) H) : rEqD K (.ref a) (.ref b) H Q := by
  refine ⟨.tuple [.str i, .int m], .tuple [.str j, .int n], .tup (SqT.of ha) (.cons (.str _) (.cons (.int _) .nil)), .tup (SqT.of hb) (.cons (.str _) (.cons (.int _) .nil)), si, sj, ?_⟩
  have e : PyData.eqv (.tuple [.str i, .int m]) (.tuple [.str j, .int n]) = decide (i = j ∧ m = n) := by
    simp [PyData.eqv, PyData.eqvAll, Bool.beq_eq_decide_eq]
  rw [e]
  exact k
end L2
end

section
/-! What the head's facts are asked beside the library's: exceptions with an __init__, operators. -/
namespace HwH
open PySem PySem.Spec PyProof.Rows L2 He
def oexB (K : PySem.W.Frag) (C : Addr) : Bool := (match K.lookup C with
  | some ⟨.type ty, _, .cls cd, sl⟩ => decide (ty = "type") && (cd.hasDict && (!cd.hasDel && ((match cd.mro with
    | .ref c :: bm => decide (c = C) && PySem.HandSPX.refsVE bm
    | _ => false) && (match sl.toList with
    | [_, _, _, _, some (.builtin nid), _] => decide (nid = "ValueError.__new__")
    | _ => false))))
  | _ => false) && (eqO (PySem.W.findIn K (.ref C) "__setattr__") (some (some (.builtin "object.__setattr__"))) && (decide (PySem.W.subIn K (.ref C) (.type "BaseException") = some true) && (decide (PySem.W.typeIn K (.ref C) = some (.type "type")) && PySem.W.keepIn K (.ref C))))
theorem oexB_ok {K : PySem.W.Frag} {C : Addr} (h : oexB K C = true) : OexC K C := by
  obtain ⟨h1, h⟩ := ba h
  obtain ⟨h2, h⟩ := ba h
  obtain ⟨h3, h⟩ := ba h
  obtain ⟨h4, h5⟩ := ba h
  refine ⟨?_, eqO_ok h2, of_decide_eq_true h3, of_decide_eq_true h4, h5⟩
  cases q : K.lookup C with
  | none =>
    rw [q] at h1
    cases h1
  | some o =>
    obtain ⟨oc, od, dt, sl⟩ := o
    rw [q] at h1
    cases oc with
    | type ty =>
      cases dt with
      | cls cd =>
        obtain ⟨nm, bs, mro, ns, qn, hd, sn, sub, ab, col, hdel⟩ := cd
        obtain ⟨g1, h1⟩ := ba h1
        obtain ⟨g2, h1⟩ := ba h1
        obtain ⟨g3, h1⟩ := ba h1
        obtain ⟨g4, g5⟩ := ba h1
        obtain ⟨sl⟩ := sl
        have e1 : ty = "type" := of_decide_eq_true g1
        have e2 : hd = true := g2
        have e3 : hdel = false := by
          have : (!hdel) = true := g3
          simpa using this
        subst e1 e2 e3
        match mro, g4 with
        | .ref c :: bm, g4 =>
          obtain ⟨g6, g7⟩ := ba g4
          have e4 : c = C := of_decide_eq_true g6
          subst e4
          match sl, g5 with
          | [k0, k1, k2, k3, some (.builtin nid), k5], g5 =>
            have e5 : nid = "ValueError.__new__" := of_decide_eq_true g5
            subst e5
            exact ⟨nm, qn, ns, bs, bm, sn, sub, ab, col, od, k0, k1, k2, k3, k5, rfl, g7⟩
      | _ => cases h1
    | _ => cases h1
def opB (K : PySem.W.Frag) (C : Addr) (op : Operator) : Bool := PySem.W.selfFirst K C && (eqO (PySem.W.findIn K (.ref C) (PySem.dunder op.info.2)) (some (some (.ref (ma K C (PySem.dunder op.info.2))))) && (PySem.W.isFn K (.ref (ma K C (PySem.dunder op.info.2))) && (eqO (PySem.W.findIn K (.ref C) (dunderR op.info.2)) (some none) &&
  ((PySem.W.findIn K (.type "int") (PySem.dunder op.info.2)).isSome && ((PySem.W.findIn K (.type "int") (dunderR op.info.2)).isSome && decide (PySem.W.subIn K (.type "int") (.ref C) = some false))))))
theorem opB_ok {K : PySem.W.Frag} {C : Addr} {op : Operator} (h : opB K C op = true) : OpC K C op (ma K C (PySem.dunder op.info.2)) ∧ ∃ fo ro, PySem.W.findIn K (.type "int") (PySem.dunder op.info.2) = some fo ∧ PySem.W.findIn K (.type "int") (dunderR op.info.2) = some ro ∧ PySem.W.subIn K (.type "int") (.ref C) = some false := by
  obtain ⟨h1, h⟩ := ba h
  obtain ⟨h2, h⟩ := ba h
  obtain ⟨h3, h⟩ := ba h
  obtain ⟨h4, h⟩ := ba h
  obtain ⟨h5, h⟩ := ba h
  obtain ⟨h6, h7⟩ := ba h
  obtain ⟨fo, e5⟩ := Option.isSome_iff_exists.mp h5
  obtain ⟨ro, e6⟩ := Option.isSome_iff_exists.mp h6
  exact ⟨⟨h1, eqO_ok h2, h3, eqO_ok h4⟩, fo, ro, e5, e6, of_decide_eq_true h7⟩
/-- a method that is reached through a special name -/
def spcB (K : PySem.W.Frag) (C : Addr) (m : Str) : Bool := eqO (PySem.W.findIn K (.ref C) m) (some (some (.ref (ma K C m)))) && PySem.W.isFn K (.ref (ma K C m))
theorem spcB_ok {K : PySem.W.Frag} {C : Addr} {m : Str} (h : spcB K C m = true) : PySem.W.findIn K (.ref C) m = some (some (.ref (ma K C m))) ∧ PySem.W.isFn K (.ref (ma K C m)) = true := by
  obtain ⟨h1, h2⟩ := ba h
  exact ⟨eqO_ok h1, h2⟩
def iniB (K : PySem.W.Frag) (C : Addr) : Bool := eqO (PySem.W.findIn K (.ref C) "__init__") (some (some (.ref (ma K C "__init__")))) && decide (PySem.W.typeIn K (.ref (ma K C "__init__")) = some (.type "function"))
theorem iniB_ok {K : PySem.W.Frag} {C : Addr} (h : iniB K C = true) : PySem.W.findIn K (.ref C) "__init__" = some (some (.ref (ma K C "__init__"))) ∧ PySem.W.typeIn K (.ref (ma K C "__init__")) = some (.type "function") := by
  obtain ⟨h1, h2⟩ := ba h
  exact ⟨eqO_ok h1, of_decide_eq_true h2⟩
def xrB (K : PySem.W.Frag) (C : Addr) (f1 f2 : Str) : Bool := xfB K C && (eqO (PySem.W.findIn K (.ref C) f1) (some none) && (eqO (PySem.W.findIn K (.ref C) f2) (some none) && decide (PySem.W.exmOne K (.ref C) (.ref C) = some true)))
theorem xrB_ok {K : PySem.W.Frag} {C : Addr} {f1 f2 : Str} (h : xrB K C f1 f2 = true) : XrC K C f1 f2 := by
  obtain ⟨h1, h⟩ := ba h
  obtain ⟨h2, h⟩ := ba h
  obtain ⟨h3, h4⟩ := ba h
  exact ⟨xfB_ok h1, eqO_ok h2, eqO_ok h3, of_decide_eq_true h4⟩
def bfunB (K : PySem.W.Frag) (x : Str) (id : String) : Bool := eqO (PySem.W.nsIn K mainGlobals x) (some (some (.builtin id)))
theorem bfunB_ok {K : PySem.W.Frag} {h : Heap} {mg : Str → Option Value} (X : K.In h) (G : h.Ns mainGlobals mg) {x : Str} {id : String} (c : bfunB K x id = true) : mg x = some (.builtin id) := PySem.W.mg_of X G (eqO_ok c)
/-- a def's code object, its table -/
theorem code_of {K : PySem.W.Frag} {p : Defn} {x qual : Str} {params : Arguments} {body : List Stmt} {scope : Scope} {dvs : List V} {kws : List (Str × V)} {fd : FuncData} (F : FunD K x qual params body scope dvs kws (fAd K p) fd) : fd.code = .ref (codeOf K p) := by
  obtain ⟨oc, od, dV, kV, doc, pm, an, cdv, ct, osl, rfl, lk, hcd, _, _⟩ := F.ex
  obtain ⟨c, rfl⟩ := codeIn_ref hcd
  rw [codeOf_eq lk rfl]
end HwH
end

section
/-! Texts as lists of signs: the place of a sign, numbers, the first wrong column of a ratio's text. -/
namespace HwT
open PySem PySem.StrLaws Builtin Builtin.Str PySem.NumText
def tx (l : List Nat) : Str := ⟨l.toArray⟩
theorem tx_list (l : List Nat) : (tx l).cps.toList = l := rfl
theorem tx_of (x : Str) : tx x.cps.toList = x := rfl
theorem tx_len (l : List Nat) : (tx l).length = l.length := by unfold tx Str.length; simp
theorem len_list (x : Str) : x.length = x.cps.toList.length := by unfold Str.length; simp
theorem tx_app (a b : List Nat) : tx a ++ tx b = tx (a ++ b) := by
  show Str.append (tx a) (tx b) = _
  unfold Str.append tx
  simp
section
variable {x : Str} {c n : Nat}
theorem occ_at {i : Nat} (h : i ∈ occurrences x ⟨#[c]⟩ 0 x.length n) : x.cps.toList[i]? = some c := by
  obtain ⟨f, ch⟩ := occ_chain x ⟨#[c]⟩ n
  have key : ∀ (l : List Nat) (a : Nat), ChainTo x ⟨#[c]⟩ x.length a l f → ∀ i ∈ l, At x ⟨#[c]⟩ x.length i := by
    intro l
    induction l with
    | nil => intro a h i hi; cases hi
    | cons d r ih =>
      intro a h i hi
      rcases List.mem_cons.mp hi with e | hi
      · rw [e]; exact h.2.1
      · exact ih _ h.2.2 i hi
  exact (subAt_one x c i).mp (key _ _ ch i h)
theorem occ_no (h : c ∉ x.cps.toList) : occurrences x ⟨#[c]⟩ 0 x.length n = [] := by
  cases e : occurrences x ⟨#[c]⟩ 0 x.length n with
  | nil => rfl
  | cons i r => exact absurd (List.mem_of_getElem? (occ_at (n := n) (by rw [e]; exact List.mem_cons_self))) h
theorem occ_once {a b : List Nat} (hx : x.cps.toList = a ++ c :: b) (na : c ∉ a) (nb : c ∉ b) (hn : n = 1 ∨ n = x.length + 1) : occurrences x ⟨#[c]⟩ 0 x.length n = [a.length] := by
  have place : ∀ i, x.cps.toList[i]? = some c → i = a.length := fun i hi => by
    rw [hx] at hi
    rcases Nat.lt_trichotomy i a.length with h | h | h
    · rw [List.getElem?_append_left h] at hi
      exact absurd (List.mem_of_getElem? hi) na
    · exact h
    · rw [List.getElem?_append_right (by omega)] at hi
      obtain ⟨j, hj⟩ : ∃ j, i - a.length = j + 1 := ⟨i - a.length - 1, by omega⟩
      rw [hj, List.getElem?_cons_succ] at hi
      exact absurd (List.mem_of_getElem? hi) nb
  have here : x.cps.toList[a.length]? = some c := by rw [hx]; simp
  have ne : occurrences x ⟨#[c]⟩ 0 x.length n ≠ [] := by
    rcases hn with rfl | rfl
    · intro z
      have f := found_one x c
      rw [z, show decide (c ∈ x.cps.toList) = true from decide_eq_true (List.mem_of_getElem? here)] at f
      cases f
    · intro z
      obtain ⟨f, h1, h2⟩ := occ_tight x ⟨#[c]⟩ (by show 1 ≤ 1; omega)
      rw [z] at h1
      have e : f = 0 := h1
      exact h2 a.length (by omega) ((subAt_one x c a.length).mpr here)
  obtain ⟨f, ch⟩ := occ_chain x ⟨#[c]⟩ n
  have at_ : ∀ i ∈ occurrences x ⟨#[c]⟩ 0 x.length n, i = a.length := fun i hi => place i (occ_at (n := n) hi)
  match e : occurrences x ⟨#[c]⟩ 0 x.length n with
  | [] => exact absurd e ne
  | [i] =>
    rw [e] at at_
    rw [at_ i (by simp)]
  | i :: j :: r =>
    rw [e] at at_ ch
    have h1 := at_ i (by simp)
    have h2 := at_ j (by simp)
    have h3 : i + 1 ≤ j := ch.2.2.1
    omega
theorem part_some {a b : List Nat} (hx : x.cps.toList = a ++ c :: b) (na : c ∉ a) (nb : c ∉ b) : Txt.partition x ⟨#[c]⟩ = (tx a, ⟨#[c]⟩, tx b) := by
  have hl : x.length = a.length + (b.length + 1) := by rw [len_list, hx]; simp
  unfold Txt.partition
  rw [occ_once hx na nb (.inl rfl)]
  have e1 : strSub x 0 a.length = tx a := by
    rw [← tx_of (strSub x 0 a.length), strSub_toList, hx]; simp
  have e2 : strSub x (a.length + 1) x.length = tx b := by
    rw [← tx_of (strSub x (a.length + 1) x.length), strSub_toList, hx, hl]
    rw [show a ++ c :: b = (a ++ [c]) ++ b by simp, List.drop_left' (by simp)]
    rw [List.take_of_length_le (by omega)]
  show (strSub x 0 a.length, _, strSub x (a.length + 1) x.length) = _
  rw [e1, e2]
theorem part_none (h : c ∉ x.cps.toList) : Txt.partition x ⟨#[c]⟩ = (x, Str.empty, Str.empty) := by
  unfold Txt.partition
  rw [occ_no h]
theorem split_some {a b : List Nat} (hx : x.cps.toList = a ++ c :: b) (na : c ∉ a) (nb : c ∉ b) : Txt.split x ⟨#[c]⟩ = [tx a, tx b] := by
  have hl : x.length = a.length + (b.length + 1) := by rw [len_list, hx]; simp
  have mem : c ∈ x.cps.toList := by rw [hx]; simp
  unfold Txt.split
  have k : ¬ strKind x < strKind ⟨#[c]⟩ := fun z => kind_free x c z mem
  have l1 : ¬ x.length < (⟨#[c]⟩ : Str).length := by show ¬ x.length < 1; omega
  rw [decide_eq_false l1, decide_eq_false k, occ_once hx na nb (.inr rfl), if_neg (by simp), if_neg (by simp), partsBetween_eq]
  have e1 : strSub x 0 a.length = tx a := by
    rw [← tx_of (strSub x 0 a.length), strSub_toList, hx]; simp
  have e2 : strSub x (a.length + 1) x.length = tx b := by
    rw [← tx_of (strSub x (a.length + 1) x.length), strSub_toList, hx, hl]
    rw [show a ++ c :: b = (a ++ [c]) ++ b by simp, List.drop_left' (by simp)]
    rw [List.take_of_length_le (by omega)]
  show [strSub x 0 a.length, strSub x (a.length + 1) x.length] = _
  rw [e1, e2]
theorem split_none (h : c ∉ x.cps.toList) : Txt.split x ⟨#[c]⟩ = [x] := by
  unfold Txt.split
  rw [occ_no h]
  simp
end
/-! ### digits -/
def isD (c : Nat) : Bool := decide (48 ≤ c) && decide (c ≤ 57)
def run (l : List Nat) : Nat := (l.takeWhile isD).length
/-- the end of the digits from k on; k itself where a 0 stands first -/
def we (l : List Nat) (k : Nat) : Nat := if l[k]? = some 48 then k else k + run (l.drop k)
/-- .. behind the sign, the digits from s on -/
def colAt (l : List Nat) (s : Nat) : Nat := if we l s = s then s + 1 else if we l s = l.length then 0 else if l[we l s]? ≠ some 47 then we l s + 1
    else if we l (we l s + 1) = we l s + 1 ∨ we l (we l s + 1) < l.length then we l (we l s + 1) + 1 else 0
/-- the first wrong column, 0 if there is none -/
def col (l : List Nat) : Nat := if l[0]? = some 48 then (if l = [48] then 0 else 2) else colAt l (if l[0]? = some 45 then 1 else 0)
theorem run_step {l : List Nat} {k c : Nat} (h : l[k]? = some c) (hc : isD c = true) : run (l.drop k) = run (l.drop (k + 1)) + 1 := by
  have e : l.drop k = c :: l.drop (k + 1) := by
    obtain ⟨hk, e⟩ := List.getElem?_eq_some_iff.mp h
    rw [List.drop_eq_getElem_cons hk, e]
  unfold run
  rw [e, List.takeWhile_cons, if_pos hc]
  simp
theorem run_stop {l : List Nat} {k : Nat} (h : ∀ c, l[k]? = some c → isD c = false) : run (l.drop k) = 0 := by
  unfold run
  cases e : l.drop k with
  | nil => rfl
  | cons c r =>
    have h2 : l[k]? = some c := by
      have := congrArg (fun z => z[0]?) e
      simpa using this
    rw [List.takeWhile_cons, h c h2]
    simp
theorem run_le (l : List Nat) (k : Nat) (h : k ≤ l.length) : k + run (l.drop k) ≤ l.length := by
  unfold run
  have := (List.takeWhile_sublist (l := l.drop k) isD).length_le
  simp at this
  omega
/-- at the digits' end stands no digit -/
theorem run_end {l : List Nat} {k : Nat} : ∀ c, l[k + run (l.drop k)]? = some c → isD c = false := by
  intro c hc
  have key : ∀ (m : List Nat) c, m[(m.takeWhile isD).length]? = some c → isD c = false := by
    intro m
    induction m with
    | nil => intro c h; simp at h
    | cons d r ih =>
      intro c h
      rw [List.takeWhile_cons] at h
      by_cases hd : isD d = true
      · rw [if_pos hd] at h
        exact ih c (by simpa using h)
      · rw [if_neg hd] at h
        have : d = c := by simpa using h
        rw [← this]
        simpa using hd
  exact key (l.drop k) c (by rw [List.getElem?_drop]; exact hc)
theorem run_digits {l : List Nat} {k : Nat} : ∀ c ∈ (l.drop k).take (run (l.drop k)), 48 ≤ c ∧ c ≤ 57 := by
  intro c hc
  have key : ∀ (m : List Nat), m.take (m.takeWhile isD).length = m.takeWhile isD := by
    intro m
    induction m with
    | nil => rfl
    | cons d r ih =>
      rw [List.takeWhile_cons]
      by_cases hd : isD d = true
      · rw [if_pos hd]
        simp [ih]
      · rw [if_neg hd]; rfl
  unfold run at hc
  rw [key] at hc
  have k2 : ∀ (m : List Nat) c, c ∈ m.takeWhile isD → isD c = true := by
    intro m
    induction m with
    | nil => intro c h; cases h
    | cons d r ih =>
      intro c h
      rw [List.takeWhile_cons] at h
      by_cases hd : isD d = true
      · rw [if_pos hd] at h
        rcases List.mem_cons.mp h with e | h
        · rw [e]; exact hd
        · exact ih c h
      · rw [if_neg hd] at h
        cases h
  have h := k2 _ c hc
  unfold isD at h
  simpa using h
/-! ### the parts of a text that is right -/
def Num (a : List Nat) : Prop := (AllDigits a ∧ a ≠ []) ∨ ∃ c, a = 45 :: c ∧ AllDigits c ∧ c ≠ []
theorem Num.no47 {a : List Nat} (h : Num a) : 47 ∉ a := fun m => by
  rcases h with ⟨h, _⟩ | ⟨c, rfl, h, _⟩
  · have := h 47 m; omega
  · rcases List.mem_cons.mp m with e | m
    · omega
    · have := h 47 m; omega
theorem dig47 {b : List Nat} (h : AllDigits b) : 47 ∉ b := fun m => by have := h 47 m; omega
theorem we_zero {l : List Nat} {k : Nat} (h : we l k ≠ k) : l[k]? ≠ some 48 ∧ we l k = k + run (l.drop k) := by
  unfold we at h ⊢
  by_cases z : l[k]? = some 48
  · rw [if_pos z] at h; exact absurd rfl h
  · rw [if_neg z] at h ⊢; exact ⟨z, rfl⟩
theorem take_num {l : List Nat} {s e : Nat} (hs : s = if l[0]? = some 45 then 1 else 0) (he : e = s + run (l.drop s)) (h0 : run (l.drop s) ≠ 0) : Num (l.take e) := by
  have hd := run_digits (l := l) (k := s)
  have ne : (l.drop s).take (run (l.drop s)) ≠ [] := fun z => by
    have := congrArg List.length z
    have hle := (List.takeWhile_sublist (l := l.drop s) isD).length_le
    unfold run at h0 this
    simp at this
    simp at hle
    rcases this with h | h
    · exact h0 (by rw [h]; rfl)
    · have e2 : l.drop s = [] := List.drop_eq_nil_of_le (by omega)
      rw [e2] at h0
      exact h0 rfl
  by_cases m : l[0]? = some 45
  · rw [if_pos m] at hs
    subst hs
    cases l with
    | nil => cases m
    | cons c r =>
      have : c = 45 := by simpa using m
      subst this
      refine .inr ⟨(r.take (run r)), ?_, ?_, ?_⟩
      · rw [he]; simp [Nat.add_comm 1]
      · intro c hc
        exact hd c (by simpa using hc)
      · simpa using ne
  · rw [if_neg m] at hs
    subst hs
    refine .inl ⟨?_, ?_⟩
    · intro c hc
      rw [he] at hc
      exact hd c (by simpa using hc)
    · rw [he]; simpa using ne
theorem col_form {l : List Nat} (h : col l = 0) : (Num l ∧ 47 ∉ l) ∨ ∃ a b, l = a ++ 47 :: b ∧ 47 ∉ a ∧ 47 ∉ b ∧ Num a ∧ AllDigits b ∧ b ≠ [] ∧ b[0]? ≠ some 48 := by
  unfold col at h
  by_cases z : l[0]? = some 48
  · rw [if_pos z] at h
    by_cases e : l = [48]
    · left
      have n : Num l := .inl ⟨by rw [e]; intro c hc; have : c = 48 := by simpa using hc
                                 omega, by rw [e]; simp⟩
      exact ⟨n, n.no47⟩
    · rw [if_neg e] at h; cases h
  · rw [if_neg z] at h
    unfold colAt at h
    generalize hs : (if l[0]? = some 45 then 1 else 0) = s at h
    have hs := hs.symm
    by_cases e1 : we l s = s
    · rw [if_pos e1] at h; omega
    rw [if_neg e1] at h
    obtain ⟨w1, w2⟩ := we_zero e1
    have n := take_num hs w2 (by omega)
    by_cases e2 : we l s = l.length
    · left
      rw [e2, List.take_length] at n
      exact ⟨n, n.no47⟩
    rw [if_neg e2] at h
    by_cases e3 : l[we l s]? ≠ some 47
    · rw [if_pos e3] at h; omega
    rw [if_neg e3] at h
    have e3 : l[we l s]? = some 47 := Decidable.not_not.mp e3
    obtain ⟨hlt, e3'⟩ := List.getElem?_eq_some_iff.mp e3
    by_cases e4 : we l (we l s + 1) = we l s + 1 ∨ we l (we l s + 1) < l.length
    · rw [if_pos e4] at h; omega
    have e5 : we l (we l s + 1) ≠ we l s + 1 := fun z => e4 (.inl z)
    have e6 : ¬ we l (we l s + 1) < l.length := fun z => e4 (.inr z)
    obtain ⟨x1, x2⟩ := we_zero e5
    have le := run_le l (we l s + 1) (by omega)
    right
    have hb : AllDigits (l.drop (we l s + 1)) := by
      have d := run_digits (l := l) (k := we l s + 1)
      have : (l.drop (we l s + 1)).take (run (l.drop (we l s + 1))) = l.drop (we l s + 1) := List.take_of_length_le (by simp; omega)
      rw [this] at d
      exact d
    refine ⟨l.take (we l s), l.drop (we l s + 1), ?_, n.no47, dig47 hb, n, hb, fun z => ?_, by rw [List.getElem?_drop]; exact x1⟩
    · rw [← e3', ← List.drop_eq_getElem_cons hlt, List.take_append_drop]
    · rw [z] at x2
      unfold run at x2
      simp at x2
      exact e5 x2
/-! ### their values -/
theorem fold_lt (b : List Nat) : ∀ acc : Nat, AllDigits b → b.foldl (fun acc c => acc * 10 + (c - 48)) acc < (acc + 1) * 10 ^ b.length := by
  induction b with
  | nil => intro acc _; simp
  | cons c r ih =>
    intro acc h
    have hc := h.head
    refine Nat.lt_of_lt_of_le (ih _ h.tail) ?_
    rw [List.length_cons, Nat.pow_succ]
    have : acc * 10 + (c - 48) + 1 ≤ (acc + 1) * 10 := by omega
    calc (acc * 10 + (c - 48) + 1) * 10 ^ r.length ≤ ((acc + 1) * 10) * 10 ^ r.length := Nat.mul_le_mul_right _ this
      _ = (acc + 1) * (10 ^ r.length * 10) := by rw [Nat.mul_assoc, Nat.mul_comm 10]
theorem fold_ge (b : List Nat) : ∀ acc : Nat, acc * 10 ^ b.length ≤ b.foldl (fun acc c => acc * 10 + (c - 48)) acc := by
  induction b with
  | nil => intro acc; simp
  | cons c r ih =>
    intro acc
    refine Nat.le_trans ?_ (ih (acc * 10 + (c - 48)))
    rw [List.length_cons, Nat.pow_succ, Nat.mul_comm (10 ^ r.length) 10, ← Nat.mul_assoc]
    exact Nat.mul_le_mul_right _ (by omega)
theorem val_lt {b : List Nat} (h : AllDigits b) (hl : b.length ≤ 600) : digitsVal b < 2 ^ 2400 := by
  unfold digitsVal
  refine Nat.lt_of_lt_of_le (fold_lt b 0 h) ?_
  rw [Nat.zero_add, Nat.one_mul]
  refine Nat.le_trans (Nat.pow_le_pow_right (by omega) hl) ?_
  rw [show (2 : Nat) ^ 2400 = (2 ^ 4) ^ 600 by rw [← Nat.pow_mul]]
  exact Nat.pow_le_pow_left (by omega) 600
theorem val_one {b : List Nat} (h : AllDigits b) (hn : b ≠ []) (h0 : b[0]? ≠ some 48) : 1 ≤ digitsVal b ∧ (digitsVal b = 1 ↔ b = [49]) := by
  cases b with
  | nil => exact absurd rfl hn
  | cons c r =>
    have hc := h.head
    have h0 : c ≠ 48 := fun z => h0 (by rw [z]; rfl)
    unfold digitsVal
    rw [List.foldl_cons, Nat.zero_mul, Nat.zero_add]
    have g := fold_ge r (c - 48)
    cases r with
    | nil =>
      show 1 ≤ c - 48 ∧ (c - 48 = 1 ↔ _)
      refine ⟨by omega, fun z => ?_, fun z => ?_⟩
      · have : c = 49 := by omega
        rw [this]
      · have : c = 49 := by simpa using z
        omega
    | cons d q =>
      have p : 10 ≤ 10 ^ (d :: q).length := by
        rw [List.length_cons, Nat.pow_succ]
        have := Nat.pow_pos (n := q.length) (show 0 < 10 by omega)
        omega
      have : 1 * 10 ≤ (c - 48) * 10 ^ (d :: q).length := Nat.mul_le_mul (by omega) p
      refine ⟨by omega, fun z => by omega, fun z => by simp at z⟩
theorem num_val {a : List Nat} (h : Num a) (hl : a.length ≤ 600) : ∃ n : Int, intText? (tx a) = some n ∧ n.natAbs < 2 ^ 2400 := by
  rcases h with ⟨h, hn⟩ | ⟨c, rfl, h, hn⟩
  · exact ⟨_, intText_digits (x := tx a) h hn (by rw [tx_len]; omega), by rw [Int.natAbs_natCast]; exact val_lt h hl⟩
  · exact ⟨_, intText_neg (x := tx (45 :: c)) rfl h hn (by rw [tx_len]; omega), by simpa using val_lt h (by simp at hl; omega)⟩
theorem dig_val {b : List Nat} (h : AllDigits b) (hn : b ≠ []) (h0 : b[0]? ≠ some 48) (hl : b.length ≤ 600) : ∃ n : Nat, intText? (tx b) = some (n : Int) ∧ n < 2 ^ 2400 ∧ 1 ≤ n ∧ (n = 1 ↔ b = [49]) :=
  ⟨_, intText_digits (x := tx b) h hn (by rw [tx_len]; omega), val_lt h hl, val_one h hn h0⟩
/-! ### the answer -/
abbrev Ans : Type := Int ⊕ (Int × Int)
def ans (l : List Nat) : Ans := if col l ≠ 0 then .inl (col l) else
  if (l.dropWhile fun c => c != 47) = [] then .inr ((intText? (tx l)).getD 0, 1) else
    (fun (a : List Nat) (t n : Int) => if 1 < n ∧ Nat.gcd t.natAbs n.natAbs = 1 then .inr (t, n) else .inl ((a.length : Int) + 2)) (l.takeWhile fun c => c != 47) ((intText? (tx (l.takeWhile fun c => c != 47))).getD 0) ((intText? (tx ((l.dropWhile fun c => c != 47).drop 1))).getD 0)
theorem ans_wrong {l : List Nat} (h : col l ≠ 0) : ans l = .inl (col l) := by unfold ans; rw [if_pos h]
theorem ans_int {l : List Nat} {n : Int} (h : col l = 0) (h2 : 47 ∉ l) (hn : intText? (tx l) = some n) : ans l = .inr (n, 1) := by
  have e : (l.dropWhile fun c => c != 47) = [] := by
    have p : ∀ c ∈ l, (c != 47) = true := fun c hc => bne_iff_ne.mpr fun z => h2 (z ▸ hc)
    have := List.dropWhile_append_of_pos (l₂ := []) p
    simpa using this
  unfold ans
  rw [if_neg (by simpa using h), if_pos e, hn]
  rfl
theorem ans_q {l a b : List Nat} {t n : Int} (h : col l = 0) (hl : l = a ++ 47 :: b) (na : 47 ∉ a) (ht : intText? (tx a) = some t) (hn : intText? (tx b) = some n) : ans l = if 1 < n ∧ Nat.gcd t.natAbs n.natAbs = 1 then .inr (t, n) else .inl ((a.length : Int) + 2) := by
  have p : ∀ c ∈ a, (c != 47) = true := fun c hc => bne_iff_ne.mpr fun z => na (z ▸ hc)
  have e1 : (l.takeWhile fun c => c != 47) = a := by
    rw [hl, List.takeWhile_append_of_pos p]
    simp
  have e2 : (l.dropWhile fun c => c != 47) = 47 :: b := by
    rw [hl, List.dropWhile_append_of_pos p]
    simp
  unfold ans
  rw [if_neg (by simpa using h), if_neg (by rw [e2]; simp), e1, e2]
  rw [show List.drop 1 (47 :: b) = b from rfl, ht, hn]
  rfl
end HwT
end

section
/-! Texts in readings. -/
namespace L2
open PySem PySem.Spec PyProof.Rows LamX HwT
theorem pe_gS {X : Cx} {j k : Nat} {x : Str} {ps : List Str} {sp : Sp} {W : WX} {e : Expr} {es : List Expr} {t : TA} {p pos : Pos} (c : Gf X.prog X.w X.K X.mg X.base x k ps sp) (hr : Room j X.A) (hk : k ≤ j) (tk : Takes X W) (hg : Gl X x) (ha : PA X (e :: es) t) (hdb : (x == ("__debug__" : Str)) = false := by decide)
    (he : starEach (e :: es) X.env = (false, eval e X.env) :: starEach es X.env := by rfl) (hpl : (backTo pos (starEach es X.env)).any (·.1) = false := by rfl) : PE X (.Call (.Name x p) (e :: es) [] pos) (tCallS sp (WE W) t) := by
  obtain ⟨f, fd, h1, h2, h3, h4⟩ := c.ex
  exact pe_callS h4 (hr.mono hk) hg h1 h2 h3 (fun σ => passAt tk σ) ha hdb he hpl
/-- the signs of a text, one by one -/
def signs (l : List Nat) : List V := l.map fun c => V.str ⟨#[c]⟩
theorem vals_signs : ∀ (l : List Nat) (vs : List Value), vs.length = l.length → (∀ (j : Nat) v, vs[j]? = some v → ∃ c u, l[j]? = some c ∧ v = .str ⟨#[c]⟩ u) → Vals (signs l) vs
  | [], [], _, _ => .nil
  | [], _ :: _, h, _ => by cases h
  | _ :: _, [], h, _ => by cases h
  | c :: l, v :: vs, h, k => by
    obtain ⟨d, u, e1, e2⟩ := k 0 v rfl
    have e1 : c = d := by simpa using e1
    subst e1 e2
    exact .cons ⟨u, rfl⟩ (vals_signs l vs (by simpa using h) fun j v e => by
      obtain ⟨d, u, e1, e2⟩ := k (j + 1) v (by simpa using e)
      exact ⟨d, u, by simpa using e1, e2⟩)
theorem call_tuple_txt {X : Cx} (hc : X.calm = true) : CallR X (.type "tuple") (fun xs H Q => ∃ z : Str, xs = [.str z] ∧ z.length ≤ sizeLine ∧ ∀ p, H p = none → Q (.ref p) (upd H p (.tup (signs z.cps.toList)))) := by
  intro pins s σ H xs us Q I r h
  obtain ⟨z, rfl, hz, q⟩ := h
  obtain ⟨u, rfl, t, rfl⟩ := vals1 r
  refine call_tuple_str (I.ok.hd hc) z t (fun h' tk acc k hacc => ?_) hz
  obtain ⟨its, rfl⟩ : ∃ its : List Value, acc = its.toArray := ⟨acc.toList, by simp⟩
  have I1 : Inv X pins σ H { s with heap := h', toks := tk } := I.kept k
  obtain ⟨n1, n2⟩ := hacc
  have rv : Vals (signs z.cps.toList) its := vals_signs _ _ (by simpa using n1) fun j v e => by
    obtain ⟨c, u, e1, e2⟩ := n2 j v (by simpa using e)
    exact ⟨c, u, by simpa using e1, e2⟩
  have hl : (signs z.cps.toList).length ≤ sizeLine := by
    unfold signs
    rw [List.length_map, ← HwT.len_list]
    exact hz
  exact ⟨.ref h'.objs.size, upd H h'.objs.size (.tup (signs z.cps.toList)), I1.laid (t' := tk) (a := h'.objs.size) (o := .tup (signs z.cps.toList)) (fun b o e => Heap.get?_push_of_some _ e) (Nat.le_refl _) ⟨hl, its, rv, IsTup.new _ _⟩, rfl, q _ (I1.hok.fresh (Nat.le_refl _))⟩
theorem inV_signs (c : Option Nat) (ds : List Nat) : inV (.str (tx c.toList)) (signs ds) = match c with | some c => decide (c ∈ ds) | none => false := by
  unfold inV signs
  rw [List.any_map]
  cases c with
  | none =>
    refine List.any_eq_false.mpr fun d _ => ?_
    show ¬ (eqV (.str ⟨#[d]⟩) (.str (tx []))) = true
    show ¬ ((⟨#[d]⟩ : Str) == tx []) = true
    intro z
    have := congrArg Str.length (beq_iff_eq.mp z)
    cases this
  | some c =>
    show (ds.any fun d => ((⟨#[d]⟩ : Str) == ⟨#[c]⟩)) = decide (c ∈ ds)
    rw [Bool.eq_iff_iff, List.any_eq_true, decide_eq_true_iff]
    constructor
    · rintro ⟨d, hd, e⟩
      have e := congrArg (fun z : Str => z.cps.toList) (beq_iff_eq.mp e)
      have : d = c := by simpa using e
      rw [← this]; exact hd
    · intro h
      exact ⟨c, h, by simp⟩
theorem cut1 (x : Str) {k : Nat} (h : k ≤ x.length) : cutS x (some (k : Int)) (some ((k : Int) + 1)) = tx (x.cps.toList[k]?).toList := by
  unfold cutS
  rw [show ((k : Int) + 1) = ((k + 1 : Nat) : Int) by omega, HT.sIx_nat, HT.sIx_nat]
  rw [Nat.min_eq_left h]
  cases e : x.cps.toList[k]? with
  | none =>
    have := List.getElem?_eq_none_iff.mp e
    rw [List.drop_eq_nil_of_le this]
    simp
    rfl
  | some c =>
    obtain ⟨hk, e2⟩ := List.getElem?_eq_some_iff.mp e
    have hk' : k < x.length := by rw [HwT.len_list]; exact hk
    rw [List.drop_eq_getElem_cons hk, e2, Nat.min_eq_left (by omega), Nat.add_sub_cancel_left]
    rfl
theorem cut01 (x : Str) : cutS x none (some 1) = tx (x.cps.toList[0]?).toList := by
  have := cut1 x (k := 0) (Nat.zero_le _)
  rw [← this]
  rfl
theorem cut_to (x : Str) {k : Nat} (h : k ≤ x.length) : cutS x none (some (k : Int)) = tx (x.cps.toList.take k) := by
  unfold cutS
  rw [HT.sIx_none, HT.sIx_nat, Nat.min_eq_left h]
  simp
  rfl
theorem cut_from (x : Str) (k : Nat) : (cutS x (some (k : Int)) none).length ≤ x.length - k := by
  unfold cutS Str.length
  rw [HT.sIx_nat, HT.sIx_none]
  simp
  omega
theorem starts1 (x : Str) (c : Nat) : Txt.startswith x ⟨#[c]⟩ = decide (x.cps.toList[0]? = some c) := by
  rw [Bool.eq_iff_iff, decide_eq_true_iff, ← StrLaws.subAt_one x c 0]
  unfold Txt.startswith
  simp [Str.length]
theorem lstrip_le (x y : Str) : (Txt.lstripChars x y).length ≤ x.length := len_lstripChars x y
end L2
end

section
/-! Own exceptions as values; texts of data by repr. -/
namespace L2
open PySem PySem.Spec PyProof.Rows LamX
section
variable {X : Cx}
/-! ### isinstance of own exceptions -/
/-- what a class of exceptions must say, for isinstance and for fields -/
structure EvC (K : PySem.W.Frag) (C : Addr) : Prop where
  T : XfC K C
  ha : PySem.W.findIn K (.ref C) "__class__" = some (some (.builtin "object.__class__"))
  hn : PySem.W.specialIn K (.builtin "object.__class__") "__get__" = some (some (.builtin "getset_descriptor.__get__"))
  ht : PySem.W.takesIn K (.builtin "object.__class__") = some true
  hm : PySem.W.mroIn K C (.type "object") = some true
theorem EvC.kit {K : PySem.W.Frag} {C x : Addr} {ox : Obj} {od : Option Obj} (c : EvC K C) : PySem.W.KitX K (.ref x) (.ref C) (fun h => PySem.W.InstAt h x ox C od) :=
  PySem.W.kitx_exc (by obtain ⟨cd, e, _⟩ := PySem.W.any_some c.T.hdC; rw [e]; rfl) c.T.ga c.T.gg c.T.exC c.ha c.hn c.ht c.hm
/-- an exception held at a, of class C, with these fields -/
def ExV (H : Hp) (C : Addr) (x : V) (fs : List (Str × V)) : Prop := ∃ a, x = .ref a ∧ ((fs = [] ∧ H a = some (exo a C none)) ∨ ∃ d, H a = some (exo a C (some d)) ∧ H d = some (exd d fs))
def rIsX (K : PySem.W.Frag) : List V → Hp → VK → Prop := fun xs H Q => ∃ (x c : V) (C : Addr) (fs : List (Str × V)) (u : Value) (b : Bool), xs = [x, c] ∧ ExV H C x fs ∧ EvC K C ∧ ClsV c u ∧ PySem.W.kitOne K (.ref C) u = some b ∧ Q (.bl b) H
theorem inst_of {pins : List (Addr × Obj)} {σ : L2.St} {H : Hp} {s : Shared} {C a : Addr} {fs : List (Str × V)} (I : Inv X pins σ H s) (h : (fs = [] ∧ H a = some (exo a C none)) ∨ ∃ d, H a = some (exo a C (some d)) ∧ H d = some (exd d fs)) :
    ∃ ox od, PySem.W.InstAt s.heap a ox C od ∧ (od.isSome = true → ∃ d o, od = some o ∧ H d = some (exd d fs) ∧ s.heap.get? d = some o) := by
  rcases h with ⟨_, h⟩ | ⟨d, h, hd⟩
  · obtain ⟨t, ho⟩ := exo_at I.hok h
    exact ⟨_, none, ⟨ho, rfl, rfl, trivial⟩, fun z => by cases z⟩
  · obtain ⟨t, ho⟩ := exo_at I.hok h
    obtain ⟨mA, hns, rel⟩ := exd_at I.hok hd
    obtain ⟨o, es, ep, e1, e2, e3⟩ := hns
    exact ⟨_, some o, ⟨ho, rfl, rfl, e1⟩, fun _ => ⟨d, o, rfl, hd, e1⟩⟩
theorem call_isX {K : PySem.W.Frag} (hK : X.K = K) : CallR X (.builtin "isinstance") (rIsX K) := by
  subst hK
  intro pins s σ H xs us Q I r h
  obtain ⟨x, c, C, fs, cv, b, rfl, ⟨a, rfl, hx⟩, hc, hv, hk, q⟩ := h
  obtain ⟨u1, u2, rfl, r1, r2⟩ := r.two
  obtain rfl : u1 = Value.ref a := r1
  obtain ⟨ox, od, J, _⟩ := inst_of I hx
  have e2 : u2 = cv := by
    cases hv with
    | _ => first | exact r2 | exact r2.symm | (cases r2; rfl)
  subst e2
  exact PySem.W.kia_one hc.kit I.kIn J hk (fun z => nomatch z) fun tk => ⟨.bl b, H, I.kept (t' := tk) fun _ _ z => z, rfl, q⟩
/-! ### fields -/
def tXv (K : PySem.W.Frag) (te : TE) (n : Str) : TE := fun σ H Q => te σ H fun x H1 => ∃ (C : Addr) (fs : List (Str × V)) (v : V), ExV H1 C x fs ∧ EvC K C ∧ PySem.W.findIn K (.ref C) n = some none ∧ fs.lookup n = some v ∧ Q v H1
theorem pe_xv {K : PySem.W.Frag} {e : Expr} {te : TE} {pos : Pos} {n : Str} (hK : X.K = K) (he : PE X e te) (hb : attributeBase e n X.env (eval e X.env) = eval e X.env := by rfl) : PE X (.Attribute e n pos) (tXv K te n) := by
  subst hK
  refine ⟨fun pins s σ H Q I h => attr_of hb (thn (he.run pins s σ H _ I h) fun u s1 hh => ?_)⟩
  obtain ⟨x, H1, I1, rx, C, fs, v, ⟨a, rfl, hx⟩, hc, hno, l, q⟩ := hh
  obtain rfl : u = Value.ref a := rx
  rcases hx with ⟨rfl, _⟩ | ⟨d, hx, hd⟩
  · cases l
  obtain ⟨t, ho⟩ := exo_at I1.hok hx
  obtain ⟨mA, hns, rel⟩ := exd_at I1.hok hd
  obtain ⟨oD, es, ep, e1, e2, e3⟩ := id hns
  obtain ⟨od, hod, hl⟩ := lookIn_ns ⟨_, es, ep, e1, e2, e3⟩
  have hod' : oD = od := by rw [e1] at hod; exact Option.some.inj hod
  obtain ⟨w', hw, rw'⟩ := RelO.some_of (v := v) (o := mA n) (by rw [← l]; exact rel n)
  have J : PySem.W.InstAt s1.heap a _ C (some od) := ⟨ho, rfl, rfl, hod⟩
  exact HandSPX.exc_get I1.kIn J hc.T.ga hc.T.gg hc.T.exC (PySem.W.findObj_own hc.T.hdC hno rfl (by rw [hl, hw])) (handed_of rw') ⟨v, H1, I1.tok _, rw', q⟩
/-! ### making one -/
def tMkV (C : Addr) (sp : Sp) (ta : TA) : TE := fun σ H Q => ta σ H fun vs H1 => vs.length ≤ 1000 ∧ ∀ a, H1 a = none → sp (.ref a :: vs) (upd H1 a (exo a C none)) (fun v H2 => v = .non ∧ Q (.ref a) H2) (fun _ _ _ => False)
theorem pe_mkV {j k : Nat} {x : Str} {C : Addr} {sp : Sp} {e : Expr} {es : List Expr} {ta : TA} {p pos : Pos} (c : Xf X.prog X.w X.K X.mg X.base x C k sp) (hr : Room j X.A) (hk : k + 1 ≤ j) (hx : Passes (L2.CX X.prog X.w) X (fun _ _ _ => False)) (hg : Gl X x) (ha : PA X (e :: es) ta)
    (hdb : (x == ("__debug__" : Str)) = false := by decide) (he : starEach (e :: es) X.env = (false, eval e X.env) :: starEach es X.env := by rfl) (hpl : (backTo pos (starEach es X.env)).any (·.1) = false := by rfl) :
    PE X (.Call (.Name x p) (e :: es) [] pos) (tMkV C sp ta) := by
  obtain ⟨fI, fd, ps, hm, T, iC, tI, hb, F1⟩ := c.ex
  refine ⟨fun pins s σ H Q I h => ?_⟩
  obtain ⟨nm, qn, N, bs, bm, sn, sub, ab, col, dd, k0, k1, k2, k3, k5, hC, hbm⟩ := T.cls
  refine wpAny_Call_Name_kw (ld_glob I hg hm ?_ hdb)
  refine PySem.W.callWith_K (h₀ := X.base) I.ok.mod.kin T.kC (thn (ha.run pos pins s σ H _ I h) fun us s1 hh => ?_) he hpl
  obtain ⟨vs, H1, I1, r1, hz, q1⟩ := hh
  refine ⟨I1.kIn, ?_⟩
  show wpAny _ _ (call (.ref C) us) _ _ _
  obtain ⟨hp, g, dr, tk, os⟩ := s1
  have at_ : ((hp.push (PySem.W.kdv_tup us)).push (PySem.HandSPX.excO C hp.objs.size)).get? (hp.objs.size + 1) = some (PySem.HandSPX.excO C hp.objs.size) := by heap_get
  have new : H1 (hp.objs.size + 1) = none := I1.hok.fresh (Nat.le_succ _)
  have hq := q1 (hp.objs.size + 1) new
  have I2 := I1.laid (t' := tk) (a := hp.objs.size + 1) (o := exo (hp.objs.size + 1) C none) (h' := (hp.push (PySem.W.kdv_tup us)).push (PySem.HandSPX.excO C hp.objs.size)) (fun b o z => Heap.get?_push_of_some _ (Heap.get?_push_of_some _ z)) (Nat.le_succ _) (exo_ok at_)
  have r2 : Vals (V.ref (hp.objs.size + 1) :: vs) (Value.ref (hp.objs.size + 1) :: us) := .cons rfl r1
  have lens : (Value.ref (hp.objs.size + 1) :: us ++ []).length = ps.length := by
    rw [List.append_nil, ← r2.length]
    exact F1.len _ _ _ _ hq
  have hus : us.length ≤ sizeLine := by
    rw [← Paired.length r1]
    exact line_le hz
  refine wpAny_call (PySem.HandSPX.call_own F.excBase_ValueError (fun Y => PySem.HandSPX.refsVE_contains Y bm hbm) (I1.kIn _ _ hC) (PySem.W.looks_findIn I1.kIn iC) (fun self => PySem.W.bind_fn I1.kIn self tI) hus
    (codeAny_mono (F1.run _ X.stack _ _ ⟨Value.ref (hp.objs.size + 1) :: us, []⟩ (Value.ref (hp.objs.size + 1) :: us) _ _ (fun _ _ _ => False) ((hr.mono hk).make C us []) (I2.env0.make C us []) (by have := hb _ (Value.ref (hp.objs.size + 1) :: us) I2.kIn lens; simpa using this) r2 hq) fun r s' out => ?_))
  cases r with
  | error er => exact hx pins σ _ _ er s' I2 out
  | ok fl =>
    cases fl with
    | next => exact False.elim out
    | brk => exact False.elim out
    | cont => exact False.elim out
    | ret u =>
      obtain ⟨v, H2, os2, bare2, un2, hok2, rv, ev, q2⟩ := out
      subst ev
      exact ⟨rv, .ref (hp.objs.size + 1), H2, I2.call' (ch := []) os2 un2 hok2 bare2 (fun b z => absurd z (by simp)), rfl, q2⟩
end
end L2
namespace L2
open PySem PySem.Spec PyProof.Rows LamX
section
variable {X : Cx}
/-! ### classes without an own __init__ -/
abbrev veB : List Value := [.type "ValueError", .type "Exception", .type "BaseException", .type "object"]
theorem pe_mk0 {C : Addr} {x : Str} {p pos : Pos} (ok : PySem.W.excIn X.K C veB "ValueError.__new__" = true) (gC : X.mg x = some (.ref C)) (kC : PySem.W.keepIn X.K (.ref C) = true) (hg : Gl X x) (hdb : (x == ("__debug__" : Str)) = false := by decide) :
    PE X (.Call (.Name x p) [] [] pos) (fun _ H Q => ∀ a, H a = none → Q (.ref a) (upd H a (exo a C none))) := by
  refine ⟨fun pins s σ H Q I h => wpAny_Call_Name_kw (ld_glob I hg gC (PySem.W.callWith_K0 I.kIn kC ?_) hdb)⟩
  obtain ⟨bm, N, nm, qn, bs, hdct, sn, sub, ab, col, dd, k0, k1, k2, k3, k5, mN, hC, hN, hni, T⟩ := exc_obj I.kIn ok
  refine wpAny_call_exc_subT F.excBase_ValueError T hC hN hni (fun h' a mk => ?_) (Nat.zero_le _)
  have fresh := I.hok.gone mk.new
  obtain ⟨t, there, _, _⟩ := mk.there
  exact ⟨.ref a, upd H a (exo a C none), I.laidN mk.keeps mk.new fresh (exo_ok there), rfl, h a fresh⟩
theorem pmk_0 {C : Addr} {x : Str} {p pos : Pos} (ok : PySem.W.excIn X.K C veB "ValueError.__new__" = true) (gC : X.mg x = some (.ref C)) (kC : PySem.W.keepIn X.K (.ref C) = true) (r : Raises X (.ref C)) (hg : Gl X x) (hdb : (x == ("__debug__" : Str)) = false := by decide) :
    PMk X (.Call (.Name x p) [] [] pos) (fun _ H Q => Q (.ref C) none H) := by
  intro pins s σ H Q I h
  refine wpAny_Call_Name_kw (ld_glob I hg gC (PySem.W.callWith_K0 I.kIn kC ?_) hdb)
  obtain ⟨bm, N, nm, qn, bs, hdct, sn, sub, ab, col, dd, k0, k1, k2, k3, k5, mN, hC, hN, hni, T⟩ := exc_obj I.kIn ok
  exact wpAny_call_exc_subT F.excBase_ValueError T hC hN hni (fun h' a mk => mk_of I mk r h (I.hok.gone mk.new)) (Nat.zero_le _)
/-! ### several except clauses, with names or without -/
abbrev HdA : Type := Option Nat × Value × (Addr → Value → Option Addr → TS)
/-- what follows a suite whose exception has a name in slot i -/
def dropS (i : Nat) (D : Ends) : Ends := { nx := fun τ G => D.nx (τ.set i none) G, rt := D.rt, bk := fun τ G => D.bk (τ.set i none) G, ct := fun τ G => D.ct (τ.set i none) G }
def wAll (K : PySem.W.Frag) (Wo : WX) (D : Ends) : List HdA → WX
  | [] => Wo
  | (none, c, ts) :: r => fun kl dd τ G => ∃ b, PySem.W.exmOne K kl c = some b ∧ (b = true → ∀ e, G e = none → ts e kl dd D τ G) ∧ (b = false → wAll K Wo D r kl dd τ G)
  | (some i, c, ts) :: r => fun kl dd τ G => ∃ b, PySem.W.exmOne K kl c = some b ∧ (b = true → ∀ e, G e = none → ts e kl dd (dropS i D) (τ.set i (some (.ref e))) G) ∧ (b = false → wAll K Wo D r kl dd τ G)
inductive HdsA (X : Cx) : List ExceptHandler → List HdA → Prop
  | nil : HdsA X [] []
  | plain {x : Str} {c : Value} {ts : Addr → Value → Option Addr → TS} {b₀ : Stmt} {suite : List Stmt} {np pos' : Pos} {hds : List ExceptHandler} {l : List HdA} (hc : Names X x c)
      (hsu : ∀ (e : Addr) (oe : Obj) (kl : Value) (dd : Option Addr) (pn : List (Addr × Obj)), Zc kl dd oe → (∃ vs, oe.data = .fields vs) → PSs (X.suite e ((e, oe) :: pn)) (b₀ :: suite) (ts e kl dd)) (r : HdsA X hds l) :
      HdsA X (.ExceptHandler (some (.Name x np)) none (b₀ :: suite) pos' :: hds) ((none, c, ts) :: l)
  | named {x n : Str} {i : Nat} {c : Value} {ts : Addr → Value → Option Addr → TS} {b₀ : Stmt} {suite : List Stmt} {np pos' : Pos} {hds : List ExceptHandler} {l : List HdA} (hi : X.N[i]? = some n) (hln : X.env.kindOf n = some .local) (hc : Names X x c)
      (hsu : ∀ (e : Addr) (oe : Obj) (kl : Value) (dd : Option Addr) (pn : List (Addr × Obj)), Zc kl dd oe → (∃ vs, oe.data = .fields vs) → PSs (X.suite e ((e, oe) :: pn)) (b₀ :: suite) (ts e kl dd)) (r : HdsA X hds l) :
      HdsA X (.ExceptHandler (some (.Name x np)) (some n) (b₀ :: suite) pos' :: hds) ((some i, c, ts) :: l)
variable {body : List Stmt} {h₀ : ExceptHandler} {hds : List ExceptHandler} {l : List HdA} {pos : Pos} {tb : WX → TS} {Wo : WX}
theorem ps_try_all (hs : X.stack = X.env :: X.outer) (hf : X.env.frame = some X.env.locals) (hN : X.N.Nodup) (tk : Takes X Wo)
    (hb : ∀ (W : WX) (pn : List (Addr × Obj)) (xe : Value → Shared → Prop), Takes (X.tr pn xe) W → PassesOwn (model X.prog X.w) X.A X.env xe → PSs (X.tr pn xe) body (tb W))
    (hh : HdsA X (h₀ :: hds) l) : PS X (.Try body (h₀ :: hds) [] [] pos) (fun D τ G => tb (wAll X.K Wo D l) D τ G) := by
  refine ⟨fun pins s σ H D I h => ?_⟩
  have good := I.ok
  have stk : X.A.frames = some (X.env :: X.outer) := by rw [good.frames, hs]
  refine wpAny_Try_except (wpAny_mono ((hb (wAll X.K Wo D l) (X.pn ++ pins) (fun u r1 => wpAny (model X.prog X.w) X.A (noteFrame u X.env) (fun _ r2 => wpAny (model X.prog X.w) X.A (setFlight u none) (fun _ r3 =>
    wpAny (model X.prog X.w) X.A (handleBy u X.env (h₀ :: hds)) (SP X pins D) X.xe r3) X.xe r2) X.xe r1) (fun u s1 air => ?_) PassesOwn.looking).run [] s σ H D (I.toTry _) h) (fun fl s1 out => ?_) (fun u s1 z => z))
  · obtain ⟨ea, Bo, s0, pins0, τ, G, kl, dd, rfl, J0, b1, u1, sk, n1, o1, g1, wz⟩ := air
    have J : Inv X pins τ G s0 := J0.ofTry good
    rw [hs] at sk
    show wpAny (model X.prog X.w) X.A (noteFrame (.ref ea) X.env) _ _ _
    refine Sky.land Zc.steady stk hf sk fun g3 f3 up3 => ?_
    have J3 : Inv X pins τ G { s1 with heap := g3 } := J.landed b1 f3.1 (u1.trans up3) o1 g1
    obtain ⟨o3, vs3, at3, z3, dt3⟩ := f3.there
    have off : ∀ {g : Heap} {o : Obj} {vs : Array Value}, g.FunFrames Bo (X.env :: X.outer) → g.get? ea = some o → o.data = .fields vs → ea ∉ frs (X.env :: X.outer) := fun {g o vs} ff y dy m => by
      obtain ⟨_, o', y', nf⟩ := ff.mem m
      rw [y] at y'
      cases y'
      exact nf _ dy
    have out3 := off f3.2.2.1 at3 dt3
    have nL : ea ≠ X.env.locals := fun z => out3 (List.mem_filterMap.mpr ⟨X.env, List.mem_cons_self, by rw [hf, z]⟩)
    have nF : ea ∉ X.fs := fun m => by
      obtain ⟨y, my, q⟩ := List.mem_filterMap.mp m
      exact out3 (List.mem_filterMap.mpr ⟨y, List.mem_cons_of_mem _ my, q⟩)
    have S3 := J3.suite at3 dt3 n1 nL nF
    have names : ∀ {x : Str} {c : Value} {np : Pos} {Q : Value → Shared → Prop} {E : Value → Shared → Prop}, Names X x c → Q c { s1 with heap := g3 } → wpAny (model X.prog X.w) (X.A.mark (some (.ref ea))) (eval (.Name x np) X.env) Q E { s1 with heap := g3 } := fun {x c np Q E} hc q => by
      obtain ⟨hg, hdb, hm | ⟨hm, hv, hn⟩⟩ := hc
      · exact ld_glob (X := X.suite ea ((ea, o3) :: (X.pn ++ pins))) S3 hg hm q hdb
      · exact ld_blt (X := X.suite ea ((ea, o3) :: (X.pn ++ pins))) S3 hg hm hv q hn hdb
    have kind : PySem.W.Looks (model X.prog X.w) g3 (typeOf (.ref ea)) kl := fun A Q E r k q => wpAny_typeOf_ref (k _ _ at3) (by rw [z3.1]; exact q)
    have go : ∀ {hs' : List ExceptHandler} {l' : List HdA}, HdsA X hs' l' → wAll X.K Wo D l' kl dd τ G → wpAny (model X.prog X.w) X.A (handleBy (.ref ea) X.env hs') (SP X pins D) X.xe { s1 with heap := g3 } := by
      intro hs' l' hk
      induction hk with
      | nil =>
        intro wz
        refine wpAny_handleBy_nil ?_
        obtain ⟨k1, k2, k3, oe, vs, T, oT, ts', y1, y2, y3, y4, y5⟩ := id f3
        unfold PySem.passOn
        refine wpAny_bind (wpAny_field y1 y3 y4 ?_)
        rw [if_neg (show ¬ ((Value.ref T == Value.none) = true) from by simp)]
        have on : wpAny (model X.prog X.w) X.A (setFlight (.ref ea) X.env.frame) (fun _ r4 => wpAny (model X.prog X.w) X.A (throw (.ref ea) : Sem Flow) (SP X pins D) X.xe r4) X.xe { s1 with heap := g3 } := by
          rw [hf]
          refine HandSPX.setFlight_upZ f3 fun g4 hold up4 => wpAny_throw (tk _ _ ?_)
          exact ⟨ea, Bo, s0, pins, τ, G, kl, dd, rfl, J, b1, (u1.trans up3).trans up4, .inr (.inr (by rw [hs]; exact hold)), n1, o1, g1, wz⟩
        first
          | exact wpAny_bind (wpAny_pure (wpAny_bind on))
          | exact wpAny_bind on
      | @plain x c ts b₀ suite np pos' hds2 l2 hc hsu r ih =>
        intro wz
        obtain ⟨b, hit, yes, no⟩ := wz
        refine wpAny_handleBy_cons (codeAny_handlers_test (names hc ((PySem.W.exm_one (M := model X.prog X.w) J3.kIn kind hit).here ?_))) (by intro q; cases q)
        cases b with
        | false => exact ih (no rfl)
        | true =>
          refine codeAny_handlers_suite (HandSPX.lands_againZ f3 fun g4 f4 up4 => ?_)
          have J4 : Inv X pins τ G { s1 with heap := g4 } := J.landed b1 f4.1 ((u1.trans up3).trans up4) o1 g1
          obtain ⟨o4, vs4, at4, z4, dt4⟩ := f4.there
          refine wpAny_mono ((hsu ea o4 kl dd (X.pn ++ pins) z4 ⟨_, dt4⟩).run [] _ τ G _ (J4.suite at4 dt4 n1 nL nF) (yes rfl ea n1)) (fun fl r6 o => ?_) (fun _ _ z => False.elim z)
          cases fl with
          | next => obtain ⟨τ6, G6, S6, q6⟩ := o; exact ⟨_, _, S6.unsuite good, q6⟩
          | brk => obtain ⟨τ6, G6, S6, q6⟩ := o; exact ⟨_, _, S6.unsuite good, q6⟩
          | cont => obtain ⟨τ6, G6, S6, q6⟩ := o; exact ⟨_, _, S6.unsuite good, q6⟩
          | ret u => obtain ⟨v6, τ6, G6, S6, r6, q6⟩ := o; exact ⟨_, _, _, S6.unsuite good, r6, q6⟩
      | @named x n i c ts b₀ suite np pos' hds2 l2 hi hln hc hsu r ih =>
        intro wz
        obtain ⟨b, hit, yes, no⟩ := wz
        refine wpAny_handleBy_cons (codeAny_handlers_test (names hc ((PySem.W.exm_one (M := model X.prog X.w) J3.kIn kind hit).here ?_))) (by intro q; cases q)
        cases b with
        | false => exact ih (no rfl)
        | true =>
          refine codeAny_handlers_suite_as (HandSPX.lands_againZ f3 fun g4 f4 up4 => ?_)
          have J4 : Inv X pins τ G { s1 with heap := g4 } := J.landed b1 f4.1 ((u1.trans up3).trans up4) o1 g1
          obtain ⟨o4, vs4, at4, z4, dt4⟩ := f4.there
          refine store_ok (X := X.suite ea ((ea, o4) :: (X.pn ++ pins))) (v := .ref ea) (J4.suite at4 dt4 n1 nL nF) hN hi (.inl hln) rfl (fun r5 S5 => ?_) (.inr hln)
          refine wpAny_mono ((hsu ea o4 kl dd (X.pn ++ pins) z4 ⟨_, dt4⟩).run [] r5 _ G _ S5 (yes rfl ea n1)) (fun fl r6 o => ?_) (fun _ _ z => False.elim z)
          cases fl with
          | next => obtain ⟨τ6, G6, S6, q6⟩ := o; exact gone_ok (S6.unsuite good) hN hi hln fun r7 J7 => ⟨_, _, J7, q6⟩
          | brk => obtain ⟨τ6, G6, S6, q6⟩ := o; exact gone_ok (S6.unsuite good) hN hi hln fun r7 J7 => ⟨_, _, J7, q6⟩
          | cont => obtain ⟨τ6, G6, S6, q6⟩ := o; exact gone_ok (S6.unsuite good) hN hi hln fun r7 J7 => ⟨_, _, J7, q6⟩
          | ret u => obtain ⟨v6, τ6, G6, S6, r6, q6⟩ := o; exact gone_ok (S6.unsuite good) hN hi hln fun r7 J7 => ⟨_, _, _, J7, r6, q6⟩
    exact go hh wz
  · cases fl with
    | next => obtain ⟨τ, G, J, q⟩ := out; exact wpAny_execs_nil ⟨τ, G, J.ofTry good, q⟩
    | brk => obtain ⟨τ, G, J, q⟩ := out; exact ⟨τ, G, J.ofTry good, q⟩
    | cont => obtain ⟨τ, G, J, q⟩ := out; exact ⟨τ, G, J.ofTry good, q⟩
    | ret u => obtain ⟨v, τ, G, J, r, q⟩ := out; exact ⟨v, τ, G, J.ofTry good, r, q⟩
end
end L2
namespace L2
open PySem PySem.Spec PyProof.Rows LamX
section
variable {X : Cx}
/-- isinstance(e, c), e what the suite caught -/
def rIsC (K : PySem.W.Frag) (a : Addr) (cls : Value) (d : Option Addr) : List V → Hp → VK → Prop := fun xs H Q => ∃ (c : V) (D : Addr) (u : Value) (b : Bool), xs = [.ref a, c] ∧ cls = .ref D ∧ EvC K D ∧ ClsV c u ∧ PySem.W.kitOne K (.ref D) u = some b ∧ (d = none ∨ ∃ dd fs, d = some dd ∧ H dd = some (.xd fs)) ∧ Q (.bl b) H
theorem call_isC {a : Addr} {oe : Obj} {cls : Value} {d : Option Addr} {pn : List (Addr × Obj)} (hz : Zc cls d oe) (hf : ∃ vs, oe.data = .fields vs) : CallR (X.suite a ((a, oe) :: pn)) (.builtin "isinstance") (rIsC X.K a cls d) := by
  intro pins s σ H xs us Q I r h
  obtain ⟨c, D, cv, b, rfl, rfl, hc, hv, hk, hd, q⟩ := h
  obtain ⟨u1, u2, rfl, r1, r2⟩ := r.two
  obtain rfl : u1 = Value.ref a := r1
  have e2 : u2 = cv := by
    cases hv with
    | _ => first | exact r2 | exact r2.symm | (cases r2; rfl)
  subst e2
  obtain ⟨here, _⟩ := I.pin (a, oe) (List.mem_append.mpr (.inl List.mem_cons_self))
  obtain ⟨vs, dat⟩ := hf
  have nc : PySem.W.notCls oe := by unfold PySem.W.notCls; rw [dat] <;> rfl
  have J : ∃ od, PySem.W.InstAt s.heap a oe D od := by
    rcases hd with rfl | ⟨dd, fs, rfl, hx⟩
    · exact ⟨none, here, hz.1, nc, by rw [hz.2]; trivial⟩
    · have z : ObjOk X.prog X.w H s.heap dd (.xd fs) := I.hok dd _ hx
      obtain ⟨mA, ⟨o, es, ep, e1, e3⟩, _⟩ := z
      exact ⟨some o, here, hz.1, nc, by rw [hz.2]; exact e1⟩
  obtain ⟨od, J⟩ := J
  exact PySem.W.kia_one hc.kit I.kIn J hk (fun z => nomatch z) fun tk => ⟨.bl b, H, I.kept (t' := tk) fun _ _ z => z, rfl, q⟩
end
end L2
end

section
/-! Defs that ask for repr of lists: what surrounds them holds no repr that runs. -/
namespace L2
open PySem PySem.Spec PyProof.Rows LamX
/-- as FnOk, where no repr runs around -/
structure FnG (P : Program) (w : World) (K : PySem.W.Frag) (mg : Str → Option Value) (base : Heap) (CX : CXT) (k : Nat) (f : Addr) (fd : FuncData) (ps : List Str) (sp : Sp) : Prop where
  len : ∀ vs H Q E, sp vs H Q E → vs.length = ps.length
  run : ∀ (A : Around) (outer : List Env) (s : Shared) (H : Hp) (args : Args) (us : List Value) (vs : List V) (Q : VK) (E : XK), Room k A → A.guards = some [] → Env0 P w K mg base A outer s H →
    BindsTo s fd args (ps.zip us) → Vals vs us → sp vs H Q E → codeAny (model P w) A (.call (.ref f) args) (CR CX outer P w H s Q E) s
section
variable {P : Program} {w : World} {K : PySem.W.Frag} {mg : Str → Option Value} {base : Heap} {x qual : Str} {params : Arguments} {body : List Stmt} {scope : Scope} {dvs : List V} {kws : List (Str × V)} {f : Addr} {fd : FuncData}
theorem FnOk.toG {CX : CXT} {k : Nat} {ps : List Str} {sp : Sp} (F : FnOk P w K mg base CX k f fd ps sp) : FnG P w K mg base CX k f fd ps sp := ⟨F.len, fun A outer s H args us vs Q E hr _ => F.run A outer s H args us vs Q E hr⟩
theorem FunD.okG {N ps : List Str} {k : Nat} {sp : Sp} (F : FunD K x qual params body scope dvs kws f fd) (S : FnScope N ps scope) (len : ∀ vs H Q E, sp vs H Q E → vs.length = ps.length)
    (hbody : ∀ (A : Around) (outer : List Env) (s : Shared) (H : Hp) (vs : List V) (Q : VK) (E : XK), Room k (A.deeper (envOfC qual scope s.heap.objs.size f fd.code)) → (A.deeper (envOfC qual scope s.heap.objs.size f fd.code)).guards = some [] → sp vs H Q E →
      ∃ t, PSs (cxOf (L2.CX P w) P w K mg base N qual scope f fd.code A outer s H E).nox body t ∧ t { nx := fun _ H' => Q .non H', rt := Q } (start N vs) H) : FnG P w K mg base (L2.CX P w) (k + 1) f fd ps sp := by
  obtain ⟨oc, od, dV, kV, doc, pm, an, cdv, ct, osl, rfl, lk, hcd, _, _⟩ := F.ex
  refine ⟨len, fun A outer s H args us vs Q E hr hg e0 hb r h => ?_⟩
  refine LamX.run_ofS lk hcd S hr e0 hb r (len _ _ _ _ h) fun hr' => ?_
  obtain ⟨t, p, q⟩ := hbody A outer s H vs Q E hr' hg h
  exact ⟨t, p.nox, q⟩
end
/-- a def at the module's name x, called where no repr runs -/
structure Gg (P : Program) (w : World) (K : PySem.W.Frag) (mg : Str → Option Value) (base : Heap) (x : Str) (k : Nat) (ps : List Str) (sp : Sp) : Prop where
  ex : ∃ (f : Addr) (fd : FuncData), mg x = some (.ref f) ∧ PySem.W.keepIn K (.ref f) = true ∧ Binds K fd ps [] ∧ FnG P w K mg base (L2.CX P w) k f fd ps sp
section
variable {X : Cx} {j k : Nat} {x : Str} {ps : List Str} {sp : Sp} {E : XK} {e : Expr} {es : List Expr} {t : TA} {p pos : Pos}
theorem pe_gg (c : Gg X.prog X.w X.K X.mg X.base x k ps sp) (hr : Room j X.A) (hgd : X.A.guards = some []) (hk : k ≤ j) (hx : Passes (L2.CX X.prog X.w) X E) (hg : Gl X x) (ha : PA X (e :: es) t) (hdb : (x == ("__debug__" : Str)) = false := by decide)
    (he : starEach (e :: es) X.env = (false, eval e X.env) :: starEach es X.env := by rfl) (hpl : (backTo pos (starEach es X.env)).any (·.1) = false := by rfl) : PE X (.Call (.Name x p) (e :: es) [] pos) (tCall sp [] E t) := by
  obtain ⟨f, fd, hm, kp, hb, F⟩ := c.ex
  refine ⟨fun pins s σ H Q I h => wpAny_Call_Name_kw (ld_glob I hg hm ?_ hdb)⟩
  refine PySem.W.callWith_K (h₀ := X.base) I.ok.mod.kin kp (thn (ha.run pos pins s σ H _ I h) fun us s1 hh => ?_) he hpl
  obtain ⟨vs, H1, I1, r, q⟩ := hh
  refine ⟨I1.kIn, ?_⟩
  have q : sp vs H1 Q E := by simpa using q
  have lens : (us ++ []).length = ps.length := by
    rw [List.append_nil, ← r.length]
    exact F.len _ _ _ _ q
  have bnd : BindsTo s1 fd ⟨us, []⟩ (ps.zip us) := by have := hb s1 us I1.kIn lens; simpa using this
  show wpAny _ _ (call (.ref f) us) _ _ _
  refine wpAny_call (codeAny_mono (F.run X.A X.stack s1 H1 ⟨us, []⟩ us vs Q E (hr.mono hk) hgd I1.env0 bnd r q) fun z s2 out => ?_)
  cases z with
  | error er => exact hx pins σ H1 s1 er s2 I1 out
  | ok fl =>
    cases fl with
    | next => exact False.elim out
    | brk => exact False.elim out
    | cont => exact False.elim out
    | ret u => exact I1.after out
/-- repr(x), x any datum of none, bools, ints, texts, lists and tuples -/
def rRepr (K : PySem.W.Frag) : List V → Hp → VK → Prop := fun xs H Q => ∃ (x : V) (d : PyData), xs = [x] ∧ Dp K H x d ∧ d.showable = true ∧ d.hasDict = false ∧ d.depth ≤ 60 ∧ d.shown.length ≤ sizeLine ∧ Q (.str d.shown) H
theorem call_reprD {K : PySem.W.Frag} (hK : X.K = K) (hgd : X.A.guards = some []) (hu : X.A.units + 64 < cLine) : CallR X (.builtin "repr") (rRepr K) := by
  subst hK
  intro pins s σ H xs us Q I r h
  obtain ⟨x, d, rfl, hd, hs, hn, hdep, hsz, q⟩ := h
  obtain ⟨u, rfl, rx⟩ := vals1 r
  have fin : ∀ (h' : Heap) (tk : Tok) (k : Nat), (∀ b o, s.heap.get? b = some o → h'.get? b = some o) → EP X pins σ Q (.str d.shown tk) { s with heap := h', toks := k } := fun h' tk k hk => ⟨.str d.shown, H, I.kept (t' := k) hk, ⟨tk, rfl⟩, q⟩
  have one : EP X pins σ Q (.str d.shown s.toks) { s with toks := s.toks + 1 } := fin s.heap s.toks (s.toks + 1) fun _ _ z => z
  cases hd with
  | non => cases rx; exact PySem.P.repr_of_none one
  | bl b => cases rx; exact PySem.P.repr_of_bool one
  | int i => obtain ⟨t, rfl⟩ := rx; exact PySem.P.repr_of_int (of_decide_eq_true hs) one
  | str z => obtain ⟨t, rfl⟩ := rx; exact PySem.P.repr_of_str one hsz
  | lst hq ha =>
    obtain ⟨as, rd⟩ := Dp.reads I _ _ u (.lst hq ha) rx
    cases rx
    exact repr_of_reads' rd hs (fun z => by rw [hn] at z; cases z) hgd (by omega) (fun _ _ z => z) (fun h' u tk hk => fin h' u tk hk) hsz
  | tup hq ha =>
    obtain ⟨as, rd⟩ := Dp.reads I _ _ u (.tup hq ha) rx
    cases rx
    exact repr_of_reads' rd hs (fun z => by rw [hn] at z; cases z) hgd (by omega) (fun _ _ z => z) (fun h' u tk hk => fin h' u tk hk) hsz
end
end L2
namespace L2
open PySem PySem.Spec PyProof.Rows LamX
/-- where the law starts: the script, unless the module holds it, and the tables -/
def hp0 (K : PySem.W.Frag) (cs : List (Addr × Addr)) (a : Addr) (o : Obj) (ns : List Int) : Hp := fun b =>
  if b = a ∧ K.lookup a = none then some (.frz o (.lst (ns.map V.int))) else if b ∈ cs.map (·.2) then some (.tbl #[]) else none
section
variable {P : Program} {w : World} {K : PySem.W.Frag} {mg mb : Str → Option Value} {k : Nat} {fa a : Addr} {cs : List (Addr × Addr)} {fd : FuncData} {x : Str} {sp : Sp} {s : Shared} {vs : List Value} {ns : List Int}
/-- the law's end over FnG -/
theorem law_endG (kin : K.In s.heap) (glo : s.heap.Ns mainGlobals mg) (blt : s.heap.Ns builtinsNs mb) (std : ∀ x : Str, x ≠ "__name__" → mb x = bootBuiltins x) (nol : s.heap.NoLimit) (gen : s.gens = #[])
    (tab : ∀ p ∈ cs, s.heap.get? p.2 = some { cls := .none, data := .fields #[] }) (out : ∀ p ∈ cs, K.lookup p.2 = none) (cod : ∀ p ∈ cs, PySem.W.CodeHd s.heap p.1 p.2)
    (bmod : ∃ (bm : Addr) (ob : Obj), mg "__builtins__" = some (.ref bm) ∧ bm ≠ builtinsNs ∧ s.heap.get? bm = some ob ∧ ob.cls = .type "module" ∧ ob.dict = some builtinsNs ∧ ob.data = .plain)
    (scr : s.heap.get? a = some { cls := .type "list", data := .seq vs.toArray }) (isn : IntsAre vs ns) (len : ns.length ≤ sizeLine) (hr : Room k callerA)
    (F : ∀ base : Heap, K.In base → base.Ns mainGlobals mg → (∀ p ∈ cs, TabB base mg p.1 p.2) → FnG P w K mg base (L2.CX P w) k fa fd [x] sp) (bnd : ∀ (s : Shared) (u : Value), BindsTo s fd ⟨[u], []⟩ [(x, u)])
    (give : ∀ H : Hp, (∀ p ∈ cs, H p.2 = some (.tbl #[])) → SqL K H a (ns.map V.int) → sp [.ref a] H (fun v _ => v = .bl true) fun _ _ _ => False) :
    codeAny (model P w) callerA (.call (.ref fa) ⟨[.ref a], []⟩) (fun r s' => r = .ok (.ret (.bool true)) ∧ OldK s.heap s'.heap ∧ s'.os = s.os ∧ AllBare s'.gens) s := by
  have val := vals_ints isn
  have cnt := isn.length
  have isT : ∀ b, b ∈ cs.map (·.2) → s.heap.get? b = some { cls := .none, data := .fields #[] } := fun b m => by
    obtain ⟨p, hp, rfl⟩ := List.mem_map.mp m
    exact tab p hp
  have naT : a ∉ cs.map (·.2) := fun z => by
    have q := (isT a z).symm.trans scr
    cases q
  let o : Obj := { cls := .type "list", data := .seq vs.toArray }
  -- what H0 says, place by place
  have inv : ∀ b u, hp0 K cs a o ns b = some u → (b = a ∧ K.lookup a = none ∧ u = .frz o (.lst (ns.map V.int))) ∨ (b ∈ cs.map (·.2) ∧ u = .tbl #[]) := fun b u e => by
    unfold hp0 at e
    split at e
    · rename_i c
      exact .inl ⟨c.1, c.2, (Option.some.inj e).symm⟩
    · split at e
      · rename_i c
        exact .inr ⟨c, (Option.some.inj e).symm⟩
      · cases e
  have atT : ∀ b, b ∈ cs.map (·.2) → hp0 K cs a o ns b = some (.tbl #[]) := fun b m => by
    unfold hp0
    have nc : ¬ (b = a ∧ K.lookup a = none) := fun c => naT (by rw [← c.1]; exact m)
    rw [if_neg nc, if_pos m]
  have sq : SqL K (hp0 K cs a o ns) a (ns.map V.int) := by
    cases q : K.lookup a with
    | none => exact .inl (.inr ⟨o, by unfold hp0; rw [if_pos ⟨rfl, q⟩]⟩)
    | some u =>
      have e := (kin a u q).symm.trans scr
      cases e
      exact .inr ⟨_, vs.toArray, _, q, rfl, rfl, rfl, by rw [List.size_toArray, cnt]; exact len, by simpa using val⟩
  have hok : HOk P w (hp0 K cs a o ns) s.heap := fun b u e => by
    rcases inv b u e with ⟨rfl, _, rfl⟩ | ⟨m, rfl⟩
    · exact ⟨scr, by rw [List.length_map]; exact len, vs, _, val, scr⟩
    · exact isT b m
  -- what stands below
  have free : ∀ {b : Addr} {u : Obj}, s.heap.get? b = some u → (∀ l n, u.data ≠ .seq l n) → u.data ≠ .fields #[] → hp0 K cs a o ns b = none := fun {b u} e d1 d2 => by
    cases q : hp0 K cs a o ns b with
    | none => rfl
    | some z =>
      rcases inv b z q with ⟨rfl, _, _⟩ | ⟨m, _⟩
      · have e2 := e.symm.trans scr
        cases e2
        exact absurd rfl (d1 _ _)
      · have e2 := e.symm.trans (isT b m)
        cases e2
        exact absurd rfl d2
  have dic : ∀ {b : Addr} {m : Str → Option Value}, s.heap.Ns b m → (hidT s.heap (hp0 K cs a o ns)).Ns b m := fun {b m} ⟨u, es, ep, e, d, r⟩ =>
    ⟨u, es, ep, hidT_get e (free e (fun l n z => by rw [d] at z; cases z) fun z => by rw [d] at z; cases z), d, r⟩
  have kb : K.In (hidT s.heap (hp0 K cs a o ns)) := fun b u e => hidT_get (kin b u e) (by
    cases q : hp0 K cs a o ns b with
    | none => rfl
    | some z =>
      rcases inv b z q with ⟨rfl, n, _⟩ | ⟨m, _⟩
      · rw [n] at e; cases e
      · obtain ⟨p, hp, rfl⟩ := List.mem_map.mp m
        rw [out p hp] at e
        cases e)
  have md : Mod K mg (hidT s.heap (hp0 K cs a o ns)) := ⟨kb, dic glo, ⟨mb, dic blt, std⟩, nol.imp fun mc z => ⟨dic z.1, z.2⟩⟩
  have tb : ∀ p ∈ cs, TabB (hidT s.heap (hp0 K cs a o ns)) mg p.1 p.2 := fun p hp => by
    have t := tab p hp
    refine ⟨?_, ?_, fun z => ?_⟩
    · obtain ⟨u, us, f1, f2, f3, f4, f5, f6, f7, e, c1, c2, c3, c4⟩ := cod p hp
      exact ⟨u, us, f1, f2, f3, f4, f5, f6, f7, hidT_get e (free e (fun l n z => by rw [c2] at z; cases z) fun z => by rw [c2] at z; cases z; simp at c3), c1, c2, c3, c4⟩
    · obtain ⟨bm, ob, g1, g2, g3, g4, g5, g6⟩ := bmod
      refine ⟨bm, ob, g1, g2, fun z => ?_, fun z => ?_, hidT_get g3 (free g3 (fun l n z => by rw [g6] at z; cases z) fun z => by rw [g6] at z; cases z), g4, g5, g6⟩
      · obtain ⟨u, es, ep, e, d, _⟩ := glo
        rw [z, e] at g3
        cases g3
        rw [d] at g6
        cases g6
      · rw [z, t] at g3
        cases g3
        cases g6
    · obtain ⟨u, es, ep, e, d, _⟩ := glo
      rw [z, t] at e
      cases e
      cases d
  have e0 : Env0 P w K mg (hidT s.heap (hp0 K cs a o ns)) callerA [] s (hp0 K cs a o ns) := ⟨rfl, md, fun b u e => of_hidT e, Nat.le_of_eq (hidT_size _ _), trivial, fun b m => (nomatch m), hok, .of_eq gen⟩
  refine codeAny_mono ((F _ kb (dic glo) tb).run callerA [] s _ ⟨[.ref a], []⟩ [.ref a] [.ref a] _ _ hr rfl e0 (bnd s (.ref a)) (.cons rfl .nil) (give _ (fun p hp => atT p.2 (List.mem_map.mpr ⟨p, hp, rfl⟩)) sq)) fun r s' z => ?_
  cases r with
  | error e =>
    obtain ⟨_, _, _, _, _, _, _, _, _, _, _, _, no⟩ := z
    exact no.elim
  | ok fl =>
    cases fl with
    | next => exact False.elim z
    | brk => exact False.elim z
    | cont => exact False.elim z
    | ret u =>
      obtain ⟨v, H', os, bare, un, hok', rv, q⟩ := z
      have q : v = .bl true := q
      subst q
      obtain rfl : u = Value.bool true := rv
      have kept : ∀ b z, b ∉ cs.map (·.2) → s.heap.get? b = some z → s'.heap.get? b = some z := fun b z nm e => by
        cases q : hp0 K cs a o ns b with
        | none => exact un.keep b z e q (fun m => nomatch m) (fun m => nomatch m)
        | some y =>
          rcases inv b y q with ⟨rfl, _, rfl⟩ | ⟨m, _⟩
          · have g := (hok' b _ (un.frzs b o _ q)).1
            have e2 := e.symm.trans scr
            rw [Option.some.inj e2]
            exact g
          · exact absurd m nm
      have grow : ∀ p ∈ cs, ∃ more : Array Value, s'.heap.get? p.2 = some { cls := .none, data := .fields more } := fun p hp => by
        obtain ⟨more, z⟩ := un.tbls p.2 #[] (atT p.2 (List.mem_map.mpr ⟨p, hp, rfl⟩))
        exact ⟨_, hok' p.2 _ z⟩
      refine ⟨rfl, ⟨fun b z e => ?_, fun b z e => ?_⟩, os, bare⟩
      · by_cases m : b ∈ cs.map (·.2)
        · obtain ⟨p, hp, rfl⟩ := List.mem_map.mp m
          obtain ⟨more, g⟩ := grow p hp
          have e2 := e.symm.trans (tab p hp)
          cases e2
          exact .inr (.inl ⟨((cod p hp).tab (tab p hp)).isCodeTable, rfl, #[], more, rfl, by rw [Array.empty_append]; exact g⟩)
        · exact .inl (kept b z m e)
      · by_cases m : b ∈ cs.map (·.2)
        · obtain ⟨p, hp, rfl⟩ := List.mem_map.mp m
          obtain ⟨more, g⟩ := grow p hp
          exact ⟨_, g⟩
        · exact ⟨z, kept b z m e⟩
end
/-- what is known of the law's promise at the head's heap -/
def LawG (l : PySem.W.OpenLaw) (w : World) (K : PySem.W.Frag) (k n : Nat) (x : Str) (mg : Str → Option Value) (fa : Addr) (h : Heap) : Prop :=
  ∃ (fd : FuncData) (cs : List (Addr × Addr)) (sp : Sp), (∀ p ∈ cs, h.get? p.2 = some { cls := .none, data := .fields #[] }) ∧ (∀ p ∈ cs, K.lookup p.2 = none) ∧ (∀ p ∈ cs, PySem.W.CodeHd h p.1 p.2) ∧ (∀ (s : Shared) (u : Value), BindsTo s fd ⟨[u], []⟩ [(x, u)]) ∧
    (∀ (H : Hp) (a : Addr) (ns : List Int), ns.length ≤ n → (∀ z ∈ ns, Builtin.Int.intBits z ≤ 1048576) → (∀ p ∈ cs, H p.2 = some (.tbl #[])) → SqL K H a (ns.map V.int) → sp [.ref a] H (fun v _ => v = .bl true) fun _ _ _ => False) ∧
    ∀ base : Heap, K.In base → base.Ns mainGlobals mg → (∀ p ∈ cs, TabB base mg p.1 p.2) → FnG l.prog w K mg base (L2.CX l.prog w) k fa fd [x] sp
theorem walk_G {l : PySem.W.OpenLaw} {n k : Nat} {q : Program} {loose : List Str} {XP : (Str → Option Value) → Heap → Prop} {YP : World → Heap → Prop} {d : DefRec} {x : Str} (hn : l.most = some n) (hn2 : n ≤ sizeLine) (hdf : d.params.defaults = []) (hr : Room k callerA)
    (F : ∀ (w : World) (mg : Str → Option Value) (fa : Addr) (h : Heap), YP w h → h.Ns mainGlobals mg → mg d.name = some (.ref fa) → ∃ K : PySem.W.Frag, K.In h ∧ LawG l w K k n x mg fa h) : PySem.W.WalkO q loose XP YP l.row.toRowW d [] (fun f vs => PySem.call f vs) := by
  refine Att.attach_callB hn hdf fun w s₀ s₁ mg mb fa o pm cd doc a vs ns G Y ho hd hcd hmg hobj hints hlen hbits hg => ?_
  obtain ⟨K, kin, fd, cs, sp, t1, t2, t3, b, g, FF⟩ := F w mg fa _ Y G.T.g hmg
  exact law_endG kin G.T.g G.T.b G.T.builtins G.T.nolimit hg t1 t2 t3 G.T.bmain hobj hints (Nat.le_trans hlen hn2) hr FF b fun H hH hS => g H a ns hlen hbits hH hS
end L2
end

section
/-! The 22 classes of errors: what is asked of them, and what is made of it. -/
namespace L2
open PySem PySem.Spec PyProof.Rows LamX
/-- the fields of each class -/
def fldL : List (Nat × Str) := [(0, "line"), (0, "column"), (1, "name"), (2, "what"), (2, "number"), (3, "what"), (4, "place"), (5, "row"), (6, "row"), (7, "digits"), (8, "what"), (8, "many"), (8, "limit"), (9, "what"), (9, "many"), (9, "limit"), (10, "what"), (12, "name"), (14, "rank"), (15, "name"), (16, "name"), (17, "name"), (18, "name"), (19, "promise"), (19, "given")]
structure KinC (K : PySem.W.Frag) (CL : Nat → Addr) (CH : Addr) : Prop where
  ev : ∀ i, i < 22 → EvC K (CL i)
  kit : ∀ i j, i < 22 → j < 22 → PySem.W.kitOne K (.ref (CL i)) (.ref (CL j)) = some (decide (i = j))
  kH : ∀ i, i < 22 → PySem.W.kitOne K (.ref (CL i)) (.ref CH) = some true
  kV : ∀ i, i < 22 → PySem.W.kitOne K (.ref (CL i)) (.type "ValueError") = some true
  e0 : ∀ i, i ∈ [11, 13, 20, 21] → PySem.W.excIn K (CL i) veB "ValueError.__new__" = true ∧ PySem.W.keepIn K (.ref (CL i)) = true ∧ PySem.W.subIn K (.ref (CL i)) (.type "BaseException") = some true ∧ PySem.W.typeIn K (.ref (CL i)) = some (.type "type")
  no : ∀ q ∈ fldL, PySem.W.findIn K (.ref (CL q.1)) q.2 = some none
  em : ∀ i, i ∈ [0, 8, 19, 11] → PySem.W.exmOne K (.ref (CL i)) (.ref (CL 0)) = some (decide (i = 0)) ∧ PySem.W.exmOne K (.ref (CL i)) (.ref (CL 8)) = some (decide (i = 8)) ∧ PySem.W.exmOne K (.ref (CL i)) (.ref CH) = some true
def evB (K : PySem.W.Frag) (C : Addr) : Bool := xfB K C && (decide (PySem.W.findIn K (.ref C) "__class__" = some (some (.builtin "object.__class__"))) && (decide (PySem.W.specialIn K (.builtin "object.__class__") "__get__" = some (some (.builtin "getset_descriptor.__get__"))) && (decide (PySem.W.takesIn K (.builtin "object.__class__") = some true) && decide (PySem.W.mroIn K C (.type "object") = some true))))
theorem evB_ok {K : PySem.W.Frag} {C : Addr} (h : evB K C = true) : EvC K C := by
  obtain ⟨h1, h⟩ := Bool.and_eq_true_iff.mp h
  obtain ⟨h2, h⟩ := Bool.and_eq_true_iff.mp h
  obtain ⟨h3, h⟩ := Bool.and_eq_true_iff.mp h
  obtain ⟨h4, h5⟩ := Bool.and_eq_true_iff.mp h
  exact ⟨xfB_ok h1, of_decide_eq_true h2, of_decide_eq_true h3, of_decide_eq_true h4, of_decide_eq_true h5⟩
def kinB (K : PySem.W.Frag) (CL : Nat → Addr) (CH : Addr) : Bool :=
  ((List.range 22).all fun i => evB K (CL i) && (((List.range 22).all fun j => decide (PySem.W.kitOne K (.ref (CL i)) (.ref (CL j)) = some (decide (i = j)))) && (decide (PySem.W.kitOne K (.ref (CL i)) (.ref CH) = some true) && decide (PySem.W.kitOne K (.ref (CL i)) (.type "ValueError") = some true))))
  && (([11, 13, 20, 21].all fun i => PySem.W.excIn K (CL i) veB "ValueError.__new__" && (PySem.W.keepIn K (.ref (CL i)) && (decide (PySem.W.subIn K (.ref (CL i)) (.type "BaseException") = some true) && decide (PySem.W.typeIn K (.ref (CL i)) = some (.type "type")))))
  && ((fldL.all fun q => decide (PySem.W.findIn K (.ref (CL q.1)) q.2 = some none))
  && ([0, 8, 19, 11].all fun i => decide (PySem.W.exmOne K (.ref (CL i)) (.ref (CL 0)) = some (decide (i = 0))) && (decide (PySem.W.exmOne K (.ref (CL i)) (.ref (CL 8)) = some (decide (i = 8))) && decide (PySem.W.exmOne K (.ref (CL i)) (.ref CH) = some true)))))
theorem kinB_ok {K : PySem.W.Frag} {CL : Nat → Addr} {CH : Addr} (h : kinB K CL CH = true) : KinC K CL CH := by
  obtain ⟨h1, h⟩ := Bool.and_eq_true_iff.mp h
  obtain ⟨h2, h⟩ := Bool.and_eq_true_iff.mp h
  obtain ⟨h3, h4⟩ := Bool.and_eq_true_iff.mp h
  have a1 := fun i (hi : i < 22) => List.all_eq_true.mp h1 i (List.mem_range.mpr hi)
  have a2 := List.all_eq_true.mp h2
  have a4 := List.all_eq_true.mp h4
  refine ⟨fun i hi => evB_ok (Bool.and_eq_true_iff.mp (a1 i hi)).1, fun i j hi hj => ?_, fun i hi => ?_, fun i hi => ?_, fun i hi => ?_, fun q hq => of_decide_eq_true (List.all_eq_true.mp h3 q hq), fun i hi => ?_⟩
  · exact of_decide_eq_true (List.all_eq_true.mp (Bool.and_eq_true_iff.mp (Bool.and_eq_true_iff.mp (a1 i hi)).2).1 j (List.mem_range.mpr hj))
  · exact of_decide_eq_true (Bool.and_eq_true_iff.mp (Bool.and_eq_true_iff.mp (Bool.and_eq_true_iff.mp (a1 i hi)).2).2).1
  · exact of_decide_eq_true (Bool.and_eq_true_iff.mp (Bool.and_eq_true_iff.mp (Bool.and_eq_true_iff.mp (a1 i hi)).2).2).2
  · obtain ⟨b1, b⟩ := Bool.and_eq_true_iff.mp (a2 i hi)
    obtain ⟨b2, b⟩ := Bool.and_eq_true_iff.mp b
    obtain ⟨b3, b4⟩ := Bool.and_eq_true_iff.mp b
    exact ⟨b1, b2, of_decide_eq_true b3, of_decide_eq_true b4⟩
  · obtain ⟨b1, b⟩ := Bool.and_eq_true_iff.mp (a4 i hi)
    obtain ⟨b2, b3⟩ := Bool.and_eq_true_iff.mp b
    exact ⟨of_decide_eq_true b1, of_decide_eq_true b2, of_decide_eq_true b3⟩
section
variable {K : PySem.W.Frag} {CL : Nat → Addr} {CH : Addr} {H : Hp} {x : V} {fs : List (Str × V)} {i j : Nat} {Q : VK}
theorem ExV.same {H H' : Hp} {C : Addr} (h : ExV H C x fs) (e : Same H H') : ExV H' C x fs := by
  obtain ⟨a, rfl, h | ⟨d, h1, h2⟩⟩ := h
  · exact ⟨a, rfl, .inl ⟨h.1, e _ _ h.2⟩⟩
  · exact ⟨a, rfl, .inr ⟨d, e _ _ h1, e _ _ h2⟩⟩
theorem isK (KC : KinC K CL CH) (hx : ExV H (CL i) x fs) (hi : i < 22) (hj : j < 22) (k : Q (.bl (decide (i = j))) H) : rIsX K [x, .ref (CL j)] H Q := ⟨x, .ref (CL j), CL i, fs, _, _, rfl, hx, KC.ev i hi, .own _, KC.kit i j hi hj, k⟩
theorem isKH (KC : KinC K CL CH) (hx : ExV H (CL i) x fs) (hi : i < 22) (k : Q (.bl true) H) : rIsX K [x, .ref CH] H Q := ⟨x, .ref CH, CL i, fs, _, _, rfl, hx, KC.ev i hi, .own _, KC.kH i hi, k⟩
theorem isKV (KC : KinC K CL CH) (hx : ExV H (CL i) x fs) (hi : i < 22) (k : Q (.bl true) H) : rIsX K [x, .ty "ValueError"] H Q := ⟨x, .ty "ValueError", CL i, fs, _, _, rfl, hx, KC.ev i hi, .ty _, KC.kV i hi, k⟩
end
/-- __init__ of three fields -/
def spX3 (C : Addr) (f1 f2 f3 : Str) : Sp := fun vs H Q _ => ∃ (a : Addr) (x y z : V), vs = [.ref a, x, y, z] ∧ H a = some (exo a C none) ∧
  ∀ d, H d = none → d ≠ a → Q .non (upd (upd (upd (upd H d (exd d [(f1, x)])) a (exo a C (some d))) d (exd d [(f2, y), (f1, x)])) d (exd d [(f3, z), (f2, y), (f1, x)]))
section
variable {C p : Addr} {H : Hp} {f1 f2 f3 : Str} {x y z : V} {Q : VK} {E : XK}
theorem mk1 (hp : H p = none) (k : ∀ H', Same H H' → ExV H' C (.ref p) [(f1, x)] → Q .non H') : spX1 C f1 [.ref p, x] (upd H p (exo p C none)) Q E := by
  refine ⟨p, x, rfl, upd_same, fun d hd hdp => ?_⟩
  have hd0 : H d = none := by rwa [upd_ne hdp] at hd
  exact k _ (fun b o e => by rw [upd_ne (ne_of_none e hp), upd_ne (ne_of_none e hd0), upd_ne (ne_of_none e hp)]; exact e) ⟨p, rfl, .inr ⟨d, upd_same, by rw [upd_ne hdp, upd_same]⟩⟩
theorem mk2 (hp : H p = none) (k : ∀ H', Same H H' → ExV H' C (.ref p) [(f2, y), (f1, x)] → Q .non H') : spX2 C f1 f2 [.ref p, x, y] (upd H p (exo p C none)) Q E := by
  refine ⟨p, x, y, rfl, upd_same, fun d hd hdp => ?_⟩
  have hd0 : H d = none := by rwa [upd_ne hdp] at hd
  exact k _ (fun b o e => by rw [upd_ne (ne_of_none e hd0), upd_ne (ne_of_none e hp), upd_ne (ne_of_none e hd0), upd_ne (ne_of_none e hp)]; exact e) ⟨p, rfl, .inr ⟨d, by rw [upd_ne hdp.symm, upd_same], upd_same⟩⟩
theorem mk3 (hp : H p = none) (k : ∀ H', Same H H' → ExV H' C (.ref p) [(f3, z), (f2, y), (f1, x)] → Q .non H') : spX3 C f1 f2 f3 [.ref p, x, y, z] (upd H p (exo p C none)) Q E := by
  refine ⟨p, x, y, z, rfl, upd_same, fun d hd hdp => ?_⟩
  have hd0 : H d = none := by rwa [upd_ne hdp] at hd
  exact k _ (fun b o e => by rw [upd_ne (ne_of_none e hd0), upd_ne (ne_of_none e hd0), upd_ne (ne_of_none e hp), upd_ne (ne_of_none e hd0), upd_ne (ne_of_none e hp)]; exact e) ⟨p, rfl, .inr ⟨d, by rw [upd_ne hdp.symm, upd_ne hdp.symm, upd_same], upd_same⟩⟩
theorem mk0 (hp : H p = none) : Same H (upd H p (exo p C none)) ∧ ExV (upd H p (exo p C none)) C (.ref p) [] := ⟨fun b o e => by rw [upd_ne (ne_of_none e hp)]; exact e, p, rfl, .inl ⟨rfl, upd_same⟩⟩
theorem lkA {f : Str} {v : V} {r : List (Str × V)} : List.lookup f ((f, v) :: r) = some v := by simp [List.lookup]
theorem lkB {f g : Str} {u : V} {o : Option V} {r : List (Str × V)} (h : (f == g) = false) (k : List.lookup f r = o) : List.lookup f ((g, u) :: r) = o := by simp [List.lookup, h, k]
end
/-- what a suite caught: the raise's end, three fields -/
theorem x3_made {H1 : Hp} {a d C : Addr} {f1 f2 f3 : Str} {x y z : V} {Q : XK} (ha : H1 a = none) (hd : H1 d = none) (hda : d ≠ a)
    (k : ∀ H', Same H1 H' → H' d = some (.xd [(f3, z), (f2, y), (f1, x)]) → Q (.ref C) (some d) H') :
    ∃ (d' : Addr), (upd (upd (upd (upd (upd H1 a (exo a C none)) d (exd d [(f1, x)])) a (exo a C (some d))) d (exd d [(f2, y), (f1, x)])) d (exd d [(f3, z), (f2, y), (f1, x)])) a = some (exo a C (some d')) ∧ ∃ (fs : List (Str × V)),
      (upd (upd (upd (upd (upd H1 a (exo a C none)) d (exd d [(f1, x)])) a (exo a C (some d))) d (exd d [(f2, y), (f1, x)])) d (exd d [(f3, z), (f2, y), (f1, x)])) d' = some (exd d' fs) ∧ H1 d' = none ∧
      Q (.ref C) (some d') (upd (del (upd (upd (upd (upd (upd H1 a (exo a C none)) d (exd d [(f1, x)])) a (exo a C (some d))) d (exd d [(f2, y), (f1, x)])) d (exd d [(f3, z), (f2, y), (f1, x)])) a) d' (.xd fs)) := by
  refine ⟨d, by rw [upd_ne hda.symm, upd_ne hda.symm, upd_same], _, upd_same, hd, k _ (fun b o e => ?_) upd_same⟩
  have n1 := ne_of_none e ha
  have n2 := ne_of_none e hd
  rw [upd_ne n2, del_ne n1, upd_ne n2, upd_ne n2, upd_ne n1, upd_ne n2, upd_ne n1]
  exact e
/-- a field's value, and the datum it is -/
inductive Fv (H : Hp) : V → PyData → Prop
  | int (i : Int) (h : i.natAbs < 2 ^ 110) : Fv H (.int i) (.int i)
  | st : Fv H (.str "name") (.str "name")
  | se : Fv H (.str "") (.str "")
  | non : Fv H .non .none
  | bl (b : Bool) : Fv H (.bl b) (.bool b)
  | tup (a : Addr) (h : H a = some (.tup [.int 1, .str "x"])) : Fv H (.ref a) (.tuple [.int 1, .str "x"])
theorem Fv.same {H H' : Hp} {v : V} {d : PyData} (h : Fv H v d) (e : Same H H') : Fv H' v d := by
  cases h with
  | int i h => exact .int i h
  | st => exact .st
  | se => exact .se
  | non => exact .non
  | bl b => exact .bl b
  | tup a h => exact .tup a (e _ _ h)
theorem Fv.dp {K : PySem.W.Frag} {H : Hp} {v : V} {d : PyData} (h : Fv H v d) : Dp K H v d := by
  cases h with
  | int i h => exact .int i
  | st => exact .str _
  | se => exact .str _
  | non => exact .non
  | bl b => exact .bl b
  | tup a h => exact .tup (SqT.of h) (.cons (.int _) (.cons (.str _) .nil))
theorem Fv.shape {H : Hp} {v : V} {d : PyData} (h : Fv H v d) : d.showable = true ∧ d.hasDict = false ∧ d.depth ≤ 2 ∧ d.shown.length ≤ 120 := by
  cases h with
  | int i h =>
    have l : i.natAbs.log2 < 110 := HwM.log2_lt (k := 110) (by decide) h
    have e := PySem.int_text_length_le (a := i) (k := 110) (by decide) l
    refine ⟨?_, rfl, by simp [PyData.depth], ?_⟩
    · simp only [PyData.showable]
      exact decide_eq_true (by omega)
    · simp only [PyData.shown]
      rw [PySem.ofString_length]
      omega
  | st => exact ⟨by decide +kernel, by decide +kernel, by decide +kernel, by decide +kernel⟩
  | se => exact ⟨by decide +kernel, by decide +kernel, by decide +kernel, by decide +kernel⟩
  | non => exact ⟨rfl, rfl, by decide, by decide +kernel⟩
  | bl b => cases b <;> exact ⟨rfl, rfl, by decide, by decide +kernel⟩
  | tup a h => exact ⟨by decide +kernel, by rfl, by decide +kernel, by decide +kernel⟩
inductive FvL (H : Hp) : List V → List PyData → Prop
  | nil : FvL H [] []
  | cons {v : V} {d : PyData} {vs : List V} {ds : List PyData} (h : Fv H v d) (r : FvL H vs ds) : FvL H (v :: vs) (d :: ds)
theorem FvL.dp {K : PySem.W.Frag} {H : Hp} {vs : List V} {ds : List PyData} (h : FvL H vs ds) : DpAll K H vs ds := by
  induction h with
  | nil => exact .nil
  | cons h r ih => exact .cons h.dp ih
theorem FvL.same {H H' : Hp} {vs : List V} {ds : List PyData} (h : FvL H vs ds) (e : Same H H') : FvL H' vs ds := by
  induction h with
  | nil => exact .nil
  | cons h r ih => exact .cons (h.same e) ih
theorem FvL.shape {H : Hp} {vs : List V} {ds : List PyData} (h : FvL H vs ds) : PyData.showableAll ds = true ∧ PyData.hasDictAll ds = false ∧ PyData.depthAll ds ≤ 2 ∧ ((PyData.shownAll ds).map (·.length)).sum ≤ 120 * vs.length ∧ (PyData.shownAll ds).length = vs.length := by
  induction h with
  | nil => exact ⟨rfl, rfl, by decide, by decide, rfl⟩
  | cons h r ih =>
    obtain ⟨a, b, c, d⟩ := h.shape
    obtain ⟨a2, b2, c2, d2, e2⟩ := ih
    refine ⟨by simp [PyData.showableAll, a, a2], by simp [PyData.hasDictAll, b, b2], by simp only [PyData.depthAll]; omega, ?_, by simp [PyData.shownAll, e2]⟩
    simp only [PyData.shownAll, List.map_cons, List.sum_cons, List.length_cons]
    omega
/-- repr of a list of fields -/
theorem rep_fields {K : PySem.W.Frag} {H : Hp} {a : Addr} {vs : List V} {ds : List PyData} {Q : VK} (ha : H a = some (.lst vs)) (h : FvL H vs ds) (hl : vs.length ≤ 8) (k : Q (.str (PyData.list ds).shown) H) : rRepr K [.ref a] H Q := by
  obtain ⟨a1, b1, c1, d1, e1⟩ := h.shape
  refine ⟨.ref a, .list ds, rfl, .lst (SqL.of ha) h.dp, by simpa [PyData.showable] using a1, by simpa [PyData.hasDict] using b1, by simp only [PyData.depth]; omega, ?_, k⟩
  simp only [PyData.shown]
  have := listText_len_le (PyData.shownAll ds)
  refine line_le ?_
  omega
theorem isC {K : PySem.W.Frag} {CL : Nat → Addr} {CH : Addr} {H : Hp} {i j : Nat} {Q : VK} {a : Addr} {d : Option Addr} (KC : KinC K CL CH) (hi : i < 22) (hj : j < 22) (hd : d = none ∨ ∃ dd fs, d = some dd ∧ H dd = some (.xd fs)) (k : Q (.bl (decide (i = j))) H) : rIsC K a (.ref (CL i)) d [.ref a, .ref (CL j)] H Q :=
  ⟨.ref (CL j), CL i, _, _, rfl, rfl, KC.ev i hi, .own _, KC.kit i j hi hj, hd, k⟩
theorem isCV {K : PySem.W.Frag} {CL : Nat → Addr} {CH : Addr} {H : Hp} {i : Nat} {Q : VK} {a : Addr} {d : Option Addr} (KC : KinC K CL CH) (hi : i < 22) (hd : d = none ∨ ∃ dd fs, d = some dd ∧ H dd = some (.xd fs)) (k : Q (.bl true) H) : rIsC K a (.ref (CL i)) d [.ref a, .ty "ValueError"] H Q :=
  ⟨.ty "ValueError", CL i, _, _, rfl, rfl, KC.ev i hi, .ty _, KC.kV i hi, hd, k⟩
theorem FvL.of {H : Hp} : ∀ {xs : List V}, (∀ x ∈ xs, ∃ d, Fv H x d) → ∃ ds, FvL H xs ds
  | [], _ => ⟨[], .nil⟩
  | x :: xs, h => by
    obtain ⟨d, hd⟩ := h x List.mem_cons_self
    obtain ⟨ds, hds⟩ := FvL.of (xs := xs) fun y hy => h y (List.mem_cons_of_mem _ hy)
    exact ⟨d :: ds, .cons hd hds⟩
theorem ne_int1 {K : PySem.W.Frag} {H : Hp} {a b : Addr} {i j : Int} {Q : VK} (ha : H a = some (.lst [.int i])) (hb : H b = some (.lst [.int j])) (e : i = j) (k : Q (.bl false) H) : rNeD K (.ref a) (.ref b) H Q := by
  subst e
  refine ⟨.list [.int i], .list [.int i], .lst (SqL.of ha) (.cons (.int _) .nil), .lst (SqL.of hb) (.cons (.int _) .nil), by rfl, by rfl, ?_⟩
  rw [show PyData.eqv (.list [.int i]) (.list [.int i]) = true by simp [PyData.eqv, PyData.eqvAll]]
  exact k
theorem eq_bls3 {K : PySem.W.Frag} {H : Hp} {a b : Addr} {x y z : Bool} {Q : VK} (ha : H a = some (.lst [.bl x, .bl y, .bl z])) (hb : H b = some (.lst [.bl x, .bl y, .bl z])) (k : Q (.bl true) H) : rEqD K (.ref a) (.ref b) H Q := by
  refine ⟨.list [.bool x, .bool y, .bool z], .list [.bool x, .bool y, .bool z], .lst (SqL.of ha) (.cons (.bl _) (.cons (.bl _) (.cons (.bl _) .nil))), .lst (SqL.of hb) (.cons (.bl _) (.cons (.bl _) (.cons (.bl _) .nil))), by rfl, by rfl, ?_⟩
  rw [show PyData.eqv (.list [.bool x, .bool y, .bool z]) (.list [.bool x, .bool y, .bool z]) = true by cases x <;> cases y <;> cases z <;> decide +kernel]
  exact k
theorem x2_all {K : PySem.W.Frag} {Wo : WX} {D : Ends} {l : List HdA} {τ : L2.St} {H1 : Hp} {a d C : Addr} {f1 f2 : Str} {x y : V} (ha : H1 a = none) (hd : H1 d = none) (hda : d ≠ a)
    (k : ∀ H', Same H1 H' → H' d = some (.xd [(f2, y), (f1, x)]) → wAll K Wo D l (.ref C) (some d) τ H') :
    ∃ (d' : Addr), (upd (upd (upd (upd H1 a (exo a C none)) d (exd d [(f1, x)])) a (exo a C (some d))) d (exd d [(f2, y), (f1, x)])) a = some (exo a C (some d')) ∧ ∃ (fs : List (Str × V)), (upd (upd (upd (upd H1 a (exo a C none)) d (exd d [(f1, x)])) a (exo a C (some d))) d (exd d [(f2, y), (f1, x)])) d' = some (exd d' fs) ∧ H1 d' = none ∧ wAll K Wo D l (.ref C) (some d') τ (upd (del (upd (upd (upd (upd H1 a (exo a C none)) d (exd d [(f1, x)])) a (exo a C (some d))) d (exd d [(f2, y), (f1, x)])) a) d' (.xd fs)) :=
  x2_made (Q := fun c o H' => wAll K Wo D l c o τ H') ha hd hda k
theorem x3_all {K : PySem.W.Frag} {Wo : WX} {D : Ends} {l : List HdA} {τ : L2.St} {H1 : Hp} {a d C : Addr} {f1 f2 f3 : Str} {x y z : V} (ha : H1 a = none) (hd : H1 d = none) (hda : d ≠ a)
    (k : ∀ H', Same H1 H' → H' d = some (.xd [(f3, z), (f2, y), (f1, x)]) → wAll K Wo D l (.ref C) (some d) τ H') :
    ∃ (d' : Addr), (upd (upd (upd (upd (upd H1 a (exo a C none)) d (exd d [(f1, x)])) a (exo a C (some d))) d (exd d [(f2, y), (f1, x)])) d (exd d [(f3, z), (f2, y), (f1, x)])) a = some (exo a C (some d')) ∧ ∃ (fs : List (Str × V)), (upd (upd (upd (upd (upd H1 a (exo a C none)) d (exd d [(f1, x)])) a (exo a C (some d))) d (exd d [(f2, y), (f1, x)])) d (exd d [(f3, z), (f2, y), (f1, x)])) d' = some (exd d' fs) ∧ H1 d' = none ∧ wAll K Wo D l (.ref C) (some d') τ (upd (del (upd (upd (upd (upd (upd H1 a (exo a C none)) d (exd d [(f1, x)])) a (exo a C (some d))) d (exd d [(f2, y), (f1, x)])) d (exd d [(f3, z), (f2, y), (f1, x)])) a) d' (.xd fs)) :=
  x3_made (Q := fun c o H' => wAll K Wo D l c o τ H') ha hd hda k
end L2
end

section
/-! Lists or tuples: for, comprehensions, stars; the least common multiple. -/
namespace L2
open PySem PySem.Spec PyProof.Rows LamX
/-- a list or a tuple at a -/
def Sq (K : PySem.W.Frag) (H : Hp) (a : Addr) (xs : List V) : Prop := SqL K H a xs ∨ SqT K H a xs
theorem Same.sqT {K : PySem.W.Frag} {H H' : Hp} {a : Addr} {xs : List V} (e : Same H H') (h : SqT K H a xs) : SqT K H' a xs := by
  rcases h with (h | ⟨o, h⟩) | h
  · exact .inl (.inl (e _ _ h))
  · exact .inl (.inr ⟨o, e _ _ h⟩)
  · exact .inr h
theorem Sq.same {K : PySem.W.Frag} {H H' : Hp} {a : Addr} {xs : List V} (h : Sq K H a xs) (e : Same H H') : Sq K H' a xs := h.elim (fun h => .inl (e.seq h)) (fun h => .inr (e.sqT h))
section
variable {X : Cx} {tg : Expr}
def iSeq (K : PySem.W.Frag) (tl : TE) : TI := fun σ H R => tl σ H fun x H1 => ∃ a, x = .ref a ∧ (((∃ xs, SqL K H1 a xs) ∧ R (Itl K a) H1) ∨ ((∃ xs, SqT K H1 a xs) ∧ R (Itt K a) H1))
theorem pi_seq {l : Expr} {tl : TE} (hl : PE X l tl) : PI X tg l (iSeq X.K tl) := by
  refine ⟨fun pins s σ H R I h => ?_⟩
  refine thn (hl.run pins s σ H _ I h) fun v s1 ⟨x, H1, I1, r1, q1⟩ => ?_
  obtain ⟨a, e, ⟨⟨xs, hq⟩, q⟩ | ⟨⟨xs, hq⟩, q⟩⟩ := q1
  · subst e
    cases r1
    obtain ⟨its, rv, p, hz⟩ := I1.list hq
    refine wpAny_pyIter_list p.isList ?_
    refine ⟨s1.heap.objs.size, [s1.heap.objs.size], _, _, H1, rfl, I1.kept (t' := s1.toks) fun b o e => Heap.get?_push_of_some _ e, turn_list a _, ⟨_, Heap.get?_push_size _ rfl, rfl, rfl⟩, fun b hb => ?_, q⟩
    have e : b = s1.heap.objs.size := by simpa using hb
    subst e
    exact I1.fpOk (Nat.le_refl _) (I1.hok.fresh (Nat.le_refl _))
  · subst e
    cases r1
    obtain ⟨its, rv, p, hz⟩ := I1.tuple hq
    refine wpAny_pyIter_tuple (show s1.heap.IsTuple a its.toArray from p) ?_
    refine ⟨s1.heap.objs.size, [s1.heap.objs.size], _, _, H1, rfl, I1.kept (t' := s1.toks) fun b o e => Heap.get?_push_of_some _ e, turn_tuple a _, ⟨_, Heap.get?_push_size _ rfl, rfl, rfl⟩, fun b hb => ?_, q⟩
    have e : b = s1.heap.objs.size := by simpa using hb
    subst e
    exact I1.fpOk (Nat.le_refl _) (I1.hok.fresh (Nat.le_refl _))
/-! ### stars -/
def tStar (K : PySem.W.Frag) (te : TE) (tr : TA) : TA := fun σ H Q => te σ H fun x H1 => ∃ a xs, x = .ref a ∧ Sq K H1 a xs ∧ tr σ H1 fun ys H2 => Q (xs ++ ys) H2
theorem vals_app : ∀ {xs ys : List V} {us ws : List Value}, Vals xs us → Vals ys ws → Vals (xs ++ ys) (us ++ ws)
  | _, _, _, _, .nil, h => h
  | _, _, _, _, .cons r h, k => .cons r (vals_app h k)
theorem pa_star {e : Expr} {es : List Expr} {te : TE} {t : TA} {p : Pos} (ha : PE X e te) (hr : PA X es t) (he : starEach (.Starred e p :: es) X.env = (true, eval e X.env) :: starEach es X.env := by rfl) : PA X (.Starred e p :: es) (tStar X.K te t) := by
  refine ⟨fun pos pins s σ H Q I h => PySem.W.items_star (thn (ha.run pins s σ H _ I h) fun u s1 hh => ?_) he⟩
  obtain ⟨x, H1, I1, r1, a, xs, rfl, hs, q⟩ := hh
  obtain rfl : u = Value.ref a := r1
  have go : ∀ (o : Obj) (T : String) (its : List Value) (n : Nat), (T = "list" ∨ T = "tuple") → s1.heap.get? a = some o → o.cls = .type T → o.data = .seq its.toArray n → its.length ≤ sizeLine → Vals xs its →
      PySem.W.StarOf (model X.prog X.w) X.A X.xe (.ref a) (fun here s₂ => wpAny (model X.prog X.w) X.A (spliced (backTo pos (starEach es X.env))) (fun vs s₃ => AP X pins σ Q (here ++ vs) s₃) X.xe s₂) s1 := by
    intro o T its n hT ho hc hd hz rv
    have hT' : s1.TypeIs (.ref a) T := ⟨o, ho, hc⟩
    have z : wpAny (model X.prog X.w) X.A (collect (.ref a)) (fun here s₂ => wpAny (model X.prog X.w) X.A (spliced (backTo pos (starEach es X.env))) (fun vs s₃ => AP X pins σ Q (here ++ vs) s₃) X.xe s₂) X.xe s1 := by
      refine wpAny_collect_seq a hT ho hc hd (fun h' hk => ?_) (by simpa using hz)
      have I2 : Inv X pins σ H1 { s1 with heap := h' } := I1.kept (t' := s1.toks) hk
      refine thn (hr.run pos pins _ σ H1 _ I2 q) fun ws s3 hw => ?_
      obtain ⟨ys, H2, I3, r3, q3⟩ := hw
      exact ⟨xs ++ ys, H2, I3, vals_app (by simpa using rv) r3, q3⟩
    unfold PySem.W.StarOf notIterableAtAll
    rcases hT with rfl | rfl
    · exact wpAny_bind (wpAny_specialOf hT' PySem.F.slot_list_iter.lookup (wpAny_pure ⟨rfl, z⟩))
    · exact wpAny_bind (wpAny_specialOf hT' PySem.F.slot_tuple_iter.lookup (wpAny_pure ⟨rfl, z⟩))
  rcases hs with hs | hs
  · obtain ⟨its, rv, p, hz⟩ := I1.list hs
    obtain ⟨o, ho, hc, n, hd⟩ := p.isList
    exact go o "list" its n (.inl rfl) ho hc hd (by rw [← Paired.length rv]; exact hz) rv
  · obtain ⟨its, rv, p, hz⟩ := I1.tuple hs
    obtain ⟨o, ho, hc, n, hd⟩ := (show s1.heap.IsTuple a its.toArray from p)
    exact go o "tuple" its n (.inr rfl) ho hc hd (by rw [← Paired.length rv]; exact hz) rv
theorem pe_fldE {K : PySem.W.Frag} {e : Expr} {ta : TE} {f : Str} {pos : Pos} (hK : X.K = K) (he : PE X e ta) (hb : attributeBase e f X.env (eval e X.env) = eval e X.env) : PE X (.Attribute e f pos) (tFld K ta f) := by
  subst hK
  exact pe_fld he hb
/-! ### the least common multiple -/
def rLcm : List V → Hp → VK → Prop := fun vs H Q => ∃ a b : Int, vs = [.int a, .int b] ∧ a.natAbs < 2 ^ 9000 ∧ b.natAbs < 2 ^ 9000 ∧ Q (.int ((Nat.lcm a.natAbs b.natAbs : Nat) : Int)) H
theorem cr_lcm : CallR X (.builtin "math.lcm") rLcm := by
  intro pins s σ H vs us Q I r h
  obtain ⟨a, b, rfl, ha, hb, q⟩ := h
  obtain ⟨t, u, rfl⟩ := Vals.int2 r
  have h0 : (1 : Nat) < 2 ^ 9000 := Nat.lt_of_lt_of_le (show 1 < 2 ^ 1 by decide) (Nat.pow_le_pow_right (by decide) (by decide))
  have h1 : (max 1 a.natAbs).log2 < 9000 := by
    refine (Nat.log2_lt (by omega)).mpr ?_
    omega
  have h2 : (max a.natAbs b.natAbs).log2 < 9000 := by
    by_cases z : max a.natAbs b.natAbs = 0
    · rw [z, Nat.log2_zero]; decide
    · exact (Nat.log2_lt z).mpr (by omega)
  have e1 : (Nat.lcm 1 a.natAbs) = a.natAbs := Nat.lcm_one_left _
  have sz : ((((Nat.lcm 1 a.natAbs).lcm b.natAbs : Nat) : Int)).natAbs.log2 < bitsLine := by
    rw [e1, Int.natAbs_natCast]
    have le : Nat.lcm a.natAbs b.natAbs ≤ a.natAbs * b.natAbs := Nat.div_le_self _ _
    by_cases z : Nat.lcm a.natAbs b.natAbs = 0
    · rw [z, Nat.log2_zero]; decide
    · have l : (Nat.lcm a.natAbs b.natAbs).log2 < 18000 := (Nat.log2_lt z).mpr (Nat.lt_of_le_of_lt le (by
        have : a.natAbs * b.natAbs < 2 ^ 9000 * 2 ^ 9000 := Nat.mul_lt_mul'' ha hb
        rwa [← Nat.pow_add] at this))
      exact Nat.lt_trans l (by decide)
  refine call_function_meets PySem.W.MGF.kind_lcm PySem.W.MGF.plain_lcm PySem.W.MGF.entry_lcm (PySem.W.MGF.args_lcm _ _) (PySem.W.mg_run_lcm a t b u (by omega) (by omega) sz).meets ?_
  rw [e1]
  exact ⟨.int _, H, I.tok _, ⟨_, rfl⟩, q⟩
end
/-! ### readings -/
section
variable {K : PySem.W.Frag} {a : Addr} {xs : List V}
theorem for_seq {g : TG} {tb : TS} {D : Ends} {σ : L2.St} {H : Hp} (hq : Sq K H a xs) (Pv : Nat → L2.St → Hp → Prop) (h0 : Pv 0 σ H) (hl : ∀ i σ' H', Pv i σ' H' → Same H H')
    (hs : ∀ i x σ H, xs[i]? = some x → Pv i σ H → g x σ H fun σ2 H2 => tb { D with nx := Pv (i + 1), ct := Pv (i + 1), bk := D.nx } σ2 H2) (hd : ∀ σ H, Pv xs.length σ H → D.nx σ H) :
    ((∃ ys, SqL K H a ys) ∧ ∃ W : Nat → Nat → L2.St → Hp → Prop, (∃ m, W 0 m σ H) ∧ ∀ i m σ H, W i m σ H →
      ((Itl K a).stop i H ∧ D.nx σ H) ∨ ((Itl K a).go i H ∧ ∃ N : L2.St → Hp → Prop, (∀ σ' H', N σ' H' → ∃ m', m' < m ∧ W (i + 1) m' σ' H') ∧ ∀ x H', (Itl K a).yld i H x H' → g x σ H' fun σ2 H2 => tb { D with nx := N, ct := N, bk := D.nx } σ2 H2)) ∨
    ((∃ ys, SqT K H a ys) ∧ ∃ W : Nat → Nat → L2.St → Hp → Prop, (∃ m, W 0 m σ H) ∧ ∀ i m σ H, W i m σ H →
      ((Itt K a).stop i H ∧ D.nx σ H) ∨ ((Itt K a).go i H ∧ ∃ N : L2.St → Hp → Prop, (∀ σ' H', N σ' H' → ∃ m', m' < m ∧ W (i + 1) m' σ' H') ∧ ∀ x H', (Itt K a).yld i H x H' → g x σ H' fun σ2 H2 => tb { D with nx := N, ct := N, bk := D.nx } σ2 H2)) := by
  rcases hq with hq | hq
  · exact .inl ⟨⟨_, hq⟩, for_list (xs := xs) Pv h0 (fun i σ' H' _ p => (hl i σ' H' p).seq hq) hs hd⟩
  · exact .inr ⟨⟨_, hq⟩, for_tup (xs := xs) Pv h0 (fun i σ' H' _ p => (hl i σ' H' p).sqT hq) hs hd⟩
theorem lc_seq {g : TG} {tt : TT} {te : TE} {vs : List Nat} {σ : L2.St} {H1 : Hp} {Qd : Addr → Hp → Prop} (hq : Sq K H1 a xs) (Pv : Addr → Nat → Hp → Prop) (h0 : ∀ D, H1 D = none → Pv D 0 (upd H1 D (.lst []))) (hl : ∀ D, H1 D = none → ∀ i H, Pv D i H → Same H1 H)
    (hs : ∀ D, H1 D = none → ∀ i x H, xs[i]? = some x → Pv D i H → g x (wipe σ vs) H fun σ2 H2 => wipe σ2 vs = wipe σ vs ∧ tt σ2 H2 fun b H3 =>
      if b = true then te σ2 H3 fun y H4 => ∃ acc, H4 D = some (.lst acc) ∧ acc.length < sizeLine ∧ Pv D (i + 1) (upd H4 D (.lst (acc ++ [y]))) else Pv D (i + 1) H3) (hd : ∀ D, H1 D = none → ∀ H, Pv D xs.length H → Qd D H) :
    ((∃ ys, SqL K H1 a ys) ∧ ∀ D, H1 D = none → ∃ W : Nat → Nat → Hp → Prop, (∃ m, W 0 m (upd H1 D (.lst []))) ∧ ∀ i m H, W i m H →
      ((Itl K a).stop i H ∧ Qd D H) ∨ ((Itl K a).go i H ∧ ∃ Nx : Hp → Prop, (∀ H', Nx H' → ∃ m', m' < m ∧ W (i + 1) m' H') ∧ ∀ x H', (Itl K a).yld i H x H' → g x (wipe σ vs) H' fun σ2 H2 => wipe σ2 vs = wipe σ vs ∧ tt σ2 H2 fun b H3 =>
        if b = true then te σ2 H3 fun y H4 => ∃ acc, H4 D = some (.lst acc) ∧ acc.length < sizeLine ∧ Nx (upd H4 D (.lst (acc ++ [y]))) else Nx H3)) ∨
    ((∃ ys, SqT K H1 a ys) ∧ ∀ D, H1 D = none → ∃ W : Nat → Nat → Hp → Prop, (∃ m, W 0 m (upd H1 D (.lst []))) ∧ ∀ i m H, W i m H →
      ((Itt K a).stop i H ∧ Qd D H) ∨ ((Itt K a).go i H ∧ ∃ Nx : Hp → Prop, (∀ H', Nx H' → ∃ m', m' < m ∧ W (i + 1) m' H') ∧ ∀ x H', (Itt K a).yld i H x H' → g x (wipe σ vs) H' fun σ2 H2 => wipe σ2 vs = wipe σ vs ∧ tt σ2 H2 fun b H3 =>
        if b = true then te σ2 H3 fun y H4 => ∃ acc, H4 D = some (.lst acc) ∧ acc.length < sizeLine ∧ Nx (upd H4 D (.lst (acc ++ [y]))) else Nx H3)) := by
  rcases hq with hq | hq
  · exact .inl ⟨⟨_, hq⟩, fun D hD => lc_list (xs := xs) (Pv D) (h0 D hD) (fun i H' _ p => (hl D hD i H' p).seq hq) (hs D hD) (hd D hD)⟩
  · exact .inr ⟨⟨_, hq⟩, fun D hD => lc_tup (xs := xs) (Pv D) (h0 D hD) (fun i H' _ p => (hl D hD i H' p).sqT hq) (hs D hD) (hd D hD)⟩
end
end L2
end

section
/-! Rows of whole numbers of a form. -/
namespace HwP
open HwM
inductive Fa2 {α β : Type} (R : α → β → Prop) : List α → List β → Prop
  | nil : Fa2 R [] []
  | cons {a : α} {b : β} {as : List α} {bs : List β} : R a b → Fa2 R as bs → Fa2 R (a :: as) (b :: bs)
theorem Fa2.mono {α β : Type} {R S : α → β → Prop} {as : List α} {bs : List β} (h : Fa2 R as bs) (k : ∀ a b, R a b → S a b) : Fa2 S as bs := by
  induction h with
  | nil => exact .nil
  | cons h _ ih => exact .cons (k _ _ h) ih
theorem Fa2.len {α β : Type} {R : α → β → Prop} {as : List α} {bs : List β} (h : Fa2 R as bs) : as.length = bs.length := by
  induction h with
  | nil => rfl
  | cons _ _ ih => simp [ih]
theorem Fa2.get {α β : Type} {R : α → β → Prop} {as : List α} {bs : List β} (h : Fa2 R as bs) : ∀ {i : Nat} {a : α}, as[i]? = some a → ∃ b, bs[i]? = some b ∧ R a b := by
  induction h with
  | nil => intro i a e; cases e
  | cons h _ ih =>
    intro i a e
    cases i with
    | zero => cases e; exact ⟨_, rfl, h⟩
    | succ i => exact ih e
theorem Fa2.app {α β : Type} {R : α → β → Prop} {as cs : List α} {bs ds : List β} (h : Fa2 R as bs) (k : Fa2 R cs ds) : Fa2 R (as ++ cs) (bs ++ ds) := by
  induction h with
  | nil => exact k
  | cons h _ ih => exact .cons h ih
theorem Fa2.snoc {α β : Type} {R : α → β → Prop} {as : List α} {bs : List β} {a : α} {b : β} (h : Fa2 R as bs) (k : R a b) : Fa2 R (as ++ [a]) (bs ++ [b]) := h.app (.cons k .nil)
theorem take_snoc {α : Type} {l : List α} {i : Nat} {a : α} (h : l[i]? = some a) : l.take (i + 1) = l.take i ++ [a] := by rw [List.take_succ, h]; rfl
/-- the least common bottom -/
def wb (qs : List Rat) : Nat := qs.foldl (fun b q => Nat.lcm b q.den) 1
theorem wb_snoc (qs : List Rat) (q : Rat) : wb (qs ++ [q]) = Nat.lcm (wb qs) q.den := by unfold wb; rw [List.foldl_append]; rfl
theorem fold_bd : ∀ (qs : List Rat) (b k : Nat), b < 2 ^ k → (∀ q ∈ qs, Bd 400 q) → qs.foldl (fun b q => Nat.lcm b q.den) b < 2 ^ (k + 400 * qs.length)
  | [], b, k, h, _ => by simpa using h
  | q :: qs, b, k, h, hq => by
    have l : Nat.lcm b q.den < 2 ^ (k + 400) := Nat.lt_of_le_of_lt (Nat.div_le_self _ _) (mul_lt h (hq q List.mem_cons_self).2)
    have := fold_bd qs _ (k + 400) l fun r hr => hq r (List.mem_cons_of_mem _ hr)
    rw [List.foldl_cons, List.length_cons]
    exact lt_mono this (by omega)
theorem wb_bd {qs : List Rat} (h : ∀ q ∈ qs, Bd 400 q) : wb qs < 2 ^ (1 + 400 * qs.length) := fold_bd qs 1 1 (by decide) h
theorem fold_dvd : ∀ (qs : List Rat) (b : Nat), b ∣ qs.foldl (fun b q => Nat.lcm b q.den) b ∧ ∀ q ∈ qs, q.den ∣ qs.foldl (fun b q => Nat.lcm b q.den) b
  | [], b => ⟨Nat.dvd_refl _, fun _ h => by cases h⟩
  | q :: qs, b => by
    obtain ⟨h1, h2⟩ := fold_dvd qs (Nat.lcm b q.den)
    rw [List.foldl_cons]
    refine ⟨Nat.dvd_trans (Nat.dvd_lcm_left _ _) h1, fun r hr => ?_⟩
    rcases List.mem_cons.mp hr with rfl | hr
    · exact Nat.dvd_trans (Nat.dvd_lcm_right _ _) h1
    · exact h2 r hr
theorem wb_dvd {qs : List Rat} {q : Rat} (h : q ∈ qs) : q.den ∣ wb qs := (fold_dvd qs 1).2 q h
theorem fold_pos : ∀ (qs : List Rat) (b : Nat), 0 < b → 0 < qs.foldl (fun b q => Nat.lcm b q.den) b
  | [], b, h => h
  | q :: qs, b, h => fold_pos qs _ (Nat.lcm_pos h q.den_pos)
theorem wb_pos (qs : List Rat) : 0 < wb qs := fold_pos qs 1 (by decide)
/-- the form's numbers over the least common bottom -/
def ws (qs : List Rat) : List Int := qs.map fun q => q.num * ((wb qs : Int) / (q.den : Int))
def cg (zs : List Int) : Nat := zs.foldl (fun c z => Nat.gcd c z.natAbs) 0
theorem cg_snoc (zs : List Int) (z : Int) : cg (zs ++ [z]) = Nat.gcd (cg zs) z.natAbs := by unfold cg; rw [List.foldl_append]; rfl
def row (qs : List Rat) : List Int := if cg (ws qs) ≤ 1 then ws qs else (ws qs).map fun z => z / (cg (ws qs) : Int)
theorem ws_bd {qs : List Rat} (h : ∀ q ∈ qs, Bd 400 q) (hl : qs.length ≤ 20) : ∀ z ∈ ws qs, z.natAbs < 2 ^ 8800 := by
  intro z hz
  obtain ⟨q, hq, rfl⟩ := List.mem_map.mp hz
  rw [Int.natAbs_mul]
  have b1 := (h q hq).1
  have b2 : ((wb qs : Int) / (q.den : Int)).natAbs < 2 ^ 8001 := by
    have e : ((wb qs : Int) / (q.den : Int)).natAbs = wb qs / q.den := by
      rw [← Int.natCast_ediv, Int.natAbs_natCast]
    rw [e]
    exact Nat.lt_of_le_of_lt (Nat.div_le_self _ _) (lt_mono (wb_bd h) (by omega))
  exact lt_mono (mul_lt b1 b2) (by decide)
theorem gfold_bd : ∀ (zs : List Int) (c n : Nat), c < 2 ^ n → (∀ z ∈ zs, z.natAbs < 2 ^ n) → zs.foldl (fun c z => Nat.gcd c z.natAbs) c < 2 ^ n
  | [], c, n, h, _ => h
  | z :: zs, c, n, h, hz => by
    rw [List.foldl_cons]
    refine gfold_bd zs _ n ?_ fun y hy => hz y (List.mem_cons_of_mem _ hy)
    by_cases e : c = 0
    · rw [e, Nat.gcd_zero_left]; exact hz z List.mem_cons_self
    · exact Nat.lt_of_le_of_lt (Nat.gcd_le_left _ (by omega)) h
theorem cg_bd {zs : List Int} {n : Nat} (h : ∀ z ∈ zs, z.natAbs < 2 ^ n) : cg zs < 2 ^ n := gfold_bd zs 0 n (Nat.two_pow_pos n) h
theorem gfold_dvd : ∀ (zs : List Int) (c : Nat), zs.foldl (fun c z => Nat.gcd c z.natAbs) c ∣ c ∧ ∀ z ∈ zs, zs.foldl (fun c z => Nat.gcd c z.natAbs) c ∣ z.natAbs
  | [], c => ⟨Nat.dvd_refl _, fun _ h => by cases h⟩
  | y :: zs, c => by
    obtain ⟨h1, h2⟩ := gfold_dvd zs (Nat.gcd c y.natAbs)
    rw [List.foldl_cons]
    refine ⟨Nat.dvd_trans h1 (Nat.gcd_dvd_left _ _), fun r hr => ?_⟩
    rcases List.mem_cons.mp hr with rfl | hr
    · exact Nat.dvd_trans h1 (Nat.gcd_dvd_right _ _)
    · exact h2 r hr
theorem cg_dvd {zs : List Int} {z : Int} (h : z ∈ zs) : (cg zs : Int) ∣ z := Int.natAbs_dvd_natAbs.mp (by rw [Int.natAbs_natCast]; exact (gfold_dvd zs 0).2 z h)
theorem quo_bd {qs : List Rat} (h : ∀ q ∈ qs, Bd 400 q) (hl : qs.length ≤ 20) (d : Nat) : ((wb qs : Int) / (d : Int)).natAbs < 2 ^ 8001 := by
  rw [← Int.natCast_ediv, Int.natAbs_natCast]
  exact Nat.lt_of_le_of_lt (Nat.div_le_self _ _) (lt_mono (wb_bd h) (by omega))
end HwP
namespace L2
open PySem PySem.Spec PyProof.Rows
theorem walk_zipT {K : PySem.W.Frag} {a b : Addr} {xs ys : List V} {n : Nat} (hn : n = min xs.length ys.length) : Walk (RZ.ItzT K a b) n (fun H => SqT K H a xs ∧ SqT K H b ys) (YPair (fun i => xs[i]?) (fun i => ys[i]?)) := by
  subst hn
  refine ⟨fun i _ hi q => ?_, fun _ q => ⟨xs, ys, q.1, q.2, by omega⟩, fun i H v H' _ q y => ?_⟩
  · have h1 : i < xs.length := by omega
    have h2 : i < ys.length := by omega
    exact ⟨xs, ys, xs[i], ys[i], q.1, q.2, by simp [h1], by simp [h2]⟩
  · obtain ⟨T, x, z, h1, h2, h3, h4, h5⟩ := y
    exact ⟨T, x, z, h1, h2, h3, h4 xs q.1, h5 ys q.2⟩
end L2
end

section
/-! zip of a tuple and a list; == of tuples of own objects, either way. -/
namespace L2
open PySem PySem.Spec PyProof.Rows
/-- the tuple at a and the list at b as they stand at each turn, the items in new pairs -/
def ItzM (K : PySem.W.Frag) (a b : Addr) : It :=
  ⟨fun i H => ∃ (xs ys : List V) (x y : V), SqT K H a xs ∧ SqL K H b ys ∧ xs[i]? = some x ∧ ys[i]? = some y,
    fun i H v H' => ∃ T x y, v = .ref T ∧ H T = none ∧ H' = upd H T (.tup [x, y]) ∧ (∀ xs, SqT K H a xs → xs[i]? = some x) ∧ ∀ ys, SqL K H b ys → ys[i]? = some y,
    fun i H => ∃ xs ys : List V, SqT K H a xs ∧ SqL K H b ys ∧ i ≤ xs.length ∧ i ≤ ys.length ∧ (i = xs.length ∨ i = ys.length)⟩
theorem sepM {z TI TO i1 i2 a b : Addr} (D : ZipApart z TI TO i1 i2 a b) : ZipSep2 z TI TO i1 i2 [i1, a] [i2, b] where
  TIz := D.TIz
  TOz := D.TOz
  TITO := D.TITO
  TIi1 := D.TIi1
  mem1 := List.mem_cons_self
  zf1 := fun h => by
    rcases List.mem_cons.mp h with e | h
    · exact D.i1z e.symm
    · exact D.l1z (List.mem_singleton.mp h).symm
  Tf1 := fun h => by
    rcases List.mem_cons.mp h with e | h
    · exact D.TOi1 e
    · exact D.l1TO (List.mem_singleton.mp h).symm
  TIi2 := D.TIi2
  mem2 := List.mem_cons_self
  zf2 := fun h => by
    rcases List.mem_cons.mp h with e | h
    · exact D.i2z e.symm
    · exact D.l2z (List.mem_singleton.mp h).symm
  Tf2 := fun h => by
    rcases List.mem_cons.mp h with e | h
    · exact D.TOi2 e
    · exact D.l2TO (List.mem_singleton.mp h).symm
  sep1_2 := fun h => by
    rcases List.mem_cons.mp h with e | h
    · exact D.i12 e
    · exact D.l2i1 (List.mem_singleton.mp h).symm
  sep2_1 := fun h => by
    rcases List.mem_cons.mp h with e | h
    · exact D.i12 e.symm
    · exact D.l1i2 (List.mem_singleton.mp h).symm
theorem turn_zipM {P : Program} {w : World} {K : PySem.W.Frag} {elts : List Expr} {kk : Nat} {tpos : Pos} {a b z TI TO i1 i2 : Addr} (D : ZipApart z TI TO i1 i2 a b) :
    Turn P w K (.Tuple elts kk tpos) (ItzM K a b) [z, TI, TO, i1, i2] z (fun i h => IsZip h z TI TO .none ∧ IsPair h TI (.ref i1) (.ref i2) ∧ (∃ x y, IsPair h TO x y) ∧ h.IsTupleIter i1 a i ∧ h.IsListIter i2 b i) where
  mem := by simp
  obj := fun i h st c hc => by
    obtain ⟨hz, hTI, ⟨x, y, hTO⟩, ⟨o1, e1, _, d1⟩, ⟨o2, e2, _, d2⟩⟩ := st
    have e' : c = z ∨ c = TI ∨ c = TO ∨ c = i1 ∨ c = i2 := by simpa using hc
    rcases e' with q | q | q | q | q
    · rw [q]; exact ⟨_, hz, fun v q => nomatch q⟩
    · rw [q]; exact ⟨_, hTI, fun v q => nomatch q⟩
    · rw [q]; exact ⟨_, hTO, fun v q => nomatch q⟩
    · rw [q]; exact ⟨o1, e1, fun v q => by rw [d1] at q; cases q⟩
    · rw [q]; exact ⟨o2, e2, fun v q => by rw [d2] at q; cases q⟩
  keep := fun i h h' st k => by
    obtain ⟨hz, hTI, ⟨x, y, hTO⟩, h1, h2⟩ := st
    exact ⟨k z (by simp) _ hz, k TI (by simp) _ hTI, ⟨x, y, k TO (by simp) _ hTO⟩, h1.at fun o q => k i1 (by simp) o q, h2.at fun o q => k i2 (by simp) o q⟩
  item := by
    intro X hP hw hK hc i pins s σ H E I hf st hg
    subst hP hw hK
    obtain ⟨hz, hTI, ⟨x0, y0, hTO⟩, h1, h2⟩ := st
    obtain ⟨xs, ys, x, y, hqx, hqy, hx, hy⟩ := hg
    obtain ⟨its, rv, p, _⟩ := I.tuple hqx
    obtain ⟨its2, rv2, p2, _⟩ := I.list hqy
    obtain ⟨u, hu, ru⟩ := rv.get hx
    obtain ⟨u2, hu2, ru2⟩ := rv2.get hy
    have hzl : z < s.heap.objs.size := Heap.lt_size hz
    have hd : X.A.in1.handled = none := I.ok.hd hc
    have l1 : i < its.toArray.size := by
      rcases Nat.lt_or_ge i its.length with h | h
      · simpa using h
      · rw [List.getElem?_eq_none h] at hu; cases hu
    have l2 : i < its2.toArray.size := by
      rcases Nat.lt_or_ge i its2.length with h | h
      · simpa using h
      · rw [List.getElem?_eq_none h] at hu2; cases hu2
    refine wpAny_pyNext_zipD2_item (sepM D) (Draws.tuple hd i1 a D.l1i1 its.toArray) (Draws.list hd i2 b D.l2i2 its2.toArray) hz hTI hTO ⟨h1, p⟩ ⟨h2, p2.isList⟩ l1 l2 fun x1 x2 h' tk y1 y2 z' TO' st1 st2 hT hsz hk => ?_
    obtain ⟨h1', _⟩ := st1
    obtain ⟨h2', _⟩ := st2
    obtain rfl : u = x1 := by
      have : its[i]? = some x1 := by simpa using y1
      rw [hu] at this; exact Option.some.inj this
    obtain rfl : u2 = x2 := by
      have : its2[i]? = some x2 := by simpa using y2
      rw [hu2] at this; exact Option.some.inj this
    refine ⟨_, rfl, wpAny_letOwnedTupleGo_zip (s := { s with heap := h', toks := tk }) z' fun h'' z'' sb => ?_⟩
    have hT2 : h''.get? s.heap.objs.size = some { cls := .type "tuple", data := .seq #[u, u2] } := (sb.2 _ (Nat.ne_of_gt hzl)).trans hT
    have new : ObjOk X.prog X.w (upd H s.heap.objs.size (.tup [x, y])) h'' s.heap.objs.size (.tup [x, y]) :=
      ⟨by show 2 ≤ sizeLine; decide, [u, u2], .cons ru (.cons ru2 .nil), ⟨_, hT2, rfl, _, rfl⟩⟩
    have I1 : Inv X pins σ (upd H s.heap.objs.size (.tup [x, y])) { s with heap := h'', toks := tk } :=
      I.turnedNew (t' := tk) (ch := [z, TI, TO, i1, i2]) (fun c o hb q => (sb.2 c (fun q' => hb (by simp [q']))).trans (hk c o (fun q' => hb (by simp [q'])) (fun q' => hb (by simp [q'])) (fun q' => hb (by simp [q'])) (fun q' => hb (by simp [q'])) q)) hf (Nat.le_refl _) new
    refine ⟨.ref s.heap.objs.size, _, I1, rfl, ⟨_, x, y, rfl, I.hok.fresh (Nat.le_refl _), rfl, fun l hl => by rw [I.tuple_inj hl hqx]; exact hx, fun l hl => by rw [I.list_inj hl hqy]; exact hy⟩, ⟨z'', ?_, ⟨u, u2, ?_⟩, ?_, ?_⟩, fun c hcm => ?_⟩
    · exact (sb.2 _ D.TIz).trans (hk _ _ D.TIz D.TITO D.TIi1 D.TIi2 hTI)
    · exact (sb.2 _ D.TOz).trans TO'
    · exact h1'.at fun o q => (sb.2 _ D.i1z).trans q
    · exact h2'.at fun o q => (sb.2 _ D.i2z).trans q
    · have hlt : c < s.heap.objs.size := by
        have e' : c = z ∨ c = TI ∨ c = TO ∨ c = i1 ∨ c = i2 := by simpa using hcm
        rcases e' with q | q | q | q | q
        · rw [q]; exact hzl
        · rw [q]; exact Heap.lt_size hTI
        · rw [q]; exact Heap.lt_size hTO
        · rw [q]; obtain ⟨_, e1, _⟩ := h1; exact Heap.lt_size e1
        · rw [q]; obtain ⟨_, e2, _⟩ := h2; exact Heap.lt_size e2
      rw [upd_ne (Nat.ne_of_lt hlt)]
      exact (hf c hcm).1
  done := by
    intro X hP hw hK hc i pins s σ H E I hf st hg
    subst hP hw hK
    obtain ⟨hz, hTI, ⟨x0, y0, hTO⟩, h1, h2⟩ := st
    obtain ⟨xs, ys, hqx, hqy, hi1, hi2, hend⟩ := hg
    obtain ⟨its, rv, p, _⟩ := I.tuple hqx
    obtain ⟨its2, rv2, p2, _⟩ := I.list hqy
    have l1 := rv.length
    have l2 := rv2.length
    have hd : X.A.in1.handled = none := I.ok.hd hc
    exact wpAny_pyNext_zipD2_end (sepM D) (Draws.tuple hd i1 a D.l1i1 its.toArray) (Draws.list hd i2 b D.l2i2 its2.toArray) hz hTI hTO ⟨h1, p⟩ ⟨h2, p2.isList⟩ (by simp; omega) (by simp; omega) (by simp; omega) fun h' tk hk => ⟨rfl, I.turnedL (t' := tk) (ch := [z, TI, TO, i1, i2]) (fun c o hb q =>
      hk c o (fun q' => hb (by simp [q'])) (fun q' => hb (by simp [q'])) (fun q' => hb (by simp [q'])) (fun q' => hb (by simp [q'])) q) hf⟩
  self := fun A i s Q E st h => wpAny_pyIter_zip st.1 h
def iZipM (K : PySem.W.Frag) (ta : TA) : TI := fun σ H R => ta σ H fun vs H1 => ∃ a b xs ys, vs = [.ref a, .ref b] ∧ SqT K H1 a xs ∧ ((SqL K H1 b ys ∧ R (ItzM K a b) H1) ∨ (SqT K H1 b ys ∧ R (RZ.ItzT K a b) H1))
theorem pi_zipM {X : Cx} {e e2 : Expr} {ta : TA} {p pos tpos : Pos} {elts : List Expr} {kk : Nat} (hg : Gl X "zip") (hm : X.mg "zip" = none) (ha : PA X [e, e2] ta)
    (hs : starEach [e, e2] X.env = (false, eval e X.env) :: starEach [e2] X.env := by rfl) (hpl : (backTo pos (starEach [e2] X.env)).any (·.1) = false := by rfl) :
    PI X (.Tuple elts kk tpos) (.Call (.Name "zip" p) [e, e2] [] pos) (iZipM X.K ta) := by
  refine ⟨fun pins s σ H R I h => ?_⟩
  refine Call_ (ld_blt I hg hm PyProof.Rows.boot_zip (PyProof.Rows.callWith_type1 (thn (ha.run pos pins s σ H _ I h) fun us s1 ⟨vs, H1, I1, r1, q1⟩ => ?_) hs hpl))
  obtain ⟨a, b, xs, ys, ex, hqx, q1⟩ := q1
  subst ex
  cases r1 with
  | cons r rr =>
    cases rr with
    | cons r' rr =>
      cases rr
      cases r
      cases r'
      have fresh5 : ∀ c, c ∈ [s1.heap.objs.size + 4, s1.heap.objs.size + 2, s1.heap.objs.size + 3, s1.heap.objs.size, s1.heap.objs.size + 1] → FpOk X pins H1 c := fun c hcm => by
        have e' : c = s1.heap.objs.size + 4 ∨ c = s1.heap.objs.size + 2 ∨ c = s1.heap.objs.size + 3 ∨ c = s1.heap.objs.size ∨ c = s1.heap.objs.size + 1 := by simpa using hcm
        have hle : s1.heap.objs.size ≤ c := by
          rcases e' with z | z | z | z | z
          · rw [z]; exact Nat.le_add_right _ _
          · rw [z]; exact Nat.le_add_right _ _
          · rw [z]; exact Nat.le_add_right _ _
          · rw [z]; exact Nat.le_refl _
          · rw [z]; exact Nat.le_add_right _ _
        exact I1.fpOk hle (I1.hok.fresh hle)
      obtain ⟨its, rv, p1, _⟩ := I1.tuple hqx
      obtain ⟨o1, ho1, _⟩ := id p1
      rcases q1 with ⟨hqy, q⟩ | ⟨hqy, q⟩
      · obtain ⟨its2, rv2, p2, _⟩ := I1.list hqy
        refine zip_begins2 (begins_tuple a its.toArray) (begins_list b its2.toArray) p1 p2.isList fun h' hz hTI hTO g1 g2 hsz hk => wpAny_pyIter_zip hz ?_
        have I2 : Inv X pins σ H1 { s1 with heap := h' } := I1.kept (t' := s1.toks) hk
        exact ⟨s1.heap.objs.size + 4, [s1.heap.objs.size + 4, s1.heap.objs.size + 2, s1.heap.objs.size + 3, s1.heap.objs.size, s1.heap.objs.size + 1], _, _, H1, rfl, I2, turn_zipM (PySem.W.ktu_apart s1.heap.objs.size a b (Heap.lt_size ho1) p2.lt), ⟨hz, hTI, ⟨_, _, hTO⟩, ⟨_, g1, rfl, rfl⟩, ⟨_, g2, rfl, rfl⟩⟩, fresh5, q⟩
      · obtain ⟨its2, rv2, p2, _⟩ := I1.tuple hqy
        obtain ⟨o2, ho2, _⟩ := id p2
        refine RZ.call_zipT (show s1.heap.IsTuple a its.toArray from p1) (show s1.heap.IsTuple b its2.toArray from p2) fun h' hz hTI hTO h1 h2 hsz hk => wpAny_pyIter_zip hz ?_
        have I2 : Inv X pins σ H1 { s1 with heap := h' } := I1.kept (t' := s1.toks) hk
        exact ⟨s1.heap.objs.size + 4, [s1.heap.objs.size + 4, s1.heap.objs.size + 2, s1.heap.objs.size + 3, s1.heap.objs.size, s1.heap.objs.size + 1], _, _, H1, rfl, I2, RZ.turn_zipT (PySem.W.ktu_apart s1.heap.objs.size a b (Heap.lt_size ho1) (Heap.lt_size ho2)), ⟨hz, hTI, ⟨_, _, hTO⟩, h1, h2⟩, fresh5, q⟩
theorem walk_zipM {K : PySem.W.Frag} {a b : Addr} {xs ys : List V} {n : Nat} (hn : n = min xs.length ys.length) : Walk (ItzM K a b) n (fun H => SqT K H a xs ∧ SqL K H b ys) (YPair (fun i => xs[i]?) (fun i => ys[i]?)) := by
  subst hn
  refine ⟨fun i _ hi q => ?_, fun _ q => ⟨xs, ys, q.1, q.2, by omega⟩, fun i H v H' _ q y => ?_⟩
  · have h1 : i < xs.length := by omega
    have h2 : i < ys.length := by omega
    exact ⟨xs, ys, xs[i], ys[i], q.1, q.2, by simp [h1], by simp [h2]⟩
  · obtain ⟨T, x, z, h1, h2, h3, h4, h5⟩ := y
    exact ⟨T, x, z, h1, h2, h3, h4 xs q.1, h5 ys q.2⟩
/-- a loop over zip of a tuple and a list or tuple -/
theorem for_zipM {K : PySem.W.Frag} {a b : Addr} {xs ys : List V} {g : TG} {tb : TS} {D : Ends} {σ : L2.St} {H : Hp} (hq : SqT K H a xs) (hq2 : Sq K H b ys) {n : Nat} (hn : n = min xs.length ys.length) (Pv : Nat → L2.St → Hp → Prop) (h0 : Pv 0 σ H) (hl : ∀ i σ' H', Pv i σ' H' → Same H H')
    (hs : ∀ (i : Nat) (x y : V) (T : Addr) (σ : L2.St) (H : Hp), xs[i]? = some x → ys[i]? = some y → Pv i σ H → H T = none → g (.ref T) σ (upd H T (.tup [x, y])) fun σ2 H2 => tb { D with nx := Pv (i + 1), ct := Pv (i + 1), bk := D.nx } σ2 H2) (hd : ∀ σ H, Pv n σ H → D.nx σ H) :
    (SqL K H b ys ∧ ∃ W : Nat → Nat → L2.St → Hp → Prop, (∃ m, W 0 m σ H) ∧ ∀ i m σ H, W i m σ H →
      ((ItzM K a b).stop i H ∧ D.nx σ H) ∨ ((ItzM K a b).go i H ∧ ∃ N : L2.St → Hp → Prop, (∀ σ' H', N σ' H' → ∃ m', m' < m ∧ W (i + 1) m' σ' H') ∧ ∀ v H', (ItzM K a b).yld i H v H' → g v σ H' fun σ2 H2 => tb { D with nx := N, ct := N, bk := D.nx } σ2 H2)) ∨
    (SqT K H b ys ∧ ∃ W : Nat → Nat → L2.St → Hp → Prop, (∃ m, W 0 m σ H) ∧ ∀ i m σ H, W i m σ H →
      ((RZ.ItzT K a b).stop i H ∧ D.nx σ H) ∨ ((RZ.ItzT K a b).go i H ∧ ∃ N : L2.St → Hp → Prop, (∀ σ' H', N σ' H' → ∃ m', m' < m ∧ W (i + 1) m' σ' H') ∧ ∀ v H', (RZ.ItzT K a b).yld i H v H' → g v σ H' fun σ2 H2 => tb { D with nx := N, ct := N, bk := D.nx } σ2 H2)) := by
  rcases hq2 with hq2 | hq2
  · refine .inl ⟨hq2, for_it (walk_zipM hn) Pv h0 (fun i σ' H' _ p => ⟨(hl i σ' H' p).sqT hq, (hl i σ' H' p).seq hq2⟩) (fun i v σ' H1 H2 hi p y => ?_) hd⟩
    obtain ⟨T, x, z, rfl, hT, rfl, hx, hz⟩ := y
    exact hs i x z T σ' H1 hx hz p hT
  · refine .inr ⟨hq2, for_it (walk_zipT hn) Pv h0 (fun i σ' H' _ p => ⟨(hl i σ' H' p).sqT hq, (hl i σ' H' p).sqT hq2⟩) (fun i v σ' H1 H2 hi p y => ?_) hd⟩
    obtain ⟨T, x, z, rfl, hT, rfl, hx, hz⟩ := y
    exact hs i x z T σ' H1 hx hz p hT
end L2
end

section
/-! == of tuples of own objects, either way. -/
namespace GQ
open PySem PySem.SeqAt
open AutoSeq1 (wpAny_loadPart')
open MeetsSeq MeetsSeq2 MeetsSeq3 SeqRoads2
section
variable {prog : Program} {w : World} {A : Around} {R : Result → Shared → Prop}
/-- == of two tuples: item by item as e says, J kept by each comparison -/
theorem tuple_eqB {l b : Addr} {as bs : Array Value} {n n2 : Nat} {dd dd2 : Option Addr} {sl sl2 : Array (Option Value)} (e : Nat → Bool) (J : Shared → Prop)
    (each : ∀ i (h1 : i < as.size) (h2 : i < bs.size) s, J s → wpAny (model prog w) A.in1 (eqBool as[i] bs[i]) (fun r s' => r = e i ∧ J s') (fun e s' => R (.error e) s') s)
    (fin : ∀ s, J s → R (.ok (.ret (.bool ((List.range (min as.size bs.size)).all e && as.size == bs.size)))) s) {s : Shared}
    (ha : s.heap.get? l = some { cls := .type "tuple", dict := dd, data := .seq as n, slots := sl }) (hb : s.heap.get? b = some { cls := .type "tuple", dict := dd2, data := .seq bs n2, slots := sl2 }) (h : J s) :
    wpAny (model prog w) A.in1 (Builtin.«tuple.__eq__» ⟨[.ref l, .ref b], []⟩) (FinOf prog w A R) (fun e s' => R (.error e) s') s := by
  have f2 := AutoSeq1.sub_tuple_tuple
  have hZ : (as.toList.zip bs.toList).length = min as.size bs.size := by simp
  have h0 := h
  obtain ⟨hp, g, d, tk, os⟩ := s
  wp_walk using wpAny_loadPart' ha, wpAny_loadPart' hb, wpAny_forIn_list _ (fun rest b s' => b.1 = none ∧ J s' ∧ ∃ i, rest = (as.toList.zip bs.toList).drop i ∧
    ((List.range (min as.size bs.size)).drop i).all e = (List.range (min as.size bs.size)).all e) _
  case turn =>
    rintro ⟨y, x⟩ rest b s' ⟨hb', hJ, i, hz, hal⟩
    have hlt : i < (as.toList.zip bs.toList).length := by
      rcases Nat.lt_or_ge i (as.toList.zip bs.toList).length with h' | h'
      · exact h'
      · rw [List.drop_of_length_le h'] at hz; cases hz
    have hm : i < min as.size bs.size := by rw [← hZ]; exact hlt
    have h1 : i < as.size := by omega
    have h2 : i < bs.size := by omega
    rw [List.drop_eq_getElem_cons hlt] at hz
    obtain ⟨hyx, hrest⟩ := List.cons.inj hz
    obtain rfl : y = as[i] := by have := congrArg Prod.fst hyx; simpa using this
    obtain rfl : x = bs[i] := by have := congrArg Prod.snd hyx; simpa using this
    have hd : (List.range (min as.size bs.size)).drop i = i :: (List.range (min as.size bs.size)).drop (i + 1) := by simp [List.drop_eq_getElem_cons, hm]
    rw [hd, List.all_cons] at hal
    refine wpAny_bind (wpAny_mono (each i h1 h2 s' hJ) (fun r s2 q2 => ?_) fun _ _ x => x)
    obtain ⟨rfl, q2⟩ := q2
    cases hy : e i with
    | true =>
      rw [hy, Bool.true_and] at hal
      wp_walk
      exact ⟨rfl, q2, i + 1, hrest, hal⟩
    | false =>
      rw [hy, Bool.false_and] at hal
      have q3 := fin s2 q2
      rw [← hal, Bool.false_and] at q3
      wp_walk
      simpa using q3
  case fin =>
    rintro ⟨b1, b2⟩ s' ⟨hb', hJ, i, hz, hal⟩
    simp only at hb'
    subst hb'
    have hR := fin s' hJ
    have hge : min as.size bs.size ≤ i := by
      rcases Nat.lt_or_ge i (as.toList.zip bs.toList).length with h' | h'
      · rw [List.drop_eq_getElem_cons h'] at hz; cases hz
      · rw [← hZ]; exact h'
    rw [List.drop_of_length_le (by simpa using hge)] at hal
    rw [← hal] at hR
    wp_walk
    simpa [Builtin.Tuple.tupleCompareSizes] using hR
  case h =>
    exact ⟨rfl, h0, 0, rfl, rfl⟩
end
section
variable {prog : Program} {w : World} {A : Around} {E : Value → Shared → Prop} {s : Shared}
theorem rc_tupB {l b : Addr} {as bs : Array Value} {Q : Value → Shared → Prop} (hu : A.units < cLine) (e : Nat → Bool) (J : Shared → Prop) (hl : s.heap.IsTuple l as) (hb : s.heap.IsTuple b bs)
    (each : ∀ i (h1 : i < as.size) (h2 : i < bs.size) s, J s → wpAny (model prog w) A.in1 (eqBool as[i] bs[i]) (fun r s' => r = e i ∧ J s') E s)
    (fin : ∀ s, J s → Q (.bool ((List.range (min as.size bs.size)).all e && as.size == bs.size)) s) (h : J s) : wpAny (model prog w) A (richCompare .Eq (.ref l) (.ref b)) Q E s := by
  obtain ⟨⟨c1, d1, t1, s1⟩, ho, hc, n, hd⟩ := id hl
  obtain ⟨⟨c2, d2, t2, s2⟩, ho2, hc2, n2, hd2⟩ := id hb
  simp only at hc hd hc2 hd2
  subst hc hd hc2 hd2
  refine wpAny_richCompare_same_room (op := .Eq) ⟨_, ho, rfl⟩ ⟨_, ho2, rfl⟩ F.slot_tuple_eq (call_here F.slot_tuple_eq ⟨_, ho, rfl⟩ F.entry_tuple_eq (F.args_tuple_eq_2 _ _) ?_) hu
  exact tuple_eqB (R := wants (fun v s' => v ≠ .notImplemented ∧ Q v s') E) e J each (fun s' q => ⟨(fun x => nomatch x), fin s' q⟩) ho ho2 h
end
end GQ
namespace L2
open PySem PySem.Spec PyProof.Rows
/-- what two values' == gives, by the abstract heap -/
abbrev EqvB := V → V → Hp → Bool → Prop
def MonB (D : EqvB) : Prop := ∀ x y H H' b, Ext H H' → D x y H b → D x y H' b
def EqB (X : Cx) (n : Nat) (D : EqvB) : Prop :=
  ∀ (A : Around) (pins : List (Addr × Obj)) (s : Shared) (σ : St) (H : Hp) (x y : V) (u v : Value) (b : Bool), Sub X n A → Inv X pins σ H s → RelV x u → RelV y v → D x y H b →
    wpAny (model X.prog X.w) A (eqBool u v) (fun r s' => r = b ∧ LoopI X pins σ H s') X.xe s
def RcB (X : Cx) (n : Nat) (D : EqvB) : Prop :=
  ∀ (A : Around) (pins : List (Addr × Obj)) (s : Shared) (σ : St) (H : Hp) (x y : V) (u v : Value) (b : Bool), Sub X n A → Inv X pins σ H s → RelV x u → RelV y v → D x y H b →
    wpAny (model X.prog X.w) A (richCompare .Eq u v) (fun r s' => r = .bool b ∧ LoopI X pins σ H s') X.xe s
section
variable {X : Cx} {n : Nat} {D : EqvB}
/-- tuples item by item -/
def DTupB (K : PySem.W.Frag) (D : EqvB) : EqvB := fun x y H b => ∃ a c xs ys e, x = .ref a ∧ y = .ref c ∧ SqT K H a xs ∧ SqT K H c ys ∧ (∀ (i : Nat) u v, xs[i]? = some u → ys[i]? = some v → D u v H (e i)) ∧ b = ((List.range (min xs.length ys.length)).all e && xs.length == ys.length)
theorem rcB_tup (hD : MonB D) (h : EqB X n D) : RcB X (n + 1) (DTupB X.K D) := by
  intro A pins s σ H x y u v b sb I rx ry d
  obtain ⟨a, c, xs, ys, e, rfl, rfl, ha, hc, p, rfl⟩ := d
  cases rx
  cases ry
  obtain ⟨its, r, e1, z⟩ := I.tuple ha
  obtain ⟨its2, r2, e2, z2⟩ := I.tuple hc
  have q1 : its.toArray.size = xs.length := by rw [List.size_toArray, ← r.length]
  have q2 : its2.toArray.size = ys.length := by rw [List.size_toArray, ← r2.length]
  refine GQ.rc_tupB sb.room.units0 e (LoopI X pins σ H) e1 e2 (fun i h1 h2 s' q => ?_) (fun s' q => ⟨by rw [q1, q2], q⟩) ⟨H, I, Ext.rfl'⟩
  obtain ⟨H1, I1, x1⟩ := q
  have k1 : i < xs.length := by rw [← q1]; exact h1
  have k2 : i < ys.length := by rw [← q2]; exact h2
  obtain ⟨u, hu, ru⟩ := r.get (List.getElem?_eq_getElem k1)
  obtain ⟨v, hv, rv⟩ := r2.get (List.getElem?_eq_getElem k2)
  have g1 : u = its.toArray[i] := by
    have l1 : i < its.length := by simpa using h1
    rw [List.getElem?_eq_getElem l1] at hu
    simpa using (Option.some.inj hu).symm
  have g2 : v = its2.toArray[i] := by
    have l2 : i < its2.length := by simpa using h2
    rw [List.getElem?_eq_getElem l2] at hv
    simpa using (Option.some.inj hv).symm
  rw [← g1, ← g2]
  refine wpAny_mono (h A.in1 pins s' σ H1 _ _ u v (e i) sb.in1 I1 ru rv (hD _ _ _ _ _ x1 (p i _ _ (List.getElem?_eq_getElem k1) (List.getElem?_eq_getElem k2)))) (fun r s2 q => ?_) fun _ _ x => x
  obtain ⟨hr, H2, I2, x2⟩ := q
  exact ⟨hr, H2, I2, x1.trans x2⟩
/-- instances of the class at C by the text's own ==, whose promise is sp -/
theorem rcB_own {CX : CXT} {C f : Addr} {fd : FuncData} {ps : List Str} {E : XK} {sp : Sp} (F : FnOk X.prog X.w X.K X.mg X.base CX n f fd ps sp)
    (hs : PySem.W.findIn X.K (.ref C) "__eq__" = some (some (.ref f))) (hf : PySem.W.isFn X.K (.ref f) = true) (hb : Binds X.K fd ps []) (hx : Passes CX X E)
    (hD : ∀ x y H b, D x y H b → ∃ a c dx dy fs gs, x = .ref a ∧ y = .ref c ∧ H a = some (.ins C dx fs) ∧ H c = some (.ins C dy gs) ∧ ∀ Q : VK, (∀ H', Ext H H' → Q (.bl b) H') → sp [.ref a, .ref c] H Q E) : RcB X n D := by
  intro A pins s σ H x y u v b sb I rx ry d
  obtain ⟨a, c, dx, dy, fs, gs, rfl, rfl, ha, hc, hsp⟩ := hD _ _ _ _ d
  cases rx
  cases ry
  obtain ⟨mA, J, _⟩ := ins_get I.hok ha
  obtain ⟨mB, J', _⟩ := ins_get I.hok hc
  obtain ⟨od, J, _⟩ := J.look
  obtain ⟨od', J', _⟩ := J'.look
  obtain ⟨m, hF⟩ := I.fr
  refine PySem.W.cmp_K (op := .Eq) (tb := .ref C) sb.room.units0 hF I.ok.mod.kin J J'.type (by simp [PySem.W.notFirst]) hs hf ?_
  have sp1 := hsp (fun v H' => v = .bl b ∧ Ext H H') fun H' e => ⟨rfl, e⟩
  have en := I.env0
  have e0 : Env0 X.prog X.w X.K X.mg X.base A X.stack s H := ⟨by rw [sb.fr]; exact en.frames, en.mod, en.bs, en.bsz, en.funs, en.frf, en.hok, en.bare⟩
  have hl := F.len _ _ _ _ sp1
  have r2 : Vals [V.ref a, V.ref c] [Value.ref a, Value.ref c] := .cons rfl (.cons rfl .nil)
  have bnd := hb s [.ref a, .ref c] I.kIn (by simpa using hl)
  refine wpAny_call (codeAny_mono (F.run A X.stack s H ⟨[.ref a, .ref c], []⟩ [.ref a, .ref c] [.ref a, .ref c] _ E sb.room e0 (by simpa using bnd) r2 sp1) fun r s' hq => ?_)
  cases r with
  | error e => exact hx pins σ H s e s' I hq
  | ok fl =>
    cases fl with
    | ret w =>
      obtain ⟨z, H', I', rz, ez, ex⟩ := I.after hq
      subst ez
      cases rz
      exact ⟨rfl, H', I', ex⟩
    | next => exact False.elim hq
    | brk => exact False.elim hq
    | cont => exact False.elim hq
/-- within a sequence: the same object is equal to itself -/
theorem RcB.eqB (h : RcB X n D) (hr : ∀ x y H b, D x y H b → ∃ a c, x = .ref a ∧ y = .ref c ∧ (a = c → b = true)) : EqB X n D := by
  intro A pins s σ H x y u v b sb I rx ry d
  obtain ⟨a, c, rfl, rfl, same⟩ := hr _ _ _ _ d
  cases rx
  cases ry
  by_cases hab : a = c
  · obtain rfl := same hab
    subst hab
    exact SeqAt.EqAt.same (A := A) (s := s) (.ref a) X.prog X.w X.xe _ ⟨rfl, H, I, Ext.rfl'⟩
  · refine GQ.eqBool_refG hab (wpAny_mono (h A pins s σ H (.ref a) (.ref c) _ _ b sb I rfl rfl d) (fun r s' q => ?_) fun _ _ x => x)
    exact ⟨b, q.1, rfl, q.2⟩
def rEqB (D : EqvB) : R2 := fun x y H Q => ∃ b, D x y H b ∧ ∀ H', Ext H H' → Q (.bl b) H'
theorem op_eqB (h : RcB X n D) (hr : Room n X.A) : OpR X (compareOp .Eq) (rEqB D) := by
  intro pins s σ H x y v u Q I rx ry hq
  obtain ⟨b, d, q⟩ := hq
  show wpAny (model X.prog X.w) X.A (richCompare .Eq v u) (EP X pins σ Q) X.xe s
  refine wpAny_mono (h X.A pins s σ H x y v u b ⟨hr, rfl⟩ I rx ry d) (fun r s' z => ?_) fun _ _ x => x
  obtain ⟨rfl, H', I', e⟩ := z
  exact ⟨.bl b, H', I', rfl, q H' e⟩
end
end L2
end

section
/-! != of two lists, or tuples, of the very same items. -/
namespace L2
open PySem PySem.Spec PyProof.Rows
def sameV : V → Bool
  | .int _ => true
  | .str _ => true
  | .ref _ => true
  | .non => true
  | .bl _ => true
  | _ => false
theorem eqAt_sameI {A : Around} {s : Shared} {x : V} {u v : Value} (h : sameV x = true) (r : RelV x u) (q : RelV x v) : SeqAt.EqAt A s u v true := by
  cases x with
  | int i =>
    obtain ⟨t, rfl⟩ := (show ∃ t, u = Value.int i t from r)
    obtain ⟨t2, rfl⟩ := (show ∃ t, v = Value.int i t from q)
    have := SeqAt.EqAt.int_int (A := A) (s := s) i t i t2
    simpa using this
  | str z =>
    obtain ⟨t, rfl⟩ := (show ∃ t, u = Value.str z t from r)
    obtain ⟨t2, rfl⟩ := (show ∃ t, v = Value.str z t from q)
    have := SeqAt.EqAt.str_str (A := A) (s := s) z t z t2
    simpa using this
  | ref a => cases r; cases q; exact SeqAt.EqAt.same _
  | non => cases r; cases q; exact SeqAt.EqAt.same _
  | bl b => cases r; cases q; exact SeqAt.EqAt.same _
  | _ => cases h
theorem eqAt_eachI {A : Around} {s : Shared} {xs : List V} {us vs : List Value} (h : xs.all sameV = true) (r : Vals xs us) (q : Vals xs vs) : ∀ j (h1 : j < us.toArray.size) (h2 : j < vs.toArray.size), SeqAt.EqAt A s us.toArray[j] vs.toArray[j] true := by
  intro j h1 h2
  have l1 : j < us.length := by simpa using h1
  have l2 : j < vs.length := by simpa using h2
  have l0 : j < xs.length := by rw [r.length]; exact l1
  obtain ⟨u, hu, ru⟩ := r.get (List.getElem?_eq_getElem l0)
  obtain ⟨v, hv, rv⟩ := q.get (List.getElem?_eq_getElem l0)
  have g1 : u = us.toArray[j] := by rw [List.getElem?_eq_getElem l1] at hu; simpa using (Option.some.inj hu).symm
  have g2 : v = vs.toArray[j] := by rw [List.getElem?_eq_getElem l2] at hv; simpa using (Option.some.inj hv).symm
  rw [← g1, ← g2]
  exact eqAt_sameI (List.all_eq_true.mp h _ (List.getElem_mem l0)) ru rv
section
variable {X : Cx}
def rNeI (K : PySem.W.Frag) : R2 := fun x y H Q => (∃ a b xs, x = .ref a ∧ y = .ref b ∧ H a = some (.lst xs) ∧ H b = some (.lst xs) ∧ xs.all sameV = true ∧ Q (.bl false) H) ∨
  (∃ a b xs, x = .ref a ∧ y = .ref b ∧ SqT K H a xs ∧ SqT K H b xs ∧ xs.all sameV = true ∧ Q (.bl false) H)
theorem op_neI (hu : X.A.units < cLine) : OpR X (compareOp .NotEq) (rNeI X.K) := by
  intro pins s σ H x y v u Q I rx ry h
  show wpAny (model X.prog X.w) X.A (richCompare .NotEq v u) (EP X pins σ Q) X.xe s
  rcases h with ⟨a, b, xs, rfl, rfl, ha, hb, hs, q⟩ | ⟨a, b, xs, rfl, rfl, ha, hb, hs, q⟩
  · cases rx
    cases ry
    obtain ⟨_, us, n, r, hl, e⟩ := I.lstM ha
    obtain ⟨_, vs, n2, r2, hl2, e2⟩ := I.lstM hb
    have z := SeqAt.RcNeAt.lists (A := X.A) (e := fun _ => true) (PySem.IsL.isList e) (PySem.IsL.isList e2) (by rw [List.size_toArray, List.size_toArray, ← hl, ← hl2]) hu (eqAt_eachI hs r r2)
    refine z _ _ _ _ ?_
    have e3 : (!(List.range us.toArray.size).all fun _ => true) = false := by simp
    rw [e3]
    exact ⟨.bl false, H, I, rfl, q⟩
  · cases rx
    cases ry
    obtain ⟨us, r, e1, z1⟩ := I.tuple ha
    obtain ⟨vs, r2, e2, z2⟩ := I.tuple hb
    have z := SeqAt.RcNeAt.tuples (A := X.A) (e := fun _ => true) e1 e2 hu (eqAt_eachI hs r r2)
    refine z _ _ _ _ ?_
    have e3 : (!((List.range (min us.toArray.size vs.toArray.size)).all (fun _ => true) && us.toArray.size == vs.toArray.size)) = false := by
      rw [List.size_toArray, List.size_toArray, ← r.length, ← r2.length]
      simp
    rw [e3]
    exact ⟨.bl false, H, I, rfl, q⟩
end
end L2
end

section
/-! Texts of long integers, up to the limit of 4,300 digits: the limit is not set anew. -/
namespace HwD
open PySem PySem.W PySem.Calls PySem.NumText PyProof.Rows
/-- the table of statics says nothing of a limit -/
structure DigK (K : Frag) : Prop where
  ex : ∃ o es ep, K.lookup cStatics = some o ∧ o.data = .dict es ep ∧ StrKeys es ∧ nsFind es "sys.int_max_str_digits" = none
def strB (es : Array DictEntry) : Bool := es.all fun e => match e.key with
  | .str _ _ => true
  | _ => false
def digB (K : Frag) : Bool := match K.lookup cStatics with
  | some ⟨_, _, .dict es _, _⟩ => strB es && (nsFind es "sys.int_max_str_digits").isNone
  | _ => false
theorem digB_ok {K : Frag} (h : digB K = true) : DigK K := by
  unfold digB at h
  cases q : K.lookup cStatics with
  | none => rw [q] at h; cases h
  | some o =>
    rw [q] at h
    obtain ⟨c, d, dt, sl⟩ := o
    cases dt with
    | dict es ep =>
      obtain ⟨h1, h2⟩ := He.ba h
      refine ⟨⟨_, es, ep, q, rfl, fun e he => ?_, Option.isNone_iff_eq_none.mp h2⟩⟩
      have h3 := Array.all_eq_true_iff_forall_mem.mp h1 e he
      cases hk : e.key with
      | str n t => exact ⟨n, t, rfl⟩
      | _ => rw [hk] at h3; cases h3
    | _ => cases h
theorem DigK.at_ {K : Frag} {h : Heap} (d : DigK K) (X : K.In h) : h.NoDigits := by
  obtain ⟨o, es, ep, h1, h2, h3, h4⟩ := d.ex
  exact ⟨fun name => nsFind es name, ⟨o, es, ep, X _ _ h1, h2, h3, fun _ => rfl⟩, h4⟩
theorem wp_long {M : Model} {A : Around} {E : Value → Shared → Prop} {s : Shared} {Q : Value → Shared → Prop} {v : Value} {zs : List Nat} {n : Int} (hn : s.heap.NoDigits)
    (h1 : ¬ (zs.takeWhile (· != 0)).length ≤ 640) (h2 : (int_private% "readNumeral") 4300 10 (zs.takeWhile (· != 0)) = (int_private% "Numeral.value") n)
    (h3 : ((zs.takeWhile (· != 0)).length == zs.length) = true) (k : Q (.int n s.toks) { s with toks := s.toks + 1 }) :
    wpAny M A ((int_private% "intFromText") v zs 10) Q E s := by
  obtain ⟨mc, ns, none⟩ := hn
  obtain ⟨hp, g, d, tk, os⟩ := s
  repeat (any_goals (first
    | assumption
    | (with_reducible refine wpAny_ite_false h1 ?_)
    | (with_reducible refine wpAny_ite_true h3 ?_)
    | (with_reducible refine wpAny_nsGet ns ?_)
    | wp_step))
  all_goals (try rw [none])
  repeat (any_goals (first
    | assumption
    | wp_step))
  all_goals (try dsimp only)
  all_goals (try rw [h2])
  all_goals (try dsimp only)
  repeat (any_goals (first
    | assumption
    | (with_reducible refine wpAny_ite_true h3 ?_)
    | wp_step))
structure Kept (p : Prop) : Prop where
  out : p
theorem meets_long {x : PySem.Str} {u : Tok} {n : Int} (hl : ¬ (numSeenOf x).length ≤ 640) (hz : x.length ≤ sizeLine) (hn : PySem.intText? x = some n) :
    Meets (Builtin.«int.__new__» ⟨[.type "int", .str x u], []⟩) (fun _ R s => s.heap.NoDigits ∧ R (.ok (.ret (.int n s.toks))) { s with toks := s.toks + 1 }) :=
  .of_wp fun M A w E s ⟨nd, k⟩ => by
    have g1 := F.conv_sub_int
    have g2 := F.madeHere_int
    have g3 := KIN.str_int
    have g4 := KIN.str_idx
    have g5 := KIN.str_trunc
    have g6 : typeOf (.str x u) = pure (.type "str") := rfl
    have rd : (int_private% "readNumeral") 4300 10 (numSeenOf x) = (int_private% "Numeral.value") n ∧ ((numSeenOf x).length == (numTextOf x).length) = true := by
      rcases read4300 x hz with ⟨m, e1, e2, e3⟩ | ⟨e1, _⟩
      · rw [hn] at e1
        cases e1
        exact ⟨e3, e2⟩
      · rw [hn] at e1
        cases e1
    have all := Kept.mk (And.intro nd (And.intro hl rd))
    clear nd hl rd hn hz
    obtain ⟨hp, g, d, tk, os⟩ := s
    repeat (any_goals (first
      | assumption
      | ((with_reducible show wpAny _ _ ((int_private% "intFromText") _ _ _) _ _ _); refine wp_long all.out.1 all.out.2.1 all.out.2.2.1 all.out.2.2.2 ?_)
      | wp_step))
    all_goals first | exact ⟨_, rfl, k⟩ | skip
section
variable {prog : Program} {w : World} {A : Around} {E : Value → Shared → Prop} {s : Shared} {Q : Value → Shared → Prop} {x : PySem.Str} {t : Tok} {n : Int}
theorem call_long (nd : s.heap.NoDigits) (hn : PySem.intText? x = some n) (hz : x.length ≤ sizeLine) (hs : (numSeenOf x).length = x.length) (h : Q (.int n s.toks) { s with toks := s.toks + 1 }) : wpAny (model prog w) A (call (.type "int") [.str x t]) Q E s := by
  by_cases hl : x.length ≤ 640
  · exact KIN.call_text hn hl h
  · exact call_int_1 (meets_long (by rw [hs]; exact hl) hz hn) ⟨nd, typeIs_int _ n s.toks, h⟩
end
end HwD
namespace L2
open PySem PySem.Spec PyProof.Rows HwD
section
variable {X : Cx}
theorem call_int_strB (dg : DigK X.K) : CallR X (.type "int") (fun xs H Q => ∃ a n, xs = [.str a] ∧ PySem.intText? a = some n ∧ a.length ≤ sizeLine ∧ (PySem.numSeenOf a).length = a.length ∧ Q (.int n) H) := by
  intro pins s σ H xs us Q I r h
  obtain ⟨a, n, rfl, h1, h2, h3, q⟩ := h
  obtain ⟨u, rfl, t, rfl⟩ := vals1 r
  exact call_long (dg.at_ I.kIn) h1 h2 h3 ⟨.int n, H, I.tok _, ⟨_, rfl⟩, q⟩
theorem call_str_intB (hc : X.calm = true) (dg : DigK X.K) : CallR X (.type "str") (fun xs H Q => ∃ i : Int, xs = [.int i] ∧ i.natAbs < 10 ^ 4300 ∧ Q (.str (toString i)) H) := by
  intro pins s σ H xs us Q I r h
  obtain ⟨i, rfl, h1, q⟩ := h
  obtain ⟨u, rfl, t, rfl⟩ := vals1 r
  exact str_of_int_or (I.ok.hd hc) (dg.at_ I.kIn) (fun _ => ⟨.str _, H, I.tok _, ⟨_, rfl⟩, q⟩) fun h2 => absurd h1 (Nat.not_lt.mpr h2)
/-- {x}, x an integer of up to 4,300 digits -/
def tFmtB (te : TE) : TE := fun σ H Q => te σ H fun x H1 => ∃ i : Int, x = .int i ∧ i.natAbs < 10 ^ 4300 ∧ Q (.str (toString i)) H1
theorem pe_fmtB (hc : X.calm = true) (dg : DigK X.K) {e : Expr} {te : TE} {pos : Pos} (he : PE X e te) : PE X (.FormattedValue e (-1) none pos) (tFmtB te) := by
  refine ⟨fun pins s σ H Q I h => ?_⟩
  refine wpAny_FormattedValue_plain (thn (he.run pins s σ H _ I h) fun v s1 hv => ?_)
  obtain ⟨x, H1, I1, r1, i, rfl, hz, q⟩ := hv
  obtain ⟨t, rfl⟩ := r1
  exact formatField_int (I1.ok.hd hc) (dg.at_ I1.kIn) (fun _ => ⟨.str (toString i), H1, (I1.tok _).tok _, ⟨_, rfl⟩, q⟩) fun h2 => absurd hz (Nat.not_lt.mpr h2)
end

/-- floor division of up to 4,063 digits -/
def CDivB (i j : Int) : Prop := j ≠ 0 ∧ i.natAbs < 2 ^ 13500
theorem noPyl {i j : Int} (h : i.natAbs < 2 ^ 13500) : PySem.Builtin.divisionGoesByPylong i j = false := by
  have d1 : (if i == 0 then 0 else i.natAbs.log2 / 30 + 1) ≤ 450 := by
    by_cases hi : (i == 0) = true
    · rw [if_pos hi]; exact Nat.zero_le _
    · rw [if_neg hi]
      have h0 : i.natAbs ≠ 0 := fun z => hi (by simpa using Int.natAbs_eq_zero.mp z)
      have := (Nat.log2_lt h0).mpr h
      omega
  show (decide ((if j == 0 then 0 else j.natAbs.log2 / 30 + 1) > 300) && decide ((if i == 0 then 0 else i.natAbs.log2 / 30 + 1) > (if j == 0 then 0 else j.natAbs.log2 / 30 + 1) + 150)) = false
  by_cases h2 : (if j == 0 then 0 else j.natAbs.log2 / 30 + 1) > 300
  · rw [decide_eq_false (p := _ > _ + 150) (by omega), Bool.and_false]
  · rw [decide_eq_false h2, Bool.false_and]
theorem op_fdivB {X : Cx} : OpR X (binaryOp .FloorDiv) (rI CDivB fun i j => .int (i.fdiv j)) := opI fun i j _ _ _ _ _ hc q => floordiv_int hc.1 q (.inl (noPyl hc.2))
theorem op_mulSI {X : Cx} : OpR X (binaryOp .Mult) (fun x y H Q => ∃ (a : Str) (n : Int), x = .str a ∧ y = .int n ∧ MulOk a n ∧ Q (.str (Txt.mul a n)) H) := by
  intro pins s σ H x y v u Q I rx ry h
  obtain ⟨a, n, rfl, rfl, ok, q⟩ := h
  obtain ⟨t, rfl⟩ := (show ∃ t, v = Value.str a t from rx)
  obtain ⟨t2, rfl⟩ := (show ∃ t, u = Value.int n t from ry)
  exact PySem.SB.mul ok fun t' k => ⟨.str _, H, I.tok k, ⟨_, rfl⟩, q⟩
theorem mt_rjustF {X : Cx} : MtR X "str.rjust" (fun x xs H Q => ∃ (a : Str) (i : Int) (f : Str), x = .str a ∧ xs = [.int i, .str f] ∧ PadOk i = true ∧ f.length = 1 ∧ Q (.str (Txt.rjustF a i (f.cps.getD 0 0))) H) := by
  intro pins s σ H x xs v us Q I rx rs h
  obtain ⟨a, i, f, rfl, rfl, ok, hf, q⟩ := h
  obtain ⟨t, rfl⟩ := rx
  obtain ⟨u1, u2, rfl, r1, r2⟩ := rs.two
  obtain ⟨t1, rfl⟩ := (show ∃ t, u1 = Value.int i t from r1)
  obtain ⟨t2, rfl⟩ := (show ∃ t, u2 = Value.str f t from r2)
  exact rjust_fill ok hf fun t' k => ⟨.str _, H, I.tok k, ⟨_, rfl⟩, q⟩
theorem mul_list {x : Str} {n : Nat} : (Txt.mul x (n : Int)).cps.toList = (List.replicate n x.cps.toList).flatten := by
  have fold : ∀ (k : Nat) (acc : Array Nat), ((List.replicate k x.cps).foldl (· ++ ·) acc).toList = acc.toList ++ (List.replicate k x.cps.toList).flatten := by
    intro k
    induction k with
    | zero => intro acc; simp
    | succ k ih => intro acc; rw [List.replicate_succ, List.foldl_cons, ih, List.replicate_succ, List.flatten_cons, Array.toList_append, List.append_assoc]
  unfold Txt.mul
  by_cases h0 : ((n : Int) < 1)
  · have : n = 0 := by omega
    subst this
    rw [if_pos h0]
    rfl
  · rw [if_neg h0]
    by_cases h1 : ((n : Int) == 1 || x.length == 0) = true
    · rw [if_pos h1]
      rcases Bool.or_eq_true_iff.mp h1 with h | h
      · have : n = 1 := by have := beq_iff_eq.mp h; omega
        subst this
        simp
      · have : x.cps.toList = [] := by
          have := beq_iff_eq.mp h
          rw [HwT.len_list] at this
          exact List.length_eq_zero_iff.mp this
        rw [this]
        simp
    · rw [if_neg h1, Int.toNat_natCast, fold]
      rfl
end L2
end

section
/-! The signs of long integers. -/
namespace HwT
open PySem PySem.NumText PyProof.Rows
/-- how many digits an integer from 0 on has -/
def dlen (m : Nat) : Nat := (Nat.toDigits 10 m).length
def dg (m : Nat) : List Nat := (Nat.toDigits 10 m).map Char.toNat
def sg (i : Int) : List Nat := (PySem.Str.ofString (toString i)).cps.toList
theorem dlen_le {m k : Nat} (hk : 0 < k) : dlen m ≤ k ↔ m < 10 ^ k := by
  have e := Nat.length_repr_le_iff (n := m) hk
  rwa [← String.length_toList, Nat.toList_repr] at e
theorem dlen_pos (m : Nat) : 0 < dlen m := PySem.toDigits_len_ge 10 m
theorem dlen_eq {m e : Nat} (h1 : 10 ^ e ≤ m) (h2 : m < 10 ^ (e + 1)) : dlen m = e + 1 := by
  have a := (dlen_le (m := m) (k := e + 1) (by omega)).mpr h2
  rcases Nat.eq_zero_or_pos e with rfl | he
  · have := dlen_pos m
    omega
  · have b : ¬ dlen m ≤ e := fun z => absurd ((dlen_le he).mp z) (by omega)
    omega
theorem dg_len (m : Nat) : (dg m).length = dlen m := by unfold dg dlen; simp
theorem dg_dig (m : Nat) : AllDigits (dg m) := by
  intro c hc
  obtain ⟨ch, hch, e⟩ := List.mem_map.mp hc
  have r := digit_range (Nat.isDigit_of_mem_toDigits (by decide) (by decide) hch)
  rw [← e]
  exact r
theorem dg_ne (m : Nat) : dg m ≠ [] := fun z => by
  have := dlen_pos m
  rw [← dg_len, z] at this
  exact absurd this (by decide)
theorem dg_val (m : Nat) : digitsVal (dg m) = m := PySem.W.KIN.val_back m
theorem dg_zero : dg 0 = [48] := by decide
theorem dg_head {m : Nat} (h : m ≠ 0) : (dg m)[0]? ≠ some 48 := by
  intro z
  have v := dg_val m
  have l := dg_len m
  have a := dg_dig m
  cases q : dg m with
  | nil => exact dg_ne m q
  | cons c r =>
    rw [q] at z v l a
    have z : c = 48 := by simpa using z
    subst z
    rw [digitsVal_zero] at v
    have f := fold_lt r 0 a.tail
    have f : digitsVal r < 10 ^ r.length := by simpa [digitsVal] using f
    rw [v] at f
    rw [List.length_cons] at l
    rcases Nat.eq_zero_or_pos r.length with z | z
    · rw [z] at f
      simp at f
      exact h f
    · have := (dlen_le z).mpr f
      omega
theorem dg_of {b : List Nat} (h : AllDigits b) (hn : b ≠ []) (h0 : b[0]? ≠ some 48) : dg (digitsVal b) = b := by
  cases b with
  | nil => exact absurd rfl hn
  | cons c r =>
    have hc := h.head
    have e := toDigits_digitsVal r.length (c :: r) rfl h (.inr ⟨c, r, rfl, by
      have : c ≠ 48 := fun z => h0 (by rw [z]; rfl)
      omega⟩)
    unfold dg
    rw [e, List.map_map]
    have : ∀ x ∈ (c :: r), (Char.toNat ∘ Char.ofNat) x = x := fun x hx => by
      have := h x hx
      have v : x.isValidChar := Or.inl (by omega)
      show (Char.ofNat x).toNat = x
      rw [Char.ofNat, dif_pos v]
      simp [Char.toNat, Char.ofNatAux]
    rw [List.map_congr_left this, List.map_id']
theorem sg_nat (m : Nat) : sg (m : Int) = dg m := PySem.W.KIN.signs_num m
theorem sg_neg {m : Nat} (h : 0 < m) : sg (-(m : Int)) = 45 :: dg m := by
  obtain ⟨k, rfl⟩ : ∃ k, m = k + 1 := ⟨m - 1, by omega⟩
  unfold sg
  rw [signs_ofString]
  show ("-" ++ Nat.repr (k + 1)).toList.map Char.toNat = _
  rw [String.toList_append, Nat.toList_repr, List.map_append]
  rfl
theorem sg_eq (i : Int) : sg i = if i < 0 then 45 :: dg i.natAbs else dg i.natAbs := by
  split
  · rename_i h
    have e : i = -((i.natAbs : Nat) : Int) := by omega
    have := sg_neg (m := i.natAbs) (by omega)
    rw [← e] at this
    exact this
  · rename_i h
    have e : i = ((i.natAbs : Nat) : Int) := by omega
    have := sg_nat i.natAbs
    rw [← e] at this
    exact this
theorem sg_len (i : Int) : (sg i).length ≤ dlen i.natAbs + 1 := by
  rw [sg_eq]
  split <;> simp [dg_len]
theorem sg_num (i : Int) : Num (sg i) := by
  rw [sg_eq]
  split
  · exact .inr ⟨_, rfl, dg_dig _, dg_ne _⟩
  · exact .inl ⟨dg_dig _, dg_ne _⟩
theorem len_str (i : Int) : (PySem.Str.ofString (toString i)).length = (sg i).length := len_list _
theorem str_sg (i : Int) : PySem.Str.ofString (toString i) = tx (sg i) := (tx_of _).symm
/-! ### reading -/
theorem num_signs {a : List Nat} (h : Num a) : ∀ c ∈ (tx a).cps.toList, c = 45 ∨ (48 ≤ c ∧ c ≤ 57) := by
  rcases h with ⟨h, _⟩ | ⟨c, rfl, h, _⟩
  · exact fun d hd => .inr (h d hd)
  · intro d hd
    rcases List.mem_cons.mp hd with e | hd
    · exact .inl e
    · exact .inr (h d hd)
theorem num_seen {a : List Nat} (h : Num a) : (numSeenOf (tx a)).length = (tx a).length := by
  rw [(numText_signs (num_signs h)).2, len_list]
theorem val_ltB {b : List Nat} (h : AllDigits b) (hl : b.length ≤ 4000) : digitsVal b < 2 ^ 13500 := by
  unfold digitsVal
  refine Nat.lt_of_lt_of_le (fold_lt b 0 h) ?_
  rw [Nat.zero_add, Nat.one_mul]
  exact Nat.le_trans (Nat.pow_le_pow_right (by omega) hl) (by decide +kernel)
/-- without the minus -/
def strm (a : List Nat) : List Nat := a.dropWhile fun c => c == 45
theorem strm_len (x : Str) : (Txt.lstripChars x "-").length = (strm x.cps.toList).length := by
  have e : ∀ l : List Nat, (l.takeWhile fun c => c == 45).length + (l.dropWhile fun c => c == 45).length = l.length := fun l => by
    rw [← List.length_append, List.takeWhile_append_dropWhile]
  have g : (("-" : Str).cps.contains : Nat → Bool) = fun c => c == 45 := by
    have q : ("-" : Str).cps = #[45] := by decide +kernel
    funext c
    rw [q]
    show (#[45] : Array Nat).contains c = _
    rw [Bool.eq_iff_iff, Array.contains_iff_mem]
    simp
  unfold Txt.lstripChars Txt.stripBy
  rw [g]
  have := e x.cps.toList
  by_cases h : stripSame (fun c => c == 45) true false x = true
  · rw [if_pos h]
    have h0 : stripLo (fun c => c == 45) true x = 0 := beq_iff_eq.mp (He.ba h).1
    have h0 : (x.cps.toList.takeWhile fun c => c == 45).length = 0 := h0
    rw [len_list]
    unfold strm
    omega
  · rw [if_neg h]
    show (PySem.Builtin.Str.strSub x (x.cps.toList.takeWhile fun c => c == 45).length x.length).length = _
    unfold PySem.Builtin.Str.strSub Str.length strm
    rw [Array.size_extract]
    have := len_list x
    unfold Str.length at this
    omega
theorem strm_dig {a : List Nat} (h : AllDigits a) : strm a = a := by
  cases a with
  | nil => rfl
  | cons c r =>
    have := h.head
    unfold strm
    rw [List.dropWhile_cons, if_neg (by simp; omega)]
theorem strm_neg {a : List Nat} (h : AllDigits a) : strm (45 :: a) = a := by
  have := strm_dig h
  unfold strm at this ⊢
  rw [List.dropWhile_cons, if_pos (by rfl)]
  exact this
theorem strm_sg (i : Int) : (strm (sg i)).length = dlen i.natAbs := by
  rw [sg_eq]
  split
  · rw [strm_neg (dg_dig _), dg_len]
  · rw [strm_dig (dg_dig _), dg_len]
theorem num_valB {a : List Nat} (h : Num a) (hl : (strm a).length ≤ 4000) : ∃ n : Int, intText? (tx a) = some n ∧ n.natAbs < 2 ^ 13500 := by
  rcases h with ⟨h, hn⟩ | ⟨c, rfl, h, hn⟩
  · rw [strm_dig h] at hl
    exact ⟨_, intText_digits (x := tx a) h hn (by rw [tx_len]; omega), by rw [Int.natAbs_natCast]; exact val_ltB h hl⟩
  · rw [strm_neg h] at hl
    exact ⟨_, intText_neg (x := tx (45 :: c)) rfl h hn (by rw [tx_len]; simp; omega), by rw [Int.natAbs_neg, Int.natAbs_natCast]; exact val_ltB h hl⟩
theorem dig_valB {b : List Nat} (h : AllDigits b) (hn : b ≠ []) (h0 : b[0]? ≠ some 48) (hl : b.length ≤ 4000) : ∃ n : Nat, intText? (tx b) = some (n : Int) ∧ n < 2 ^ 13500 ∧ 1 ≤ n ∧ (n = 1 ↔ b = [49]) :=
  ⟨_, intText_digits (x := tx b) h hn (by rw [tx_len]; omega), val_ltB h hl, val_one h hn h0⟩
theorem sg_val {i : Int} (hl : dlen i.natAbs ≤ 4000) : intText? (tx (sg i)) = some i := by
  rw [sg_eq]
  split
  · rw [intText_neg (x := tx (45 :: dg i.natAbs)) rfl (dg_dig _) (dg_ne _) (by rw [tx_len]; simp [dg_len]; omega), dg_val]
    congr 1
    omega
  · rw [intText_digits (x := tx (dg i.natAbs)) (dg_dig _) (dg_ne _) (by rw [tx_len, dg_len]; omega)]
    show some ((digitsVal (dg i.natAbs) : Nat) : Int) = _
    rw [dg_val]
    congr 1
    omega
/-- the digits that count in a text: those above the line without the minus, those below -/
def lw (l : List Nat) : Nat := max (strm (l.takeWhile fun c => c != 47)).length ((l.dropWhile fun c => c != 47).drop 1).length
theorem lw_int {l : List Nat} (h : 47 ∉ l) : lw l = (strm l).length := by
  have p : ∀ c ∈ l, (c != 47) = true := fun c hc => bne_iff_ne.mpr fun z => h (z ▸ hc)
  have e1 : (l.takeWhile fun c => c != 47) = l := by
    have := List.takeWhile_append_of_pos (l₂ := []) p
    simpa using this
  have e2 : (l.dropWhile fun c => c != 47) = [] := by
    have := List.dropWhile_append_of_pos (l₂ := []) p
    simpa using this
  unfold lw
  rw [e1, e2]
  simp
theorem lw_q {l a b : List Nat} (hl : l = a ++ 47 :: b) (na : 47 ∉ a) : lw l = max (strm a).length b.length := by
  have p : ∀ c ∈ a, (c != 47) = true := fun c hc => bne_iff_ne.mpr fun z => na (z ▸ hc)
  unfold lw
  rw [hl, List.takeWhile_append_of_pos p, List.dropWhile_append_of_pos p]
  simp
/-! ### texts of ratios -/
theorem run_app {d r : List Nat} (h : AllDigits d) (hr : ∀ c, r[0]? = some c → isD c = false) : run (d ++ r) = d.length := by
  have p : ∀ c ∈ d, isD c = true := fun c hc => by
    have := h c hc
    unfold isD
    simp
    omega
  unfold run
  rw [List.takeWhile_append_of_pos p, List.length_append]
  cases r with
  | nil => rfl
  | cons c r =>
    rw [List.takeWhile_cons, hr c rfl]
    rfl
theorem we_app {p d r : List Nat} (h : AllDigits d) (hn : d ≠ []) (h0 : d[0]? ≠ some 48) (hr : ∀ c, r[0]? = some c → isD c = false) : we (p ++ (d ++ r)) p.length = p.length + d.length := by
  have e : (p ++ (d ++ r))[p.length]? = d[0]? := by
    rw [List.getElem?_append_right (Nat.le_refl _), Nat.sub_self]
    cases d with
    | nil => exact absurd rfl hn
    | cons c t => rfl
  unfold we
  rw [e, if_neg h0, List.drop_left, run_app h hr]
theorem col_sign {p d r : List Nat} (hp : p = [] ∨ p = [45]) (h : AllDigits d) (hn : d ≠ []) (h0 : d[0]? ≠ some 48) : col (p ++ (d ++ r)) = colAt (p ++ (d ++ r)) p.length := by
  cases d with
  | nil => exact absurd rfl hn
  | cons c t =>
    have hc := h.head
    have h0 : c ≠ 48 := fun z => h0 (by rw [z]; rfl)
    unfold col
    rcases hp with rfl | rfl
    · rw [if_neg (by simpa using h0), if_neg (by simp; omega)]
      rfl
    · rw [if_neg (by simp), if_pos (by rfl)]
      rfl
theorem col_int {p d : List Nat} (hp : p = [] ∨ p = [45]) (h : AllDigits d) (hn : d ≠ []) (h0 : d[0]? ≠ some 48) : col (p ++ d) = 0 := by
  have e := col_sign (r := []) hp h hn h0
  have w := we_app (p := p) (r := []) h hn h0 (fun c z => by cases z)
  rw [List.append_nil] at e w
  rw [e]
  have ld : 0 < d.length := List.length_pos_iff.mpr hn
  unfold colAt
  rw [w, if_neg (by omega), if_pos (by rw [List.length_append])]
theorem col_q {p d b : List Nat} (hp : p = [] ∨ p = [45]) (h : AllDigits d) (hn : d ≠ []) (h0 : d[0]? ≠ some 48) (hb : AllDigits b) (bn : b ≠ []) (b0 : b[0]? ≠ some 48) : col (p ++ (d ++ 47 :: b)) = 0 := by
  have e := col_sign (r := 47 :: b) hp h hn h0
  have w := we_app (p := p) (r := 47 :: b) h hn h0 (fun c z => by
    have z : 47 = c := by simpa using z
    rw [← z]
    decide)
  have w2 := we_app (p := p ++ (d ++ [47])) (d := b) (r := []) hb bn b0 (fun c z => by cases z)
  have e2 : p ++ (d ++ [47]) ++ (b ++ []) = p ++ (d ++ 47 :: b) := by simp
  have l2 : (p ++ (d ++ [47])).length = p.length + d.length + 1 := by simp; omega
  rw [e2, l2] at w2
  have ld : 0 < d.length := List.length_pos_iff.mpr hn
  have lb : 0 < b.length := List.length_pos_iff.mpr bn
  have lt : (p ++ (d ++ 47 :: b)).length = p.length + d.length + 1 + b.length := by simp; omega
  have at_ : (p ++ (d ++ 47 :: b))[p.length + d.length]? = some 47 := by
    rw [← List.append_assoc, List.getElem?_append_right (by rw [List.length_append]; exact Nat.le_refl _), List.length_append, Nat.sub_self]
    rfl
  rw [e]
  unfold colAt
  rw [w, if_neg (by omega), if_neg (by omega), at_, if_neg (by simp), w2, if_neg (by omega)]
theorem col_bad {d : List Nat} {c : Nat} (h : AllDigits d) (hn : d ≠ []) (h0 : d[0]? ≠ some 48) (hc : isD c = false) (h47 : c ≠ 47) : col (d ++ [c]) = d.length + 1 := by
  have hr : ∀ e, [c][0]? = some e → isD e = false := fun e z => by
    have z : c = e := by simpa using z
    rw [← z]
    exact hc
  have e := col_sign (p := []) (r := [c]) (.inl rfl) h hn h0
  have w := we_app (p := []) (r := [c]) h hn h0 hr
  rw [List.nil_append] at e w
  have ld : 0 < d.length := List.length_pos_iff.mpr hn
  rw [e]
  unfold colAt
  have at_ : (d ++ [c])[d.length]? = some c := by
    rw [List.getElem?_append_right (Nat.le_refl _), Nat.sub_self]
    rfl
  have w : we (d ++ [c]) 0 = d.length := by simpa using w
  simp only [List.length_nil]
  rw [w, if_neg (by omega), if_neg (by rw [List.length_append]; simp), at_, if_pos (by simpa using h47)]
/-- what a ratio is written as -/
def wrt (t n : Int) : List Nat := if n = 1 then sg t else sg t ++ 47 :: sg n
theorem sg_parts (t : Int) : ∃ p, (p = [] ∨ p = [45]) ∧ sg t = p ++ dg t.natAbs := by
  rw [sg_eq]
  split
  · exact ⟨[45], .inr rfl, rfl⟩
  · exact ⟨[], .inl rfl, rfl⟩
theorem sg47 (t : Int) : 47 ∉ sg t := (sg_num t).no47
theorem wrt_lw {t n : Int} (hn : 0 < n) : lw (wrt t n) = max (dlen t.natAbs) (dlen n.natAbs) := by
  unfold wrt
  split
  · rename_i h
    subst h
    rw [lw_int (sg47 t), strm_sg]
    have : dlen (1 : Int).natAbs = 1 := by decide
    have := dlen_pos t.natAbs
    omega
  · rw [lw_q rfl (sg47 t), strm_sg]
    congr 1
    rw [sg_eq, if_neg (by omega), dg_len]
theorem wrt_col {t n : Int} (hn : 0 < n) (hg : Nat.gcd t.natAbs n.natAbs = 1) : col (wrt t n) = 0 := by
  obtain ⟨p, hp, e⟩ := sg_parts t
  by_cases t0 : t = 0
  · subst t0
    have : n = 1 := by
      have : n.natAbs = 1 := by simpa using hg
      omega
    subst this
    decide
  have t0 : t.natAbs ≠ 0 := by omega
  unfold wrt
  split
  · rw [e]
    exact col_int hp (dg_dig _) (dg_ne _) (dg_head t0)
  · rw [e, List.append_assoc, sg_eq n, if_neg (by omega)]
    exact col_q hp (dg_dig _) (dg_ne _) (dg_head t0) (dg_dig _) (dg_ne _) (dg_head (by omega))
theorem wrt_ans {t n : Int} (hn : 0 < n) (hg : Nat.gcd t.natAbs n.natAbs = 1) (hl : max (dlen t.natAbs) (dlen n.natAbs) ≤ 4000) : ans (wrt t n) = .inr (t, n) := by
  have hc := wrt_col hn hg
  unfold wrt at hc ⊢
  split
  · rename_i h
    rw [if_pos h] at hc
    subst h
    exact ans_int hc (sg47 t) (sg_val (by omega))
  · rename_i h
    rw [if_neg h] at hc
    rw [ans_q hc rfl (sg47 t) (sg_val (by omega)) (sg_val (by omega)), if_pos ⟨by omega, hg⟩]
theorem wrt_len (t n : Int) : (wrt t n).length ≤ dlen t.natAbs + dlen n.natAbs + 3 := by
  have a := sg_len t
  have b := sg_len n
  unfold wrt
  split
  · omega
  · rw [List.length_append, List.length_cons]
    omega
/-! ### digits on end -/
theorem val_app (a b : List Nat) : digitsVal (a ++ b) = digitsVal a * 10 ^ b.length + digitsVal b := by
  have f : ∀ (b : List Nat) (acc : Nat), b.foldl (fun acc c => acc * 10 + (c - 48)) acc = acc * 10 ^ b.length + b.foldl (fun acc c => acc * 10 + (c - 48)) 0 := by
    intro b
    induction b with
    | nil => intro acc; simp
    | cons c r ih =>
      intro acc
      rw [List.foldl_cons, List.foldl_cons, ih, ih (0 * 10 + (c - 48)), List.length_cons, Nat.pow_succ]
      have e1 : (acc * 10 + (c - 48)) * 10 ^ r.length = acc * (10 ^ r.length * 10) + (c - 48) * 10 ^ r.length := by
        rw [Nat.add_mul, Nat.mul_assoc, Nat.mul_comm 10]
      rw [e1]
      simp only [Nat.zero_mul, Nat.zero_add]
      omega
  unfold digitsVal
  rw [List.foldl_append, f]
theorem val_zeros (k : Nat) : digitsVal (List.replicate k 48) = 0 := by
  induction k with
  | zero => rfl
  | succ k ih => rw [List.replicate_succ, digitsVal_zero, ih]
/-- the digits of b, filled up to k -/
def pad (k b : Nat) : List Nat := List.replicate (k - dlen b) 48 ++ dg b
theorem pad_dig (k b : Nat) : AllDigits (pad k b) := by
  intro c hc
  rcases List.mem_append.mp hc with h | h
  · have := List.eq_of_mem_replicate h
    omega
  · exact dg_dig b c h
theorem pad_len {k b : Nat} (hk : 0 < k) (h : b < 10 ^ k) : (pad k b).length = k := by
  have := (dlen_le hk).mpr h
  unfold pad
  rw [List.length_append, List.length_replicate, dg_len]
  omega
theorem pad_val (k b : Nat) : digitsVal (pad k b) = b := by
  unfold pad
  rw [val_app, val_zeros, dg_val]
  simp
theorem dg_app {a b k : Nat} (ha : a ≠ 0) (hk : 0 < k) (h : b < 10 ^ k) : dg (a * 10 ^ k + b) = dg a ++ pad k b := by
  have e : digitsVal (dg a ++ pad k b) = a * 10 ^ k + b := by rw [val_app, dg_val, pad_val, pad_len hk h]
  rw [← e]
  refine dg_of (fun c hc => ?_) (fun z => dg_ne a (List.append_eq_nil_iff.mp z).1) ?_
  · rcases List.mem_append.mp hc with h | h
    · exact dg_dig a c h
    · exact pad_dig k b c h
  · have := dg_head ha
    cases q : dg a with
    | nil => exact absurd q (dg_ne a)
    | cons c r =>
      rw [q] at this
      exact this
end HwT
end

section
/-! The head's hook with the table of statics in the fragment. -/
namespace HwX
open PySem He
section
variable {n : Nat} {fa : List Fa} {fn : List DefD} {ts : List Tab} {tf : List Defn} {ex : PySem.W.Frag → Bool} {w : World} {h : Heap} {as : List Addr}
/-- what the objects at as tell -/
def obsL (fa : List Fa) (fn : List DefD) (ts : List Tab) (tf : List Defn) (ex : PySem.W.Frag → Bool) (g : Addr → Option Obj) (as : List Addr) : AlX :=
  (obsT fa fn ts (frT g as), ex (frT g as) && tabsB g tf (frT g as))
theorem tab_at {p : Defn} (hp : p ∈ tf) (e : tabsB h.get? tf (frT h.get? as) = true) :
    PySem.W.codeHdIn (frT h.get? as) (cT (frT h.get? as) p).1 (cT (frT h.get? as) p).2 = true ∧ ∃ o, h.get? (cT (frT h.get? as) p).2 = some o ∧ emptyTab o = true := by
  have e1 := ba (List.all_eq_true.mp e p hp)
  refine ⟨e1.1, ?_⟩
  have e2 := e1.2
  split at e2
  · rename_i o ho
    exact ⟨o, ho, e2⟩
  · cases e2
theorem saysL (e : obsL fa fn ts tf ex h.get? as = valX fn ts w) : SaysX fa fn ts tf ex w h (frT h.get? as) := by
  have e2 := ba (show (ex (frT h.get? as) && tabsB h.get? tf (frT h.get? as)) = true from congrArg (fun z : AlX => z.2) e)
  constructor
  · exact congrArg (fun z : AlX => z.1) e
  · exact e2.1
  · exact fun p hp => (tab_at hp e2.2).1
  · intro p hp
    obtain ⟨_, o, h1, h2⟩ := tab_at hp e2.2
    exact frT_none h1 h2
  · intro p hp
    obtain ⟨_, o, h1, h2⟩ := tab_at hp e2.2
    rw [h1, emptyTab_eq h2]
def obsS (n : Nat) (fa : List Fa) (fn : List DefD) (ts : List Tab) (tf : List Defn) (ex : PySem.W.Frag → Bool) (g : Addr → Option Obj) : AlX := obsL fa fn ts tf ex g (asD g n ++ [cStatics])
def hookS (n : Nat) (fa : List Fa) (fn : List DefD) (ts : List Tab) (tf : List Defn) (ex : PySem.W.Frag → Bool) : PySem.W.Hook where
  α := AlX
  obs := fun s => obsS n fa fn ts tf ex s.heap.get?
  val := fun w => valX fn ts w
  says := fun w h => ∃ K : PySem.W.Frag, K.In h ∧ SaysX fa fn ts tf ex w h K
  of := fun _ _ e => ⟨_, frT_in, saysL e⟩
  keeps := fun _ _ _ ⟨K, hK, c⟩ k => ⟨K, PySem.W.Frag.In.keeps hK k, { c with empty := fun p hp => k _ _ (c.empty p hp) }⟩
theorem obsS_eq {g : Addr → Option Obj} {s : Shared} (hg : ∀ a, g a = s.heap.get? a) : obsS n fa fn ts tf ex g = (hookS n fa fn ts tf ex).obs s := by
  have e : g = s.heap.get? := funext hg
  subst e
  rfl
end
end HwX
end

section
namespace HwL
open PySem PySem.Spec PyProof.Rows L2 LamX HwT
def top (i : Nat) : Stmt := PySem.Challenge.pw_hingeworks_k01_long_ratios.main.body.getD i (.Pass ⟨0, 0, 0, 0⟩)
abbrev s_L_pen : Stmt := top 20
abbrev s_L_draw : Stmt := top 21
abbrev s_BadNumberD_initD : Stmt := inClass (top 5) 0
abbrev s_RatioD_initD : Stmt := inClass (top 11) 0
abbrev s_is_integer : Stmt := top 12
abbrev s_is_ratio : Stmt := top 13
abbrev s_L_gcd : Stmt := top 22
abbrev s_L_q : Stmt := top 23
abbrev s_L_is_ratio : Stmt := top 24
abbrev s_BadTextD_initD : Stmt := inClass (top 4) 0
abbrev s_whole_end : Stmt := top 18
abbrev s_wrong_column : Stmt := top 17
abbrev s_TooLongD_initD : Stmt := inClass (top 6) 0
abbrev s_digits_of : Stmt := top 15
abbrev s_Ratio_written : Stmt := inClass (top 11) 10
abbrev s_ratio_of : Stmt := top 16
abbrev s_L_too_long : Stmt := top 26
abbrev s_L_read_wrong : Stmt := top 29
abbrev s_L_both_wrong : Stmt := top 28
abbrev s_L_digits : Stmt := top 25
abbrev s_L_long_text : Stmt := top 27
abbrev s_law : Stmt := top 30
def ratB (K : PySem.W.Frag) (C : Addr) : Bool := PySem.W.plainGet K C Str.empty && (He.eqO (PySem.W.findIn K (.ref C) "__class__") (some (some (.builtin "object.__class__"))) && (He.eqO (PySem.W.specialIn K (.builtin "object.__class__") "__get__") (some (some (.builtin "getset_descriptor.__get__"))) && (decide (PySem.W.takesIn K (.builtin "object.__class__") = some true) && (decide (PySem.W.mroIn K C (.type "object") = some true) &&
  ((["int", "bool"].all fun n => decide (PySem.W.kitOne K (.ref C) (.type n) = some false)) && ((["int", "bool", "str", "NoneType", "tuple", "list"].all fun n => decide (PySem.W.kitOne K (.type n) (.ref C) = some false)) && (["int", "bool", "str", "NoneType", "tuple", "list"].all fun n => PySem.W.notFirst K C (.type n))))))))
def fnL : List He.DefD := [⟨("_law_pen", none), "_law_pen", "_law_pen", defArgs s_L_pen, defBody s_L_pen, defScope s_L_pen, [], []⟩,
  ⟨("_law_draw", none), "_law_draw", "_law_draw", defArgs s_L_draw, defBody s_L_draw, defScope s_L_draw, [], []⟩,
  ⟨("BadNumber", some "__init__"), "__init__", "BadNumber.__init__", defArgs s_BadNumberD_initD, defBody s_BadNumberD_initD, defScope s_BadNumberD_initD, [], []⟩,
  ⟨("Ratio", some "__init__"), "__init__", "Ratio.__init__", defArgs s_RatioD_initD, defBody s_RatioD_initD, defScope s_RatioD_initD, [.int 1], []⟩,
  ⟨("is_integer", none), "is_integer", "is_integer", defArgs s_is_integer, defBody s_is_integer, defScope s_is_integer, [], []⟩,
  ⟨("is_ratio", none), "is_ratio", "is_ratio", defArgs s_is_ratio, defBody s_is_ratio, defScope s_is_ratio, [], []⟩,
  ⟨("_law_gcd", none), "_law_gcd", "_law_gcd", defArgs s_L_gcd, defBody s_L_gcd, defScope s_L_gcd, [], []⟩,
  ⟨("_law_q", none), "_law_q", "_law_q", defArgs s_L_q, defBody s_L_q, defScope s_L_q, [], []⟩,
  ⟨("_law_is_ratio", none), "_law_is_ratio", "_law_is_ratio", defArgs s_L_is_ratio, defBody s_L_is_ratio, defScope s_L_is_ratio, [], []⟩,
  ⟨("BadText", some "__init__"), "__init__", "BadText.__init__", defArgs s_BadTextD_initD, defBody s_BadTextD_initD, defScope s_BadTextD_initD, [], []⟩,
  ⟨("whole_end", none), "whole_end", "whole_end", defArgs s_whole_end, defBody s_whole_end, defScope s_whole_end, [], []⟩,
  ⟨("wrong_column", none), "wrong_column", "wrong_column", defArgs s_wrong_column, defBody s_wrong_column, defScope s_wrong_column, [], []⟩,
  ⟨("TooLong", some "__init__"), "__init__", "TooLong.__init__", defArgs s_TooLongD_initD, defBody s_TooLongD_initD, defScope s_TooLongD_initD, [], []⟩,
  ⟨("digits_of", none), "digits_of", "digits_of", defArgs s_digits_of, defBody s_digits_of, defScope s_digits_of, [], []⟩,
  ⟨("Ratio", some "written"), "written", "Ratio.written", defArgs s_Ratio_written, defBody s_Ratio_written, defScope s_Ratio_written, [], []⟩,
  ⟨("ratio_of", none), "ratio_of", "ratio_of", defArgs s_ratio_of, defBody s_ratio_of, defScope s_ratio_of, [], []⟩,
  ⟨("_law_read_wrong", none), "_law_read_wrong", "_law_read_wrong", defArgs s_L_read_wrong, defBody s_L_read_wrong, defScope s_L_read_wrong, [], []⟩,
  ⟨("_law_both_wrong", none), "_law_both_wrong", "_law_both_wrong", defArgs s_L_both_wrong, defBody s_L_both_wrong, defScope s_L_both_wrong, [], []⟩,
  ⟨("_law_digits", none), "_law_digits", "_law_digits", defArgs s_L_digits, defBody s_L_digits, defScope s_L_digits, [], []⟩,
  ⟨("_law_long_text", none), "_law_long_text", "_law_long_text", defArgs s_L_long_text, defBody s_L_long_text, defScope s_L_long_text, [], []⟩,
  ⟨("law", none), "law", "law", defArgs s_law, defBody s_law, defScope s_law, [], []⟩,
  ⟨("_law_too_long", none), "_law_too_long", "_law_too_long", defArgs s_L_too_long, defBody s_L_too_long, defScope s_L_too_long, [], []⟩]
def faL : List He.Fa := [.glo "_law_pen", .glo "_law_draw", .glo "is_integer", .glo "is_ratio", .glo "_law_gcd", .glo "_law_q", .glo "_law_is_ratio", .glo "whole_end", .glo "wrong_column", .glo "digits_of", .glo "ratio_of", .glo "_law_read_wrong", .glo "_law_both_wrong", .glo "_law_digits", .glo "_law_long_text", .glo "law", .glo "_law_too_long", .glo "BadNumber", .glo "Ratio", .glo "BadText", .glo "TooLong", .free "list", .free "int", .free "len", .free "isinstance", .free "bool", .free "range", .free "abs", .str "DIGITS" "0123456789", .free "reversed", .free "str", .int "PLAIN_BITS" 13000, .free "max", .int "MOST_DIGITS" 4000, .cls "Ratio", .noat "Ratio" "top", .noat "Ratio" "bottom", .noat "BadNumber" "what", .noat "BadNumber" "number", .noat "BadText" "line", .noat "BadText" "column", .noat "TooLong" "digits", .mkr "Ratio", .meth "Ratio" "written"]
def exL (K : PySem.W.Frag) : Bool := [HwH.bfunB K "gcd" "math.gcd", ratB K (He.ga K "Ratio"), HwH.oexB K (He.ga K "BadNumber"), HwH.oexB K (He.ga K "BadText"), HwH.oexB K (He.ga K "TooLong"), HwH.xrB K (He.ga K "TooLong") "digits" "digits", HwH.xrB K (He.ga K "BadText") "line" "column", decide (PySem.W.exmOne K (.ref (He.ga K "TooLong")) (.ref (He.ga K "BadText")) = some false), HwD.digB K, HwH.iniB K (He.ga K "BadNumber"), HwH.iniB K (He.ga K "BadText"), HwH.iniB K (He.ga K "TooLong")].all id
def tfL : List He.Defn := [("law", none)]
abbrev RR0 : PySem.W.OpenRow := PySem.W.OpenLaw.row PySem.Challenge.rw_hingeworks_k01_long_ratios
abbrev hk : PySem.W.Hook := HwX.hookS 5 faL fnL [] tfL exL
def ob (s : PySem.W.SharedT) : He.AlX := HwX.obsS 5 faL fnL [] tfL exL (HandSHeadRun.getT s)
theorem ob_eq (s : PySem.W.SharedT) : ob s = hk.obs s.abs := HwX.obsS_eq (HandSHeadRun.getT_eq s)
def names : List PySem.Str := (["_wall", "__name__", "HingeError", "BadText", "BadNumber", "TooLong", "MOST_DIGITS", "DIGITS", "PLAIN_BITS", "Ratio", "is_integer", "is_ratio", "as_ratio", "digits_of", "ratio_of", "wrong_column", "whole_end", "_law_pen", "_law_draw", "_law_gcd", "_law_q", "_law_is_ratio", "_law_digits", "_law_too_long"] : List PySem.Str) ++ (["_law_long_text", "_law_both_wrong", "_law_read_wrong"] : List PySem.Str)
theorem runK (w : World) : HandSHeadRun.RunEqI RR0 (PySem.W.view RR0.prog [0, 30]) hk ob 6000 names w := by
  unfold HandSHeadRun.RunEqI
  kernel_rfl
variable {P : Program} {w : World} {K : PySem.W.Frag} {mg : Str → Option Value} {base : Heap}


end HwL
end

section
namespace HwL
open PySem PySem.Spec PyProof.Rows L2 LamX HwT
variable {P : Program} {w : World} {K : PySem.W.Frag} {mg : Str → Option Value} {base : Heap}

/-! ### the pen -/
def penK (l : Addr) (i d c f : Int) : List (Key × V) := [(.inr "cells", .ref l), (.inr "at", .int i), (.inr "digits", .int d), (.inr "count", .int c), (.inr "fold", .int f)]
/-- a pen stands at p, drawn from at most c times -/
def PenAt (H : Hp) (p l : Addr) (c : Int) : Prop := ∃ (cs : List Int) (i d n f : Int), H p = some (.dK (penK l i d n f)) ∧ H l = some (.lst (cs.map V.int)) ∧ 0 ≤ i ∧ 0 ≤ d ∧ 0 ≤ n ∧ n ≤ c ∧ 0 ≤ f ∧ f < 2147483587
/-- all but p is as it was -/
def Ext (p : Addr) (H H' : Hp) : Prop := ∀ b o, b ≠ p → H b = some o → H' b = some o
theorem Ext.refl {p : Addr} {H : Hp} : Ext p H H := fun _ _ _ h => h
theorem Ext.trans {p : Addr} {H H1 H2 : Hp} (a : Ext p H H1) (b : Ext p H1 H2) : Ext p H H2 := fun c o n h => b c o n (a c o n h)
theorem Ext.of {p : Addr} {H H1 : Hp} (a : Same H H1) : Ext p H H1 := fun c o _ h => a c o h
theorem Ext.new {p q : Addr} {H H1 : Hp} {o : HO} (a : Ext p H H1) (h : H1 q = none) : Ext p H (upd H1 q o) := a.trans (.of (same_new h))
theorem PenAt.mono {H : Hp} {p l : Addr} {c d : Int} (h : PenAt H p l c) (e : c ≤ d) : PenAt H p l d := by
  obtain ⟨cs, i, dg, n, f, h1, h2, h3, h4, h5, h6, h7⟩ := h
  exact ⟨cs, i, dg, n, f, h1, h2, h3, h4, h5, by omega, h7⟩
theorem PenAt.same {H H' : Hp} {p l : Addr} {c : Int} (h : PenAt H p l c) (e : Same H H') : PenAt H' p l c := by
  obtain ⟨cs, i, dg, n, f, h1, h2, h3⟩ := h
  exact ⟨cs, i, dg, n, f, e _ _ h1, e _ _ h2, h3⟩
theorem PenAt.some {H : Hp} {p l : Addr} {c : Int} (h : PenAt H p l c) : ∃ o, H p = some o := by
  obtain ⟨cs, i, dg, n, f, h1, _⟩ := h
  exact ⟨_, h1⟩
theorem PenAt.put {H : Hp} {p l : Addr} {c : Int} (h : PenAt H p l c) {q : Addr} (n1 : q ≠ p) (n2 : q ≠ l) (o : HO) : PenAt (upd H q o) p l c := by
  obtain ⟨cs, i, dg, n, f, h1, h2, h3⟩ := h
  exact ⟨cs, i, dg, n, f, by rw [upd_ne n1.symm]; exact h1, by rw [upd_ne n2.symm]; exact h2, h3⟩
theorem PenAt.ne2 {H : Hp} {p q l : Addr} {c : Int} (h : PenAt H p l c) (n : H q = none) : q ≠ l := by
  obtain ⟨cs, i, dg, m, f, h1, h2, _⟩ := h
  exact fun z => by rw [z, h2] at n; cases n
theorem PenAt.ne {H : Hp} {p q l : Addr} {c : Int} (h : PenAt H p l c) (n : H q = none) : q ≠ p := by
  obtain ⟨o, e⟩ := h.some
  exact fun z => by rw [z, e] at n; cases n
theorem penK_put_count (l : Addr) (i d n f x : Int) : putK (penK l i d n f) (.inr "count") (.int x) = penK l i d x f := by
  unfold penK putK
  simp (decide := true)
theorem penK_put_at (l : Addr) (i d n f x : Int) : putK (penK l i d n f) (.inr "at") (.int x) = penK l x d n f := by
  unfold penK putK
  simp (decide := true)
theorem penK_put_digits (l : Addr) (i d n f x : Int) : putK (penK l i d n f) (.inr "digits") (.int x) = penK l i x n f := by
  unfold penK putK
  simp (decide := true)
theorem penK_put_fold (l : Addr) (i d n f x : Int) : putK (penK l i d n f) (.inr "fold") (.int x) = penK l i d n x := by
  unfold penK putK
  simp (decide := true)
section
variable {H : Hp} {p l : Addr} {i d n f x : Int} (h : H p = some (.dK (penK l i d n f)))
include h
theorem dg_cells : DGet H p (.str "cells") (some (.ref l)) := .inl ⟨_, .inr "cells", .inl h, rfl, by unfold penK valV; simp (decide := true)⟩
theorem dg_at : DGet H p (.str "at") (some (.int i)) := .inl ⟨_, .inr "at", .inl h, rfl, by unfold penK valV; simp (decide := true)⟩
theorem dg_digits : DGet H p (.str "digits") (some (.int d)) := .inl ⟨_, .inr "digits", .inl h, rfl, by unfold penK valV; simp (decide := true)⟩
theorem dg_count : DGet H p (.str "count") (some (.int n)) := .inl ⟨_, .inr "count", .inl h, rfl, by unfold penK valV; simp (decide := true)⟩
theorem dg_fold : DGet H p (.str "fold") (some (.int f)) := .inl ⟨_, .inr "fold", .inl h, rfl, by unfold penK valV; simp (decide := true)⟩
theorem dp_count : DPut H p (.str "count") (.int x) (upd H p (.dK (penK l i d x f))) := .inl ⟨_, .inr "count", h, rfl, by show 5 < sizeLine; decide, by rw [penK_put_count]⟩
theorem dp_at : DPut H p (.str "at") (.int x) (upd H p (.dK (penK l x d n f))) := .inl ⟨_, .inr "at", h, rfl, by show 5 < sizeLine; decide, by rw [penK_put_at]⟩
theorem dp_digits : DPut H p (.str "digits") (.int x) (upd H p (.dK (penK l i x n f))) := .inl ⟨_, .inr "digits", h, rfl, by show 5 < sizeLine; decide, by rw [penK_put_digits]⟩
theorem dp_fold : DPut H p (.str "fold") (.int x) (upd H p (.dK (penK l i d n x))) := .inl ⟨_, .inr "fold", h, rfl, by show 5 < sizeLine; decide, by rw [penK_put_fold]⟩
end
def spPen (K : PySem.W.Frag) : Sp := fun vs H Q _ => ∃ (a : Addr) (ns : List Int), vs = [.ref a] ∧ SqL K H a (ns.map V.int) ∧ ns.length ≤ 63 ∧
  ∀ H' p l, Same H H' → H p = none → PenAt H' p l 0 → Q (.ref p) H'
abbrev N_L_pen : List Str := ["_law_script", "_law_fold", "_law_cell"]
theorem sc_L_pen : FnScope N_L_pen ["_law_script"] (defScope s_L_pen) := ⟨rfl, rfl, rfl, by decide +kernel, rfl, by decide +kernel, by decide +kernel⟩
theorem st_L_pen {v0 : V} : L2.start N_L_pen [v0] = [some v0, none, none] := rfl
theorem ok_L_pen {f : Addr} {fd : FuncData} (F : FD K s_L_pen "_law_pen" "_law_pen" f fd) (z_list : mg "list" = none) (z_int : mg "int" = none) : FnOk P w K mg base (L2.CX P w) 1 f fd ["_law_script"] (spPen K) := by
  have nd := sc_L_pen.nd
  refine F.ok0 sc_L_pen (fun vs H Q E h => ?_) (fun cdv A outer s H vs Q E hr h => ?_)
  · obtain ⟨a, ns, rfl, _⟩ := h
    rfl
  · obtain ⟨a, ns, rfl, hS, hlen, k⟩ := h
    refine ⟨_, (pss_cons (ps_set (i := 1) nd rfl (Or.inl rfl) pe_int)
        (pss_cons (ps_for PassesOwn.never rfl (pi_list (pv 0)) (pg_name (i := 2) nd rfl (Or.inl rfl)) (pss_one (ps_set (i := 1) nd rfl (Or.inl rfl) (pe_op op_mod (pe_callTy call_int1 (by rfl) z_int (by decide +kernel) (pa_cons (pe_op op_add (pe_op op_mulW (pv 1) pe_int) (pv 2)) pa_nil)) pe_int))))
        (pss_one (ps_ret (pe_disp (pps_cons pe_str (pe_callTy call_list_of (by rfl) z_list (by decide +kernel) (pa_cons (pv 0) pa_nil)) (pps_cons pe_str pe_int (pps_cons pe_str pe_int (pps_cons pe_str pe_int (pps_cons pe_str (pv 1) pps_nil))))) (by rfl) (by rfl) (fun z => by cases z) (by decide)))))), ?_⟩
    refine ⟨_, rfl, a, rfl, ⟨_, hS⟩, for_list (K := K) (a := a) (xs := ns.map V.int) (fun i σ H' => ∃ (z : Int) (v : Option V), H' = H ∧ σ = [some (.ref a), some (.int z), v] ∧ 0 ≤ z ∧ z < 1000000007)
      ⟨0, none, rfl, rfl, by decide, by decide⟩ (fun i σ H' _ ⟨_, _, e, _⟩ => by rw [e]; exact hS) ?_ ?_⟩
    · rintro i y σ H' hi ⟨z, v, rfl, rfl, z0, z1⟩
      obtain ⟨u, rfl⟩ : ∃ u, y = V.int u := by
        rw [List.getElem?_map] at hi
        cases e : ns[i]? with
        | none =>
          rw [e] at hi
          cases hi
        | some u =>
          rw [e] at hi
          exact ⟨u, (Option.some.inj hi).symm⟩
      simp only [tVar, rIxTH, rIxLH, gTupH, line_le, HO.tup.injEq, HO.lst.injEq, List.length_cons, List.length_nil, at0, at1, rU, tOst, tTest, rIxL, rIxT, C8.tCut, cxOf_K, tC, tOp, tUn, tSeq, tAsg, tNext, tRet, tRetN, tDrop, tIfS, tNever, gName, gNil, gCons, gTup, gSub, tPar, rI, rI0, rU, rEq, rNe, tB, tAnd, tOr, tNot, tAndV, tOrV, tNotV, tIf, tTup, tLst, tNil, tCons, tCB, tCall, tMeth, tMake, tFld, sFld, tDGet, sDPut, tDisp, tPairs, tBreak, tCont, scal_ii, scal_bb, scal_ss, List.getElem?_cons_zero, List.getElem?_cons_succ, List.set_cons_zero, List.set_cons_succ, Option.some.injEq, exists_eq_left', exists_eq_left, exists_and_left, V.int.injEq, V.bl.injEq, V.ref.injEq, V.str.injEq, List.cons.injEq, and_true, true_and, Bool.true_eq, List.nil_append, List.append_nil, List.cons_append, exists_eq', and_self, reduceCtorEq, false_or, or_false, false_and, exists_false, exists_const, and_assoc, if_true, Bool.false_eq_true, if_false, Nat.reduceAdd, Nat.reduceLeDiff, Nat.zero_add, Nat.le_refl, forall_const, st_L_pen]
      refine ⟨wide_mul (a := 40) (b := 40) (by omega) (by decide) (by decide) (by decide) (by decide), by decide, by omega, by omega⟩
    · rintro σ H' ⟨z, v, rfl, rfl, z0, z1⟩
      simp only [tVar, rIxTH, rIxLH, gTupH, line_le, HO.tup.injEq, HO.lst.injEq, List.length_cons, List.length_nil, at0, at1, rU, tOst, tTest, rIxL, rIxT, C8.tCut, cxOf_K, tC, tOp, tUn, tSeq, tAsg, tNext, tRet, tRetN, tDrop, tIfS, tNever, gName, gNil, gCons, gTup, gSub, tPar, rI, rI0, rU, rEq, rNe, tB, tAnd, tOr, tNot, tAndV, tOrV, tNotV, tIf, tTup, tLst, tNil, tCons, tCB, tCall, tMeth, tMake, tFld, sFld, tDGet, sDPut, tDisp, tPairs, tBreak, tCont, scal_ii, scal_bb, scal_ss, List.getElem?_cons_zero, List.getElem?_cons_succ, List.set_cons_zero, List.set_cons_succ, Option.some.injEq, exists_eq_left', exists_eq_left, exists_and_left, V.int.injEq, V.bl.injEq, V.ref.injEq, V.str.injEq, List.cons.injEq, and_true, true_and, Bool.true_eq, List.nil_append, List.append_nil, List.cons_append, exists_eq', and_self, reduceCtorEq, false_or, or_false, false_and, exists_false, exists_const, and_assoc, if_true, Bool.false_eq_true, if_false, Nat.reduceAdd, Nat.reduceLeDiff, Nat.zero_add, Nat.le_refl, forall_const, st_L_pen]
      intro p hp
      refine ⟨ns.map V.int, .inl (seqL_same (same_new hp) hS), fun l hl => ⟨?_, penK l 0 0 0 z, rfl, by show 5 ≤ 15; decide, ?_⟩⟩
      · have npl : p ≠ l := fun e => by rw [e, upd_same] at hl; cases hl
        rw [upd_ne npl, upd_same]
      · have npl : p ≠ l := fun e => by rw [e, upd_same] at hl; cases hl
        have e : mergeK [] (penK l 0 0 0 z) = penK l 0 0 0 z := by unfold penK mergeK putK; simp (decide := true)
        rw [e]
        have hl0 : H' l = none := by rw [upd_ne npl.symm] at hl; exact hl
        refine k _ p l (fun b o e => ?_) hp ⟨ns, 0, 0, 0, z, upd_same, by rw [upd_ne npl.symm, upd_same], by omega, by omega, by omega, by omega, z0, by omega⟩
        rw [upd_ne (ne_of_none e hp), upd_ne (ne_of_none e hl0), upd_ne (ne_of_none e hp)]
        exact e
/-- one digit -/
def spDraw : Sp := fun vs H Q _ => ∃ (p l : Addr) (c m : Int), vs = [.ref p, .int m] ∧ PenAt H p l c ∧ c < 1000000000000 ∧ 0 < m ∧ m.natAbs < 2 ^ 9000 ∧
  ∀ H' r, Ext p H H' → PenAt H' p l (c + 1) → 0 ≤ r → r < m → Q (.int r) H'
abbrev N_L_draw : List Str := ["_law_pen_here", "_law_many", "_law_cell", "_law_digit", "_law_mixed"]
theorem sc_L_draw : FnScope N_L_draw ["_law_pen_here", "_law_many"] (defScope s_L_draw) := ⟨rfl, rfl, rfl, by decide +kernel, rfl, by decide +kernel, by decide +kernel⟩
theorem st_L_draw {v0 v1 : V} : L2.start N_L_draw [v0, v1] = [some v0, some v1, none, none, none] := rfl
theorem ok_L_draw {f : Addr} {fd : FuncData} (F : FD K s_L_draw "_law_draw" "_law_draw" f fd) (z_int : mg "int" = none) (z_len : mg "len" = none) : FnOk P w K mg base (L2.CX P w) 1 f fd ["_law_pen_here", "_law_many"] (spDraw) := by
  have nd := sc_L_draw.nd
  refine F.ok0 sc_L_draw (fun vs H Q E h => ?_) (fun cdv A outer s H vs Q E hr h => ?_)
  · obtain ⟨p, l, c, m, rfl, _⟩ := h
    rfl
  · obtain ⟨p, l, c, m, rfl, ⟨cs, i, d, n, f, hp, hl, hi, hd, hn, hnc, hf, hf2⟩, hc, hm, hm2, k⟩ := h
    have nlp : l ≠ p := fun e => by rw [e, hp] at hl; cases hl
    refine ⟨_, (pss_cons (ps_dput (hu_of hr) (pv 0) pe_str (pe_op op_add (pe_dget (hu_of hr) (pv 0) pe_str (fun _ _ => rfl)) pe_int) rfl)
        (C8.pss_cut (ps_if (PW.pt (pw_and (pt_cmpR op_eq (pe_dget (hu_of hr) (pv 0) pe_str (fun _ _ => rfl)) pe_int (nomark _)) (pw_and1 (pt_cmpR op_lt (pe_dget (hu_of hr) (pv 0) pe_str (fun _ _ => rfl)) (pe_callB call_len_seq (by rfl) z_len (by decide +kernel) (pa_cons (pe_dget (hu_of hr) (pv 0) pe_str (fun _ _ => rfl)) pa_nil)) (nomark _))))) (pss_cons (ps_set (i := 2) nd rfl (Or.inl rfl) (pe_ix ix_list (pe_dget (hu_of hr) (pv 0) pe_str (fun _ _ => rfl)) (pe_dget (hu_of hr) (pv 0) pe_str (fun _ _ => rfl)) (fun _ _ => rfl)))
        (pss_cons (ps_dput (hu_of hr) (pv 0) pe_str (pe_op op_add (pe_dget (hu_of hr) (pv 0) pe_str (fun _ _ => rfl)) pe_int) rfl)
        (pss_one (ps_if (pt_cmpR op_ge (pv 2) (pe_op op_pow pe_int pe_int) (nomark _)) (pss_one (ps_dput (hu_of hr) (pv 0) pe_str (pe_op op_sub (pv 2) (pe_op op_pow pe_int pe_int)) rfl)) (pss_one (ps_dput (hu_of hr) (pv 0) pe_str (pe_op op_mod (pe_callTy call_int1 (by rfl) z_int (by decide +kernel) (pa_cons (pe_op op_add (pe_op op_mulW (pe_dget (hu_of hr) (pv 0) pe_str (fun _ _ => rfl)) pe_int) (pv 2)) pa_nil)) pe_int) rfl)))))) pss_nil)
        (pss_cons (ps_if (pt_cmpR op_gt (pe_dget (hu_of hr) (pv 0) pe_str (fun _ _ => rfl)) pe_int (nomark _)) (pss_cons (ps_set (i := 3) nd rfl (Or.inl rfl) (pe_op op_mod (pe_callTy call_int1 (by rfl) z_int (by decide +kernel) (pa_cons (pe_dget (hu_of hr) (pv 0) pe_str (fun _ _ => rfl)) pa_nil)) (pv 1)))
        (pss_cons (ps_dput (hu_of hr) (pv 0) pe_str (pe_op op_fdivW (pe_dget (hu_of hr) (pv 0) pe_str (fun _ _ => rfl)) (pv 1)) rfl)
        (pss_one (ps_ret (pv 3))))) pss_nil)
        (pss_cons (ps_set (i := 4) nd rfl (Or.inl rfl) (pe_op op_add (pe_op op_add (pe_dget (hu_of hr) (pv 0) pe_str (fun _ _ => rfl)) (pe_op op_mulW (pe_dget (hu_of hr) (pv 0) pe_str (fun _ _ => rfl)) pe_int)) pe_int))
        (pss_one (ps_ret (pe_op op_mod (pe_op op_fdivW (pe_callTy call_int1 (by rfl) z_int (by decide +kernel) (pa_cons (pe_op op_mod (pe_op op_pow (pv 4) pe_int) pe_int) pa_nil)) pe_int) (pv 1)))))))), ?_⟩
    simp only [tVar, rIxTH, rIxLH, gTupH, line_le, HO.tup.injEq, HO.lst.injEq, List.length_cons, List.length_nil, at0, at1, rU, tOst, tTest, rIxL, rIxT, C8.tCut, cxOf_K, tC, tOp, tUn, tSeq, tAsg, tNext, tRet, tRetN, tDrop, tIfS, tNever, gName, gNil, gCons, gTup, gSub, tPar, rI, rI0, rU, rEq, rNe, tB, tAnd, tOr, tNot, tAndV, tOrV, tNotV, tIf, tTup, tLst, tNil, tCons, tCB, tCall, tMeth, tMake, tFld, sFld, tDGet, sDPut, tDisp, tPairs, tBreak, tCont, scal_ii, scal_bb, scal_ss, List.getElem?_cons_zero, List.getElem?_cons_succ, List.set_cons_zero, List.set_cons_succ, Option.some.injEq, exists_eq_left', exists_eq_left, exists_and_left, V.int.injEq, V.bl.injEq, V.ref.injEq, V.str.injEq, List.cons.injEq, and_true, true_and, Bool.true_eq, List.nil_append, List.append_nil, List.cons_append, exists_eq', and_self, reduceCtorEq, false_or, or_false, false_and, exists_false, exists_const, and_assoc, if_true, Bool.false_eq_true, if_false, Nat.reduceAdd, Nat.reduceLeDiff, Nat.zero_add, Nat.le_refl, forall_const, st_L_draw]
    refine ⟨_, dg_count hp, n, rfl, _, dp_count hp, fun σ' H' => ∃ (d' i' f' : Int) (v2 v3 v4 : Option V), σ' = [some (.ref p), some (.int m), v2, v3, v4] ∧ H' p = some (.dK (penK l i' d' (n + 1) f')) ∧ Ext p H H' ∧ 0 ≤ i' ∧ 0 ≤ d' ∧ 0 ≤ f' ∧ f' < 2147483587, ?_, ?_⟩
    · have hp1 : upd H p (.dK (penK l i d (n + 1) f)) p = some (.dK (penK l i d (n + 1) f)) := upd_same
      have hE : Ext p H (upd H p (.dK (penK l i d (n + 1) f))) := fun b o nb e => by rw [upd_ne nb]; exact e
      generalize upd H p (.dK (penK l i d (n + 1) f)) = H1 at hp1 hE
      have hl1 := hE _ _ nlp hl
      refine ⟨_, dg_digits hp1, rfl, ?_⟩
      have same : ∃ (d' i' f' : Int) (v2 v3 v4 : Option V), [some (V.ref p), some (V.int m), none, none, none] = [some (V.ref p), some (V.int m), v2, v3, v4] ∧ H1 p = some (.dK (penK l i' d' (n + 1) f')) ∧ Ext p H H1 ∧ 0 ≤ i' ∧ 0 ≤ d' ∧ 0 ≤ f' ∧ f' < 2147483587 :=
        ⟨d, i, f, none, none, none, rfl, hp1, hE, hi, hd, hf, hf2⟩
      refine ite2 (fun _ => ?_) (fun _ => same)
      refine ⟨_, dg_at hp1, _, dg_cells hp1, l, rfl, cs.map V.int, .inl (SqL.of hl1), i, rfl, ?_⟩
      refine ite2 (fun hlt => ?_) (fun _ => same)
      have hlt2 : i < ((cs.map V.int).length : Int) := of_decide_eq_true hlt
      obtain ⟨u, hu⟩ : ∃ u, cs[i.toNat]? = some u := ⟨_, List.getElem?_eq_getElem (by rw [List.length_map] at hlt2; omega)⟩
      refine ⟨_, dg_cells hp1, _, dg_at hp1, l, rfl, cs.map V.int, i, rfl, SqL.of hl1, .int u, at_of (j := i.toNat) (by omega) (by rw [List.getElem?_map, hu]; rfl), ?_⟩
      refine ⟨_, dg_at hp1, i, rfl, _, dp_at hp1, ?_⟩
      have hp2 : upd H1 p (.dK (penK l (i + 1) d (n + 1) f)) p = some (.dK (penK l (i + 1) d (n + 1) f)) := upd_same
      have hE2 : Ext p H (upd H1 p (.dK (penK l (i + 1) d (n + 1) f))) := fun b o nb e => by rw [upd_ne nb]; exact hE b o nb e
      generalize upd H1 p (.dK (penK l (i + 1) d (n + 1) f)) = H2 at hp2 hE2
      refine ⟨⟨by decide, by decide, by decide⟩, u, rfl, ?_⟩
      refine ite2 (fun hge => ?_) (fun _ => ?_)
      · have hge2 := of_decide_eq_true hge
        refine ⟨⟨by decide, by decide, by decide⟩, u, rfl, _, dp_digits hp2, ?_⟩
        refine ⟨u - 10 ^ (18 : Int).toNat, i + 1, f, _, _, _, rfl, upd_same, fun b o nb e => by rw [upd_ne nb]; exact hE2 b o nb e, by omega, by omega, hf, hf2⟩
      · refine ⟨_, dg_fold hp2, f, rfl, wide_mul (a := 40) (b := 40) (by omega) (by decide) (by decide) (by decide) (by decide), u, rfl, by decide, _, dp_fold hp2, ?_⟩
        refine ⟨d, i + 1, _, _, _, _, rfl, upd_same, fun b o nb e => by rw [upd_ne nb]; exact hE2 b o nb e, by omega, hd, by omega, by omega⟩
    · rintro σ' H' ⟨d', i', f', v2, v3, v4, rfl, hp', hE, hi', hd', hf', hf2'⟩
      have hl' := hE _ _ nlp hl
      simp only [tVar, rIxTH, rIxLH, gTupH, line_le, HO.tup.injEq, HO.lst.injEq, List.length_cons, List.length_nil, at0, at1, rU, tOst, tTest, rIxL, rIxT, C8.tCut, cxOf_K, tC, tOp, tUn, tSeq, tAsg, tNext, tRet, tRetN, tDrop, tIfS, tNever, gName, gNil, gCons, gTup, gSub, tPar, rI, rI0, rU, rEq, rNe, tB, tAnd, tOr, tNot, tAndV, tOrV, tNotV, tIf, tTup, tLst, tNil, tCons, tCB, tCall, tMeth, tMake, tFld, sFld, tDGet, sDPut, tDisp, tPairs, tBreak, tCont, scal_ii, scal_bb, scal_ss, List.getElem?_cons_zero, List.getElem?_cons_succ, List.set_cons_zero, List.set_cons_succ, Option.some.injEq, exists_eq_left', exists_eq_left, exists_and_left, V.int.injEq, V.bl.injEq, V.ref.injEq, V.str.injEq, List.cons.injEq, and_true, true_and, Bool.true_eq, List.nil_append, List.append_nil, List.cons_append, exists_eq', and_self, reduceCtorEq, false_or, or_false, false_and, exists_false, exists_const, and_assoc, if_true, Bool.false_eq_true, if_false, Nat.reduceAdd, Nat.reduceLeDiff, Nat.zero_add, Nat.le_refl, forall_const, st_L_draw]
      refine ⟨_, dg_digits hp', d', rfl, ?_⟩
      refine ite2 (fun hpos => ?_) (fun hneg => ?_)
      · have hpos2 := of_decide_eq_true hpos
        refine ⟨_, dg_digits hp', .inl ⟨d', rfl, hm, ?_⟩⟩
        refine ⟨_, dg_digits hp', d', rfl, ⟨hm, HwM.log2_lt (by decide) hm2⟩, _, dp_digits hp', ?_⟩
        refine k _ _ (fun b o nb e => by rw [upd_ne nb]; exact hE b o nb e) ⟨cs, i', d' / m, n + 1, f', upd_same, by rw [upd_ne nlp]; exact hl', hi', Int.ediv_nonneg hd' (by omega), by omega, by omega, hf', hf2'⟩ (Int.emod_nonneg _ (by omega)) (Int.emod_lt_of_pos _ hm)
      · refine ⟨_, dg_fold hp', _, dg_count hp', n + 1, rfl, wide_mul (a := 60) (b := 40) (by omega) (by decide) (by decide) (by decide) (by decide), f', rfl, ⟨by decide, by decide, by omega⟩, by decide, ?_⟩
        refine ⟨⟨by decide, by decide⟩, hm, ?_⟩
        refine k _ _ hE ⟨cs, i', d', n + 1, f', hp', hl', hi', hd', by omega, by omega, hf', hf2'⟩ (Int.emod_nonneg _ (by omega)) (Int.emod_lt_of_pos _ hm)


end HwL
end

section
namespace HwL
open PySem PySem.Spec PyProof.Rows L2 LamX HwT
variable {P : Program} {w : World} {K : PySem.W.Frag} {mg : Str → Option Value} {base : Heap}

/-! ### kinds of values -/
/-- what the text says of the class Ratio, at C -/
structure RatC (K : PySem.W.Frag) (C : Addr) : Prop where
  cl : Cls K C
  nt : NoAttr K C "top"
  nb : NoAttr K C "bottom"
  ha : PySem.W.findIn K (.ref C) "__class__" = some (some (.builtin "object.__class__"))
  hn : PySem.W.specialIn K (.builtin "object.__class__") "__get__" = some (some (.builtin "getset_descriptor.__get__"))
  htk : PySem.W.takesIn K (.builtin "object.__class__") = some true
  hm : PySem.W.mroIn K C (.type "object") = some true
  kI : PySem.W.kitOne K (.ref C) (.type "int") = some false
  kB : PySem.W.kitOne K (.ref C) (.type "bool") = some false
  ki : PySem.W.kitOne K (.type "int") (.ref C) = some false
  kb : PySem.W.kitOne K (.type "bool") (.ref C) = some false
  ks : PySem.W.kitOne K (.type "str") (.ref C) = some false
  kn : PySem.W.kitOne K (.type "NoneType") (.ref C) = some false
  kt : PySem.W.kitOne K (.type "tuple") (.ref C) = some false
  kl : PySem.W.kitOne K (.type "list") (.ref C) = some false
  ni : PySem.W.notFirst K C (.type "int") = true
  nbo : PySem.W.notFirst K C (.type "bool") = true
  ns : PySem.W.notFirst K C (.type "str") = true
  nn : PySem.W.notFirst K C (.type "NoneType") = true
  ntu : PySem.W.notFirst K C (.type "tuple") = true
  nl : PySem.W.notFirst K C (.type "list") = true
/-- x's kind: its type t; whether it is an integer, a Ratio -/
structure Ty (K : PySem.W.Frag) (C : Addr) (H : Hp) (x : V) (isI isR : Bool) : Prop where
  ex : ∃ (t : Value) (bI bB : Bool), TyX K H x t ∧ PySem.W.kitOne K t (.type "int") = some bI ∧ PySem.W.kitOne K t (.type "bool") = some bB ∧ isI = (bI && !bB) ∧ PySem.W.kitOne K t (.ref C) = some isR ∧ PySem.W.notFirst K C t = true
/-- an object of class Ratio that is q -/
def ratF (q : Rat) : List (Str × V) := [("top", .int q.num), ("bottom", .int (q.den : Int))]
def IsR (C : Addr) (H : Hp) (x : V) (q : Rat) : Prop := ∃ a dx, x = .ref a ∧ H a = some (.ins C dx (ratF q))
/-- q as an object or an integer -/
def AsR (C : Addr) (H : Hp) (x : V) (q : Rat) : Prop := IsR C H x q ∨ ∃ i : Int, x = .int i ∧ q = (i : Rat)
theorem IsR.same {C : Addr} {H H' : Hp} {x : V} {q : Rat} (h : IsR C H x q) (e : Same H H') : IsR C H' x q := by
  obtain ⟨a, dx, h1, h2⟩ := h
  exact ⟨a, dx, h1, e _ _ h2⟩
theorem AsR.same {C : Addr} {H H' : Hp} {x : V} {q : Rat} (h : AsR C H x q) (e : Same H H') : AsR C H' x q := h.elim (fun h => .inl (h.same e)) .inr
theorem IsR.inst {C : Addr} {H : Hp} {x : V} {q : Rat} (h : IsR C H x q) : Inst H C x := by
  obtain ⟨a, dx, h1, h2⟩ := h
  exact ⟨a, dx, _, h1, h2⟩
theorem AsR.arg {C : Addr} {H : Hp} {x : V} {q : Rat} (h : AsR C H x q) : (∃ i, x = .int i) ∨ Inst H C x := by
  rcases h with h | ⟨i, h, _⟩
  · exact .inr h.inst
  · exact .inl ⟨i, h⟩
theorem ratF_top (q : Rat) : (ratF q).lookup ("top" : Str) = some (V.int q.num) := by unfold ratF; simp (decide := true) [List.lookup]
theorem ratF_bottom (q : Rat) : (ratF q).lookup ("bottom" : Str) = some (V.int (q.den : Int)) := by
  have e : (("bottom" : Str) == ("top" : Str)) = false := by decide
  unfold ratF
  simp [List.lookup, e]
theorem ratF_no (q : Rat) {m : Str} (h1 : (m == ("top" : Str)) = false) (h2 : (m == ("bottom" : Str)) = false) : (ratF q).lookup m = none := by unfold ratF; simp [List.lookup, h1, h2]
theorem ratF_put (t b : Int) (q : Rat) (h1 : t = q.num) (h2 : b = (q.den : Int)) : putF "bottom" (.int b) (putF "top" (.int t) []) = ratF q := by
  subst h1 h2
  unfold ratF putF
  simp (decide := true) [putF]
section
variable {K : PySem.W.Frag} {C : Addr} {H : Hp} (R : RatC K C)
include R
theorem ty_rat {x : V} (h : Inst H C x) : Ty K C H x false true := by
  obtain ⟨a, dx, fs, rfl, e⟩ := h
  exact ⟨.ref C, false, false, .base (.ins e R.cl R.ha R.hn R.htk R.hm), R.kI, R.kB, rfl, by unfold PySem.W.kitOne; simp, by unfold PySem.W.notFirst; simp⟩
theorem ty_int (i : Int) : Ty K C H (.int i) true false := ⟨.type "int", true, false, .base (.int i), kit_ty (by decide +kernel), kit_ty (by decide +kernel), rfl, R.ki, R.ni⟩
theorem ty_bl (b : Bool) : Ty K C H (.bl b) false false := ⟨.type "bool", true, true, .base (.bl b), kit_ty (by decide +kernel), kit_ty (by decide +kernel), rfl, R.kb, R.nbo⟩
theorem ty_str (x : Str) : Ty K C H (.str x) false false := ⟨.type "str", false, false, .base (.str x), kit_ty (by decide +kernel), kit_ty (by decide +kernel), rfl, R.ks, R.ns⟩
theorem ty_non : Ty K C H .non false false := ⟨.type "NoneType", false, false, .base .non, kit_ty (by decide +kernel), kit_ty (by decide +kernel), rfl, R.kn, R.nn⟩
theorem ty_tup {a : Addr} {xs : List V} (e : H a = some (.tup xs)) : Ty K C H (.ref a) false false := ⟨.type "tuple", false, false, .base (.tup e), kit_ty (by decide +kernel), kit_ty (by decide +kernel), rfl, R.kt, R.ntu⟩
theorem ty_lst {a : Addr} {xs : List V} (e : H a = some (.lst xs)) : Ty K C H (.ref a) false false := ⟨.type "list", false, false, .base (.lst e), kit_ty (by decide +kernel), kit_ty (by decide +kernel), rfl, R.kl, R.nl⟩
theorem ty_as {x : V} {q : Rat} (h : AsR C H x q) : ∃ i r, Ty K C H x i r ∧ (r || i) = true := by
  rcases h with h | ⟨i, rfl, _⟩
  · exact ⟨_, _, ty_rat R h.inst, rfl⟩
  · exact ⟨_, _, ty_int R i, rfl⟩
end
theorem ratB_ok {K : PySem.W.Frag} {C : Addr} (cl : Cls K C) (nt : NoAttr K C "top") (nb : NoAttr K C "bottom") (h : ratB K C = true) : RatC K C := by
  obtain ⟨_, h⟩ := He.ba h
  obtain ⟨h1, h⟩ := He.ba h
  obtain ⟨h2, h⟩ := He.ba h
  obtain ⟨h3, h⟩ := He.ba h
  obtain ⟨h4, h⟩ := He.ba h
  obtain ⟨h5, h⟩ := He.ba h
  obtain ⟨h6, h7⟩ := He.ba h
  have a5 := List.all_eq_true.mp h5
  have a6 := List.all_eq_true.mp h6
  have a7 := List.all_eq_true.mp h7
  exact ⟨cl, nt, nb, He.eqO_ok h1, He.eqO_ok h2, of_decide_eq_true h3, of_decide_eq_true h4, of_decide_eq_true (a5 _ (by decide)), of_decide_eq_true (a5 _ (by decide)), of_decide_eq_true (a6 _ (by decide)), of_decide_eq_true (a6 _ (by decide)), of_decide_eq_true (a6 _ (by decide)), of_decide_eq_true (a6 _ (by decide)), of_decide_eq_true (a6 _ (by decide)), of_decide_eq_true (a6 _ (by decide)), a7 _ (by decide), a7 _ (by decide), a7 _ (by decide), a7 _ (by decide), a7 _ (by decide), a7 _ (by decide)⟩


end HwL
end

section
namespace HwL
open PySem PySem.Spec PyProof.Rows L2 LamX HwT
variable {P : Program} {w : World} {K : PySem.W.Frag} {mg : Str → Option Value} {base : Heap}

/-! ### the package's errors and ratios -/
abbrev N_BadNumberD_initD : List Str := ["self", "what", "number"]
theorem sc_BadNumberD_initD : FnScope N_BadNumberD_initD ["self", "what", "number"] (defScope s_BadNumberD_initD) := ⟨rfl, rfl, rfl, by decide +kernel, rfl, by decide +kernel, by decide +kernel⟩
theorem st_BadNumberD_initD {v0 v1 v2 : V} : L2.start N_BadNumberD_initD [v0, v1, v2] = [some v0, some v1, some v2] := rfl
theorem ok_BadNumberD_initD {f : Addr} {fd : FuncData} (F : FD K s_BadNumberD_initD "__init__" "BadNumber.__init__" f fd) {C_BadNumber : Addr} (TX : OexC K C_BadNumber) (n1 : PySem.W.findIn K (.ref C_BadNumber) "what" = some none) (n2 : PySem.W.findIn K (.ref C_BadNumber) "number" = some none) : FnOk P w K mg base (L2.CX P w) 1 f fd ["self", "what", "number"] (spX2 C_BadNumber "what" "number") := by
  have nd := sc_BadNumberD_initD.nd
  refine F.ok0 sc_BadNumberD_initD (fun vs H Q E h => ?_) (fun cdv A outer s H vs Q E hr h => ?_)
  · obtain ⟨a, x, y, rfl, _⟩ := h
    rfl
  · obtain ⟨a, x, y, rfl, ha, k⟩ := h
    refine ⟨_, (pss_cons (ps_ost (pv 0) (pv 1))
        (pss_one (ps_ost (pv 0) (pv 2)))), ?_⟩
    simp only [tVar, rIxTH, rIxLH, gTupH, line_le, HO.tup.injEq, HO.lst.injEq, List.length_cons, List.length_nil, at0, at1, rU, tOst, tTest, rIxL, rIxT, C8.tCut, cxOf_K, tC, tOp, tUn, tSeq, tAsg, tNext, tRet, tRetN, tDrop, tIfS, tNever, gName, gNil, gCons, gTup, gSub, tPar, rI, rI0, rU, rEq, rNe, tB, tAnd, tOr, tNot, tAndV, tOrV, tNotV, tIf, tTup, tLst, tNil, tCons, tCB, tCall, tMeth, tMake, tFld, sFld, tDGet, sDPut, tDisp, tPairs, tBreak, tCont, scal_ii, scal_bb, scal_ss, List.getElem?_cons_zero, List.getElem?_cons_succ, List.set_cons_zero, List.set_cons_succ, Option.some.injEq, exists_eq_left', exists_eq_left, exists_and_left, V.int.injEq, V.bl.injEq, V.ref.injEq, V.str.injEq, List.cons.injEq, and_true, true_and, Bool.true_eq, List.nil_append, List.append_nil, List.cons_append, exists_eq', and_self, reduceCtorEq, false_or, or_false, false_and, exists_false, exists_const, and_assoc, if_true, Bool.false_eq_true, if_false, Nat.reduceAdd, Nat.reduceLeDiff, Nat.zero_add, Nat.le_refl, forall_const, st_BadNumberD_initD]
    refine ⟨C_BadNumber, TX, n1, .inl ⟨ha, fun d hd hda => ?_⟩⟩
    refine ⟨C_BadNumber, TX, n2, .inr ⟨d, upd_same, [("what", x)], by rw [upd_ne hda, upd_same], by show 1 ≤ 900; decide, ?_⟩⟩
    exact k d hd hda
/-- what is wished where a bottom is 0 -/
def Bot0 (CB : Addr) (H : Hp) (E : XK) : Prop := ∀ H' d, Same H H' → H' d = some (.xd [("number", .int 0), ("what", .str "bottom")]) → E (.ref CB) (some d) H'
/-- Ratio(t, b): in lowest terms -/
def spInit (C CB : Addr) : Sp := fun vs H Q E => ∃ (p dx : Addr) (t b : Int), vs = [.ref p, .int t, .int b] ∧ H p = some (.ins C dx []) ∧ t.natAbs < 2 ^ 13500 ∧ b.natAbs < 2 ^ 13500 ∧
  (b ≠ 0 → Q .non (upd H p (.ins C dx (ratF (Rat.divInt t b))))) ∧ (b = 0 → Bot0 CB H E)
abbrev N_RatioD_initD : List Str := ["self", "top", "bottom", "common"]
theorem sc_RatioD_initD : FnScope N_RatioD_initD ["self", "top", "bottom"] (defScope s_RatioD_initD) := ⟨rfl, rfl, rfl, by decide +kernel, rfl, by decide +kernel, by decide +kernel⟩
theorem st_RatioD_initD {v0 v1 v2 : V} : L2.start N_RatioD_initD [v0, v1, v2] = [some v0, some v1, some v2, none] := rfl
theorem ok_RatioD_initD {f : Addr} {fd : FuncData} (F : FunD K "__init__" "Ratio.__init__" (defArgs s_RatioD_initD) (defBody s_RatioD_initD) (defScope s_RatioD_initD) [.int 1] [] f fd) {C_Ratio : Addr} (R : RatC K C_Ratio) (m_gcd : mg "gcd" = some (.builtin "math.gcd")) (g_BadNumber : Xf P w K mg base "BadNumber" C_BadNumber 1 (spX2 C_BadNumber "what" "number")) : FnOk P w K mg base (L2.CX P w) 3 f fd ["self", "top", "bottom"] (spInit C_Ratio C_BadNumber) := by
  have nd := sc_RatioD_initD.nd
  refine F.okX sc_RatioD_initD (fun vs H Q E h => ?_) (fun cdv A outer s H vs Q E hr h => ?_)
  · obtain ⟨p, dx, t, b, rfl, _⟩ := h
    rfl
  · obtain ⟨p, dx, t, b, rfl, hp, ht, hb, k, ke⟩ := h
    refine ⟨_, (pss_cons (ps_if (pt_cmpR op_eq (pv 2) pe_int (nomark _)) (pss_one (ps_raiseX g_BadNumber hr (by decide) rfl (takes_of rfl rfl rfl rfl) rfl (pa_cons pe_str (pa_cons pe_int pa_nil)))) pss_nil)
        (pss_cons (ps_set (i := 3) nd rfl (Or.inl rfl) (pe_callBfun cr_gcd rfl m_gcd (pa_cons (pv 1) (pa_cons (pv 2) pa_nil))))
        (C8.pss_cut (ps_if (pt_cmpR op_lt (pv 2) pe_int (nomark _)) (pss_one (ps_set (i := 3) nd rfl (Or.inl rfl) (pe_un un_neg (pv 3)))) pss_nil)
        (pss_cons (ps_fld (pv 0) (pe_op op_fdivB (pv 1) (pv 3)) rfl)
        (pss_one (ps_fld (pv 0) (pe_op op_fdivB (pv 2) (pv 3)) rfl)))))), ?_⟩
    simp only [tVar, rIxTH, rIxLH, gTupH, line_le, HO.tup.injEq, HO.lst.injEq, List.length_cons, List.length_nil, at0, at1, rU, tOst, tTest, rIxL, rIxT, C8.tCut, cxOf_K, tC, tOp, tUn, tSeq, tAsg, tNext, tRet, tRetN, tDrop, tIfS, tNever, gName, gNil, gCons, gTup, gSub, tPar, rI, rI0, rU, rEq, rNe, tB, tAnd, tOr, tNot, tAndV, tOrV, tNotV, tIf, tTup, tLst, tNil, tCons, tCB, tCall, tMeth, tMake, tFld, sFld, tDGet, sDPut, tDisp, tPairs, tBreak, tCont, scal_ii, scal_bb, scal_ss, List.getElem?_cons_zero, List.getElem?_cons_succ, List.set_cons_zero, List.set_cons_succ, Option.some.injEq, exists_eq_left', exists_eq_left, exists_and_left, V.int.injEq, V.bl.injEq, V.ref.injEq, V.str.injEq, List.cons.injEq, and_true, true_and, Bool.true_eq, List.nil_append, List.append_nil, List.cons_append, exists_eq', and_self, reduceCtorEq, false_or, or_false, false_and, exists_false, exists_const, and_assoc, if_true, Bool.false_eq_true, if_false, Nat.reduceAdd, Nat.reduceLeDiff, Nat.zero_add, Nat.le_refl, forall_const, st_RatioD_initD, rGcd, tMkO, CDivB, upd_same]
    refine ite2 (fun hb0 => ?_) (fun hb0 => ?_)
    · have hb1 : b = 0 := by simpa using hb0
      refine fun a ha => ⟨a, _, _, rfl, upd_same, fun d hd hda => ⟨rfl, x2_made ha (by rw [upd_ne hda] at hd; exact hd) hda fun H2 e1 e2 => ke hb1 H2 d e1 e2⟩⟩
    · have hb1 : b ≠ 0 := by simpa using hb0
      refine ⟨fun σ' H' => H' = H ∧ σ' = [some (.ref p), some (.int t), some (.int b), some (.int (if b < 0 then -((Nat.gcd t.natAbs b.natAbs : Nat) : Int) else ((Nat.gcd t.natAbs b.natAbs : Nat) : Int)))], ?_, ?_⟩
      · by_cases hn : b < 0
        · simp only [hn, decide_true, if_true]
          exact ⟨trivial, trivial⟩
        · simp only [hn, decide_false, if_false, Bool.false_eq_true]
          exact ⟨trivial, trivial⟩
      · rintro σ' H' ⟨rfl, rfl⟩
        simp only [tVar, rIxTH, rIxLH, gTupH, line_le, HO.tup.injEq, HO.lst.injEq, List.length_cons, List.length_nil, at0, at1, rU, tOst, tTest, rIxL, rIxT, C8.tCut, cxOf_K, tC, tOp, tUn, tSeq, tAsg, tNext, tRet, tRetN, tDrop, tIfS, tNever, gName, gNil, gCons, gTup, gSub, tPar, rI, rI0, rU, rEq, rNe, tB, tAnd, tOr, tNot, tAndV, tOrV, tNotV, tIf, tTup, tLst, tNil, tCons, tCB, tCall, tMeth, tMake, tFld, sFld, tDGet, sDPut, tDisp, tPairs, tBreak, tCont, scal_ii, scal_bb, scal_ss, List.getElem?_cons_zero, List.getElem?_cons_succ, List.set_cons_zero, List.set_cons_succ, Option.some.injEq, exists_eq_left', exists_eq_left, exists_and_left, V.int.injEq, V.bl.injEq, V.ref.injEq, V.str.injEq, List.cons.injEq, and_true, true_and, Bool.true_eq, List.nil_append, List.append_nil, List.cons_append, exists_eq', and_self, reduceCtorEq, false_or, or_false, false_and, exists_false, exists_const, and_assoc, if_true, Bool.false_eq_true, if_false, Nat.reduceAdd, Nat.reduceLeDiff, Nat.zero_add, Nat.le_refl, forall_const, st_RatioD_initD, CDivB, upd_same]
        refine ⟨HwM.gcd_ne hb1, ht, _, _, _, hp, R.cl, R.nt, by decide, HwM.gcd_ne hb1, hb, _, _, _, rfl, R.cl, R.nb, by show 1 < 1000; decide, ?_⟩
        rw [upd_upd, HwM.num_fdiv hb1, HwM.den_fdiv hb1, ratF_put _ _ (Rat.divInt t b) rfl rfl]
        exact k hb1
theorem made_rat {C CB : Addr} {H : Hp} {t b : Int} {Q : VK} {E : XK} (ht : t.natAbs < 2 ^ 13500) (hb : b.natAbs < 2 ^ 13500) (k : b ≠ 0 → ∀ H' x, Same H H' → IsR C H' x (Rat.divInt t b) → Q x H') (ke : b = 0 → Bot0 CB H E) (x dx : Addr) (hx : H x = none) (hd : H dx = none) (hne : dx ≠ x) :
    spInit C CB [.ref x, .int t, .int b] (upd (upd H dx (.own x)) x (.ins C dx [])) (fun v H2 => v = .non ∧ Q (.ref x) H2) E := by
  have sm : Same H (upd (upd H dx (.own x)) x (.ins C dx [])) := fun c o e => by rw [upd_ne (ne_of_none e hx), upd_ne (ne_of_none e hd)]; exact e
  refine ⟨x, dx, t, b, rfl, upd_same, ht, hb, fun h => ⟨rfl, k h _ _ (fun c o e => ?_) ⟨x, dx, rfl, upd_same⟩⟩, fun h H' d e1 e2 => ke h H' d (sm.trans e1) e2⟩
  rw [upd_ne (ne_of_none e hx)]
  exact sm _ _ e
def spIsInt (K : PySem.W.Frag) (C : Addr) : Sp := fun vs H Q _ => ∃ (x : V) (i r : Bool), vs = [x] ∧ Ty K C H x i r ∧ Q (.bl i) H
abbrev N_is_integer : List Str := ["value"]
theorem sc_is_integer : FnScope N_is_integer ["value"] (defScope s_is_integer) := ⟨rfl, rfl, rfl, by decide +kernel, rfl, by decide +kernel, by decide +kernel⟩
theorem st_is_integer {v0 : V} : L2.start N_is_integer [v0] = [some v0] := rfl
theorem ok_is_integer {f : Addr} {fd : FuncData} (F : FD K s_is_integer "is_integer" "is_integer" f fd) {C_Ratio : Addr} (z_isinstance : mg "isinstance" = none) (z_bool : mg "bool" = none) (z_int : mg "int" = none) : FnOk P w K mg base (L2.CX P w) 1 f fd ["value"] (spIsInt K C_Ratio) := by
  have nd := sc_is_integer.nd
  refine F.ok0 sc_is_integer (fun vs H Q E h => ?_) (fun cdv A outer s H vs Q E hr h => ?_)
  · obtain ⟨x, i, r, rfl, _⟩ := h
    rfl
  · obtain ⟨x, i, r, rfl, hT, k⟩ := h
    obtain ⟨t, bI, bB, ty, e1, e2, rfl, e3, nf⟩ := hT.ex
    refine ⟨_, (pss_one (ps_ret (pe_and (pe_callB (id := "isinstance") (r := rIsi K) (call_isiE rfl) (by rfl) z_isinstance (by decide +kernel) (pa_cons (pv 0) (pa_cons (pe_bltn (v := .ty "int") rfl z_int (by decide +kernel) rfl) pa_nil))) (pe_one (pe_not (pe_callB (id := "isinstance") (r := rIsi K) (call_isiE rfl) (by rfl) z_isinstance (by decide +kernel) (pa_cons (pv 0) (pa_cons (pe_bltn (v := .ty "bool") rfl z_bool (by decide +kernel) rfl) pa_nil)))))))), ?_⟩
    simp only [tVar, rIxTH, rIxLH, gTupH, line_le, HO.tup.injEq, HO.lst.injEq, List.length_cons, List.length_nil, at0, at1, rU, tOst, tTest, rIxL, rIxT, C8.tCut, cxOf_K, tC, tOp, tUn, tSeq, tAsg, tNext, tRet, tRetN, tDrop, tIfS, tNever, gName, gNil, gCons, gTup, gSub, tPar, rI, rI0, rU, rEq, rNe, tB, tAnd, tOr, tNot, tAndV, tOrV, tNotV, tIf, tTup, tLst, tNil, tCons, tCB, tCall, tMeth, tMake, tFld, sFld, tDGet, sDPut, tDisp, tPairs, tBreak, tCont, scal_ii, scal_bb, scal_ss, List.getElem?_cons_zero, List.getElem?_cons_succ, List.set_cons_zero, List.set_cons_succ, Option.some.injEq, exists_eq_left', exists_eq_left, exists_and_left, V.int.injEq, V.bl.injEq, V.ref.injEq, V.str.injEq, List.cons.injEq, and_true, true_and, Bool.true_eq, List.nil_append, List.append_nil, List.cons_append, exists_eq', and_self, reduceCtorEq, false_or, or_false, false_and, exists_false, exists_const, and_assoc, if_true, Bool.false_eq_true, if_false, Nat.reduceAdd, Nat.reduceLeDiff, Nat.zero_add, Nat.le_refl, forall_const, st_is_integer, rIsi]
    refine ⟨t, .type "int", .ty _, ty, bI, e1, ?_⟩
    cases bI with
    | true => exact iteT ⟨t, .type "bool", .ty _, ty, bB, e2, by simpa using k⟩
    | false => exact iteF (by simpa using k)
def spIsRat (K : PySem.W.Frag) (C : Addr) : Sp := fun vs H Q _ => ∃ (x : V) (i r : Bool), vs = [x] ∧ Ty K C H x i r ∧ Q (.bl (r || i)) H
abbrev N_is_ratio : List Str := ["value"]
theorem sc_is_ratio : FnScope N_is_ratio ["value"] (defScope s_is_ratio) := ⟨rfl, rfl, rfl, by decide +kernel, rfl, by decide +kernel, by decide +kernel⟩
theorem st_is_ratio {v0 : V} : L2.start N_is_ratio [v0] = [some v0] := rfl
theorem ok_is_ratio {f : Addr} {fd : FuncData} (F : FD K s_is_ratio "is_ratio" "is_ratio" f fd) {C_Ratio : Addr} (z_isinstance : mg "isinstance" = none) (m_Ratio : mg "Ratio" = some (.ref C_Ratio)) (g_is_integer : Gf P w K mg base "is_integer" 1 ["value"] (spIsInt K C_Ratio)) : FnOk P w K mg base (L2.CX P w) 2 f fd ["value"] (spIsRat K C_Ratio) := by
  have nd := sc_is_ratio.nd
  refine F.ok0 sc_is_ratio (fun vs H Q E h => ?_) (fun cdv A outer s H vs Q E hr h => ?_)
  · obtain ⟨x, i, r, rfl, _⟩ := h
    rfl
  · obtain ⟨x, i, r, rfl, hT, k⟩ := h
    obtain ⟨t, bI, bB, ty, e1, e2, e4, e3, nf⟩ := hT.ex
    refine ⟨_, (pss_one (ps_ret (pe_or (pe_callB (id := "isinstance") (r := rIsi K) (call_isiE rfl) (by rfl) z_isinstance (by decide +kernel) (pa_cons (pv 0) (pa_cons (pe_glob (v := .ref C_Ratio) rfl m_Ratio rfl) pa_nil))) (pe_one (pe_g g_is_integer hr (by decide) passL rfl (pa_cons (pv 0) pa_nil)))))), ?_⟩
    simp only [tVar, rIxTH, rIxLH, gTupH, line_le, HO.tup.injEq, HO.lst.injEq, List.length_cons, List.length_nil, at0, at1, rU, tOst, tTest, rIxL, rIxT, C8.tCut, cxOf_K, tC, tOp, tUn, tSeq, tAsg, tNext, tRet, tRetN, tDrop, tIfS, tNever, gName, gNil, gCons, gTup, gSub, tPar, rI, rI0, rU, rEq, rNe, tB, tAnd, tOr, tNot, tAndV, tOrV, tNotV, tIf, tTup, tLst, tNil, tCons, tCB, tCall, tMeth, tMake, tFld, sFld, tDGet, sDPut, tDisp, tPairs, tBreak, tCont, scal_ii, scal_bb, scal_ss, List.getElem?_cons_zero, List.getElem?_cons_succ, List.set_cons_zero, List.set_cons_succ, Option.some.injEq, exists_eq_left', exists_eq_left, exists_and_left, V.int.injEq, V.bl.injEq, V.ref.injEq, V.str.injEq, List.cons.injEq, and_true, true_and, Bool.true_eq, List.nil_append, List.append_nil, List.cons_append, exists_eq', and_self, reduceCtorEq, false_or, or_false, false_and, exists_false, exists_const, and_assoc, if_true, Bool.false_eq_true, if_false, Nat.reduceAdd, Nat.reduceLeDiff, Nat.zero_add, Nat.le_refl, forall_const, st_is_ratio, rIsi]
    refine ⟨t, .ref C_Ratio, .own _, ty, r, e3, ?_⟩
    cases r with
    | true => exact iteT k
    | false => exact iteF ⟨x, i, false, rfl, hT, k⟩


end HwL
end

section
namespace HwL
open PySem PySem.Spec PyProof.Rows L2 LamX HwT
variable {P : Program} {w : World} {K : PySem.W.Frag} {mg : Str → Option Value} {base : Heap}

/-! ### the law's own fractions -/
def spGcd : Sp := fun vs H Q _ => ∃ a b : Int, vs = [.int a, .int b] ∧ a.natAbs < 2 ^ 13500 ∧ b.natAbs < 2 ^ 13500 ∧ Q (.int ((Nat.gcd a.natAbs b.natAbs : Nat) : Int)) H
abbrev N_L_gcd : List Str := ["_law_one", "_law_two", "_law_lap"]
theorem sc_L_gcd : FnScope N_L_gcd ["_law_one", "_law_two"] (defScope s_L_gcd) := ⟨rfl, rfl, rfl, by decide +kernel, rfl, by decide +kernel, by decide +kernel⟩
theorem st_L_gcd {v0 v1 : V} : L2.start N_L_gcd [v0, v1] = [some v0, some v1, none] := rfl
theorem ok_L_gcd {f : Addr} {fd : FuncData} (F : FD K s_L_gcd "_law_gcd" "_law_gcd" f fd) (z_range : mg "range" = none) (z_int : mg "int" = none) (z_abs : mg "abs" = none) : FnOk P w K mg base (L2.CX P w) 1 f fd ["_law_one", "_law_two"] (spGcd) := by
  have nd := sc_L_gcd.nd
  refine F.ok0 sc_L_gcd (fun vs H Q E h => ?_) (fun cdv A outer s H vs Q E hr h => ?_)
  · obtain ⟨a, b, rfl, _⟩ := h
    rfl
  · obtain ⟨a, b, rfl, ha, hb, k⟩ := h
    refine ⟨_, (C8.pss_cut (ps_par (i := 0) (j := 1) (by rfl) nd rfl rfl (by decide) rfl rfl (pa_cons (pe_callB call_abs (by rfl) z_abs (by decide +kernel) (pa_cons (pv 0) pa_nil)) (pa_cons (pe_callB call_abs (by rfl) z_abs (by decide +kernel) (pa_cons (pv 1) pa_nil)) pa_nil)) (by rfl))
        (pss_cons (ps_for PassesOwn.never rfl (pi_range1 rfl z_range (pa_cons pe_int pa_nil)) (pg_name (i := 2) nd rfl (Or.inl rfl)) (pss_cons (ps_if (pt_cmpR op_eq (pv 1) pe_int (nomark _)) (pss_one ps_break) pss_nil)
        (pss_one (ps_par (i := 0) (j := 1) (by rfl) nd rfl rfl (by decide) rfl rfl (pa_cons (pv 1) (pa_cons (pe_op op_mod (pe_callTy call_int1 (by rfl) z_int (by decide +kernel) (pa_cons (pv 0) pa_nil)) (pv 1)) pa_nil)) (by rfl)))))
        (pss_one (ps_ret (pv 0))))), ?_⟩
    refine ⟨fun σ' H' => H' = H ∧ σ' = [some (.int (a.natAbs : Int)), some (.int (b.natAbs : Int)), none], ?_, ?_⟩
    · have ea : (if a < 0 then -a else a) = (a.natAbs : Int) := by split <;> omega
      have eb : (if b < 0 then -b else b) = (b.natAbs : Int) := by split <;> omega
      simp only [tVar, rIxTH, rIxLH, gTupH, line_le, HO.tup.injEq, HO.lst.injEq, List.length_cons, List.length_nil, at0, at1, rU, tOst, tTest, rIxL, rIxT, C8.tCut, cxOf_K, tC, tOp, tUn, tSeq, tAsg, tNext, tRet, tRetN, tDrop, tIfS, tNever, gName, gNil, gCons, gTup, gSub, tPar, rI, rI0, rU, rEq, rNe, tB, tAnd, tOr, tNot, tAndV, tOrV, tNotV, tIf, tTup, tLst, tNil, tCons, tCB, tCall, tMeth, tMake, tFld, sFld, tDGet, sDPut, tDisp, tPairs, tBreak, tCont, scal_ii, scal_bb, scal_ss, List.getElem?_cons_zero, List.getElem?_cons_succ, List.set_cons_zero, List.set_cons_succ, Option.some.injEq, exists_eq_left', exists_eq_left, exists_and_left, V.int.injEq, V.bl.injEq, V.ref.injEq, V.str.injEq, List.cons.injEq, and_true, true_and, Bool.true_eq, List.nil_append, List.append_nil, List.cons_append, exists_eq', and_self, reduceCtorEq, false_or, or_false, false_and, exists_false, exists_const, and_assoc, if_true, Bool.false_eq_true, if_false, Nat.reduceAdd, Nat.reduceLeDiff, Nat.zero_add, Nat.le_refl, forall_const, st_L_gcd, ea, eb]
    · rintro σ' H' ⟨rfl, rfl⟩
      refine ⟨_, rfl, by decide, by decide, for_range (lo := 0) (n := 60000) (fun i σ' H2 => ∃ (x y : Int) (v : Option V), H2 = H' ∧ σ' = [some (.int x), some (.int y), v] ∧ 0 ≤ x ∧ 0 ≤ y ∧ y.natAbs < 2 ^ 13500 ∧
        Nat.gcd x.natAbs y.natAbs = Nat.gcd a.natAbs b.natAbs ∧ (i = 0 ∨ y = 0 ∨ (y < x ∧ x.natAbs * y.natAbs * 2 ^ i < 2 ^ (2 * 13500 + 2)))) ?_ ?_ ?_⟩
      · exact ⟨_, _, none, rfl, rfl, by omega, by omega, by simpa using hb, by simp, .inl rfl⟩
      · rintro i σ' H2 hi ⟨x, y, v, rfl, rfl, x0, y0, yb, eg, hl⟩
        simp only [tVar, rIxTH, rIxLH, gTupH, line_le, HO.tup.injEq, HO.lst.injEq, List.length_cons, List.length_nil, at0, at1, rU, tOst, tTest, rIxL, rIxT, C8.tCut, cxOf_K, tC, tOp, tUn, tSeq, tAsg, tNext, tRet, tRetN, tDrop, tIfS, tNever, gName, gNil, gCons, gTup, gSub, tPar, rI, rI0, rU, rEq, rNe, tB, tAnd, tOr, tNot, tAndV, tOrV, tNotV, tIf, tTup, tLst, tNil, tCons, tCB, tCall, tMeth, tMake, tFld, sFld, tDGet, sDPut, tDisp, tPairs, tBreak, tCont, scal_ii, scal_bb, scal_ss, List.getElem?_cons_zero, List.getElem?_cons_succ, List.set_cons_zero, List.set_cons_succ, Option.some.injEq, exists_eq_left', exists_eq_left, exists_and_left, V.int.injEq, V.bl.injEq, V.ref.injEq, V.str.injEq, List.cons.injEq, and_true, true_and, Bool.true_eq, List.nil_append, List.append_nil, List.cons_append, exists_eq', and_self, reduceCtorEq, false_or, or_false, false_and, exists_false, exists_const, and_assoc, if_true, Bool.false_eq_true, if_false, Nat.reduceAdd, Nat.reduceLeDiff, Nat.zero_add, Nat.le_refl, forall_const, st_L_gcd]
        refine ite2 (fun hz => ?_) (fun hz => ?_)
        · have hz : y = 0 := by simpa using hz
          subst hz
          have e : x = ((Nat.gcd a.natAbs b.natAbs : Nat) : Int) := by
            rw [← eg]
            simp
            omega
          rw [e]
          exact k
        · have hz : ¬ y = 0 := by simpa using hz
          have yp : 0 < y := by omega
          have hl2 : i = 0 ∨ (y < x ∧ x.natAbs * y.natAbs * 2 ^ i < 2 ^ (2 * 13500 + 2)) := by
            rcases hl with h | h | h
            · exact .inl h
            · exact absurd h hz
            · exact .inr h
          obtain ⟨l1, l2, l3, l4⟩ := HwM.lap x0 yp yb hl2
          refine ⟨yp, y0, l2, l3, by rw [HwM.gcd_step x0 yp, eg], .inr ⟨l1, l4⟩⟩
      · rintro σ' H2 ⟨x, y, v, rfl, rfl, x0, y0, yb, eg, hl⟩
        have hz : y = 0 := by
          rcases hl with h | h | ⟨h1, h2⟩
          · cases h
          · exact h
          · exact HwM.laps_end (n := 60000) y0 h1 (HwM.lt_mono h2 (by decide))
        subst hz
        have e : x = ((Nat.gcd a.natAbs b.natAbs : Nat) : Int) := by
          rw [← eg]
          simp
          omega
        simp only [tVar, rIxTH, rIxLH, gTupH, line_le, HO.tup.injEq, HO.lst.injEq, List.length_cons, List.length_nil, at0, at1, rU, tOst, tTest, rIxL, rIxT, C8.tCut, cxOf_K, tC, tOp, tUn, tSeq, tAsg, tNext, tRet, tRetN, tDrop, tIfS, tNever, gName, gNil, gCons, gTup, gSub, tPar, rI, rI0, rU, rEq, rNe, tB, tAnd, tOr, tNot, tAndV, tOrV, tNotV, tIf, tTup, tLst, tNil, tCons, tCB, tCall, tMeth, tMake, tFld, sFld, tDGet, sDPut, tDisp, tPairs, tBreak, tCont, scal_ii, scal_bb, scal_ss, List.getElem?_cons_zero, List.getElem?_cons_succ, List.set_cons_zero, List.set_cons_succ, Option.some.injEq, exists_eq_left', exists_eq_left, exists_and_left, V.int.injEq, V.bl.injEq, V.ref.injEq, V.str.injEq, List.cons.injEq, and_true, true_and, Bool.true_eq, List.nil_append, List.append_nil, List.cons_append, exists_eq', and_self, reduceCtorEq, false_or, or_false, false_and, exists_false, exists_const, and_assoc, if_true, Bool.false_eq_true, if_false, Nat.reduceAdd, Nat.reduceLeDiff, Nat.zero_add, Nat.le_refl, forall_const, st_L_gcd, e]
        exact k
/-- (top, bottom) in lowest terms -/
def spQ : Sp := fun vs H Q _ => ∃ t b : Int, vs = [.int t, .int b] ∧ b ≠ 0 ∧ t.natAbs < 2 ^ 13500 ∧ b.natAbs < 2 ^ 13500 ∧ ∀ p, H p = none → Q (.ref p) (upd H p (.tup (qv (Rat.divInt t b))))
abbrev N_L_q : List Str := ["_law_top", "_law_bottom", "_law_by"]
theorem sc_L_q : FnScope N_L_q ["_law_top", "_law_bottom"] (defScope s_L_q) := ⟨rfl, rfl, rfl, by decide +kernel, rfl, by decide +kernel, by decide +kernel⟩
theorem st_L_q {v0 v1 : V} : L2.start N_L_q [v0, v1] = [some v0, some v1, none] := rfl
theorem ok_L_q {f : Addr} {fd : FuncData} (F : FD K s_L_q "_law_q" "_law_q" f fd) (g_L_gcd : Gf P w K mg base "_law_gcd" 1 ["_law_one", "_law_two"] (spGcd)) : FnOk P w K mg base (L2.CX P w) 2 f fd ["_law_top", "_law_bottom"] (spQ) := by
  have nd := sc_L_q.nd
  refine F.ok0 sc_L_q (fun vs H Q E h => ?_) (fun cdv A outer s H vs Q E hr h => ?_)
  · obtain ⟨t, b, rfl, _⟩ := h
    rfl
  · obtain ⟨t, b, rfl, hb, ht, hb2, k⟩ := h
    refine ⟨_, (pss_cons (ps_set (i := 2) nd rfl (Or.inl rfl) (pe_g g_L_gcd hr (by decide) passL rfl (pa_cons (pv 0) (pa_cons (pv 1) pa_nil))))
        (C8.pss_cut (ps_if (pt_cmpR op_lt (pv 1) pe_int (nomark _)) (pss_one (ps_set (i := 2) nd rfl (Or.inl rfl) (pe_un un_neg (pv 2)))) pss_nil)
        (pss_one (ps_ret (pe_tup (pa_cons (pe_op op_fdivB (pv 0) (pv 2)) (pa_cons (pe_op op_fdivB (pv 1) (pv 2)) pa_nil))))))), ?_⟩
    simp only [tVar, rIxTH, rIxLH, gTupH, line_le, HO.tup.injEq, HO.lst.injEq, List.length_cons, List.length_nil, at0, at1, rU, tOst, tTest, rIxL, rIxT, C8.tCut, cxOf_K, tC, tOp, tUn, tSeq, tAsg, tNext, tRet, tRetN, tDrop, tIfS, tNever, gName, gNil, gCons, gTup, gSub, tPar, rI, rI0, rU, rEq, rNe, tB, tAnd, tOr, tNot, tAndV, tOrV, tNotV, tIf, tTup, tLst, tNil, tCons, tCB, tCall, tMeth, tMake, tFld, sFld, tDGet, sDPut, tDisp, tPairs, tBreak, tCont, scal_ii, scal_bb, scal_ss, List.getElem?_cons_zero, List.getElem?_cons_succ, List.set_cons_zero, List.set_cons_succ, Option.some.injEq, exists_eq_left', exists_eq_left, exists_and_left, V.int.injEq, V.bl.injEq, V.ref.injEq, V.str.injEq, List.cons.injEq, and_true, true_and, Bool.true_eq, List.nil_append, List.append_nil, List.cons_append, exists_eq', and_self, reduceCtorEq, false_or, or_false, false_and, exists_false, exists_const, and_assoc, if_true, Bool.false_eq_true, if_false, Nat.reduceAdd, Nat.reduceLeDiff, Nat.zero_add, Nat.le_refl, forall_const, st_L_q]
    refine ⟨t, b, rfl, ht, hb2, fun σ' H' => H' = H ∧ σ' = [some (.int t), some (.int b), some (.int (if b < 0 then -((Nat.gcd t.natAbs b.natAbs : Nat) : Int) else ((Nat.gcd t.natAbs b.natAbs : Nat) : Int)))], ?_, ?_⟩
    · by_cases hn : b < 0
      · simp only [tVar, rIxTH, rIxLH, gTupH, line_le, HO.tup.injEq, HO.lst.injEq, List.length_cons, List.length_nil, at0, at1, rU, tOst, tTest, rIxL, rIxT, C8.tCut, cxOf_K, tC, tOp, tUn, tSeq, tAsg, tNext, tRet, tRetN, tDrop, tIfS, tNever, gName, gNil, gCons, gTup, gSub, tPar, rI, rI0, rU, rEq, rNe, tB, tAnd, tOr, tNot, tAndV, tOrV, tNotV, tIf, tTup, tLst, tNil, tCons, tCB, tCall, tMeth, tMake, tFld, sFld, tDGet, sDPut, tDisp, tPairs, tBreak, tCont, scal_ii, scal_bb, scal_ss, List.getElem?_cons_zero, List.getElem?_cons_succ, List.set_cons_zero, List.set_cons_succ, Option.some.injEq, exists_eq_left', exists_eq_left, exists_and_left, V.int.injEq, V.bl.injEq, V.ref.injEq, V.str.injEq, List.cons.injEq, and_true, true_and, Bool.true_eq, List.nil_append, List.append_nil, List.cons_append, exists_eq', and_self, reduceCtorEq, false_or, or_false, false_and, exists_false, exists_const, and_assoc, if_true, Bool.false_eq_true, if_false, Nat.reduceAdd, Nat.reduceLeDiff, Nat.zero_add, Nat.le_refl, forall_const, st_L_q, rU, hn, decide_true, if_true]
      · simp only [tVar, rIxTH, rIxLH, gTupH, line_le, HO.tup.injEq, HO.lst.injEq, List.length_cons, List.length_nil, at0, at1, rU, tOst, tTest, rIxL, rIxT, C8.tCut, cxOf_K, tC, tOp, tUn, tSeq, tAsg, tNext, tRet, tRetN, tDrop, tIfS, tNever, gName, gNil, gCons, gTup, gSub, tPar, rI, rI0, rU, rEq, rNe, tB, tAnd, tOr, tNot, tAndV, tOrV, tNotV, tIf, tTup, tLst, tNil, tCons, tCB, tCall, tMeth, tMake, tFld, sFld, tDGet, sDPut, tDisp, tPairs, tBreak, tCont, scal_ii, scal_bb, scal_ss, List.getElem?_cons_zero, List.getElem?_cons_succ, List.set_cons_zero, List.set_cons_succ, Option.some.injEq, exists_eq_left', exists_eq_left, exists_and_left, V.int.injEq, V.bl.injEq, V.ref.injEq, V.str.injEq, List.cons.injEq, and_true, true_and, Bool.true_eq, List.nil_append, List.append_nil, List.cons_append, exists_eq', and_self, reduceCtorEq, false_or, or_false, false_and, exists_false, exists_const, and_assoc, if_true, Bool.false_eq_true, if_false, Nat.reduceAdd, Nat.reduceLeDiff, Nat.zero_add, Nat.le_refl, forall_const, st_L_q, rU, hn, decide_false, if_false, Bool.false_eq_true]
    · rintro σ' H' ⟨rfl, rfl⟩
      simp only [tVar, rIxTH, rIxLH, gTupH, line_le, HO.tup.injEq, HO.lst.injEq, List.length_cons, List.length_nil, at0, at1, rU, tOst, tTest, rIxL, rIxT, C8.tCut, cxOf_K, tC, tOp, tUn, tSeq, tAsg, tNext, tRet, tRetN, tDrop, tIfS, tNever, gName, gNil, gCons, gTup, gSub, tPar, rI, rI0, rU, rEq, rNe, tB, tAnd, tOr, tNot, tAndV, tOrV, tNotV, tIf, tTup, tLst, tNil, tCons, tCB, tCall, tMeth, tMake, tFld, sFld, tDGet, sDPut, tDisp, tPairs, tBreak, tCont, scal_ii, scal_bb, scal_ss, List.getElem?_cons_zero, List.getElem?_cons_succ, List.set_cons_zero, List.set_cons_succ, Option.some.injEq, exists_eq_left', exists_eq_left, exists_and_left, V.int.injEq, V.bl.injEq, V.ref.injEq, V.str.injEq, List.cons.injEq, and_true, true_and, Bool.true_eq, List.nil_append, List.append_nil, List.cons_append, exists_eq', and_self, reduceCtorEq, false_or, or_false, false_and, exists_false, exists_const, and_assoc, if_true, Bool.false_eq_true, if_false, Nat.reduceAdd, Nat.reduceLeDiff, Nat.zero_add, Nat.le_refl, forall_const, st_L_q, CDivB]
      refine ⟨HwM.gcd_ne hb, ht, HwM.gcd_ne hb, hb2, fun p hp => ?_⟩
      have z := k p hp
      unfold qv at z
      rw [HwM.num_fdiv hb, HwM.den_fdiv hb]
      exact z
def spIsR (C : Addr) : Sp := fun vs H Q _ => ∃ (x : V) (b : Addr) (q r : Rat), vs = [x, .ref b] ∧ IsR C H x q ∧ H b = some (.tup (qv r)) ∧ ∀ H', Same H H' → Q (.bl (decide (q = r))) H'
abbrev N_L_is_ratio : List Str := ["_law_value", "_law_due", "_law_parts", "_law_part"]
theorem sc_L_is_ratio : FnScope N_L_is_ratio ["_law_value", "_law_due"] (defScope s_L_is_ratio) := ⟨rfl, rfl, rfl, by decide +kernel, rfl, by decide +kernel, by decide +kernel⟩
theorem st_L_is_ratio {v0 v1 : V} : L2.start N_L_is_ratio [v0, v1] = [some v0, some v1, none, none] := rfl
theorem ok_L_is_ratio {f : Addr} {fd : FuncData} (F : FD K s_L_is_ratio "_law_is_ratio" "_law_is_ratio" f fd) {C_Ratio : Addr} (R : RatC K C_Ratio) (z_isinstance : mg "isinstance" = none) (z_bool : mg "bool" = none) (z_int : mg "int" = none) (m_Ratio : mg "Ratio" = some (.ref C_Ratio)) : FnOk P w K mg base (L2.CX P w) 1 f fd ["_law_value", "_law_due"] (spIsR C_Ratio) := by
  have nd := sc_L_is_ratio.nd
  refine F.ok0 sc_L_is_ratio (fun vs H Q E h => ?_) (fun cdv A outer s H vs Q E hr h => ?_)
  · obtain ⟨x, b, q, r, rfl, _⟩ := h
    rfl
  · obtain ⟨x, b, q, r, rfl, hx, hb, k⟩ := h
    obtain ⟨t, bI, bB, ty, e1, e2, e4, e3, nf⟩ := (ty_rat R hx.inst).ex
    obtain ⟨a, dx, rfl, ha⟩ := hx
    refine ⟨_, (pss_cons (ps_if (pt_not (pt_val (pe_callB (id := "isinstance") (r := rIsi K) (call_isiE rfl) (by rfl) z_isinstance (by decide +kernel) (pa_cons (pv 0) (pa_cons (pe_glob (v := .ref C_Ratio) rfl m_Ratio rfl) pa_nil))))) (pss_one (ps_ret pe_bl)) pss_nil)
        (pss_cons (ps_set (i := 2) nd rfl (Or.inl rfl) (pe_lst (pa_cons (pe_fld (pv 0) rfl) (pa_cons (pe_fld (pv 0) rfl) pa_nil))))
        (pss_cons (ps_if (pt_cmpR (op_neD hr.units) (pe_lc (own := [("_law_part", 3)]) rfl nd (pi_list (pv 2)) (blkOk_by (own := [("_law_part", 3)]) (N := N_L_is_ratio) (sc := defScope s_L_is_ratio) (by decide +kernel)) (fun _ _ _ _ _ => (pg_name (i := 3) nd rfl (Or.inl rfl))) (fun _ _ _ _ _ => pts_one (PW.pt (pw_or (pt_not (pt_val (pe_callB (id := "isinstance") (r := rIsi K) (call_isiE rfl) (by rfl) z_isinstance (by decide +kernel) (pa_cons (pv 3) (pa_cons (pe_bltn (v := .ty "int") rfl z_int (by decide +kernel) rfl) pa_nil))))) (pw_or1 (pt_val (pe_callB (id := "isinstance") (r := rIsi K) (call_isiE rfl) (by rfl) z_isinstance (by decide +kernel) (pa_cons (pv 3) (pa_cons (pe_bltn (v := .ty "bool") rfl z_bool (by decide +kernel) rfl) pa_nil)))))))) (fun _ _ _ _ _ => (pv 3))) (pe_lst pa_nil) (nomark _)) (pss_one (ps_ret pe_bl)) pss_nil)
        (pss_one (ps_ret (pe_cmpR (op_eqD hr.units) (pe_tup (pa_cons (pe_fld (pv 0) rfl) (pa_cons (pe_fld (pv 0) rfl) pa_nil))) (pv 1) (nomark _))))))), ?_⟩
    simp only [tVar, rIxTH, rIxLH, gTupH, line_le, HO.tup.injEq, HO.lst.injEq, List.length_cons, List.length_nil, at0, at1, rU, tOst, tTest, rIxL, rIxT, C8.tCut, cxOf_K, tC, tOp, tUn, tSeq, tAsg, tNext, tRet, tRetN, tDrop, tIfS, tNever, gName, gNil, gCons, gTup, gSub, tPar, rI, rI0, rU, rEq, rNe, tB, tAnd, tOr, tNot, tAndV, tOrV, tNotV, tIf, tTup, tLst, tNil, tCons, tCB, tCall, tMeth, tMake, tFld, sFld, tDGet, sDPut, tDisp, tPairs, tBreak, tCont, scal_ii, scal_bb, scal_ss, List.getElem?_cons_zero, List.getElem?_cons_succ, List.set_cons_zero, List.set_cons_succ, Option.some.injEq, exists_eq_left', exists_eq_left, exists_and_left, V.int.injEq, V.bl.injEq, V.ref.injEq, V.str.injEq, List.cons.injEq, and_true, true_and, Bool.true_eq, List.nil_append, List.append_nil, List.cons_append, exists_eq', and_self, reduceCtorEq, false_or, or_false, false_and, exists_false, exists_const, and_assoc, if_true, Bool.false_eq_true, if_false, Nat.reduceAdd, Nat.reduceLeDiff, Nat.zero_add, Nat.le_refl, forall_const, st_L_is_ratio, HO.ins.injEq, R.cl, R.nt, R.nb, ratF_top, ratF_bottom, ha, rIsi]
    refine ⟨t, .ref C_Ratio, .own _, ty, true, e3, iteF fun p hp => ?_⟩
    refine ⟨.ref p, rfl, p, rfl, ⟨_, SqL.of upd_same⟩, fun D hD => lc_list (K := K) (a := p) (xs := [V.int q.num, V.int (q.den : Int)])
      (fun i H' => H' = upd (upd H p (.lst [V.int q.num, V.int (q.den : Int)])) D (.lst [])) rfl (fun i H' _ e => by rw [e]; exact SqL.of (upd_get hD upd_same)) ?_ ?_⟩
    · rintro i y H' hi rfl
      obtain ⟨z, rfl⟩ : ∃ z, y = V.int z := by
        match i, hi with
        | 0, e => exact ⟨_, (Option.some.inj e).symm⟩
        | 1, e => exact ⟨_, (Option.some.inj e).symm⟩
      simp only [tVar, rIxTH, rIxLH, gTupH, line_le, HO.tup.injEq, HO.lst.injEq, List.length_cons, List.length_nil, at0, at1, rU, tOst, tTest, rIxL, rIxT, C8.tCut, cxOf_K, tC, tOp, tUn, tSeq, tAsg, tNext, tRet, tRetN, tDrop, tIfS, tNever, gName, gNil, gCons, gTup, gSub, tPar, rI, rI0, rU, rEq, rNe, tB, tAnd, tOr, tNot, tAndV, tOrV, tNotV, tIf, tTup, tLst, tNil, tCons, tCB, tCall, tMeth, tMake, tFld, sFld, tDGet, sDPut, tDisp, tPairs, tBreak, tCont, scal_ii, scal_bb, scal_ss, List.getElem?_cons_zero, List.getElem?_cons_succ, List.set_cons_zero, List.set_cons_succ, Option.some.injEq, exists_eq_left', exists_eq_left, exists_and_left, V.int.injEq, V.bl.injEq, V.ref.injEq, V.str.injEq, List.cons.injEq, and_true, true_and, Bool.true_eq, List.nil_append, List.append_nil, List.cons_append, exists_eq', and_self, reduceCtorEq, false_or, or_false, false_and, exists_false, exists_const, and_assoc, if_true, Bool.false_eq_true, if_false, Nat.reduceAdd, Nat.reduceLeDiff, Nat.zero_add, Nat.le_refl, forall_const, st_L_is_ratio, rIsi, wipe, List.map_cons, List.map_nil]
      refine ⟨.type "int", .type "int", .ty _, .base (.int _), true, kit_ty (by decide +kernel), iteF ⟨.type "int", .type "bool", .ty _, .base (.int _), false, kit_ty (by decide +kernel), iteF trivial⟩⟩
    · rintro H' rfl
      intro p2 hp2
      have npD : p ≠ D := fun e => by rw [e, upd_same] at hD; cases hD
      have s2 : Same H (upd (upd (upd H p (.lst [V.int q.num, V.int (q.den : Int)])) D (.lst [])) p2 (.lst [])) :=
        ((same_new hp).trans (same_new hD)).trans (same_new hp2)
      refine ne_nil (by rw [upd_ne (ne_of_none upd_same hp2), upd_same]) upd_same ?_
      have ha2 := s2 _ _ ha
      have hb2 := s2 _ _ hb
      simp only [tVar, rIxTH, rIxLH, gTupH, line_le, HO.tup.injEq, HO.lst.injEq, List.length_cons, List.length_nil, at0, at1, rU, tOst, tTest, rIxL, rIxT, C8.tCut, cxOf_K, tC, tOp, tUn, tSeq, tAsg, tNext, tRet, tRetN, tDrop, tIfS, tNever, gName, gNil, gCons, gTup, gSub, tPar, rI, rI0, rU, rEq, rNe, tB, tAnd, tOr, tNot, tAndV, tOrV, tNotV, tIf, tTup, tLst, tNil, tCons, tCB, tCall, tMeth, tMake, tFld, sFld, tDGet, sDPut, tDisp, tPairs, tBreak, tCont, scal_ii, scal_bb, scal_ss, List.getElem?_cons_zero, List.getElem?_cons_succ, List.set_cons_zero, List.set_cons_succ, Option.some.injEq, exists_eq_left', exists_eq_left, exists_and_left, V.int.injEq, V.bl.injEq, V.ref.injEq, V.str.injEq, List.cons.injEq, and_true, true_and, Bool.true_eq, List.nil_append, List.append_nil, List.cons_append, exists_eq', and_self, reduceCtorEq, false_or, or_false, false_and, exists_false, exists_const, and_assoc, if_true, Bool.false_eq_true, if_false, Nat.reduceAdd, Nat.reduceLeDiff, Nat.zero_add, Nat.le_refl, forall_const, st_L_is_ratio, HO.ins.injEq, R.cl, R.nt, R.nb, ratF_top, ratF_bottom, ha2]
      intro p3 hp3
      refine eq_pair upd_same (upd_get hp3 hb2) ?_
      have e : decide (q.num = r.num ∧ (q.den : Int) = (r.den : Int)) = decide (q = r) := decide_eq_decide.mpr ⟨fun ⟨h1, h2⟩ => Rat.ext h1 (by omega), fun h => by rw [h]; exact ⟨rfl, rfl⟩⟩
      rw [e]
      exact k _ (s2.trans (same_new hp3))


end HwL
end

section
namespace HwL
open PySem PySem.Spec PyProof.Rows L2 LamX HwT
variable {P : Program} {w : World} {K : PySem.W.Frag} {mg : Str → Option Value} {base : Heap}

abbrev N_BadTextD_initD : List Str := ["self", "line", "column"]
theorem sc_BadTextD_initD : FnScope N_BadTextD_initD ["self", "line", "column"] (defScope s_BadTextD_initD) := ⟨rfl, rfl, rfl, by decide +kernel, rfl, by decide +kernel, by decide +kernel⟩
theorem st_BadTextD_initD {v0 v1 v2 : V} : L2.start N_BadTextD_initD [v0, v1, v2] = [some v0, some v1, some v2] := rfl
theorem ok_BadTextD_initD {f : Addr} {fd : FuncData} (F : FD K s_BadTextD_initD "__init__" "BadText.__init__" f fd) {C_BadText : Addr} (TX : OexC K C_BadText) (n1 : PySem.W.findIn K (.ref C_BadText) "line" = some none) (n2 : PySem.W.findIn K (.ref C_BadText) "column" = some none) : FnOk P w K mg base (L2.CX P w) 1 f fd ["self", "line", "column"] (spX2 C_BadText "line" "column") := by
  have nd := sc_BadTextD_initD.nd
  refine F.ok0 sc_BadTextD_initD (fun vs H Q E h => ?_) (fun cdv A outer s H vs Q E hr h => ?_)
  · obtain ⟨a, x, y, rfl, _⟩ := h
    rfl
  · obtain ⟨a, x, y, rfl, ha, k⟩ := h
    refine ⟨_, (pss_cons (ps_ost (pv 0) (pv 1))
        (pss_one (ps_ost (pv 0) (pv 2)))), ?_⟩
    simp only [tVar, rIxTH, rIxLH, gTupH, line_le, HO.tup.injEq, HO.lst.injEq, List.length_cons, List.length_nil, at0, at1, rU, tOst, tTest, rIxL, rIxT, C8.tCut, cxOf_K, tC, tOp, tUn, tSeq, tAsg, tNext, tRet, tRetN, tDrop, tIfS, tNever, gName, gNil, gCons, gTup, gSub, tPar, rI, rI0, rU, rEq, rNe, tB, tAnd, tOr, tNot, tAndV, tOrV, tNotV, tIf, tTup, tLst, tNil, tCons, tCB, tCall, tMeth, tMake, tFld, sFld, tDGet, sDPut, tDisp, tPairs, tBreak, tCont, scal_ii, scal_bb, scal_ss, List.getElem?_cons_zero, List.getElem?_cons_succ, List.set_cons_zero, List.set_cons_succ, Option.some.injEq, exists_eq_left', exists_eq_left, exists_and_left, V.int.injEq, V.bl.injEq, V.ref.injEq, V.str.injEq, List.cons.injEq, and_true, true_and, Bool.true_eq, List.nil_append, List.append_nil, List.cons_append, exists_eq', and_self, reduceCtorEq, false_or, or_false, false_and, exists_false, exists_const, and_assoc, if_true, Bool.false_eq_true, if_false, Nat.reduceAdd, Nat.reduceLeDiff, Nat.zero_add, Nat.le_refl, forall_const, st_BadTextD_initD]
    refine ⟨C_BadText, TX, n1, .inl ⟨ha, fun d hd hda => ?_⟩⟩
    refine ⟨C_BadText, TX, n2, .inr ⟨d, upd_same, [("line", x)], by rw [upd_ne hda, upd_same], by show 1 ≤ 900; decide, ?_⟩⟩
    exact k d hd hda
theorem le_line {x : Str} (h : x.length ≤ 9000) : x.length ≤ sizeLine := Nat.le_trans h (by decide)
theorem isD_mem (c : Nat) : decide (c ∈ ("0123456789" : Str).cps.toList) = isD c := by
  have e : ("0123456789" : Str).cps.toList = [48, 49, 50, 51, 52, 53, 54, 55, 56, 57] := by decide +kernel
  rw [e]
  unfold isD
  rw [Bool.eq_iff_iff]
  simp
  omega
theorem sing_eq (c d : Nat) : decide ((V.str ⟨#[c]⟩ : V) = V.str ⟨#[d]⟩) = decide (c = d) := by
  refine decide_eq_decide.mpr ⟨fun h => ?_, fun h => by rw [h]⟩
  injection h with h
  injection h with h
  simpa using h
theorem singS (c d : Nat) : decide ((⟨#[c]⟩ : Str) = ⟨#[d]⟩) = decide (c = d) := by
  refine decide_eq_decide.mpr ⟨fun h => ?_, fun h => by rw [h]⟩
  injection h with h
  simpa using h
theorem s_slash : ("/" : Str) = ⟨#[47]⟩ := by decide +kernel
theorem s_zero : ("0" : Str) = ⟨#[48]⟩ := by decide +kernel
theorem s_minus : ("-" : Str) = ⟨#[45]⟩ := by decide +kernel
theorem we_done {l : List Nat} {k a : Nat} (z : l[k]? = some 48 → a = k) (e : a + run (l.drop a) = k + run (l.drop k)) (h : run (l.drop a) = 0) : we l k = a := by
  unfold we
  by_cases hk : l[k]? = some 48
  · rw [if_pos hk, z hk]
  · rw [if_neg hk]; omega
def spWe : Sp := fun vs H Q _ => ∃ (x : Str) (k : Nat), vs = [.str x, .int (k : Int)] ∧ k ≤ x.length ∧ x.length ≤ 9000 ∧ Q (.int (we x.cps.toList k : Nat)) H
abbrev N_whole_end : List Str := ["text", "start", "at"]
theorem sc_whole_end : FnScope N_whole_end ["text", "start"] (defScope s_whole_end) := ⟨rfl, rfl, rfl, by decide +kernel, rfl, by decide +kernel, by decide +kernel⟩
theorem st_whole_end {v0 v1 : V} : L2.start N_whole_end [v0, v1] = [some v0, some v1, none] := rfl
theorem ok_whole_end {f : Addr} {fd : FuncData} (F : FD K s_whole_end "whole_end" "whole_end" f fd) (z_len : mg "len" = none) {t_DIGITS : Tok} (k_DIGITS : mg "DIGITS" = some (.str "0123456789" t_DIGITS)) : FnOk P w K mg base (L2.CX P w) 1 f fd ["text", "start"] (spWe) := by
  have nd := sc_whole_end.nd
  refine F.ok0 sc_whole_end (fun vs H Q E h => ?_) (fun cdv A outer s H vs Q E hr h => ?_)
  · obtain ⟨x, k, rfl, _⟩ := h
    rfl
  · obtain ⟨x, k, rfl, hk, hx, q⟩ := h
    refine ⟨_, (pss_cons (ps_set (i := 2) nd rfl (Or.inl rfl) (pv 1))
        (pss_cons (ps_while PassesOwn.never (PW.pt (pw_and (pt_cmpR op_lt (pv 2) (pe_callB call_len_str (by rfl) z_len (by decide +kernel) (pa_cons (pv 0) pa_nil)) (nomark _)) (pw_and1 (pt_cmpR op_in_sign (pe_ix ix_str (pv 0) (pv 2) (fun _ _ => rfl)) (pe_glob (v := .str "0123456789") rfl k_DIGITS ⟨_, rfl⟩) (by rfl))))) (pss_cons (ps_if (pt_cmpR op_eq (pe_ix ix_str (pv 0) (pv 1) (fun _ _ => rfl)) pe_str (nomark _)) (pss_one (ps_ret (pv 1))) pss_nil)
        (pss_one (ps_aug (i := 2) nd rfl (Or.inl rfl) pe_int ip_add))))
        (pss_one (ps_ret (pv 2))))), ?_⟩
    simp only [tVar, rIxTH, rIxLH, gTupH, line_le, HO.tup.injEq, HO.lst.injEq, List.length_cons, List.length_nil, at0, at1, rU, tOst, tTest, rIxL, rIxT, C8.tCut, cxOf_K, tC, tOp, tUn, tSeq, tAsg, tNext, tRet, tRetN, tDrop, tIfS, tNever, gName, gNil, gCons, gTup, gSub, tPar, rI, rI0, rU, rEq, rNe, tB, tAnd, tOr, tNot, tAndV, tOrV, tNotV, tIf, tTup, tLst, tNil, tCons, tCB, tCall, tMeth, tMake, tFld, sFld, tDGet, sDPut, tDisp, tPairs, tBreak, tCont, scal_ii, scal_bb, scal_ss, List.getElem?_cons_zero, List.getElem?_cons_succ, List.set_cons_zero, List.set_cons_succ, Option.some.injEq, exists_eq_left', exists_eq_left, exists_and_left, V.int.injEq, V.bl.injEq, V.ref.injEq, V.str.injEq, List.cons.injEq, and_true, true_and, Bool.true_eq, List.nil_append, List.append_nil, List.cons_append, exists_eq', and_self, reduceCtorEq, false_or, or_false, false_and, exists_false, exists_const, and_assoc, if_true, Bool.false_eq_true, if_false, Nat.reduceAdd, Nat.reduceLeDiff, Nat.zero_add, Nat.le_refl, forall_const, st_whole_end]
    refine ⟨fun m σ' H' => H' = H ∧ ∃ a : Nat, σ' = [some (.str x), some (.int (k : Int)), some (.int (a : Int))] ∧ m = x.length - a ∧ k ≤ a ∧ a ≤ x.length ∧ (x.cps.toList[k]? = some 48 → a = k) ∧ a + run (x.cps.toList.drop a) = k + run (x.cps.toList.drop k), ⟨_, rfl, k, rfl, rfl, Nat.le_refl _, hk, fun _ => rfl, rfl⟩, ?_⟩
    rintro m σ' H' ⟨rfl, a, rfl, rfl, ka, ax, z, e⟩
    simp only [tVar, rIxTH, rIxLH, gTupH, line_le, HO.tup.injEq, HO.lst.injEq, List.length_cons, List.length_nil, at0, at1, rU, tOst, tTest, rIxL, rIxT, C8.tCut, cxOf_K, tC, tOp, tUn, tSeq, tAsg, tNext, tRet, tRetN, tDrop, tIfS, tNever, gName, gNil, gCons, gTup, gSub, tPar, rI, rI0, rU, rEq, rNe, tB, tAnd, tOr, tNot, tAndV, tOrV, tNotV, tIf, tTup, tLst, tNil, tCons, tCB, tCall, tMeth, tMake, tFld, sFld, tDGet, sDPut, tDisp, tPairs, tBreak, tCont, scal_ii, scal_bb, scal_ss, List.getElem?_cons_zero, List.getElem?_cons_succ, List.set_cons_zero, List.set_cons_succ, Option.some.injEq, exists_eq_left', exists_eq_left, exists_and_left, V.int.injEq, V.bl.injEq, V.ref.injEq, V.str.injEq, List.cons.injEq, and_true, true_and, Bool.true_eq, List.nil_append, List.append_nil, List.cons_append, exists_eq', and_self, reduceCtorEq, false_or, or_false, false_and, exists_false, exists_const, and_assoc, if_true, Bool.false_eq_true, if_false, Nat.reduceAdd, Nat.reduceLeDiff, Nat.zero_add, Nat.le_refl, forall_const, st_whole_end, rIxS, tAug, ipI]
    refine ⟨le_line hx, ?_⟩
    have stop : run (x.cps.toList.drop a) = 0 → Q (.int (a : Int)) H' := fun h => by rw [← we_done z e h]; exact q
    by_cases lt : a < x.length
    · obtain ⟨c, hc⟩ : ∃ c, x.cps.toList[a]? = some c := ⟨_, List.getElem?_eq_getElem (by rw [← HwT.len_list]; exact lt)⟩
      rw [if_pos (decide_eq_true (by omega))]
      refine ⟨le_line hx, c, atI_nat hc, c, rfl, ?_⟩
      rw [isD_mem]
      cases hd : isD c with
      | true =>
        refine iteT ⟨fun σ' H2 => ∃ m', m' < x.length - a ∧ H2 = H' ∧ ∃ a : Nat, σ' = [some (V.str x), some (V.int (k : Int)), some (V.int (a : Int))] ∧ m' = x.length - a ∧ k ≤ a ∧ a ≤ x.length ∧ (x.cps.toList[k]? = some 48 → a = k) ∧ a + run (x.cps.toList.drop a) = k + run (x.cps.toList.drop k), fun _ _ z => z, ?_⟩
        obtain ⟨ck, hck⟩ : ∃ c, x.cps.toList[k]? = some c := ⟨_, List.getElem?_eq_getElem (by rw [← HwT.len_list]; omega)⟩
        refine ⟨le_line hx, ck, atI_nat hck, ?_⟩
        rw [s_zero, singS]
        refine ite2 (fun h0 => ?_) (fun h0 => ?_)
        · have h0 : ck = 48 := by simpa using h0
          unfold we at q
          rw [if_pos (by rw [hck, h0])] at q
          exact q
        · have h0 : ck ≠ 48 := by simpa using h0
          have st := run_step hc hd
          have fin : ∃ m', m' < x.length - a ∧ H' = H' ∧ ∃ a' : Nat, [some (V.str x), some (V.int (k : Int)), some (V.int ((a : Int) + 1))] = [some (V.str x), some (V.int (k : Int)), some (V.int (a' : Int))] ∧ m' = x.length - a' ∧ k ≤ a' ∧ a' ≤ x.length ∧ (x.cps.toList[k]? = some 48 → a' = k) ∧ a' + run (x.cps.toList.drop a') = k + run (x.cps.toList.drop k) :=
            ⟨_, show x.length - (a + 1) < _ by omega, rfl, a + 1, rfl, rfl, by omega, by omega, fun h => by rw [hck] at h; cases h; exact absurd rfl h0, by omega⟩
          exact fin
      | false => exact iteF (stop (run_stop fun d h => by rw [hc] at h; cases h; exact hd))
    · rw [if_neg (by simpa using (show ¬ ((a : Int) < (x.length : Int)) by omega))]
      refine stop (run_stop fun d h => ?_)
      rw [List.getElem?_eq_none (by rw [← HwT.len_list]; omega)] at h
      cases h
def spCol : Sp := fun vs H Q _ => ∃ x : Str, vs = [.str x] ∧ x.length ≤ 9000 ∧ Q (.int (col x.cps.toList : Nat)) H
abbrev N_wrong_column : List Str := ["text", "start", "slash", "end"]
theorem sc_wrong_column : FnScope N_wrong_column ["text"] (defScope s_wrong_column) := ⟨rfl, rfl, rfl, by decide +kernel, rfl, by decide +kernel, by decide +kernel⟩
theorem st_wrong_column {v0 : V} : L2.start N_wrong_column [v0] = [some v0, none, none, none] := rfl
theorem ok_wrong_column {f : Addr} {fd : FuncData} (F : FD K s_wrong_column "wrong_column" "wrong_column" f fd) (z_len : mg "len" = none) (g_whole_end : Gf P w K mg base "whole_end" 1 ["text", "start"] (spWe)) : FnOk P w K mg base (L2.CX P w) 2 f fd ["text"] (spCol) := by
  have nd := sc_wrong_column.nd
  refine F.ok0 sc_wrong_column (fun vs H Q E h => ?_) (fun cdv A outer s H vs Q E hr h => ?_)
  · obtain ⟨x, rfl, _⟩ := h
    rfl
  · obtain ⟨x, rfl, hx, q⟩ := h
    refine ⟨_, (pss_cons (ps_if (pt_val (pe_m1 PySem.F.slot_str_startswith PySem.F.type_str_startswith mt_startswith (pv 0) pe_str)) (pss_one (ps_ret (pe_ifExp (pt_cmpR op_eq (pv 0) pe_str (nomark _)) pe_int pe_int))) pss_nil)
        (C8.pss_cut (ps_set (i := 1) nd rfl (Or.inl rfl) (pe_ifExp (pt_val (pe_m1 PySem.F.slot_str_startswith PySem.F.type_str_startswith mt_startswith (pv 0) pe_str)) pe_int pe_int))
        (pss_cons (ps_set (i := 2) nd rfl (Or.inl rfl) (pe_g g_whole_end hr (by decide) passL rfl (pa_cons (pv 0) (pa_cons (pv 1) pa_nil))))
        (pss_cons (ps_if (pt_cmpR op_eq (pv 2) (pv 1) (nomark _)) (pss_one (ps_ret (pe_op op_add (pv 1) pe_int))) pss_nil)
        (pss_cons (ps_if (pt_cmpR op_eq (pv 2) (pe_callB call_len_str (by rfl) z_len (by decide +kernel) (pa_cons (pv 0) pa_nil)) (nomark _)) (pss_one (ps_ret pe_int)) pss_nil)
        (pss_cons (ps_if (pt_cmpR op_ne (pe_ix ix_str (pv 0) (pv 2) (fun _ _ => rfl)) pe_str (nomark _)) (pss_one (ps_ret (pe_op op_add (pv 2) pe_int))) pss_nil)
        (pss_cons (ps_set (i := 3) nd rfl (Or.inl rfl) (pe_g g_whole_end hr (by decide) passL rfl (pa_cons (pv 0) (pa_cons (pe_op op_add (pv 2) pe_int) pa_nil))))
        (pss_cons (ps_if (PW.pt (pw_or (pt_cmpR op_eq (pv 3) (pe_op op_add (pv 2) pe_int) (nomark _)) (pw_or1 (pt_cmpR op_lt (pv 3) (pe_callB call_len_str (by rfl) z_len (by decide +kernel) (pa_cons (pv 0) pa_nil)) (nomark _))))) (pss_one (ps_ret (pe_op op_add (pv 3) pe_int))) pss_nil)
        (pss_one (ps_ret pe_int)))))))))), ?_⟩
    simp only [tVar, rIxTH, rIxLH, gTupH, line_le, HO.tup.injEq, HO.lst.injEq, List.length_cons, List.length_nil, at0, at1, rU, tOst, tTest, rIxL, rIxT, C8.tCut, cxOf_K, tC, tOp, tUn, tSeq, tAsg, tNext, tRet, tRetN, tDrop, tIfS, tNever, gName, gNil, gCons, gTup, gSub, tPar, rI, rI0, rU, rEq, rNe, tB, tAnd, tOr, tNot, tAndV, tOrV, tNotV, tIf, tTup, tLst, tNil, tCons, tCB, tCall, tMeth, tMake, tFld, sFld, tDGet, sDPut, tDisp, tPairs, tBreak, tCont, scal_ii, scal_bb, scal_ss, List.getElem?_cons_zero, List.getElem?_cons_succ, List.set_cons_zero, List.set_cons_succ, Option.some.injEq, exists_eq_left', exists_eq_left, exists_and_left, V.int.injEq, V.bl.injEq, V.ref.injEq, V.str.injEq, List.cons.injEq, and_true, true_and, Bool.true_eq, List.nil_append, List.append_nil, List.cons_append, exists_eq', and_self, reduceCtorEq, false_or, or_false, false_and, exists_false, exists_const, and_assoc, if_true, Bool.false_eq_true, if_false, Nat.reduceAdd, Nat.reduceLeDiff, Nat.zero_add, Nat.le_refl, forall_const, st_wrong_column, tM1]
    rw [s_zero, starts1]
    unfold col at q
    refine ite2 (fun h0 => ?_) (fun h0 => ?_)
    · have h0 : x.cps.toList[0]? = some 48 := by simpa using h0
      rw [if_pos h0] at q
      refine ite2 (fun h1 => ?_) (fun h1 => ?_)
      · have h1 : x = ⟨#[48]⟩ := by simpa using h1
        rw [if_pos (by rw [h1])] at q
        exact q
      · have h1 : ¬ x = ⟨#[48]⟩ := by simpa using h1
        rw [if_neg (fun z => h1 (by rw [← tx_of x, z]; rfl))] at q
        exact q
    · have h0 : ¬ x.cps.toList[0]? = some 48 := by simpa using h0
      rw [if_neg h0] at q
      refine ⟨fun σ' H' => H' = H ∧ ∃ k : Nat, σ' = [some (.str x), some (.int (k : Int)), none, none] ∧ k ≤ x.length ∧ Q (.int (colAt x.cps.toList k : Nat)) H, ?_, ?_⟩
      · rw [s_minus, starts1]
        refine ite2 (fun h1 => ?_) (fun h1 => ?_)
        · have h1 : x.cps.toList[0]? = some 45 := by simpa using h1
          rw [if_pos h1] at q
          exact ⟨rfl, 1, rfl, by rw [HwT.len_list]; exact (List.getElem?_eq_some_iff.mp h1).1, q⟩
        · have h1 : ¬ x.cps.toList[0]? = some 45 := by simpa using h1
          rw [if_neg h1] at q
          exact ⟨rfl, 0, rfl, Nat.zero_le _, q⟩
      · rintro σ' H' ⟨rfl, k, rfl, hk, q⟩
        simp only [tVar, rIxTH, rIxLH, gTupH, line_le, HO.tup.injEq, HO.lst.injEq, List.length_cons, List.length_nil, at0, at1, rU, tOst, tTest, rIxL, rIxT, C8.tCut, cxOf_K, tC, tOp, tUn, tSeq, tAsg, tNext, tRet, tRetN, tDrop, tIfS, tNever, gName, gNil, gCons, gTup, gSub, tPar, rI, rI0, rU, rEq, rNe, tB, tAnd, tOr, tNot, tAndV, tOrV, tNotV, tIf, tTup, tLst, tNil, tCons, tCB, tCall, tMeth, tMake, tFld, sFld, tDGet, sDPut, tDisp, tPairs, tBreak, tCont, scal_ii, scal_bb, scal_ss, List.getElem?_cons_zero, List.getElem?_cons_succ, List.set_cons_zero, List.set_cons_succ, Option.some.injEq, exists_eq_left', exists_eq_left, exists_and_left, V.int.injEq, V.bl.injEq, V.ref.injEq, V.str.injEq, List.cons.injEq, and_true, true_and, Bool.true_eq, List.nil_append, List.append_nil, List.cons_append, exists_eq', and_self, reduceCtorEq, false_or, or_false, false_and, exists_false, exists_const, and_assoc, if_true, Bool.false_eq_true, if_false, Nat.reduceAdd, Nat.reduceLeDiff, Nat.zero_add, Nat.le_refl, forall_const, st_wrong_column, rIxS]
        refine ⟨x, k, rfl, hk, hx, ?_⟩
        unfold colAt at q
        simp only [tVar, rIxTH, rIxLH, gTupH, line_le, HO.tup.injEq, HO.lst.injEq, List.length_cons, List.length_nil, at0, at1, rU, tOst, tTest, rIxL, rIxT, C8.tCut, cxOf_K, tC, tOp, tUn, tSeq, tAsg, tNext, tRet, tRetN, tDrop, tIfS, tNever, gName, gNil, gCons, gTup, gSub, tPar, rI, rI0, rU, rEq, rNe, tB, tAnd, tOr, tNot, tAndV, tOrV, tNotV, tIf, tTup, tLst, tNil, tCons, tCB, tCall, tMeth, tMake, tFld, sFld, tDGet, sDPut, tDisp, tPairs, tBreak, tCont, scal_ii, scal_bb, scal_ss, List.getElem?_cons_zero, List.getElem?_cons_succ, List.set_cons_zero, List.set_cons_succ, Option.some.injEq, exists_eq_left', exists_eq_left, exists_and_left, V.int.injEq, V.bl.injEq, V.ref.injEq, V.str.injEq, List.cons.injEq, and_true, true_and, Bool.true_eq, List.nil_append, List.append_nil, List.cons_append, exists_eq', and_self, reduceCtorEq, false_or, or_false, false_and, exists_false, exists_const, and_assoc, if_true, Bool.false_eq_true, if_false, Nat.reduceAdd, Nat.reduceLeDiff, Nat.zero_add, Nat.le_refl, forall_const, st_wrong_column]
        refine ite2 (fun h1 => ?_) (fun h1 => ?_)
        · have h1 : we x.cps.toList k = k := by have := of_decide_eq_true h1; omega
          rw [if_pos h1] at q
          exact q
        have h1 : we x.cps.toList k ≠ k := fun z => h1 (decide_eq_true (by omega))
        rw [if_neg h1] at q
        obtain ⟨w1, w2⟩ := we_zero h1
        have wl := run_le x.cps.toList k (by rw [← HwT.len_list]; exact hk)
        refine ⟨le_line hx, ite2 (fun h2 => ?_) (fun h2 => ?_)⟩
        · have h2 : we x.cps.toList k = x.cps.toList.length := by have := of_decide_eq_true h2; rw [← HwT.len_list]; omega
          rw [if_pos h2] at q
          exact q
        have h2 : we x.cps.toList k ≠ x.cps.toList.length := fun z => h2 (decide_eq_true (by rw [HwT.len_list]; omega))
        rw [if_neg h2] at q
        obtain ⟨c, hc⟩ : ∃ c, x.cps.toList[we x.cps.toList k]? = some c := ⟨_, List.getElem?_eq_getElem (by omega)⟩
        refine ⟨le_line hx, c, atI_nat hc, ?_⟩
        rw [s_slash, singS]
        rw [hc] at q
        refine ite2 (fun h3 => ?_) (fun h3 => ?_)
        · have h3 : c ≠ 47 := by simpa using h3
          rw [if_pos (by simpa using h3)] at q
          exact q
        have h3 : c = 47 := by simpa using h3
        rw [if_neg (by simp [h3])] at q
        refine ⟨x, we x.cps.toList k + 1, rfl, by rw [HwT.len_list]; omega, hx, ?_⟩
        simp only [tVar, rIxTH, rIxLH, gTupH, line_le, HO.tup.injEq, HO.lst.injEq, List.length_cons, List.length_nil, at0, at1, rU, tOst, tTest, rIxL, rIxT, C8.tCut, cxOf_K, tC, tOp, tUn, tSeq, tAsg, tNext, tRet, tRetN, tDrop, tIfS, tNever, gName, gNil, gCons, gTup, gSub, tPar, rI, rI0, rU, rEq, rNe, tB, tAnd, tOr, tNot, tAndV, tOrV, tNotV, tIf, tTup, tLst, tNil, tCons, tCB, tCall, tMeth, tMake, tFld, sFld, tDGet, sDPut, tDisp, tPairs, tBreak, tCont, scal_ii, scal_bb, scal_ss, List.getElem?_cons_zero, List.getElem?_cons_succ, List.set_cons_zero, List.set_cons_succ, Option.some.injEq, exists_eq_left', exists_eq_left, exists_and_left, V.int.injEq, V.bl.injEq, V.ref.injEq, V.str.injEq, List.cons.injEq, and_true, true_and, Bool.true_eq, List.nil_append, List.append_nil, List.cons_append, exists_eq', and_self, reduceCtorEq, false_or, or_false, false_and, exists_false, exists_const, and_assoc, if_true, Bool.false_eq_true, if_false, Nat.reduceAdd, Nat.reduceLeDiff, Nat.zero_add, Nat.le_refl, forall_const, st_wrong_column]
        refine ite2 (fun h4 => ?_) (fun h4 => ?_)
        · have h4 : we x.cps.toList (we x.cps.toList k + 1) = we x.cps.toList k + 1 := by have := of_decide_eq_true h4; omega
          rw [if_pos (.inl h4)] at q
          rw [h4] at q ⊢
          exact q
        have h4 : ¬ we x.cps.toList (we x.cps.toList k + 1) = we x.cps.toList k + 1 := fun z => h4 (decide_eq_true (by omega))
        refine ⟨le_line hx, ite2 (fun h5 => ?_) (fun h5 => ?_)⟩
        · have h5 : we x.cps.toList (we x.cps.toList k + 1) < x.cps.toList.length := by have := of_decide_eq_true h5; rw [← HwT.len_list]; omega
          rw [if_pos (.inr h5)] at q
          exact q
        · have h5 : ¬ we x.cps.toList (we x.cps.toList k + 1) < x.cps.toList.length := fun z => h5 (decide_eq_true (by rw [HwT.len_list]; omega))
          rw [if_neg (fun z => z.elim h4 h5)] at q
          exact q


end HwL
end

section
namespace HwL
open PySem PySem.Spec PyProof.Rows L2 LamX HwT
variable {P : Program} {w : World} {K : PySem.W.Frag} {mg : Str → Option Value} {base : Heap}

abbrev N_TooLongD_initD : List Str := ["self", "digits"]
theorem sc_TooLongD_initD : FnScope N_TooLongD_initD ["self", "digits"] (defScope s_TooLongD_initD) := ⟨rfl, rfl, rfl, by decide +kernel, rfl, by decide +kernel, by decide +kernel⟩
theorem st_TooLongD_initD {v0 v1 : V} : L2.start N_TooLongD_initD [v0, v1] = [some v0, some v1] := rfl
theorem ok_TooLongD_initD {f : Addr} {fd : FuncData} (F : FD K s_TooLongD_initD "__init__" "TooLong.__init__" f fd) {C_TooLong : Addr} (TX : OexC K C_TooLong) (n1 : PySem.W.findIn K (.ref C_TooLong) "digits" = some none) : FnOk P w K mg base (L2.CX P w) 1 f fd ["self", "digits"] (spX1 C_TooLong "digits") := by
  have nd := sc_TooLongD_initD.nd
  refine F.ok0 sc_TooLongD_initD (fun vs H Q E h => ?_) (fun cdv A outer s H vs Q E hr h => ?_)
  · obtain ⟨a, x, rfl, _⟩ := h
    rfl
  · obtain ⟨a, x, rfl, ha, k⟩ := h
    refine ⟨_, (pss_one (ps_ost (pv 0) (pv 1))), ?_⟩
    simp only [tVar, rIxTH, rIxLH, gTupH, line_le, HO.tup.injEq, HO.lst.injEq, List.length_cons, List.length_nil, at0, at1, rU, tOst, tTest, rIxL, rIxT, C8.tCut, cxOf_K, tC, tOp, tUn, tSeq, tAsg, tNext, tRet, tRetN, tDrop, tIfS, tNever, gName, gNil, gCons, gTup, gSub, tPar, rI, rI0, rU, rEq, rNe, tB, tAnd, tOr, tNot, tAndV, tOrV, tNotV, tIf, tTup, tLst, tNil, tCons, tCB, tCall, tMeth, tMake, tFld, sFld, tDGet, sDPut, tDisp, tPairs, tBreak, tCont, scal_ii, scal_bb, scal_ss, List.getElem?_cons_zero, List.getElem?_cons_succ, List.set_cons_zero, List.set_cons_succ, Option.some.injEq, exists_eq_left', exists_eq_left, exists_and_left, V.int.injEq, V.bl.injEq, V.ref.injEq, V.str.injEq, List.cons.injEq, and_true, true_and, Bool.true_eq, List.nil_append, List.append_nil, List.cons_append, exists_eq', and_self, reduceCtorEq, false_or, or_false, false_and, exists_false, exists_const, and_assoc, if_true, Bool.false_eq_true, if_false, Nat.reduceAdd, Nat.reduceLeDiff, Nat.zero_add, Nat.le_refl, forall_const, st_TooLongD_initD]
    exact ⟨C_TooLong, TX, n1, .inl ⟨ha, fun d hd hda => k d hd hda⟩⟩
theorem len_nat (m : Nat) : (PySem.Str.ofString (toString ((m : Nat) : Int))).length = dlen m := by
  rw [HwT.len_list, PySem.W.KIN.signs_num, List.length_map]
  rfl
def spDg : Sp := fun vs H Q _ => ∃ n : Int, vs = [.int n] ∧ n.natAbs < 2 ^ 13500 ∧ ∀ H', Same H H' → Q (.int (dlen n.natAbs : Nat)) H'
def pws (k : Nat) : List V := (List.range (k + 1)).map fun i => .int ((10 ^ 2 ^ i : Nat) : Int)
theorem pws_succ (k : Nat) : pws (k + 1) = pws k ++ [.int ((10 ^ 2 ^ (k + 1) : Nat) : Int)] := by
  unfold pws
  rw [List.range_succ, List.map_append]
  rfl
theorem pws_len (k : Nat) : (pws k).length = k + 1 := by simp [pws]
theorem pws_at {k p : Nat} (h : p ≤ k) : atI (pws k) (p : Int) = some (.int ((10 ^ 2 ^ p : Nat) : Int)) := by
  refine atI_nat ?_
  unfold pws
  rw [List.getElem?_map, List.getElem?_range (by omega)]
  rfl
theorem atI_last {xs : List V} {x : V} (h : xs.getLast? = some x) : atI xs (-1) = some x := by
  unfold atI ixN
  have hl : 0 < xs.length := by
    cases xs with
    | nil => cases h
    | cons a t => simp
  rw [List.getLast?_eq_getElem?] at h
  rw [if_neg (by omega), if_pos (by omega)]
  rw [show ((-1 : Int) + (xs.length : Int)).toNat = xs.length - 1 by omega]
  exact h
theorem pws_last (k : Nat) : atI (pws k) (-1) = some (.int ((10 ^ 2 ^ k : Nat) : Int)) := by
  refine atI_last ?_
  unfold pws
  rw [List.range_succ, List.map_append]
  simp
theorem pow12 : (2 : Nat) ^ 13500 < 10 ^ 2 ^ 12 := by decide +kernel
theorem pow43 : (2 : Nat) ^ 13500 < 10 ^ 4300 := by decide +kernel
theorem pow_k {m k : Nat} (h : 10 ^ 2 ^ k ≤ m) (hm : m < 2 ^ 13500) : k ≤ 11 := by
  refine Decidable.byContradiction fun z => ?_
  have h1 : 2 ^ 12 ≤ 2 ^ k := Nat.pow_le_pow_right (by decide) (by omega)
  have h2 : 10 ^ 2 ^ 12 ≤ 10 ^ 2 ^ k := Nat.pow_le_pow_right (by decide) h1
  have h3 := pow12
  exact absurd (Nat.lt_of_lt_of_le h3 (Nat.le_trans h2 h)) (Nat.lt_asymm hm)
theorem bit_pw {k : Nat} (h : k ≤ 12) : ((10 ^ 2 ^ k : Nat) : Int).natAbs < 2 ^ 20000 := by
  rw [Int.natAbs_natCast]
  have h1 : 2 ^ k ≤ 2 ^ 12 := Nat.pow_le_pow_right (by decide) h
  have h2 : 10 ^ 2 ^ k ≤ 10 ^ 2 ^ 12 := Nat.pow_le_pow_right (by decide) h1
  exact Nat.lt_of_le_of_lt h2 (by decide +kernel)
abbrev N_digits_of : List Str := ["number", "size", "powers", "reached", "digits", "place"]
theorem sc_digits_of : FnScope N_digits_of ["number"] (defScope s_digits_of) := ⟨rfl, rfl, rfl, by decide +kernel, rfl, by decide +kernel, by decide +kernel⟩
theorem st_digits_of {v0 : V} : L2.start N_digits_of [v0] = [some v0, none, none, none, none, none] := rfl
theorem ok_digits_of {f : Addr} {fd : FuncData} (F : FD K s_digits_of "digits_of" "digits_of" f fd) (dg : HwD.DigK K) (z_reversed : mg "reversed" = none) (z_range : mg "range" = none) (z_len : mg "len" = none) (z_str : mg "str" = none) (z_abs : mg "abs" = none) {t_PLAIN_BITS : Tok} (k_PLAIN_BITS : mg "PLAIN_BITS" = some (.int 13000 t_PLAIN_BITS)) : FnOk P w K mg base (L2.CX P w) 1 f fd ["number"] (spDg) := by
  have nd := sc_digits_of.nd
  refine F.ok0 sc_digits_of (fun vs H Q E h => ?_) (fun cdv A outer s H vs Q E hr h => ?_)
  · obtain ⟨n, rfl, _⟩ := h
    rfl
  · obtain ⟨n, rfl, hn, kQ⟩ := h
    refine ⟨_, (C8.pss_cut (ps_set (i := 1) nd rfl (Or.inl rfl) (pe_callB call_abs (by rfl) z_abs (by decide +kernel) (pa_cons (pv 0) pa_nil)))
        (C8.pss_cut (ps_if (pt_cmpR op_lt (pe_bits (pv 1)) (pe_glob (v := .int 13000) rfl k_PLAIN_BITS ⟨_, rfl⟩) (nomark _)) (pss_one (ps_ret (pe_callB call_len_str (by rfl) z_len (by decide +kernel) (pa_cons (pe_callTy (call_str_intB rfl dg) (by rfl) z_str (by decide +kernel) (pa_cons (pv 1) pa_nil)) pa_nil)))) pss_nil)
        (C8.pss_cut (ps_set (i := 2) nd rfl (Or.inl rfl) (pe_lst (pa_cons pe_int pa_nil)))
        (C8.pss_cut (ps_while PassesOwn.never (pt_cmpR op_le (pe_ix ix_listH (pv 2) (pe_un un_neg pe_int) (fun _ _ => rfl)) (pv 1) (nomark _)) (pss_one (ps_expr (pe_bm PySem.F.plainAttrs_list PySem.F.slot_list_append PySem.F.type_list_append mt_append (pv 2) (pa_cons (pe_op op_mulW (pe_ix ix_listH (pv 2) (pe_un un_neg pe_int) (fun _ _ => rfl)) (pe_ix ix_listH (pv 2) (pe_un un_neg pe_int) (fun _ _ => rfl))) pa_nil)))))
        (C8.pss_cut (ps_set (i := 3) nd rfl (Or.inl rfl) pe_int)
        (C8.pss_cut (ps_set (i := 4) nd rfl (Or.inl rfl) pe_int)
        (pss_cons (ps_for PassesOwn.never rfl (pi_revR rfl z_reversed (prg_1 rfl z_range (pe_callB call_len_seq (by rfl) z_len (by decide +kernel) (pa_cons (pv 2) pa_nil)))) (pg_name (i := 5) nd rfl (Or.inl rfl)) (pss_one (ps_if (pt_cmpR op_le (pe_op op_mulW (pv 3) (pe_ix ix_listH (pv 2) (pv 5) (fun _ _ => rfl))) (pv 1) (nomark _)) (pss_cons (ps_set (i := 3) nd rfl (Or.inl rfl) (pe_op op_mulW (pv 3) (pe_ix ix_listH (pv 2) (pv 5) (fun _ _ => rfl))))
        (pss_one (ps_set (i := 4) nd rfl (Or.inl rfl) (pe_op op_add (pv 4) (pe_op op_oneShl pe_int (pv 5)))))) pss_nil)))
        (pss_one (ps_ret (pv 4)))))))))), ?_⟩
    have sz : (if n < 0 then -n else n) = (n.natAbs : Int) := by split <;> omega
    simp only [tVar, rIxTH, rIxLH, gTupH, line_le, HO.tup.injEq, HO.lst.injEq, List.length_cons, List.length_nil, at0, at1, rU, tOst, tTest, rIxL, rIxT, C8.tCut, cxOf_K, tC, tOp, tUn, tSeq, tAsg, tNext, tRet, tRetN, tDrop, tIfS, tNever, gName, gNil, gCons, gTup, gSub, tPar, rI, rI0, rU, rEq, rNe, tB, tAnd, tOr, tNot, tAndV, tOrV, tNotV, tIf, tTup, tLst, tNil, tCons, tCB, tCall, tMeth, tMake, tFld, sFld, tDGet, sDPut, tDisp, tPairs, tBreak, tCont, scal_ii, scal_bb, scal_ss, List.getElem?_cons_zero, List.getElem?_cons_succ, List.set_cons_zero, List.set_cons_succ, Option.some.injEq, exists_eq_left', exists_eq_left, exists_and_left, V.int.injEq, V.bl.injEq, V.ref.injEq, V.str.injEq, List.cons.injEq, and_true, true_and, Bool.true_eq, List.nil_append, List.append_nil, List.cons_append, exists_eq', and_self, reduceCtorEq, false_or, or_false, false_and, exists_false, exists_const, and_assoc, if_true, Bool.false_eq_true, if_false, Nat.reduceAdd, Nat.reduceLeDiff, Nat.zero_add, Nat.le_refl, forall_const, st_digits_of]
    rw [sz]
    generalize hm : n.natAbs = m at hn kQ ⊢
    refine ⟨fun σ' H' => σ' = [some (.int n), some (.int (m : Int)), none, none, none, none] ∧ H' = H, ⟨rfl, rfl⟩, ?_⟩
    rintro σ' H' ⟨rfl, rfl⟩
    refine ⟨fun σ' H2 => σ' = [some (.int n), some (.int (m : Int)), none, none, none, none] ∧ H2 = H' ∧ 0 < m, ?_, ?_⟩
    · simp only [tBits, tVar, rIxTH, rIxLH, gTupH, line_le, HO.tup.injEq, HO.lst.injEq, List.length_cons, List.length_nil, at0, at1, rU, tOst, tTest, rIxL, rIxT, C8.tCut, cxOf_K, tC, tOp, tUn, tSeq, tAsg, tNext, tRet, tRetN, tDrop, tIfS, tNever, gName, gNil, gCons, gTup, gSub, tPar, rI, rI0, rU, rEq, rNe, tB, tAnd, tOr, tNot, tAndV, tOrV, tNotV, tIf, tTup, tLst, tNil, tCons, tCB, tCall, tMeth, tMake, tFld, sFld, tDGet, sDPut, tDisp, tPairs, tBreak, tCont, scal_ii, scal_bb, scal_ss, List.getElem?_cons_zero, List.getElem?_cons_succ, List.set_cons_zero, List.set_cons_succ, Option.some.injEq, exists_eq_left', exists_eq_left, exists_and_left, V.int.injEq, V.bl.injEq, V.ref.injEq, V.str.injEq, List.cons.injEq, and_true, true_and, Bool.true_eq, List.nil_append, List.append_nil, List.cons_append, exists_eq', and_self, reduceCtorEq, false_or, or_false, false_and, exists_false, exists_const, and_assoc, if_true, Bool.false_eq_true, if_false, Nat.reduceAdd, Nat.reduceLeDiff, Nat.zero_add, Nat.le_refl, forall_const, st_digits_of]
      refine ite2 (fun hb => ?_) (fun hb => ?_)
      · have l43 : dlen m ≤ 4300 := (dlen_le (by decide)).mpr (Nat.lt_trans hn pow43)
        refine ⟨by rw [Int.natAbs_natCast]; exact Nat.lt_trans hn pow43, ?_, ?_⟩
        · rw [len_nat]
          exact Nat.le_trans l43 (by decide)
        · rw [len_nat]
          exact kQ H' (Same.refl _)
      · refine Nat.pos_of_ne_zero fun z => hb (decide_eq_true ?_)
        rw [z]
        decide +kernel
    rintro σ' H' ⟨rfl, rfl, m0⟩
    refine ⟨fun σ' H2 => ∃ p, σ' = [some (.int n), some (.int (m : Int)), some (.ref p), none, none, none] ∧ H' p = none ∧ Same H' H2 ∧ H2 p = some (.lst (pws 0)), fun p hp => ⟨p, rfl, hp, same_new hp, upd_same⟩, ?_⟩
    rintro σ' H2 ⟨p, rfl, hp, s2, h2⟩
    refine ⟨fun σ' H2 => ∃ k, σ' = [some (.int n), some (.int (m : Int)), some (.ref p), none, none, none] ∧ k ≤ 12 ∧ m < 10 ^ 2 ^ k ∧ Same H' H2 ∧ H2 p = some (.lst (pws k)), ?_, ?_⟩
    · refine ⟨fun j σ' H2 => ∃ k, σ' = [some (.int n), some (.int (m : Int)), some (.ref p), none, none, none] ∧ k ≤ 12 ∧ j = 20 - k ∧ Same H' H2 ∧ H2 p = some (.lst (pws k)), ⟨_, 0, rfl, by decide, rfl, s2, h2⟩, ?_⟩
      rintro j σ' H3 ⟨k, rfl, hk, rfl, s3, h3⟩
      simp only [tVar, rIxTH, rIxLH, gTupH, line_le, HO.tup.injEq, HO.lst.injEq, List.length_cons, List.length_nil, at0, at1, rU, tOst, tTest, rIxL, rIxT, C8.tCut, cxOf_K, tC, tOp, tUn, tSeq, tAsg, tNext, tRet, tRetN, tDrop, tIfS, tNever, gName, gNil, gCons, gTup, gSub, tPar, rI, rI0, rU, rEq, rNe, tB, tAnd, tOr, tNot, tAndV, tOrV, tNotV, tIf, tTup, tLst, tNil, tCons, tCB, tCall, tMeth, tMake, tFld, sFld, tDGet, sDPut, tDisp, tPairs, tBreak, tCont, scal_ii, scal_bb, scal_ss, List.getElem?_cons_zero, List.getElem?_cons_succ, List.set_cons_zero, List.set_cons_succ, Option.some.injEq, exists_eq_left', exists_eq_left, exists_and_left, V.int.injEq, V.bl.injEq, V.ref.injEq, V.str.injEq, List.cons.injEq, and_true, true_and, Bool.true_eq, List.nil_append, List.append_nil, List.cons_append, exists_eq', and_self, reduceCtorEq, false_or, or_false, false_and, exists_false, exists_const, and_assoc, if_true, Bool.false_eq_true, if_false, Nat.reduceAdd, Nat.reduceLeDiff, Nat.zero_add, Nat.le_refl, forall_const, st_digits_of, rIxLH, h3, pws_last]
      refine ite2 (fun hc => ?_) (fun hc => ?_)
      · have hc : 10 ^ 2 ^ k ≤ m := Int.ofNat_le.mp (of_decide_eq_true hc)
        have k11 := pow_k hc hn
        have cw := wide_mul (bit_pw hk) (bit_pw hk) (by decide) (by decide) (by decide)
        refine ⟨fun σ' H4 => σ' = [some (.int n), some (.int (m : Int)), some (.ref p), none, none, none] ∧ Same H' H4 ∧ H4 p = some (.lst (pws (k + 1))), fun σ' H4 ⟨e, s4, h4⟩ => ⟨20 - (k + 1), Nat.sub_lt_sub_left (by clear hn hc; omega) (Nat.lt_succ_self k), e, k + 1, Nat.succ_le_succ k11, rfl, s4, h4⟩, ?_⟩
        simp only [tBM, tVar, rIxTH, rIxLH, gTupH, line_le, HO.tup.injEq, HO.lst.injEq, List.length_cons, List.length_nil, at0, at1, rU, tOst, tTest, rIxL, rIxT, C8.tCut, cxOf_K, tC, tOp, tUn, tSeq, tAsg, tNext, tRet, tRetN, tDrop, tIfS, tNever, gName, gNil, gCons, gTup, gSub, tPar, rI, rI0, rU, rEq, rNe, tB, tAnd, tOr, tNot, tAndV, tOrV, tNotV, tIf, tTup, tLst, tNil, tCons, tCB, tCall, tMeth, tMake, tFld, sFld, tDGet, sDPut, tDisp, tPairs, tBreak, tCont, scal_ii, scal_bb, scal_ss, List.getElem?_cons_zero, List.getElem?_cons_succ, List.set_cons_zero, List.set_cons_succ, Option.some.injEq, exists_eq_left', exists_eq_left, exists_and_left, V.int.injEq, V.bl.injEq, V.ref.injEq, V.str.injEq, List.cons.injEq, and_true, true_and, Bool.true_eq, List.nil_append, List.append_nil, List.cons_append, exists_eq', and_self, reduceCtorEq, false_or, or_false, false_and, exists_false, exists_const, and_assoc, if_true, Bool.false_eq_true, if_false, Nat.reduceAdd, Nat.reduceLeDiff, Nat.zero_add, Nat.le_refl, forall_const, st_digits_of, rIxLH, h3, pws_last, rAppend]
        refine ⟨.inl ⟨rfl, _, SqL.of h3⟩, cw, ?_, ?_, ?_⟩
        · rw [pws_len]
          exact line_le (by clear hn hc; omega)
        · exact fun q x hx => by
            rw [upd_ne (fun z => by rw [z, hp] at hx; cases hx)]
            exact s3 q x hx
        · rw [upd_same, pws_succ]
          have e : ((10 ^ 2 ^ k : Nat) : Int) * ((10 ^ 2 ^ k : Nat) : Int) = ((10 ^ 2 ^ (k + 1) : Nat) : Int) := by
            rw [← Int.natCast_mul, ← Nat.pow_add, Nat.pow_succ 2 k, Nat.mul_two]
          rw [e]
      · have hc : m < 10 ^ 2 ^ k := Nat.lt_of_not_le fun z => hc (decide_eq_true (Int.ofNat_le.mpr z))
        exact ⟨k, hk, hc, s3, rfl⟩
    rintro σ' H3 ⟨k, rfl, hk, mk, s3, h3⟩
    refine ⟨fun σ' H4 => σ' = [some (.int n), some (.int (m : Int)), some (.ref p), some (.int 1), none, none] ∧ H4 = H3, ⟨rfl, rfl⟩, ?_⟩
    rintro σ' H4 ⟨rfl, rfl⟩
    refine ⟨fun σ' H5 => σ' = [some (.int n), some (.int (m : Int)), some (.ref p), some (.int 1), some (.int 1), none] ∧ H5 = H4, ⟨rfl, rfl⟩, ?_⟩
    rintro σ' H5 ⟨rfl, rfl⟩
    refine ⟨.ref p, rfl, p, rfl, pws k, .inl (SqL.of h3), _, rfl, by decide, by decide, ?_, ?_, ?_⟩
    · rw [pws_len]
      clear hn mk
      omega
    · rw [pws_len]
      clear hn mk
      omega
    rw [pws_len, show ((((k + 1 : Nat) : Int) - 0).toNat) = k + 1 by simp]
    refine for_rangeC (lo := 0 + ((k + 1 : Nat) : Int) - 1) (c := -1) (n := k + 1) (fun i σ' H2 => H2 = H5 ∧ ∃ (e : Nat) (v : Option V), σ' = [some (.int n), some (.int (m : Int)), some (.ref p), some (.int ((10 ^ e : Nat) : Int)), some (.int ((e + 1 : Nat) : Int)), v] ∧ 10 ^ e ≤ m ∧ m < 10 ^ (e + 2 ^ (k + 1 - i)) ) ?_ ?_ ?_
    · refine ⟨rfl, 0, none, rfl, m0, Nat.lt_of_lt_of_le mk (Nat.pow_le_pow_right (by decide) ?_)⟩
      have := Nat.pow_le_pow_right (n := 2) (by decide) (show k ≤ k + 1 - 0 by clear hn mk; omega)
      clear hn mk
      omega
    · rintro i σ' H2 hi ⟨rfl, e, v, rfl, em, me⟩
      rw [show 0 + ((k + 1 : Nat) : Int) - 1 + (i : Int) * -1 = ((k - i : Nat) : Int) by clear hn mk em me; omega]
      have ki : k + 1 - i = k - i + 1 := by clear hn mk em me; omega
      rw [ki] at me
      rw [show k + 1 - (i + 1) = k - i by clear hn mk em me; omega]
      have hj : k - i ≤ k := Nat.sub_le _ _
      generalize k - i = j at me hj ⊢
      have be : ((10 ^ e : Nat) : Int).natAbs < 2 ^ 20000 := by
        rw [Int.natAbs_natCast]
        exact Nat.lt_trans (Nat.lt_of_le_of_lt em hn) (Nat.pow_lt_pow_right (by decide) (by decide))
      have cw := wide_mul be (bit_pw (Nat.le_trans hj hk)) (by decide) (by decide) (by decide)
      have em2 : ((10 ^ e : Nat) : Int) * ((10 ^ 2 ^ j : Nat) : Int) = ((10 ^ (e + 2 ^ j) : Nat) : Int) := by rw [← Int.natCast_mul, ← Nat.pow_add]
      simp only [tVar, rIxTH, rIxLH, gTupH, line_le, HO.tup.injEq, HO.lst.injEq, List.length_cons, List.length_nil, at0, at1, rU, tOst, tTest, rIxL, rIxT, C8.tCut, cxOf_K, tC, tOp, tUn, tSeq, tAsg, tNext, tRet, tRetN, tDrop, tIfS, tNever, gName, gNil, gCons, gTup, gSub, tPar, rI, rI0, rU, rEq, rNe, tB, tAnd, tOr, tNot, tAndV, tOrV, tNotV, tIf, tTup, tLst, tNil, tCons, tCB, tCall, tMeth, tMake, tFld, sFld, tDGet, sDPut, tDisp, tPairs, tBreak, tCont, scal_ii, scal_bb, scal_ss, List.getElem?_cons_zero, List.getElem?_cons_succ, List.set_cons_zero, List.set_cons_succ, Option.some.injEq, exists_eq_left', exists_eq_left, exists_and_left, V.int.injEq, V.bl.injEq, V.ref.injEq, V.str.injEq, List.cons.injEq, and_true, true_and, Bool.true_eq, List.nil_append, List.append_nil, List.cons_append, exists_eq', and_self, reduceCtorEq, false_or, or_false, false_and, exists_false, exists_const, and_assoc, if_true, Bool.false_eq_true, if_false, Nat.reduceAdd, Nat.reduceLeDiff, Nat.zero_add, Nat.le_refl, forall_const, st_digits_of, rIxLH, h3, pws_at hj, em2]
      refine ⟨cw, ite2 (fun hc => ?_) (fun hc => ?_)⟩
      · have hc : 10 ^ (e + 2 ^ j) ≤ m := Int.ofNat_le.mp (of_decide_eq_true hc)
        refine ⟨cw, j, rfl, by clear hn mk em me hc; omega, e + 2 ^ j, rfl, ?_, hc, ?_⟩
        · push_cast
          clear hn mk em me hc
          omega
        · rw [Nat.add_assoc, ← Nat.mul_two, ← Nat.pow_succ]
          exact me
      · have hc : m < 10 ^ (e + 2 ^ j) := Nat.lt_of_not_le fun z => hc (decide_eq_true (Int.ofNat_le.mpr z))
        exact ⟨e, rfl, rfl, em, hc⟩
    · rintro σ' H2 ⟨rfl, e, v, rfl, em, me⟩
      simp only [tVar, rIxTH, rIxLH, gTupH, line_le, HO.tup.injEq, HO.lst.injEq, List.length_cons, List.length_nil, at0, at1, rU, tOst, tTest, rIxL, rIxT, C8.tCut, cxOf_K, tC, tOp, tUn, tSeq, tAsg, tNext, tRet, tRetN, tDrop, tIfS, tNever, gName, gNil, gCons, gTup, gSub, tPar, rI, rI0, rU, rEq, rNe, tB, tAnd, tOr, tNot, tAndV, tOrV, tNotV, tIf, tTup, tLst, tNil, tCons, tCB, tCall, tMeth, tMake, tFld, sFld, tDGet, sDPut, tDisp, tPairs, tBreak, tCont, scal_ii, scal_bb, scal_ss, List.getElem?_cons_zero, List.getElem?_cons_succ, List.set_cons_zero, List.set_cons_succ, Option.some.injEq, exists_eq_left', exists_eq_left, exists_and_left, V.int.injEq, V.bl.injEq, V.ref.injEq, V.str.injEq, List.cons.injEq, and_true, true_and, Bool.true_eq, List.nil_append, List.append_nil, List.cons_append, exists_eq', and_self, reduceCtorEq, false_or, or_false, false_and, exists_false, exists_const, and_assoc, if_true, Bool.false_eq_true, if_false, Nat.reduceAdd, Nat.reduceLeDiff, Nat.zero_add, Nat.le_refl, forall_const, st_digits_of]
      have := dlen_eq em (by simpa using me)
      rw [← this]
      exact kQ _ s3


end HwL
end

section
namespace HwL
open PySem PySem.Spec PyProof.Rows L2 LamX HwT
variable {P : Program} {w : World} {K : PySem.W.Frag} {mg : Str → Option Value} {base : Heap}

/-- what is wished where a number has too many digits -/
def LongD (CL : Addr) (H : Hp) (E : XK) (n : Nat) : Prop := ∀ H' d, Same H H' → H' d = some (.xd [("digits", .int (n : Int))]) → E (.ref CL) (some d) H'
/-- an object with this top and bottom -/
def IsTB (C : Addr) (H : Hp) (y : V) (t n : Int) : Prop := ∃ a dx, y = .ref a ∧ H a = some (.ins C dx [("top", .int t), ("bottom", .int n)])
theorem long_made {CL : Addr} {H1 H : Hp} {E : XK} {n : Nat} (hb : LongD CL H E n) (e : Same H H1) (a : Addr) (ha : H1 a = none) :
    spX1 CL "digits" [.ref a, .int (n : Int)] (upd H1 a (exo a CL none)) (fun v H2 => v = .non ∧ ∃ (d : Addr), H2 a = some (exo a CL (some d)) ∧ ∃ (fs : List (Str × V)), H2 d = some (exd d fs) ∧ H1 d = none ∧ E (.ref CL) (some d) (upd (del H2 a) d (.xd fs))) (fun _ _ _ => False) :=
  ⟨a, _, rfl, upd_same, fun d hd hda => ⟨rfl, x1_made ha (by rw [upd_ne hda] at hd; exact hd) hda fun H2 e1 e2 => hb H2 d (e.trans e1) e2⟩⟩
theorem max_int (a b : Nat) : (if (b : Int) > (a : Int) then (b : Int) else (a : Int)) = ((max a b : Nat) : Int) := by
  split <;> omega
def spWr (C CL : Addr) : Sp := fun vs H Q E => ∃ (a dx : Addr) (t n : Int), vs = [.ref a] ∧ H a = some (.ins C dx [("top", .int t), ("bottom", .int n)]) ∧ t.natAbs < 2 ^ 13500 ∧ n.natAbs < 2 ^ 13500 ∧
  (max (dlen t.natAbs) (dlen n.natAbs) ≤ 4000 → ∀ H', Same H H' → Q (.str (tx (wrt t n))) H') ∧ (4000 < max (dlen t.natAbs) (dlen n.natAbs) → LongD CL H E (max (dlen t.natAbs) (dlen n.natAbs)))
abbrev N_Ratio_written : List Str := ["self", "digits"]
theorem sc_Ratio_written : FnScope N_Ratio_written ["self"] (defScope s_Ratio_written) := ⟨rfl, rfl, rfl, by decide +kernel, rfl, by decide +kernel, by decide +kernel⟩
theorem st_Ratio_written {v0 : V} : L2.start N_Ratio_written [v0] = [some v0, none] := rfl
theorem ok_Ratio_written {f : Addr} {fd : FuncData} (F : FD K s_Ratio_written "written" "Ratio.written" f fd) {C_Ratio : Addr} (R : RatC K C_Ratio) (dg : HwD.DigK K) (z_str : mg "str" = none) (z_max : mg "max" = none) {t_MOST_DIGITS : Tok} (k_MOST_DIGITS : mg "MOST_DIGITS" = some (.int 4000 t_MOST_DIGITS)) (g_TooLong : Xf P w K mg base "TooLong" C_TooLong 1 (spX1 C_TooLong "digits")) (g_digits_of : Gf P w K mg base "digits_of" 1 ["number"] (spDg)) : FnOk P w K mg base (L2.CX P w) 3 f fd ["self"] (spWr C_Ratio C_TooLong) := by
  have nd := sc_Ratio_written.nd
  refine F.okX sc_Ratio_written (fun vs H Q E h => ?_) (fun cdv A outer s H vs Q E hr h => ?_)
  · obtain ⟨a, dx, t, n, rfl, _⟩ := h
    rfl
  · obtain ⟨a, dx, t, n, rfl, ha, ht, hn, kq, ke⟩ := h
    refine ⟨_, (C8.pss_cut (ps_set (i := 1) nd rfl (Or.inl rfl) (pe_callB (call_max2 rfl) (by rfl) z_max (by decide +kernel) (pa_cons (pe_g g_digits_of hr (by decide) passL rfl (pa_cons (pe_fld (pv 0) rfl) pa_nil)) (pa_cons (pe_g g_digits_of hr (by decide) passL rfl (pa_cons (pe_fld (pv 0) rfl) pa_nil)) pa_nil))))
        (C8.pss_cut (ps_if (pt_cmpR op_gt (pv 1) (pe_glob (v := .int 4000) rfl k_MOST_DIGITS ⟨_, rfl⟩) (nomark _)) (pss_one (ps_raiseX g_TooLong hr (by decide) rfl (takes_of rfl rfl rfl rfl) rfl (pa_cons (pv 1) pa_nil))) pss_nil)
        (pss_cons (ps_if (pt_cmpR op_eq (pe_fld (pv 0) rfl) pe_int (nomark _)) (pss_one (ps_ret (pe_callTy (call_str_intB rfl dg) (by rfl) z_str (by decide +kernel) (pa_cons (pe_fld (pv 0) rfl) pa_nil)))) pss_nil)
        (pss_one (ps_ret (pe_joined (.cons (pe_fmtB rfl dg (pe_fld (pv 0) rfl)) (.cons pe_str (.cons (pe_fmtB rfl dg (pe_fld (pv 0) rfl)) .nil))))))))), ?_⟩
    have l2 : List.lookup ("bottom" : Str) [(("top" : Str), V.int t), ("bottom", V.int n)] = some (V.int n) := by
      have e : (("bottom" : Str) == ("top" : Str)) = false := by decide
      simp [List.lookup, e]
    have l1 : List.lookup ("top" : Str) [(("top" : Str), V.int t), ("bottom", V.int n)] = some (V.int t) := by simp [List.lookup]
    refine ⟨fun σ' H' => Same H H' ∧ σ' = [some (.ref a), some (.int (max (dlen t.natAbs) (dlen n.natAbs) : Nat))], ?_, ?_⟩
    · simp only [tVar, rIxTH, rIxLH, gTupH, line_le, HO.tup.injEq, HO.lst.injEq, List.length_cons, List.length_nil, at0, at1, rU, tOst, tTest, rIxL, rIxT, C8.tCut, cxOf_K, tC, tOp, tUn, tSeq, tAsg, tNext, tRet, tRetN, tDrop, tIfS, tNever, gName, gNil, gCons, gTup, gSub, tPar, rI, rI0, rU, rEq, rNe, tB, tAnd, tOr, tNot, tAndV, tOrV, tNotV, tIf, tTup, tLst, tNil, tCons, tCB, tCall, tMeth, tMake, tFld, sFld, tDGet, sDPut, tDisp, tPairs, tBreak, tCont, scal_ii, scal_bb, scal_ss, List.getElem?_cons_zero, List.getElem?_cons_succ, List.set_cons_zero, List.set_cons_succ, Option.some.injEq, exists_eq_left', exists_eq_left, exists_and_left, V.int.injEq, V.bl.injEq, V.ref.injEq, V.str.injEq, List.cons.injEq, and_true, true_and, Bool.true_eq, List.nil_append, List.append_nil, List.cons_append, exists_eq', and_self, reduceCtorEq, false_or, or_false, false_and, exists_false, exists_const, and_assoc, if_true, Bool.false_eq_true, if_false, Nat.reduceAdd, Nat.reduceLeDiff, Nat.zero_add, Nat.le_refl, forall_const, st_Ratio_written, ha, HO.ins.injEq, l1, l2]
      refine ⟨R.cl, R.nt, t, rfl, ht, fun H1 s1 => ⟨C_Ratio, dx, [("top", .int t), ("bottom", .int n)], s1 _ _ ha, R.cl, R.nb, _, l2, n, rfl, hn, fun H2 s2 => ⟨_, rfl, _, rfl, s1.trans s2, max_int _ _⟩⟩⟩
    rintro σ' H1 ⟨s1, rfl⟩
    refine ⟨fun σ' H2 => H2 = H1 ∧ max (dlen t.natAbs) (dlen n.natAbs) ≤ 4000 ∧ σ' = [some (.ref a), some (.int (max (dlen t.natAbs) (dlen n.natAbs) : Nat))], ?_, ?_⟩
    · simp only [tVar, rIxTH, rIxLH, gTupH, line_le, HO.tup.injEq, HO.lst.injEq, List.length_cons, List.length_nil, at0, at1, rU, tOst, tTest, rIxL, rIxT, C8.tCut, cxOf_K, tC, tOp, tUn, tSeq, tAsg, tNext, tRet, tRetN, tDrop, tIfS, tNever, gName, gNil, gCons, gTup, gSub, tPar, rI, rI0, rU, rEq, rNe, tB, tAnd, tOr, tNot, tAndV, tOrV, tNotV, tIf, tTup, tLst, tNil, tCons, tCB, tCall, tMeth, tMake, tFld, sFld, tDGet, sDPut, tDisp, tPairs, tBreak, tCont, scal_ii, scal_bb, scal_ss, List.getElem?_cons_zero, List.getElem?_cons_succ, List.set_cons_zero, List.set_cons_succ, Option.some.injEq, exists_eq_left', exists_eq_left, exists_and_left, V.int.injEq, V.bl.injEq, V.ref.injEq, V.str.injEq, List.cons.injEq, and_true, true_and, Bool.true_eq, List.nil_append, List.append_nil, List.cons_append, exists_eq', and_self, reduceCtorEq, false_or, or_false, false_and, exists_false, exists_const, and_assoc, if_true, Bool.false_eq_true, if_false, Nat.reduceAdd, Nat.reduceLeDiff, Nat.zero_add, Nat.le_refl, forall_const, st_Ratio_written, tMkO]
      refine ite2 (fun hc => ?_) (fun hc => ?_)
      · have hc : 4000 < max (dlen t.natAbs) (dlen n.natAbs) := by
          have := of_decide_eq_true hc
          omega
        exact fun a1 h1 => long_made (ke hc) s1 a1 h1
      · have hc : ¬ (4000 : Int) < ((max (dlen t.natAbs) (dlen n.natAbs) : Nat) : Int) := fun z => hc (decide_eq_true z)
        omega
    rintro σ' H2 ⟨rfl, hl, rfl⟩
    have ha2 := s1 _ _ ha
    simp only [tVar, rIxTH, rIxLH, gTupH, line_le, HO.tup.injEq, HO.lst.injEq, List.length_cons, List.length_nil, at0, at1, rU, tOst, tTest, rIxL, rIxT, C8.tCut, cxOf_K, tC, tOp, tUn, tSeq, tAsg, tNext, tRet, tRetN, tDrop, tIfS, tNever, gName, gNil, gCons, gTup, gSub, tPar, rI, rI0, rU, rEq, rNe, tB, tAnd, tOr, tNot, tAndV, tOrV, tNotV, tIf, tTup, tLst, tNil, tCons, tCB, tCall, tMeth, tMake, tFld, sFld, tDGet, sDPut, tDisp, tPairs, tBreak, tCont, scal_ii, scal_bb, scal_ss, List.getElem?_cons_zero, List.getElem?_cons_succ, List.set_cons_zero, List.set_cons_succ, Option.some.injEq, exists_eq_left', exists_eq_left, exists_and_left, V.int.injEq, V.bl.injEq, V.ref.injEq, V.str.injEq, List.cons.injEq, and_true, true_and, Bool.true_eq, List.nil_append, List.append_nil, List.cons_append, exists_eq', and_self, reduceCtorEq, false_or, or_false, false_and, exists_false, exists_const, and_assoc, if_true, Bool.false_eq_true, if_false, Nat.reduceAdd, Nat.reduceLeDiff, Nat.zero_add, Nat.le_refl, forall_const, st_Ratio_written, ha2, HO.ins.injEq, l1, l2, tFmtB, tJs]
    have t43 : t.natAbs < 10 ^ 4300 := Nat.lt_trans ht pow43
    have n43 : n.natAbs < 10 ^ 4300 := Nat.lt_trans hn pow43
    have lt := sg_len t
    have ln := sg_len n
    have s47 : Str.ofString "/" = tx [47] := by decide +kernel
    have e0 : ∀ x : Str, Str.empty ++ x = x := fun x => by
      rw [← tx_of x, show Str.empty = tx [] by rfl, tx_app]
      rfl
    refine ⟨R.cl, R.nb, ite2 (fun hc => ?_) (fun hc => ?_)⟩
    · have hc : n = 1 := of_decide_eq_true hc
      refine ⟨R.cl, R.nt, t43, ?_⟩
      rw [str_sg]
      have := kq hl _ s1
      unfold wrt at this
      rw [if_pos hc] at this
      exact this
    · have hc : ¬ n = 1 := fun z => hc (decide_eq_true z)
      have := kq hl _ s1
      unfold wrt at this
      rw [if_neg hc] at this
      rw [e0, str_sg t, str_sg n, s47, tx_app, tx_app]
      refine ⟨R.cl, R.nt, t43, le_line ?_, le_line ?_, R.cl, R.nb, n43, le_line ?_, ?_⟩
      · rw [tx_len]; omega
      · rw [tx_len, List.length_append]; simp; omega
      · rw [tx_len, List.length_append, List.length_append]; simp; omega
      · rw [List.append_assoc]
        exact this


end HwL
end

section
namespace HwL
open PySem PySem.Spec PyProof.Rows L2 LamX HwT
variable {P : Program} {w : World} {K : PySem.W.Frag} {mg : Str → Option Value} {base : Heap}

/-- what is wished where a text is wrong at column c -/
def BadCol (CT : Addr) (H : Hp) (E : XK) (c : Int) : Prop := ∀ H' d, Same H H' → H' d = some (.xd [("column", .int c), ("line", .int 1)]) → E (.ref CT) (some d) H'
theorem IsR.tb {C : Addr} {H : Hp} {y : V} {t n : Int} (h : IsR C H y (Rat.divInt t n)) (hn : 0 < n) (hg : Nat.gcd t.natAbs n.natAbs = 1) : IsTB C H y t n := by
  obtain ⟨a, dx, rfl, ha⟩ := h
  have e1 := HwM.num_fdiv (t := t) (b := n) (by omega)
  have e2 := HwM.den_fdiv (t := t) (b := n) (by omega)
  rw [if_neg (by omega), hg] at e1 e2
  have f1 : t.fdiv ((1 : Nat) : Int) = t := by simp
  have f2 : n.fdiv ((1 : Nat) : Int) = n := by simp
  rw [f1] at e1
  rw [f2] at e2
  refine ⟨a, dx, rfl, ?_⟩
  rw [ha]
  unfold ratF
  rw [← e1, ← e2]
def spRd (C CT CL : Addr) : Sp := fun vs H Q E => ∃ x : Str, vs = [.str x] ∧ x.length ≤ 9000 ∧ (col x.cps.toList ≠ 0 → BadCol CT H E (col x.cps.toList : Nat)) ∧ (col x.cps.toList = 0 → 4000 < lw x.cps.toList → LongD CL H E (lw x.cps.toList)) ∧
  (∀ c, col x.cps.toList = 0 → lw x.cps.toList ≤ 4000 → ans x.cps.toList = .inl c → BadCol CT H E c) ∧ (∀ t n, lw x.cps.toList ≤ 4000 → ans x.cps.toList = .inr (t, n) → ∀ H' y, Same H H' → IsTB C H' y t n → Q y H')
theorem bad_made {CT : Addr} {H1 H : Hp} {E : XK} {c : Int} (hb : BadCol CT H E c) (e : Same H H1) (a : Addr) (ha : H1 a = none) :
    spX2 CT "line" "column" [.ref a, .int 1, .int c] (upd H1 a (exo a CT none)) (fun v H2 => v = .non ∧ ∃ (d : Addr), H2 a = some (exo a CT (some d)) ∧ ∃ (fs : List (Str × V)), H2 d = some (exd d fs) ∧ H1 d = none ∧ E (.ref CT) (some d) (upd (del H2 a) d (.xd fs))) (fun _ _ _ => False) :=
  ⟨a, _, _, rfl, upd_same, fun d hd hda => ⟨rfl, x2_made ha (by rw [upd_ne hda] at hd; exact hd) hda fun H2 e1 e2 => hb H2 d (e.trans e1) e2⟩⟩
abbrev N_ratio_of : List Str := ["text", "column", "top", "_", "bottom", "digits"]
theorem sc_ratio_of : FnScope N_ratio_of ["text"] (defScope s_ratio_of) := ⟨rfl, rfl, rfl, by decide +kernel, rfl, by decide +kernel, by decide +kernel⟩
theorem st_ratio_of {v0 : V} : L2.start N_ratio_of [v0] = [some v0, none, none, none, none, none] := rfl
theorem ok_ratio_of {f : Addr} {fd : FuncData} (F : FD K s_ratio_of "ratio_of" "ratio_of" f fd) {C_Ratio C_BadText C_BadNumber C_TooLong : Addr} (R : RatC K C_Ratio) (dg : HwD.DigK K) (z_int : mg "int" = none) (z_len : mg "len" = none) (z_max : mg "max" = none) (z_isinstance : mg "isinstance" = none) (z_str : mg "str" = none) (m_gcd : mg "gcd" = some (.builtin "math.gcd")) {t_MOST_DIGITS : Tok} (k_MOST_DIGITS : mg "MOST_DIGITS" = some (.int 4000 t_MOST_DIGITS)) (g_Ratio : Kf P w K mg base "Ratio" C_Ratio 3 ["self", "top", "bottom"] [] (spInit C_Ratio C_BadNumber)) (g_BadText : Xf P w K mg base "BadText" C_BadText 1 (spX2 C_BadText "line" "column")) (g_Ratio1 : Kf P w K mg base "Ratio" C_Ratio 3 ["self", "top", "bottom"] [.int 1] (spInit C_Ratio C_BadNumber)) (g_TooLong : Xf P w K mg base "TooLong" C_TooLong 1 (spX1 C_TooLong "digits")) (g_wrong_column : Gf P w K mg base "wrong_column" 2 ["text"] (spCol)) : FnOk P w K mg base (L2.CX P w) 5 f fd ["text"] (spRd C_Ratio C_BadText C_TooLong) := by
  have nd := sc_ratio_of.nd
  refine F.okX sc_ratio_of (fun vs H Q E h => ?_) (fun cdv A outer s H vs Q E hr h => ?_)
  · obtain ⟨x, rfl, _⟩ := h
    rfl
  · obtain ⟨x, rfl, hx, kw, kl, kb, kr⟩ := h
    refine ⟨_, (C8.pss_cut (ps_if (pt_not (pt_val (pe_callB (id := "isinstance") (r := rIsi K) (call_isiE rfl) (by rfl) z_isinstance (by decide +kernel) (pa_cons (pv 0) (pa_cons (pe_bltn (v := .ty "str") rfl z_str (by decide +kernel) rfl) pa_nil))))) (pss_one (ps_raiseX g_BadText hr (by decide) rfl (takes_of rfl rfl rfl rfl) rfl (pa_cons pe_int (pa_cons pe_int pa_nil)))) pss_nil)
        (pss_cons (ps_set (i := 1) nd rfl (Or.inl rfl) (pe_g g_wrong_column hr (by decide) passL rfl (pa_cons (pv 0) pa_nil)))
        (C8.pss_cut (ps_if (pt_cmpR op_gt (pv 1) pe_int (nomark _)) (pss_one (ps_raiseX g_BadText hr (by decide) rfl (takes_of rfl rfl rfl rfl) rfl (pa_cons pe_int (pa_cons (pv 1) pa_nil)))) pss_nil)
        (C8.pss_cut (ps_asg (pe_partition (pv 0) pe_str) (pg_tupH rfl (pgs_cons (pg_name (i := 2) nd rfl (Or.inl rfl)) (pgs_cons (pg_name (i := 3) nd rfl (Or.inl rfl)) (pgs_cons (pg_name (i := 4) nd rfl (Or.inl rfl)) pgs_nil)))))
        (C8.pss_cut (ps_set (i := 5) nd rfl (Or.inl rfl) (pe_callB (call_max2 rfl) (by rfl) z_max (by decide +kernel) (pa_cons (pe_callB call_len_str (by rfl) z_len (by decide +kernel) (pa_cons (pe_m1 PySem.F.slot_str_lstrip PySem.F.type_str_lstrip mt_lstripChars (pv 2) pe_str) pa_nil)) (pa_cons (pe_callB call_len_str (by rfl) z_len (by decide +kernel) (pa_cons (pv 4) pa_nil)) pa_nil))))
        (C8.pss_cut (ps_if (pt_cmpR op_gt (pv 5) (pe_glob (v := .int 4000) rfl k_MOST_DIGITS ⟨_, rfl⟩) (nomark _)) (pss_one (ps_raiseX g_TooLong hr (by decide) rfl (takes_of rfl rfl rfl rfl) rfl (pa_cons (pv 5) pa_nil))) pss_nil)
        (pss_cons (ps_if (pt_cmpR op_eq (pv 4) pe_str (nomark _)) (pss_one (ps_ret (pe_k g_Ratio1 hr (by decide) passL rfl (pa_cons (pe_callTy (call_int_strB dg) (by rfl) z_int (by decide +kernel) (pa_cons (pv 2) pa_nil)) pa_nil)))) pss_nil)
        (pss_cons (ps_if (PW.pt (pw_or (pt_cmpR op_eq (pv 4) pe_str (nomark _)) (pw_or1 (pt_cmpR op_gt (pe_callBfun cr_gcd rfl m_gcd (pa_cons (pe_callTy (call_int_strB dg) (by rfl) z_int (by decide +kernel) (pa_cons (pv 2) pa_nil)) (pa_cons (pe_callTy (call_int_strB dg) (by rfl) z_int (by decide +kernel) (pa_cons (pv 4) pa_nil)) pa_nil))) pe_int (nomark _))))) (pss_one (ps_raiseX g_BadText hr (by decide) rfl (takes_of rfl rfl rfl rfl) rfl (pa_cons pe_int (pa_cons (pe_op op_add (pe_callB call_len_str (by rfl) z_len (by decide +kernel) (pa_cons (pv 2) pa_nil)) pe_int) pa_nil)))) pss_nil)
        (pss_one (ps_ret (pe_k g_Ratio hr (by decide) passL rfl (pa_cons (pe_callTy (call_int_strB dg) (by rfl) z_int (by decide +kernel) (pa_cons (pv 2) pa_nil)) (pa_cons (pe_callTy (call_int_strB dg) (by rfl) z_int (by decide +kernel) (pa_cons (pv 4) pa_nil)) pa_nil))))))))))))), ?_⟩
    refine ⟨fun σ' H' => H' = H ∧ σ' = [some (.str x), none, none, none, none, none], ?_, ?_⟩
    · simp only [tVar, rIxTH, rIxLH, gTupH, line_le, HO.tup.injEq, HO.lst.injEq, List.length_cons, List.length_nil, at0, at1, rU, tOst, tTest, rIxL, rIxT, C8.tCut, cxOf_K, tC, tOp, tUn, tSeq, tAsg, tNext, tRet, tRetN, tDrop, tIfS, tNever, gName, gNil, gCons, gTup, gSub, tPar, rI, rI0, rU, rEq, rNe, tB, tAnd, tOr, tNot, tAndV, tOrV, tNotV, tIf, tTup, tLst, tNil, tCons, tCB, tCall, tMeth, tMake, tFld, sFld, tDGet, sDPut, tDisp, tPairs, tBreak, tCont, scal_ii, scal_bb, scal_ss, List.getElem?_cons_zero, List.getElem?_cons_succ, List.set_cons_zero, List.set_cons_succ, Option.some.injEq, exists_eq_left', exists_eq_left, exists_and_left, V.int.injEq, V.bl.injEq, V.ref.injEq, V.str.injEq, List.cons.injEq, and_true, true_and, Bool.true_eq, List.nil_append, List.append_nil, List.cons_append, exists_eq', and_self, reduceCtorEq, false_or, or_false, false_and, exists_false, exists_const, and_assoc, if_true, Bool.false_eq_true, if_false, Nat.reduceAdd, Nat.reduceLeDiff, Nat.zero_add, Nat.le_refl, forall_const, st_ratio_of, rIsi, tMkO]
      exact ⟨.type "str", .type "str", .ty _, .base (.str x), true, kit_ty (by decide +kernel), iteF trivial⟩
    rintro σ' H' ⟨rfl, rfl⟩
    simp only [tVar, rIxTH, rIxLH, gTupH, line_le, HO.tup.injEq, HO.lst.injEq, List.length_cons, List.length_nil, at0, at1, rU, tOst, tTest, rIxL, rIxT, C8.tCut, cxOf_K, tC, tOp, tUn, tSeq, tAsg, tNext, tRet, tRetN, tDrop, tIfS, tNever, gName, gNil, gCons, gTup, gSub, tPar, rI, rI0, rU, rEq, rNe, tB, tAnd, tOr, tNot, tAndV, tOrV, tNotV, tIf, tTup, tLst, tNil, tCons, tCB, tCall, tMeth, tMake, tFld, sFld, tDGet, sDPut, tDisp, tPairs, tBreak, tCont, scal_ii, scal_bb, scal_ss, List.getElem?_cons_zero, List.getElem?_cons_succ, List.set_cons_zero, List.set_cons_succ, Option.some.injEq, exists_eq_left', exists_eq_left, exists_and_left, V.int.injEq, V.bl.injEq, V.ref.injEq, V.str.injEq, List.cons.injEq, and_true, true_and, Bool.true_eq, List.nil_append, List.append_nil, List.cons_append, exists_eq', and_self, reduceCtorEq, false_or, or_false, false_and, exists_false, exists_const, and_assoc, if_true, Bool.false_eq_true, if_false, Nat.reduceAdd, Nat.reduceLeDiff, Nat.zero_add, Nat.le_refl, forall_const, st_ratio_of, tM1, tMkO, rGcd]
    refine ⟨x, rfl, hx, ?_⟩
    refine ⟨fun σ' H2 => H2 = H' ∧ σ' = [some (.str x), some (.int 0), none, none, none, none] ∧ col x.cps.toList = 0, ?_, ?_⟩
    · simp only [tVar, rIxTH, rIxLH, gTupH, line_le, HO.tup.injEq, HO.lst.injEq, List.length_cons, List.length_nil, at0, at1, rU, tOst, tTest, rIxL, rIxT, C8.tCut, cxOf_K, tC, tOp, tUn, tSeq, tAsg, tNext, tRet, tRetN, tDrop, tIfS, tNever, gName, gNil, gCons, gTup, gSub, tPar, rI, rI0, rU, rEq, rNe, tB, tAnd, tOr, tNot, tAndV, tOrV, tNotV, tIf, tTup, tLst, tNil, tCons, tCB, tCall, tMeth, tMake, tFld, sFld, tDGet, sDPut, tDisp, tPairs, tBreak, tCont, scal_ii, scal_bb, scal_ss, List.getElem?_cons_zero, List.getElem?_cons_succ, List.set_cons_zero, List.set_cons_succ, Option.some.injEq, exists_eq_left', exists_eq_left, exists_and_left, V.int.injEq, V.bl.injEq, V.ref.injEq, V.str.injEq, List.cons.injEq, and_true, true_and, Bool.true_eq, List.nil_append, List.append_nil, List.cons_append, exists_eq', and_self, reduceCtorEq, false_or, or_false, false_and, exists_false, exists_const, and_assoc, if_true, Bool.false_eq_true, if_false, Nat.reduceAdd, Nat.reduceLeDiff, Nat.zero_add, Nat.le_refl, forall_const, st_ratio_of]
      refine ite2 (fun hc => ?_) (fun hc => ?_)
      · have hc : col x.cps.toList ≠ 0 := by
          have := of_decide_eq_true hc
          omega
        exact fun a ha => bad_made (kw hc) (Same.refl _) a ha
      · have hc : col x.cps.toList = 0 := by
          have : ¬ (0 : Int) < (col x.cps.toList : Nat) := fun z => hc (decide_eq_true z)
          omega
        exact ⟨by rw [hc]; rfl, hc⟩
    rintro σ' H1 ⟨rfl, rfl, hc⟩
    have lx : x.cps.toList.length ≤ 9000 := by rw [← HwT.len_list]; exact hx
    refine ⟨fun σ' H2 => Same H1 H2 ∧ ∃ (tp bt : Str) (v3 : V), σ' = [some (.str x), some (.int 0), some (.str tp), some v3, some (.str bt), none] ∧ tp.length ≤ 9000 ∧ bt.length ≤ 9000 ∧ lw x.cps.toList = max (strm tp.cps.toList).length bt.length ∧
      ((tp = x ∧ bt = tx [] ∧ 47 ∉ x.cps.toList ∧ Num x.cps.toList) ∨ ∃ a b, x.cps.toList = a ++ 47 :: b ∧ tp = tx a ∧ bt = tx b ∧ 47 ∉ a ∧ Num a ∧ PySem.NumText.AllDigits b ∧ b ≠ [] ∧ b[0]? ≠ some 48), ?_, ?_⟩
    · simp only [tVar, rIxTH, rIxLH, gTupH, line_le, HO.tup.injEq, HO.lst.injEq, List.length_cons, List.length_nil, at0, at1, rU, tOst, tTest, rIxL, rIxT, C8.tCut, cxOf_K, tC, tOp, tUn, tSeq, tAsg, tNext, tRet, tRetN, tDrop, tIfS, tNever, gName, gNil, gCons, gTup, gSub, tPar, rI, rI0, rU, rEq, rNe, tB, tAnd, tOr, tNot, tAndV, tOrV, tNotV, tIf, tTup, tLst, tNil, tCons, tCB, tCall, tMeth, tMake, tFld, sFld, tDGet, sDPut, tDisp, tPairs, tBreak, tCont, scal_ii, scal_bb, scal_ss, List.getElem?_cons_zero, List.getElem?_cons_succ, List.set_cons_zero, List.set_cons_succ, Option.some.injEq, exists_eq_left', exists_eq_left, exists_and_left, V.int.injEq, V.bl.injEq, V.ref.injEq, V.str.injEq, List.cons.injEq, and_true, true_and, Bool.true_eq, List.nil_append, List.append_nil, List.cons_append, exists_eq', and_self, reduceCtorEq, false_or, or_false, false_and, exists_false, exists_const, and_assoc, if_true, Bool.false_eq_true, if_false, Nat.reduceAdd, Nat.reduceLeDiff, Nat.zero_add, Nat.le_refl, forall_const, st_ratio_of, tM1]
      rw [s_slash]
      refine ⟨rfl, le_line hx, fun p hp => ⟨_, upd_same, rfl, _, _, rfl, _, _, rfl, _, _, rfl, rfl, same_new hp, ?_⟩⟩
      rcases col_form hc with ⟨hn, n47⟩ | ⟨a, b, hl, na, nb, hn, hb, bn, b0⟩
      · rw [part_none n47]
        exact ⟨x, rfl, tx [], rfl, hx, Nat.zero_le _, by rw [lw_int n47]; show _ = max _ 0; omega, .inl ⟨rfl, rfl, n47, hn⟩⟩
      · rw [part_some hl na nb]
        have l2 : a.length + (b.length + 1) ≤ 9000 := by
          have := congrArg List.length hl
          rw [List.length_append, List.length_cons] at this
          omega
        exact ⟨tx a, rfl, tx b, rfl, by rw [tx_len]; omega, by rw [tx_len]; omega, by rw [lw_q hl na, tx_len]; rfl, .inr ⟨a, b, hl, rfl, rfl, na, hn, hb, bn, b0⟩⟩
    rintro σ' H2 ⟨s2, tp, bt, v3, rfl, lt, lb, hlw, hf⟩
    refine ⟨fun σ' H3 => H3 = H2 ∧ σ' = [some (.str x), some (.int 0), some (.str tp), some v3, some (.str bt), some (.int (lw x.cps.toList : Nat))], ?_, ?_⟩
    · simp only [tVar, rIxTH, rIxLH, gTupH, line_le, HO.tup.injEq, HO.lst.injEq, List.length_cons, List.length_nil, at0, at1, rU, tOst, tTest, rIxL, rIxT, C8.tCut, cxOf_K, tC, tOp, tUn, tSeq, tAsg, tNext, tRet, tRetN, tDrop, tIfS, tNever, gName, gNil, gCons, gTup, gSub, tPar, rI, rI0, rU, rEq, rNe, tB, tAnd, tOr, tNot, tAndV, tOrV, tNotV, tIf, tTup, tLst, tNil, tCons, tCB, tCall, tMeth, tMake, tFld, sFld, tDGet, sDPut, tDisp, tPairs, tBreak, tCont, scal_ii, scal_bb, scal_ss, List.getElem?_cons_zero, List.getElem?_cons_succ, List.set_cons_zero, List.set_cons_succ, Option.some.injEq, exists_eq_left', exists_eq_left, exists_and_left, V.int.injEq, V.bl.injEq, V.ref.injEq, V.str.injEq, List.cons.injEq, and_true, true_and, Bool.true_eq, List.nil_append, List.append_nil, List.cons_append, exists_eq', and_self, reduceCtorEq, false_or, or_false, false_and, exists_false, exists_const, and_assoc, if_true, Bool.false_eq_true, if_false, Nat.reduceAdd, Nat.reduceLeDiff, Nat.zero_add, Nat.le_refl, forall_const, st_ratio_of, tM1]
      have l3 := lstrip_le tp "-"
      refine ⟨le_line lt, le_line (by omega), le_line lb, ?_⟩
      rw [max_int, show Str.ofString "-" = ("-" : Str) from rfl, strm_len, ← hlw]
    rintro σ' H3 ⟨rfl, rfl⟩
    refine ⟨fun σ' H4 => H4 = H3 ∧ lw x.cps.toList ≤ 4000 ∧ σ' = [some (.str x), some (.int 0), some (.str tp), some v3, some (.str bt), some (.int (lw x.cps.toList : Nat))], ?_, ?_⟩
    · simp only [tVar, rIxTH, rIxLH, gTupH, line_le, HO.tup.injEq, HO.lst.injEq, List.length_cons, List.length_nil, at0, at1, rU, tOst, tTest, rIxL, rIxT, C8.tCut, cxOf_K, tC, tOp, tUn, tSeq, tAsg, tNext, tRet, tRetN, tDrop, tIfS, tNever, gName, gNil, gCons, gTup, gSub, tPar, rI, rI0, rU, rEq, rNe, tB, tAnd, tOr, tNot, tAndV, tOrV, tNotV, tIf, tTup, tLst, tNil, tCons, tCB, tCall, tMeth, tMake, tFld, sFld, tDGet, sDPut, tDisp, tPairs, tBreak, tCont, scal_ii, scal_bb, scal_ss, List.getElem?_cons_zero, List.getElem?_cons_succ, List.set_cons_zero, List.set_cons_succ, Option.some.injEq, exists_eq_left', exists_eq_left, exists_and_left, V.int.injEq, V.bl.injEq, V.ref.injEq, V.str.injEq, List.cons.injEq, and_true, true_and, Bool.true_eq, List.nil_append, List.append_nil, List.cons_append, exists_eq', and_self, reduceCtorEq, false_or, or_false, false_and, exists_false, exists_const, and_assoc, if_true, Bool.false_eq_true, if_false, Nat.reduceAdd, Nat.reduceLeDiff, Nat.zero_add, Nat.le_refl, forall_const, st_ratio_of]
      refine ite2 (fun hh => ?_) (fun hh => ?_)
      · have hh : 4000 < lw x.cps.toList := by
          have := of_decide_eq_true hh
          omega
        exact fun a1 h1 => long_made (kl hc hh) s2 a1 h1
      · have hh : ¬ (4000 : Int) < ((lw x.cps.toList : Nat) : Int) := fun z => hh (decide_eq_true z)
        omega
    rintro σ' H4 ⟨rfl, h40, rfl⟩
    simp only [tVar, rIxTH, rIxLH, gTupH, line_le, HO.tup.injEq, HO.lst.injEq, List.length_cons, List.length_nil, at0, at1, rU, tOst, tTest, rIxL, rIxT, C8.tCut, cxOf_K, tC, tOp, tUn, tSeq, tAsg, tNext, tRet, tRetN, tDrop, tIfS, tNever, gName, gNil, gCons, gTup, gSub, tPar, rI, rI0, rU, rEq, rNe, tB, tAnd, tOr, tNot, tAndV, tOrV, tNotV, tIf, tTup, tLst, tNil, tCons, tCB, tCall, tMeth, tMake, tFld, sFld, tDGet, sDPut, tDisp, tPairs, tBreak, tCont, scal_ii, scal_bb, scal_ss, List.getElem?_cons_zero, List.getElem?_cons_succ, List.set_cons_zero, List.set_cons_succ, Option.some.injEq, exists_eq_left', exists_eq_left, exists_and_left, V.int.injEq, V.bl.injEq, V.ref.injEq, V.str.injEq, List.cons.injEq, and_true, true_and, Bool.true_eq, List.nil_append, List.append_nil, List.cons_append, exists_eq', and_self, reduceCtorEq, false_or, or_false, false_and, exists_false, exists_const, and_assoc, if_true, Bool.false_eq_true, if_false, Nat.reduceAdd, Nat.reduceLeDiff, Nat.zero_add, Nat.le_refl, forall_const, st_ratio_of, tM1, rGcd]
    rcases hf with ⟨rfl, rfl, n47, hn⟩ | ⟨a, b, hl, rfl, rfl, na, hn, hb, bn, b0⟩
    · refine iteT ?_
      obtain ⟨n, hn1, hn2⟩ := num_valB hn (by rw [hlw] at h40; exact Nat.le_trans (Nat.le_max_left _ _) h40)
      have hn1 : PySem.intText? tp = some n := hn1
      exact ⟨n, hn1, le_line hx, num_seen hn, made_rat (b := 1) hn2 (by decide) (fun _ H5 y s5 r => kr n 1 h40 (ans_int hc n47 hn1) H5 y (s2.trans s5) (r.tb (by decide) (by simp))) (fun h => by cases h)⟩
    · rw [tx_list, tx_len] at hlw
      obtain ⟨t, ht, tb⟩ := num_valB hn (by omega)
      obtain ⟨n, hn', nb, n1, ne⟩ := dig_valB hb bn b0 (by omega)
      have an := ans_q hc hl na ht hn'
      have e1 : ¬ tx b = ("" : Str) := fun z => bn (by
        rw [show ("" : Str) = tx [] by decide +kernel] at z
        have := congrArg (fun z : Str => z.cps.toList) z
        simpa [tx_list] using this)
      rw [if_neg (by simpa using e1)]
      have bad : ¬ (1 < (n : Int) ∧ Nat.gcd t.natAbs (n : Int).natAbs = 1) → ∀ a_1, H4 a_1 = none → _ := fun z a_1 ha => bad_made (c := ((tx a).length : Int) + 2) (kb _ hc h40 (by rw [an, if_neg z, tx_len])) s2 a_1 ha
      have s1 : ("1" : Str) = tx [49] := by decide +kernel
      have seenb := num_seen (a := b) (.inl ⟨hb, bn⟩)
      have la := num_seen hn
      refine ite2 (fun h1 => ?_) (fun h1 => ?_)
      · have h1 : b = [49] := by
          have h1 := of_decide_eq_true h1
          rw [s1] at h1
          have := congrArg (fun z : Str => z.cps.toList) h1
          simpa [tx_list] using this
        exact ⟨le_line lt, bad (fun z => by have := ne.mpr h1; omega)⟩
      · have h1 : n ≠ 1 := fun z => h1 (decide_eq_true (by rw [s1, ne.mp z]))
        refine ⟨t, ht, le_line lt, la, n, hn', le_line lb, seenb, ite2 (fun h2 => ?_) (fun h2 => ?_)⟩
        · have h2 := of_decide_eq_true h2
          exact ⟨le_line lt, bad (fun z => by rw [z.2] at h2; cases h2)⟩
        · have g1 : Nat.gcd t.natAbs (n : Int).natAbs = 1 := by
            have h2 : ¬ (1 : Int) < ((Nat.gcd t.natAbs (n : Int).natAbs : Nat) : Int) := fun z => h2 (decide_eq_true z)
            have : 0 < Nat.gcd t.natAbs (n : Int).natAbs := Nat.gcd_pos_of_pos_right _ (by omega)
            omega
          refine ⟨t, ht, le_line lt, la, n, hn', le_line lb, seenb, made_rat (b := (n : Int)) tb ?_ (fun _ H5 y s5 r => kr t n h40 (by rw [an, if_pos ⟨by omega, g1⟩]) H5 y (s2.trans s5) (r.tb (by omega) g1)) (fun h => by omega)⟩
          rw [Int.natAbs_natCast]
          exact nb


end HwL
end

section
namespace HwL
open PySem PySem.Spec PyProof.Rows L2 LamX HwT
variable {P : Program} {w : World} {K : PySem.W.Frag} {mg : Str → Option Value} {base : Heap}

abbrev N_L_too_long : List Str := ["_law_action", "e"]
theorem sc_L_too_long : FnScope N_L_too_long ["_law_action"] (defScope s_L_too_long) := ⟨rfl, rfl, rfl, by decide +kernel, rfl, by decide +kernel, by decide +kernel⟩
theorem st_L_too_long {v0 : V} : L2.start N_L_too_long [v0] = [some v0, none] := rfl
def TLong (CT : Addr) : (XK → Hp → VK → Prop) → Hp → VK → Prop := fun tl H Q =>
  tl (fun cls d H' => cls = .ref CT ∧ ∃ dd, d = some dd ∧ ∃ n : Int, H' dd = some (.xd [("digits", .int n)]) ∧ ∀ H'' p, Same H' H'' → H'' p = some (.tup [.int n]) → Q (.ref p) H'') H Q
theorem long_gives {X : Cx} {q : Str} {g : Addr} {C_TooLong : Addr} (B : XrC X.K C_TooLong "digits" "digits") (m_T : X.mg "TooLong" = some (.ref C_TooLong)) (hu : X.A.units + 200 < cLine) (cdg : Value) :
    GivesTo X N_L_too_long "_law_too_long" (defScope s_L_too_long) g cdg (defBody s_L_too_long) "_law_action" q (TLong C_TooLong) := by
  intro f c' s H Q tl act hc h
  have nd := sc_L_too_long.nd
  refine ⟨_, pss_one (ps_try_as (i := 1) (c := .ref C_TooLong)
      (tb := fun W D σ H => ∃ Ech : XK, (∀ cls d σ' H', Ech cls d H' → σ'.length = 2 → W cls d σ' H') ∧ σ[0]? = some (some (V.ref f)) ∧ H c' = some (CodeO c' q) ∧ tl Ech H D.rt)
      rfl rfl nd rfl rfl ⟨rfl, by decide, .inl m_T⟩ L2.takes0 (fun W pn xe tk _ => ⟨fun pins s' σ H' D I h' => let ⟨Ech, hW, h1, h2, h3⟩ := h'
        (pss_one (ps_ret (act _ pn xe Ech _ _ (takes_len tk) hW))).run pins s' σ H' D I ⟨h1, h2, h3⟩⟩)
      (fun a oe cls d pn hz hf => pss_one (ps_ret (pe_tup (pa_cons (pe_xf B.T B.n1 hz hf (pv 1)) pa_nil))))), ?_⟩
  rw [st_L_too_long]
  refine ⟨fun cls d H' => cls = .ref C_TooLong ∧ ∃ dd, d = some dd ∧ ∃ n : Int, H' dd = some (.xd [("digits", .int n)]) ∧ ∀ H'' p, Same H' H'' → H'' p = some (.tup [.int n]) → Q (.ref p) H'', ?_, rfl, hc, h⟩
  rintro cls d σ' H' ⟨rfl, dd, rfl, n, hd, k⟩ hl
  refine ⟨true, B.me, fun _ a ha => ?_, fun z => by cases z⟩
  have e1 : (List.set σ' 1 (some (V.ref a)))[1]? = some (some (V.ref a)) := List.getElem?_set_self (by omega)
  have l1 : List.lookup ("digits" : Str) [(("digits" : Str), V.int n)] = some (V.int n) := by simp [List.lookup]
  simp only [tVar, rIxTH, rIxLH, gTupH, line_le, HO.tup.injEq, HO.lst.injEq, List.length_cons, List.length_nil, at0, at1, rU, tOst, tTest, rIxL, rIxT, C8.tCut, cxOf_K, tC, tOp, tUn, tSeq, tAsg, tNext, tRet, tRetN, tDrop, tIfS, tNever, gName, gNil, gCons, gTup, gSub, tPar, rI, rI0, rU, rEq, rNe, tB, tAnd, tOr, tNot, tAndV, tOrV, tNotV, tIf, tTup, tLst, tNil, tCons, tCB, tCall, tMeth, tMake, tFld, sFld, tDGet, sDPut, tDisp, tPairs, tBreak, tCont, scal_ii, scal_bb, scal_ss, List.getElem?_cons_zero, List.getElem?_cons_succ, List.set_cons_zero, List.set_cons_succ, Option.some.injEq, exists_eq_left', exists_eq_left, exists_and_left, V.int.injEq, V.bl.injEq, V.ref.injEq, V.str.injEq, List.cons.injEq, and_true, true_and, Bool.true_eq, List.nil_append, List.append_nil, List.cons_append, exists_eq', and_self, reduceCtorEq, false_or, or_false, false_and, exists_false, exists_const, and_assoc, if_true, Bool.false_eq_true, if_false, Nat.reduceAdd, Nat.reduceLeDiff, Nat.zero_add, Nat.le_refl, forall_const, tXf, e1, hd, HO.xd.injEq, l1]
  exact fun p hp => k _ p (same_new hp) upd_same


end HwL
end

section
namespace HwL
open PySem PySem.Spec PyProof.Rows L2 LamX HwT
variable {P : Program} {w : World} {K : PySem.W.Frag} {mg : Str → Option Value} {base : Heap}

theorem pss_ech {X : Cx} {W : WX} {n : Nat} {body : List Stmt} {t : XK → TS} (hn : X.N.length = n) (tk : Takes X W) (h : ∀ E : XK, Passes (L2.CX X.prog X.w) X E → PSs X body (t E)) :
    PSs X body (fun D σ H => ∃ Ech : XK, (∀ cls d σ' H', Ech cls d H' → σ'.length = n → W cls d σ' H') ∧ t Ech D σ H) :=
  ⟨fun pins s σ H D I h' => let ⟨Ech, hW, ht⟩ := h'
    (h Ech (passes_call (takes_len tk) (fun cls d σ' H' z hl => hW cls d σ' H' z (hl.trans hn)))).run pins s σ H D I ht⟩
/-- what the law says of a wrong text -/
def rwv (l : List Nat) : List V := if col l ≠ 0 then [.str "text", .int 1, .int (col l : Nat)] else if 4000 < lw l then [.str "long", .int (lw l : Nat)] else
  match ans l with
  | .inl c => [.str "text", .int 1, .int c]
  | .inr _ => []
def EchW (CT CL : Addr) (H : Hp) (R0 : List V) : XK := fun cls d H' => Same H H' ∧ ∃ dd, d = some dd ∧ ((cls = .ref CT ∧ ∃ c : Int, H' dd = some (.xd [("column", .int c), ("line", .int 1)]) ∧ R0 = [.str "text", .int 1, .int c]) ∨ (cls = .ref CL ∧ ∃ n : Int, H' dd = some (.xd [("digits", .int n)]) ∧ R0 = [.str "long", .int n]))
def spRW : Sp := fun vs H Q _ => ∃ x : Str, vs = [.str x] ∧ x.length ≤ 9000 ∧ rwv x.cps.toList ≠ [] ∧ ∀ H' t, Same H H' → H' t = some (.tup (rwv x.cps.toList)) → Q (.ref t) H'
abbrev N_L_read_wrong : List Str := ["_law_text", "e"]
theorem sc_L_read_wrong : FnScope N_L_read_wrong ["_law_text"] (defScope s_L_read_wrong) := ⟨rfl, rfl, rfl, by decide +kernel, rfl, by decide +kernel, by decide +kernel⟩
theorem st_L_read_wrong {v0 : V} : L2.start N_L_read_wrong [v0] = [some v0, none] := rfl
theorem ok_L_read_wrong {f : Addr} {fd : FuncData} (F : FD K s_L_read_wrong "_law_read_wrong" "_law_read_wrong" f fd) {C_Ratio C_BadText C_TooLong : Addr} (eTB : PySem.W.exmOne K (.ref C_TooLong) (.ref C_BadText) = some false) (m_TooLong : mg "TooLong" = some (.ref C_TooLong)) (m_BadText : mg "BadText" = some (.ref C_BadText)) (BX_TooLong : XrC K C_TooLong "digits" "digits") (BX_BadText : XrC K C_BadText "line" "column") (g_ratio_of : Gf P w K mg base "ratio_of" 5 ["text"] (spRd C_Ratio C_BadText C_TooLong)) : FnOk P w K mg base (L2.CX P w) 6 f fd ["_law_text"] (spRW) := by
  have nd := sc_L_read_wrong.nd
  refine F.ok0 sc_L_read_wrong (fun vs H Q E h => ?_) (fun cdv A outer s H vs Q E hr h => ?_)
  · obtain ⟨x, rfl, _⟩ := h
    rfl
  · obtain ⟨x, rfl, hx, hne, k⟩ := h
    refine ⟨_, (C8.pss_cut (ps_try_all rfl rfl nd L2.takes0 (fun W pn xe tk _ => (pss_ech (n := 2) rfl tk (fun E0 hpE => (pss_one (ps_expr (pe_g g_ratio_of hr (by decide) hpE rfl (pa_cons (pv 0) pa_nil))))))) (HdsA.named (i := 1) rfl rfl ⟨rfl, by decide, .inl m_BadText⟩ (fun e oe kl dd pn hz hf => (pss_one (ps_ret (pe_tup (pa_cons pe_str (pa_cons (pe_xf BX_BadText.T BX_BadText.n1 hz hf (pv 1)) (pa_cons (pe_xf BX_BadText.T BX_BadText.n2 hz hf (pv 1)) pa_nil))))))) (HdsA.named (i := 1) rfl rfl ⟨rfl, by decide, .inl m_TooLong⟩ (fun e oe kl dd pn hz hf => (pss_one (ps_ret (pe_tup (pa_cons pe_str (pa_cons (pe_xf BX_TooLong.T BX_TooLong.n1 hz hf (pv 1)) pa_nil)))))) HdsA.nil)))
        (pss_one (ps_ret pe_non))), ?_⟩
    refine ⟨fun _ _ => False, ?_, fun σ' H' z => z.elim⟩
    simp only [tVar, rIxTH, rIxLH, gTupH, line_le, HO.tup.injEq, HO.lst.injEq, List.length_cons, List.length_nil, at0, at1, rU, tOst, tTest, rIxL, rIxT, C8.tCut, cxOf_K, tC, tOp, tUn, tSeq, tAsg, tNext, tRet, tRetN, tDrop, tIfS, tNever, gName, gNil, gCons, gTup, gSub, tPar, rI, rI0, rU, rEq, rNe, tB, tAnd, tOr, tNot, tAndV, tOrV, tNotV, tIf, tTup, tLst, tNil, tCons, tCB, tCall, tMeth, tMake, tFld, sFld, tDGet, sDPut, tDisp, tPairs, tBreak, tCont, scal_ii, scal_bb, scal_ss, List.getElem?_cons_zero, List.getElem?_cons_succ, List.set_cons_zero, List.set_cons_succ, Option.some.injEq, exists_eq_left', exists_eq_left, exists_and_left, V.int.injEq, V.bl.injEq, V.ref.injEq, V.str.injEq, List.cons.injEq, and_true, true_and, Bool.true_eq, List.nil_append, List.append_nil, List.cons_append, exists_eq', and_self, reduceCtorEq, false_or, or_false, false_and, exists_false, exists_const, and_assoc, if_true, Bool.false_eq_true, if_false, Nat.reduceAdd, Nat.reduceLeDiff, Nat.zero_add, Nat.le_refl, forall_const, st_L_read_wrong]
    generalize hR : rwv x.cps.toList = R0 at hne k
    refine ⟨EchW C_BadText C_TooLong H R0, ?_, ?_⟩
    · rintro cls d σ' H' ⟨sH, dd, rfl, ⟨rfl, c, hd, rfl⟩ | ⟨rfl, n, hd, rfl⟩⟩ hl
      · obtain ⟨y0, y1, rfl⟩ : ∃ y0 y1, σ' = [y0, y1] := by
          match σ', hl with
          | [y0, y1], _ => exact ⟨y0, y1, rfl⟩
        refine ⟨true, BX_BadText.me, fun _ a ha => ?_, fun z => by cases z⟩
        have l2 : List.lookup ("line" : Str) [(("column" : Str), V.int c), ("line", V.int 1)] = some (V.int 1) := by
          have e : (("line" : Str) == ("column" : Str)) = false := by decide
          simp [List.lookup, e]
        have l1 : List.lookup ("column" : Str) [(("column" : Str), V.int c), ("line", V.int 1)] = some (V.int c) := by simp [List.lookup]
        simp only [tVar, rIxTH, rIxLH, gTupH, line_le, HO.tup.injEq, HO.lst.injEq, List.length_cons, List.length_nil, at0, at1, rU, tOst, tTest, rIxL, rIxT, C8.tCut, cxOf_K, tC, tOp, tUn, tSeq, tAsg, tNext, tRet, tRetN, tDrop, tIfS, tNever, gName, gNil, gCons, gTup, gSub, tPar, rI, rI0, rU, rEq, rNe, tB, tAnd, tOr, tNot, tAndV, tOrV, tNotV, tIf, tTup, tLst, tNil, tCons, tCB, tCall, tMeth, tMake, tFld, sFld, tDGet, sDPut, tDisp, tPairs, tBreak, tCont, scal_ii, scal_bb, scal_ss, List.getElem?_cons_zero, List.getElem?_cons_succ, List.set_cons_zero, List.set_cons_succ, Option.some.injEq, exists_eq_left', exists_eq_left, exists_and_left, V.int.injEq, V.bl.injEq, V.ref.injEq, V.str.injEq, List.cons.injEq, and_true, true_and, Bool.true_eq, List.nil_append, List.append_nil, List.cons_append, exists_eq', and_self, reduceCtorEq, false_or, or_false, false_and, exists_false, exists_const, and_assoc, if_true, Bool.false_eq_true, if_false, Nat.reduceAdd, Nat.reduceLeDiff, Nat.zero_add, Nat.le_refl, forall_const, st_L_read_wrong, tXf, dropS, hd, HO.xd.injEq, l1, l2]
        exact fun b hb => k _ b (sH.trans (same_new hb)) upd_same
      · obtain ⟨y0, y1, rfl⟩ : ∃ y0 y1, σ' = [y0, y1] := by
          match σ', hl with
          | [y0, y1], _ => exact ⟨y0, y1, rfl⟩
        refine ⟨false, eTB, fun z => by (cases z), fun _ => ⟨true, BX_TooLong.me, fun _ a ha => ?_, fun z => by cases z⟩⟩
        have l1 : List.lookup ("digits" : Str) [(("digits" : Str), V.int n)] = some (V.int n) := by simp [List.lookup]
        simp only [tVar, rIxTH, rIxLH, gTupH, line_le, HO.tup.injEq, HO.lst.injEq, List.length_cons, List.length_nil, at0, at1, rU, tOst, tTest, rIxL, rIxT, C8.tCut, cxOf_K, tC, tOp, tUn, tSeq, tAsg, tNext, tRet, tRetN, tDrop, tIfS, tNever, gName, gNil, gCons, gTup, gSub, tPar, rI, rI0, rU, rEq, rNe, tB, tAnd, tOr, tNot, tAndV, tOrV, tNotV, tIf, tTup, tLst, tNil, tCons, tCB, tCall, tMeth, tMake, tFld, sFld, tDGet, sDPut, tDisp, tPairs, tBreak, tCont, scal_ii, scal_bb, scal_ss, List.getElem?_cons_zero, List.getElem?_cons_succ, List.set_cons_zero, List.set_cons_succ, Option.some.injEq, exists_eq_left', exists_eq_left, exists_and_left, V.int.injEq, V.bl.injEq, V.ref.injEq, V.str.injEq, List.cons.injEq, and_true, true_and, Bool.true_eq, List.nil_append, List.append_nil, List.cons_append, exists_eq', and_self, reduceCtorEq, false_or, or_false, false_and, exists_false, exists_const, and_assoc, if_true, Bool.false_eq_true, if_false, Nat.reduceAdd, Nat.reduceLeDiff, Nat.zero_add, Nat.le_refl, forall_const, st_L_read_wrong, tXf, dropS, hd, HO.xd.injEq, l1]
        exact fun b hb => k _ b (sH.trans (same_new hb)) upd_same
    · refine ⟨x, rfl, hx, fun hc H' d s1 hd => ?_, fun hc h4 H' d s1 hd => ?_, fun c hc h4 ha H' d s1 hd => ?_, fun t n h4 ha H' y s1 hy => ?_⟩
      · refine ⟨s1, d, rfl, .inl ⟨rfl, _, hd, ?_⟩⟩
        rw [← hR]
        unfold rwv
        rw [if_pos hc]
      · refine ⟨s1, d, rfl, .inr ⟨rfl, _, hd, ?_⟩⟩
        rw [← hR]
        unfold rwv
        rw [if_neg (by simpa using hc), if_pos h4]
      · refine ⟨s1, d, rfl, .inl ⟨rfl, _, hd, ?_⟩⟩
        rw [← hR]
        unfold rwv
        rw [if_neg (by simpa using hc), if_neg (by omega), ha]
      · refine absurd ?_ hne
        rw [← hR]
        unfold rwv
        have hc : col x.cps.toList = 0 := Decidable.byContradiction fun z => by rw [ans_wrong z] at ha; cases ha
        rw [if_neg (by simpa using hc), if_neg (by omega), ha]
theorem mulOk_dig {x : Str} {n : Nat} (hx : x.length = 1) (hn : n ≤ 9000) : MulOk x (n : Int) := by
  refine ⟨?_, fun h0 h1 => ?_, fun h0 h1 => ?_⟩
  · simp
    omega
  · rw [hx]
    have : (1 : Int) ≤ (2 ^ 63 - 1) / (n : Int) := by
      rw [Int.le_ediv_iff_mul_le (by omega)]
      omega
    omega
  · rw [hx, Int.toNat_natCast, Nat.one_mul]
    exact decide_eq_false (by show ¬ n > 16777216; omega)
theorem mul_dig {c n : Nat} : Txt.mul (tx [c]) (n : Int) = tx (List.replicate n c) := by
  rw [← tx_of (Txt.mul _ _), L2.mul_list, tx_list, List.flatten_replicate_singleton]
theorem even_rep {c : Nat} (h0 : 48 ≤ c) (h : c % 2 = 0) : ∀ n : Nat, PySem.NumText.digitsVal (List.replicate n c) % 2 = 0
  | 0 => rfl
  | n + 1 => by
    rw [List.replicate_succ', PySem.NumText.digitsVal_snoc]
    have := even_rep h0 h n
    omega
theorem rep_dig {c : Nat} (h : 49 ≤ c ∧ c ≤ 57) (n : Nat) : PySem.NumText.AllDigits (List.replicate n c) := fun d hd => by
  have := List.eq_of_mem_replicate hd
  omega
theorem rep_head {c n : Nat} (h : 49 ≤ c) : (List.replicate n c)[0]? ≠ some 48 := by
  cases n with
  | zero => simp
  | succ n => rw [List.replicate_succ]; simp; omega
theorem rw_x {c n : Nat} (h : 49 ≤ c ∧ c ≤ 57) (hn : 0 < n) : rwv (List.replicate n c ++ [120]) = [.str "text", .int 1, .int ((n : Int) + 1)] := by
  have e := col_bad (d := List.replicate n c) (c := 120) (rep_dig h n) (by simp; omega) (rep_head h.1) (by decide) (by decide)
  rw [List.length_replicate] at e
  unfold rwv
  rw [if_pos (by omega), e]
  rfl
theorem rw_4 {c n : Nat} (h : 49 ≤ c ∧ c ≤ 57) (hc : c % 2 = 0) (hn : 0 < n) : rwv (List.replicate n c ++ [47, 52]) = if (n : Int) > 4000 then [.str "long", .int (n : Int)] else [.str "text", .int 1, .int ((n : Int) + 2)] := by
  have n47 : 47 ∉ List.replicate n c := fun z => by have := List.eq_of_mem_replicate z; omega
  have d4 : PySem.NumText.AllDigits [52] := fun d hd => by rw [List.mem_singleton.mp hd]; decide
  have e0 := col_q (p := []) (b := [52]) (.inl rfl) (rep_dig h n) (by simp; omega) (rep_head h.1) d4 (by simp) (by simp)
  have e0 : col (List.replicate n c ++ [47, 52]) = 0 := e0
  have el := lw_q (l := List.replicate n c ++ [47, 52]) (b := [52]) rfl n47
  rw [strm_dig (rep_dig h n), List.length_replicate] at el
  have el : lw (List.replicate n c ++ [47, 52]) = n := by rw [el]; show max n 1 = n; omega
  unfold rwv
  rw [if_neg (by simpa using e0), el]
  by_cases h4 : 4000 < n
  · rw [if_pos h4, if_pos (by omega)]
  · rw [if_neg h4, if_neg (by omega)]
    have e1 := PySem.intText_digits (x := tx (List.replicate n c)) (rep_dig h n) (by rw [tx_list]; simp; omega) (by rw [tx_len, List.length_replicate]; omega)
    have e2 : PySem.intText? (tx [52]) = some (4 : Int) := PySem.intText_digits (x := tx [52]) d4 (by rw [tx_list]; simp) (by decide)
    rw [ans_q e0 rfl n47 e1 e2, if_neg, List.length_replicate]
    rintro ⟨_, g⟩
    have ev := even_rep (by omega) hc n
    have d2 : 2 ∣ Nat.gcd ((PySem.NumText.digitsVal (tx (List.replicate n c)).cps.toList : Nat) : Int).natAbs (4 : Int).natAbs := Nat.dvd_gcd (Nat.dvd_of_mod_eq_zero ev) (by decide)
    rw [g] at d2
    exact absurd d2 (by decide)


end HwL
end

section
namespace HwL
open PySem PySem.Spec PyProof.Rows L2 LamX HwT
variable {P : Program} {w : World} {K : PySem.W.Frag} {mg : Str → Option Value} {base : Heap}

theorem dig_sg {d : Int} (h0 : 0 ≤ d) (h : d < 4) : ∃ c : Nat, 49 ≤ c ∧ c ≤ 57 ∧ c % 2 = 0 ∧ PySem.Str.ofString (toString (2 + 2 * d)) = tx [c] := by
  rcases (show d = 0 ∨ d = 1 ∨ d = 2 ∨ d = 3 by omega) with rfl | rfl | rfl | rfl
  · exact ⟨50, by decide, by decide, by decide, by decide +kernel⟩
  · exact ⟨52, by decide, by decide, by decide, by decide +kernel⟩
  · exact ⟨54, by decide, by decide, by decide, by decide +kernel⟩
  · exact ⟨56, by decide, by decide, by decide, by decide +kernel⟩
theorem eq_sn1 {K : PySem.W.Frag} {H : Hp} {a b : Addr} {i : Str} {m : Int} {Q : VK} (hi : PyData.strOk i = true) (ha : H a = some (.tup [.str i, .int m])) (hb : H b = some (.tup [.str i, .int m])) (k : Q (.bl true) H) : rEqD K (.ref a) (.ref b) H Q := by
  have sh : SeqAt.shaped (.tuple [.str i, .int m]) = true := by
    simp [SeqAt.shaped, PyData.canLay0, PyData.canLayAll0, PyData.depth, PyData.depthAll, hi]
  refine ⟨.tuple [.str i, .int m], .tuple [.str i, .int m], .tup (SqT.of ha) (.cons (.str _) (.cons (.int _) .nil)), .tup (SqT.of hb) (.cons (.str _) (.cons (.int _) .nil)), sh, sh, ?_⟩
  have e : PyData.eqv (.tuple [.str i, .int m]) (.tuple [.str i, .int m]) = true := by
    simp [PyData.eqv, PyData.eqvAll, Bool.beq_eq_decide_eq]
  rw [e]
  exact k
theorem eq_snn1 {K : PySem.W.Frag} {H : Hp} {a b : Addr} {i : Str} {m n : Int} {Q : VK} (hi : PyData.strOk i = true) (ha : H a = some (.tup [.str i, .int m, .int n])) (hb : H b = some (.tup [.str i, .int m, .int n])) (k : Q (.bl true) H) : rEqD K (.ref a) (.ref b) H Q := by
  have sh : SeqAt.shaped (.tuple [.str i, .int m, .int n]) = true := by
    simp [SeqAt.shaped, PyData.canLay0, PyData.canLayAll0, PyData.depth, PyData.depthAll, hi]
  refine ⟨.tuple [.str i, .int m, .int n], .tuple [.str i, .int m, .int n], .tup (SqT.of ha) (.cons (.str _) (.cons (.int _) (.cons (.int _) .nil))), .tup (SqT.of hb) (.cons (.str _) (.cons (.int _) (.cons (.int _) .nil))), sh, sh, ?_⟩
  have e : PyData.eqv (.tuple [.str i, .int m, .int n]) (.tuple [.str i, .int m, .int n]) = true := by
    simp [PyData.eqv, PyData.eqvAll, Bool.beq_eq_decide_eq]
  rw [e]
  exact k
theorem len_tx1 (c : Nat) : (tx [c]).length = 1 := rfl
def spBW : Sp := fun vs H Q _ => ∃ (p l : Addr) (c : Int), vs = [.ref p] ∧ PenAt H p l c ∧ c + 10 < 1000000 ∧ ∀ H', Ext p H H' → PenAt H' p l (c + 2) → Q (.bl true) H'
abbrev N_L_both_wrong : List Str := ["_law_pen_here", "_law_digit", "_law_many", "_law_found", "_law_due"]
theorem sc_L_both_wrong : FnScope N_L_both_wrong ["_law_pen_here"] (defScope s_L_both_wrong) := ⟨rfl, rfl, rfl, by decide +kernel, rfl, by decide +kernel, by decide +kernel⟩
theorem st_L_both_wrong {v0 : V} : L2.start N_L_both_wrong [v0] = [some v0, none, none, none, none] := rfl
theorem ok_L_both_wrong {f : Addr} {fd : FuncData} (F : FD K s_L_both_wrong "_law_both_wrong" "_law_both_wrong" f fd) (z_str : mg "str" = none) (g_L_read_wrong : Gf P w K mg base "_law_read_wrong" 6 ["_law_text"] (spRW)) (g_L_draw : Gf P w K mg base "_law_draw" 1 ["_law_pen_here", "_law_many"] (spDraw)) : FnOk P w K mg base (L2.CX P w) 7 f fd ["_law_pen_here"] (spBW) := by
  have nd := sc_L_both_wrong.nd
  refine F.ok0 sc_L_both_wrong (fun vs H Q E h => ?_) (fun cdv A outer s H vs Q E hr h => ?_)
  · obtain ⟨p, l, c, rfl, _⟩ := h
    rfl
  · obtain ⟨p, l, c, rfl, hp, hc, k⟩ := h
    refine ⟨_, (C8.pss_cut (ps_set (i := 1) nd rfl (Or.inl rfl) (pe_callTy call_str_int (by rfl) z_str (by decide +kernel) (pa_cons (pe_op op_add pe_int (pe_op op_mulW pe_int (pe_g g_L_draw hr (by decide) passL rfl (pa_cons (pv 0) (pa_cons pe_int pa_nil))))) pa_nil)))
        (C8.pss_cut (ps_set (i := 2) nd rfl (Or.inl rfl) (pe_op op_add pe_int (pe_g g_L_draw hr (by decide) passL rfl (pa_cons (pv 0) (pa_cons pe_int pa_nil)))))
        (C8.pss_cut (ps_set (i := 3) nd rfl (Or.inl rfl) (pe_g g_L_read_wrong hr (by decide) passL rfl (pa_cons (pe_op op_add_str (pe_op op_mulSI (pv 1) (pv 2)) pe_str) pa_nil)))
        (C8.pss_cut (ps_if (pt_cmpR (op_neI (Nat.lt_of_le_of_lt (Nat.le_add_right _ 64) hr.units)) (pv 3) (pe_tup (pa_cons pe_str (pa_cons pe_int (pa_cons (pe_op op_add (pv 2) pe_int) pa_nil)))) (nomark _)) (pss_one (ps_ret pe_bl)) pss_nil)
        (C8.pss_cut (ps_set (i := 4) nd rfl (Or.inl rfl) (pe_ifExp (pt_cmpR op_gt (pv 2) pe_int (nomark _)) (pe_tup (pa_cons pe_str (pa_cons (pv 2) pa_nil))) (pe_tup (pa_cons pe_str (pa_cons pe_int (pa_cons (pe_op op_add (pv 2) pe_int) pa_nil))))))
        (pss_one (ps_ret (pe_cmpR (op_eqD hr.units) (pe_g g_L_read_wrong hr (by decide) passL rfl (pa_cons (pe_op op_add_str (pe_op op_mulSI (pv 1) (pv 2)) pe_str) pa_nil)) (pv 4) (nomark _))))))))), ?_⟩
    simp only [tVar, rIxTH, rIxLH, gTupH, line_le, HO.tup.injEq, HO.lst.injEq, List.length_cons, List.length_nil, at0, at1, rU, tOst, tTest, rIxL, rIxT, C8.tCut, cxOf_K, tC, tOp, tUn, tSeq, tAsg, tNext, tRet, tRetN, tDrop, tIfS, tNever, gName, gNil, gCons, gTup, gSub, tPar, rI, rI0, rU, rEq, rNe, tB, tAnd, tOr, tNot, tAndV, tOrV, tNotV, tIf, tTup, tLst, tNil, tCons, tCB, tCall, tMeth, tMake, tFld, sFld, tDGet, sDPut, tDisp, tPairs, tBreak, tCont, scal_ii, scal_bb, scal_ss, List.getElem?_cons_zero, List.getElem?_cons_succ, List.set_cons_zero, List.set_cons_succ, Option.some.injEq, exists_eq_left', exists_eq_left, exists_and_left, V.int.injEq, V.bl.injEq, V.ref.injEq, V.str.injEq, List.cons.injEq, and_true, true_and, Bool.true_eq, List.nil_append, List.append_nil, List.cons_append, exists_eq', and_self, reduceCtorEq, false_or, or_false, false_and, exists_false, exists_const, and_assoc, if_true, Bool.false_eq_true, if_false, Nat.reduceAdd, Nat.reduceLeDiff, Nat.zero_add, Nat.le_refl, forall_const, st_L_both_wrong]
    refine ⟨fun σ' H' => ∃ e : Nat, σ' = [some (.ref p), some (.str (tx [e])), none, none, none] ∧ 49 ≤ e ∧ e ≤ 57 ∧ e % 2 = 0 ∧ Ext p H H' ∧ PenAt H' p l (c + 1), ?_, ?_⟩
    · refine ⟨p, l, c, 4, rfl, hp, by omega, by decide, by decide, fun H1 d x1 p1 d0 d4 => ?_⟩
      obtain ⟨e, e1, e2, e3, es⟩ := dig_sg d0 d4
      refine ⟨d, rfl, wide_mul (a := 8) (b := 8) (by decide) (by omega) (by decide) (by decide) (by decide), ?_, ?_⟩
      · have : (2 + 2 * d).natAbs < 2 ^ 8 := by omega
        exact Nat.lt_trans (HwM.log2_lt (k := 8) (by decide) this) (by decide)
      · show ∃ e, _
        rw [es]
        exact ⟨e, rfl, e1, e2, e3, x1, p1⟩
    rintro σ' H1 ⟨e, rfl, e1, e2, e3, x1, p1⟩
    refine ⟨fun σ' H' => ∃ n : Nat, σ' = [some (.ref p), some (.str (tx [e])), some (.int (n : Int)), none, none] ∧ 3999 ≤ n ∧ n ≤ 4002 ∧ Ext p H H' ∧ PenAt H' p l (c + 2), ?_, ?_⟩
    · simp only [tVar, rIxTH, rIxLH, gTupH, line_le, HO.tup.injEq, HO.lst.injEq, List.length_cons, List.length_nil, at0, at1, rU, tOst, tTest, rIxL, rIxT, C8.tCut, cxOf_K, tC, tOp, tUn, tSeq, tAsg, tNext, tRet, tRetN, tDrop, tIfS, tNever, gName, gNil, gCons, gTup, gSub, tPar, rI, rI0, rU, rEq, rNe, tB, tAnd, tOr, tNot, tAndV, tOrV, tNotV, tIf, tTup, tLst, tNil, tCons, tCB, tCall, tMeth, tMake, tFld, sFld, tDGet, sDPut, tDisp, tPairs, tBreak, tCont, scal_ii, scal_bb, scal_ss, List.getElem?_cons_zero, List.getElem?_cons_succ, List.set_cons_zero, List.set_cons_succ, Option.some.injEq, exists_eq_left', exists_eq_left, exists_and_left, V.int.injEq, V.bl.injEq, V.ref.injEq, V.str.injEq, List.cons.injEq, and_true, true_and, Bool.true_eq, List.nil_append, List.append_nil, List.cons_append, exists_eq', and_self, reduceCtorEq, false_or, or_false, false_and, exists_false, exists_const, and_assoc, if_true, Bool.false_eq_true, if_false, Nat.reduceAdd, Nat.reduceLeDiff, Nat.zero_add, Nat.le_refl, forall_const, st_L_both_wrong]
      refine ⟨p, l, c + 1, 4, rfl, p1, by omega, by decide, by decide, fun H2 d x2 p2 d0 d4 => ?_⟩
      refine ⟨d, rfl, (3999 + d).toNat, ?_, by omega, by omega, x1.trans x2, p2.mono (by omega)⟩
      rw [Int.toNat_of_nonneg (by omega)]
    rintro σ' H2 ⟨n, rfl, n1, n2, x2, p2⟩
    refine ⟨fun σ' H' => ∃ t, σ' = [some (.ref p), some (.str (tx [e])), some (.int (n : Int)), some (.ref t), none] ∧ Ext p H H' ∧ PenAt H' p l (c + 2) ∧ H' t = some (.tup [.str "text", .int 1, .int ((n : Int) + 1)]), ?_, ?_⟩
    · simp only [tVar, rIxTH, rIxLH, gTupH, line_le, HO.tup.injEq, HO.lst.injEq, List.length_cons, List.length_nil, at0, at1, rU, tOst, tTest, rIxL, rIxT, C8.tCut, cxOf_K, tC, tOp, tUn, tSeq, tAsg, tNext, tRet, tRetN, tDrop, tIfS, tNever, gName, gNil, gCons, gTup, gSub, tPar, rI, rI0, rU, rEq, rNe, tB, tAnd, tOr, tNot, tAndV, tOrV, tNotV, tIf, tTup, tLst, tNil, tCons, tCB, tCall, tMeth, tMake, tFld, sFld, tDGet, sDPut, tDisp, tPairs, tBreak, tCont, scal_ii, scal_bb, scal_ss, List.getElem?_cons_zero, List.getElem?_cons_succ, List.set_cons_zero, List.set_cons_succ, Option.some.injEq, exists_eq_left', exists_eq_left, exists_and_left, V.int.injEq, V.bl.injEq, V.ref.injEq, V.str.injEq, List.cons.injEq, and_true, true_and, Bool.true_eq, List.nil_append, List.append_nil, List.cons_append, exists_eq', and_self, reduceCtorEq, false_or, or_false, false_and, exists_false, exists_const, and_assoc, if_true, Bool.false_eq_true, if_false, Nat.reduceAdd, Nat.reduceLeDiff, Nat.zero_add, Nat.le_refl, forall_const, st_L_both_wrong, mul_dig, len_tx1]
      rw [show Str.ofString "x" = tx [120] by decide +kernel, tx_app]
      refine ⟨mulOk_dig rfl (by omega), by rw [tx_len, tx_len, List.length_replicate]; exact Nat.le_trans (show n + 1 ≤ 9000 by omega) (by decide), _, rfl, by rw [tx_len, List.length_append, List.length_replicate]; show n + 1 ≤ 9000; omega, ?_, fun H' t s4 h4 => ?_⟩
      · rw [tx_list, rw_x ⟨e1, e2⟩ (by omega)]
        simp
      · rw [tx_list, rw_x ⟨e1, e2⟩ (by omega)] at h4
        exact ⟨t, rfl, x2.trans (Ext.of s4), p2.same s4, h4⟩
    rintro σ' H3 ⟨t, rfl, x3, p3, ht⟩
    refine ⟨fun σ' H' => σ' = [some (.ref p), some (.str (tx [e])), some (.int (n : Int)), some (.ref t), none] ∧ Ext p H H' ∧ PenAt H' p l (c + 2), ?_, ?_⟩
    · simp only [tVar, rIxTH, rIxLH, gTupH, line_le, HO.tup.injEq, HO.lst.injEq, List.length_cons, List.length_nil, at0, at1, rU, tOst, tTest, rIxL, rIxT, C8.tCut, cxOf_K, tC, tOp, tUn, tSeq, tAsg, tNext, tRet, tRetN, tDrop, tIfS, tNever, gName, gNil, gCons, gTup, gSub, tPar, rI, rI0, rU, rEq, rNe, tB, tAnd, tOr, tNot, tAndV, tOrV, tNotV, tIf, tTup, tLst, tNil, tCons, tCB, tCall, tMeth, tMake, tFld, sFld, tDGet, sDPut, tDisp, tPairs, tBreak, tCont, scal_ii, scal_bb, scal_ss, List.getElem?_cons_zero, List.getElem?_cons_succ, List.set_cons_zero, List.set_cons_succ, Option.some.injEq, exists_eq_left', exists_eq_left, exists_and_left, V.int.injEq, V.bl.injEq, V.ref.injEq, V.str.injEq, List.cons.injEq, and_true, true_and, Bool.true_eq, List.nil_append, List.append_nil, List.cons_append, exists_eq', and_self, reduceCtorEq, false_or, or_false, false_and, exists_false, exists_const, and_assoc, if_true, Bool.false_eq_true, if_false, Nat.reduceAdd, Nat.reduceLeDiff, Nat.zero_add, Nat.le_refl, forall_const, st_L_both_wrong, rNeI]
      exact fun q hq => .inr ⟨_, SqT.of ((same_new hq) _ _ ht), SqT.of upd_same, by rfl, x3.trans (Ext.of (same_new hq)), p3.same (same_new hq)⟩
    rintro σ' H4 ⟨rfl, x4, p4⟩
    refine ⟨fun σ' H' => ∃ u, σ' = [some (.ref p), some (.str (tx [e])), some (.int (n : Int)), some (.ref t), some (.ref u)] ∧ Ext p H H' ∧ PenAt H' p l (c + 2) ∧ H' u = some (.tup (if (n : Int) > 4000 then [.str "long", .int (n : Int)] else [.str "text", .int 1, .int ((n : Int) + 2)])), ?_, ?_⟩
    · simp only [tVar, rIxTH, rIxLH, gTupH, line_le, HO.tup.injEq, HO.lst.injEq, List.length_cons, List.length_nil, at0, at1, rU, tOst, tTest, rIxL, rIxT, C8.tCut, cxOf_K, tC, tOp, tUn, tSeq, tAsg, tNext, tRet, tRetN, tDrop, tIfS, tNever, gName, gNil, gCons, gTup, gSub, tPar, rI, rI0, rU, rEq, rNe, tB, tAnd, tOr, tNot, tAndV, tOrV, tNotV, tIf, tTup, tLst, tNil, tCons, tCB, tCall, tMeth, tMake, tFld, sFld, tDGet, sDPut, tDisp, tPairs, tBreak, tCont, scal_ii, scal_bb, scal_ss, List.getElem?_cons_zero, List.getElem?_cons_succ, List.set_cons_zero, List.set_cons_succ, Option.some.injEq, exists_eq_left', exists_eq_left, exists_and_left, V.int.injEq, V.bl.injEq, V.ref.injEq, V.str.injEq, List.cons.injEq, and_true, true_and, Bool.true_eq, List.nil_append, List.append_nil, List.cons_append, exists_eq', and_self, reduceCtorEq, false_or, or_false, false_and, exists_false, exists_const, and_assoc, if_true, Bool.false_eq_true, if_false, Nat.reduceAdd, Nat.reduceLeDiff, Nat.zero_add, Nat.le_refl, forall_const, st_L_both_wrong]
      refine ite2 (fun hc q hq => ?_) (fun hc q hq => ?_)
      · have hc := of_decide_eq_true hc
        exact ⟨x4.trans (Ext.of (same_new hq)), p4.same (same_new hq), by rw [upd_same, if_pos hc]⟩
      · have hc : ¬ (4000 : Int) < (n : Int) := fun z => hc (decide_eq_true z)
        exact ⟨x4.trans (Ext.of (same_new hq)), p4.same (same_new hq), by rw [upd_same, if_neg hc]⟩
    rintro σ' H5 ⟨u, rfl, x5, p5, hu⟩
    simp only [tVar, rIxTH, rIxLH, gTupH, line_le, HO.tup.injEq, HO.lst.injEq, List.length_cons, List.length_nil, at0, at1, rU, tOst, tTest, rIxL, rIxT, C8.tCut, cxOf_K, tC, tOp, tUn, tSeq, tAsg, tNext, tRet, tRetN, tDrop, tIfS, tNever, gName, gNil, gCons, gTup, gSub, tPar, rI, rI0, rU, rEq, rNe, tB, tAnd, tOr, tNot, tAndV, tOrV, tNotV, tIf, tTup, tLst, tNil, tCons, tCB, tCall, tMeth, tMake, tFld, sFld, tDGet, sDPut, tDisp, tPairs, tBreak, tCont, scal_ii, scal_bb, scal_ss, List.getElem?_cons_zero, List.getElem?_cons_succ, List.set_cons_zero, List.set_cons_succ, Option.some.injEq, exists_eq_left', exists_eq_left, exists_and_left, V.int.injEq, V.bl.injEq, V.ref.injEq, V.str.injEq, List.cons.injEq, and_true, true_and, Bool.true_eq, List.nil_append, List.append_nil, List.cons_append, exists_eq', and_self, reduceCtorEq, false_or, or_false, false_and, exists_false, exists_const, and_assoc, if_true, Bool.false_eq_true, if_false, Nat.reduceAdd, Nat.reduceLeDiff, Nat.zero_add, Nat.le_refl, forall_const, st_L_both_wrong, mul_dig, len_tx1]
    rw [show Str.ofString "/4" = tx [47, 52] by decide +kernel, tx_app]
    refine ⟨mulOk_dig rfl (by omega), by rw [tx_len, tx_len, List.length_replicate]; exact Nat.le_trans (show n + 2 ≤ 9000 by omega) (by decide), _, rfl, by rw [tx_len, List.length_append, List.length_replicate]; show n + 2 ≤ 9000; omega, ?_, fun H' t s4 h4 => ?_⟩
    · rw [tx_list, rw_4 ⟨e1, e2⟩ e3 (by omega)]
      split <;> simp
    · rw [tx_list, rw_4 ⟨e1, e2⟩ e3 (by omega)] at h4
      have hu4 := s4 _ _ hu
      have fin : Q (.bl true) H' := k H' (x5.trans (Ext.of s4)) (p5.same s4)
      by_cases h : (n : Int) > 4000
      · rw [if_pos h] at h4 hu4
        exact eq_sn1 (by decide +kernel) h4 hu4 fin
      · rw [if_neg h] at h4 hu4
        exact eq_snn1 (by decide +kernel) h4 hu4 fin


end HwL
end

section
namespace HwL
open PySem PySem.Spec PyProof.Rows L2 LamX HwT
variable {P : Program} {w : World} {K : PySem.W.Frag} {mg : Str → Option Value} {base : Heap}

theorem pow_ten (k : Nat) : PySem.NumText.digitsVal (49 :: List.replicate k 48) = 10 ^ k := by
  have := val_app [49] (List.replicate k 48)
  rw [val_zeros, List.length_replicate] at this
  show PySem.NumText.digitsVal ([49] ++ List.replicate k 48) = _
  rw [this]
  show 1 * 10 ^ k + 0 = _
  omega
theorem ten_text {k : Nat} (h : k ≤ 4200) : PySem.intText? (tx (49 :: List.replicate k 48)) = some ((10 ^ k : Nat) : Int) := by
  have e := PySem.intText_digits (x := tx (49 :: List.replicate k 48)) (fun d hd => by
    rcases List.mem_cons.mp hd with rfl | hd
    · decide
    · have := List.eq_of_mem_replicate hd
      omega) (by rw [tx_list]; simp) (by rw [tx_len]; simp; omega)
  rw [e, tx_list, pow_ten]
theorem ten_seen (k : Nat) : (PySem.numSeenOf (tx (49 :: List.replicate k 48))).length = (tx (49 :: List.replicate k 48)).length :=
  num_seen (.inl ⟨fun d hd => by
    rcases List.mem_cons.mp hd with rfl | hd
    · decide
    · have := List.eq_of_mem_replicate hd
      omega, by simp⟩)
theorem one_zeros (k : Nat) : tx [49] ++ tx (List.replicate k 48) = tx (49 :: List.replicate k 48) := tx_app _ _
theorem zeros (k : Nat) : Txt.mul (Str.ofString "0") (k : Int) = tx (List.replicate k 48) := by
  rw [show Str.ofString "0" = tx [48] by decide +kernel, mul_dig]
theorem ten_bd {k : Nat} (h : k ≤ 4019) : ((10 ^ k : Nat) : Int).natAbs < 2 ^ 13400 := by
  rw [Int.natAbs_natCast]
  exact Nat.lt_of_le_of_lt (Nat.pow_le_pow_right (by decide) h) (by decide +kernel)
theorem len_one : (Str.ofString "1").length = 1 := by decide +kernel
theorem one_zeros2 (k : Nat) : Str.ofString "1" ++ tx (List.replicate k 48) = tx (49 :: List.replicate k 48) := by
  rw [show Str.ofString "1" = tx [49] by decide +kernel]
  exact one_zeros k
def spLDg : Sp := fun vs H Q _ => ∃ (p l : Addr) (c : Int) (m : Nat), vs = [.ref p, .int (m : Int)] ∧ PenAt H p l c ∧ c + 10 < 1000000 ∧ 0 < m ∧ m ≤ 4020 ∧ ∀ H' (z : Nat), Ext p H H' → PenAt H' p l (c + 3) → 0 < z → z < 2 ^ 13400 → Q (.int (z : Int)) H'
abbrev N_L_digits : List Str := ["_law_pen_here", "_law_many", "_law_number", "_law_middle"]
theorem sc_L_digits : FnScope N_L_digits ["_law_pen_here", "_law_many"] (defScope s_L_digits) := ⟨rfl, rfl, rfl, by decide +kernel, rfl, by decide +kernel, by decide +kernel⟩
theorem st_L_digits {v0 v1 : V} : L2.start N_L_digits [v0, v1] = [some v0, some v1, none, none] := rfl
theorem ok_L_digits {f : Addr} {fd : FuncData} (F : FD K s_L_digits "_law_digits" "_law_digits" f fd) (dg : HwD.DigK K) (z_int : mg "int" = none) (g_L_draw : Gf P w K mg base "_law_draw" 1 ["_law_pen_here", "_law_many"] (spDraw)) : FnOk P w K mg base (L2.CX P w) 2 f fd ["_law_pen_here", "_law_many"] (spLDg) := by
  have nd := sc_L_digits.nd
  refine F.ok0 sc_L_digits (fun vs H Q E h => ?_) (fun cdv A outer s H vs Q E hr h => ?_)
  · obtain ⟨p, l, c, m, rfl, _⟩ := h
    rfl
  · obtain ⟨p, l, c, m, rfl, hp, hc, m0, m4, k⟩ := h
    refine ⟨_, (C8.pss_cut (ps_set (i := 2) nd rfl (Or.inl rfl) (pe_op op_mulW (pe_op op_add pe_int (pe_g g_L_draw hr (by decide) passL rfl (pa_cons (pv 0) (pa_cons pe_int pa_nil)))) (pe_callTy (call_int_strB dg) (by rfl) z_int (by decide +kernel) (pa_cons (pe_op op_add_str pe_str (pe_op op_mulSI pe_str (pe_op op_sub (pv 1) pe_int))) pa_nil))))
        (C8.pss_cut (ps_set (i := 3) nd rfl (Or.inl rfl) (pe_op op_mulW (pe_op op_mulW (pe_g g_L_draw hr (by decide) passL rfl (pa_cons (pv 0) (pa_cons pe_int pa_nil))) (pe_callTy (call_int_strB dg) (by rfl) z_int (by decide +kernel) (pa_cons (pe_op op_add_str pe_str (pe_op op_mulSI pe_str (pe_op op_fdivW (pv 1) pe_int))) pa_nil))) (pe_callTy call_int1 (by rfl) z_int (by decide +kernel) (pa_cons (pe_cmpR op_gt (pv 1) pe_int (nomark _)) pa_nil))))
        (pss_one (ps_ret (pe_op op_add (pe_op op_add (pv 2) (pv 3)) (pe_op op_mulW (pe_g g_L_draw hr (by decide) passL rfl (pa_cons (pv 0) (pa_cons pe_int pa_nil))) (pe_callTy call_int1 (by rfl) z_int (by decide +kernel) (pa_cons (pe_cmpR op_gt (pv 1) pe_int (nomark _)) pa_nil)))))))), ?_⟩
    have m1 : (m : Int) - 1 = ((m - 1 : Nat) : Int) := by omega
    have le_ : ∀ {k : Nat}, k ≤ 9000 → k ≤ sizeLine := fun h => Nat.le_trans h (by decide)
    simp only [tVar, rIxTH, rIxLH, gTupH, line_le, HO.tup.injEq, HO.lst.injEq, List.length_cons, List.length_nil, at0, at1, rU, tOst, tTest, rIxL, rIxT, C8.tCut, cxOf_K, tC, tOp, tUn, tSeq, tAsg, tNext, tRet, tRetN, tDrop, tIfS, tNever, gName, gNil, gCons, gTup, gSub, tPar, rI, rI0, rU, rEq, rNe, tB, tAnd, tOr, tNot, tAndV, tOrV, tNotV, tIf, tTup, tLst, tNil, tCons, tCB, tCall, tMeth, tMake, tFld, sFld, tDGet, sDPut, tDisp, tPairs, tBreak, tCont, scal_ii, scal_bb, scal_ss, List.getElem?_cons_zero, List.getElem?_cons_succ, List.set_cons_zero, List.set_cons_succ, Option.some.injEq, exists_eq_left', exists_eq_left, exists_and_left, V.int.injEq, V.bl.injEq, V.ref.injEq, V.str.injEq, List.cons.injEq, and_true, true_and, Bool.true_eq, List.nil_append, List.append_nil, List.cons_append, exists_eq', and_self, reduceCtorEq, false_or, or_false, false_and, exists_false, exists_const, and_assoc, if_true, Bool.false_eq_true, if_false, Nat.reduceAdd, Nat.reduceLeDiff, Nat.zero_add, Nat.le_refl, forall_const, st_L_digits, m1, zeros, one_zeros2, len_one]
    have bit : ∀ b : Bool, (if b = true then (1 : Int) else 0).natAbs < 2 ^ 8 := fun b => by cases b <;> decide
    refine ⟨fun σ' H' => ∃ a : Nat, σ' = [some (.ref p), some (.int (m : Int)), some (.int (a : Int)), none] ∧ 0 < a ∧ a ≤ 9 * 10 ^ 4019 ∧ Ext p H H' ∧ PenAt H' p l (c + 1), ?_, ?_⟩
    · refine ⟨p, l, c, 9, rfl, hp, by omega, by decide, by decide, fun H1 d x1 p1 d0 d9 => ?_⟩
      refine ⟨d, rfl, mulOk_dig (x := Str.ofString "0") (by decide +kernel) (by omega), le_ (by rw [tx_len, List.length_replicate]; omega), _, ten_text (by omega), le_ (by rw [tx_len, List.length_cons, List.length_replicate]; omega), ten_seen _, wide_mul (a := 8) (b := 13400) (by omega) (ten_bd (by omega)) (by decide) (by decide) (by decide), ?_⟩
      obtain ⟨e, rfl⟩ : ∃ e : Nat, d = e := ⟨d.toNat, by omega⟩
      refine ⟨(1 + e) * 10 ^ (m - 1), by push_cast; rfl, Nat.mul_pos (by omega) (Nat.pow_pos (by decide)), Nat.mul_le_mul (by omega) (Nat.pow_le_pow_right (by decide) (by omega)), x1, p1⟩
    rintro σ' H1 ⟨a, rfl, a0, ab, x1, p1⟩
    refine ⟨fun σ' H' => ∃ b : Nat, σ' = [some (.ref p), some (.int (m : Int)), some (.int (a : Int)), some (.int (b : Int))] ∧ b ≤ 8 * 10 ^ 2010 ∧ Ext p H H' ∧ PenAt H' p l (c + 2), ?_, ?_⟩
    · simp only [tVar, rIxTH, rIxLH, gTupH, line_le, HO.tup.injEq, HO.lst.injEq, List.length_cons, List.length_nil, at0, at1, rU, tOst, tTest, rIxL, rIxT, C8.tCut, cxOf_K, tC, tOp, tUn, tSeq, tAsg, tNext, tRet, tRetN, tDrop, tIfS, tNever, gName, gNil, gCons, gTup, gSub, tPar, rI, rI0, rU, rEq, rNe, tB, tAnd, tOr, tNot, tAndV, tOrV, tNotV, tIf, tTup, tLst, tNil, tCons, tCB, tCall, tMeth, tMake, tFld, sFld, tDGet, sDPut, tDisp, tPairs, tBreak, tCont, scal_ii, scal_bb, scal_ss, List.getElem?_cons_zero, List.getElem?_cons_succ, List.set_cons_zero, List.set_cons_succ, Option.some.injEq, exists_eq_left', exists_eq_left, exists_and_left, V.int.injEq, V.bl.injEq, V.ref.injEq, V.str.injEq, List.cons.injEq, and_true, true_and, Bool.true_eq, List.nil_append, List.append_nil, List.cons_append, exists_eq', and_self, reduceCtorEq, false_or, or_false, false_and, exists_false, exists_const, and_assoc, if_true, Bool.false_eq_true, if_false, Nat.reduceAdd, Nat.reduceLeDiff, Nat.zero_add, Nat.le_refl, forall_const, st_L_digits]
      refine ⟨p, l, c + 1, 9, rfl, p1, by omega, by decide, by decide, fun H2 d x2 p2 d0 d9 => ?_⟩
      have m2 : (m : Int) / 2 = ((m / 2 : Nat) : Int) := by omega
      simp only [m2, zeros, one_zeros2, len_one]
      obtain ⟨e, rfl⟩ : ∃ e : Nat, d = e := ⟨d.toNat, by omega⟩
      have te := ten_bd (k := m / 2) (by omega)
      have hd : (e : Int).natAbs < 2 ^ 8 := by omega
      refine ⟨?_, mulOk_dig (x := Str.ofString "0") (by decide +kernel) (by omega), le_ (by rw [tx_len, List.length_replicate]; omega), _, ten_text (by omega), le_ (by rw [tx_len, List.length_cons, List.length_replicate]; omega), ten_seen _, (e : Int), rfl, wide_mul (a := 8) (b := 13400) hd te (by decide) (by decide) (by decide), wide_mul (a := 13408) (b := 8) ?_ (bit _) (by decide) (by decide) (by decide), ?_⟩
      · exact ⟨by decide, by decide +kernel⟩
      · rw [Int.natAbs_mul, show (13408 : Nat) = 8 + 13400 from rfl, Nat.pow_add]
        exact Nat.mul_lt_mul'' hd te
      · refine ⟨e * 10 ^ (m / 2) * (if decide (4 < (m : Int)) = true then 1 else 0), ?_, ?_, x1.trans x2, p2.mono (by omega)⟩
        · push_cast
          split <;> rfl
        · refine Nat.le_trans (Nat.mul_le_mul (n₂ := 8 * 10 ^ 2010) (m₂ := 1) (Nat.mul_le_mul (by omega) (Nat.pow_le_pow_right (by decide) (by omega))) (by split <;> decide)) (Nat.le_of_eq (Nat.mul_one _))
    rintro σ' H2 ⟨b, rfl, bb, x2, p2⟩
    simp only [tVar, rIxTH, rIxLH, gTupH, line_le, HO.tup.injEq, HO.lst.injEq, List.length_cons, List.length_nil, at0, at1, rU, tOst, tTest, rIxL, rIxT, C8.tCut, cxOf_K, tC, tOp, tUn, tSeq, tAsg, tNext, tRet, tRetN, tDrop, tIfS, tNever, gName, gNil, gCons, gTup, gSub, tPar, rI, rI0, rU, rEq, rNe, tB, tAnd, tOr, tNot, tAndV, tOrV, tNotV, tIf, tTup, tLst, tNil, tCons, tCB, tCall, tMeth, tMake, tFld, sFld, tDGet, sDPut, tDisp, tPairs, tBreak, tCont, scal_ii, scal_bb, scal_ss, List.getElem?_cons_zero, List.getElem?_cons_succ, List.set_cons_zero, List.set_cons_succ, Option.some.injEq, exists_eq_left', exists_eq_left, exists_and_left, V.int.injEq, V.bl.injEq, V.ref.injEq, V.str.injEq, List.cons.injEq, and_true, true_and, Bool.true_eq, List.nil_append, List.append_nil, List.cons_append, exists_eq', and_self, reduceCtorEq, false_or, or_false, false_and, exists_false, exists_const, and_assoc, if_true, Bool.false_eq_true, if_false, Nat.reduceAdd, Nat.reduceLeDiff, Nat.zero_add, Nat.le_refl, forall_const, st_L_digits]
    refine ⟨p, l, c + 2, 9, rfl, p2, by omega, by decide, by decide, fun H3 d x3 p3 d0 d9 => ?_⟩
    obtain ⟨e, rfl⟩ : ∃ e : Nat, d = e := ⟨d.toNat, by omega⟩
    have hd : (e : Int).natAbs < 2 ^ 8 := by omega
    refine ⟨(e : Int), rfl, wide_mul (a := 8) (b := 8) hd (bit _) (by decide) (by decide) (by decide), ?_⟩
    have := k H3 (a + b + e * (if decide (1 < (m : Int)) = true then 1 else 0)) (x2.trans x3) (p3.mono (by omega)) (Nat.lt_of_lt_of_le a0 (Nat.le_trans (Nat.le_add_right a b) (Nat.le_add_right _ _))) (Nat.lt_of_le_of_lt (Nat.add_le_add (Nat.add_le_add ab bb) (Nat.mul_le_mul (n₂ := 8) (m₂ := 1) (by omega) (by split <;> decide))) (by decide +kernel))
    have e2 : ((a + b + e * (if decide (1 < (m : Int)) = true then 1 else 0) : Nat) : Int) = (a : Int) + b + e * (if decide (1 < (m : Int)) = true then 1 else 0) := by
      push_cast
      split <;> rfl
    rw [e2] at this
    exact this


end HwL
end

section
namespace HwL
open PySem PySem.Spec PyProof.Rows L2 LamX HwT
variable {P : Program} {w : World} {K : PySem.W.Frag} {mg : Str → Option Value} {base : Heap}

/-- a method call within a block -/
theorem pe_bmE {X : Cx} {K : PySem.W.Frag} (hK : X.K = K) {o e : Expr} {es : List Expr} {to : TE} {t : TA} {name : Str} {apos cpos : Pos} {T id : String} {r : V → List V → Hp → VK → Prop} (pa : PlainAttrs T) (slot : Slot T name id) (hty : typeOf (.builtin id) = pure (.type "method_descriptor")) (hm : MtR X id r) (ho : PE X o to) (ha : PA X (e :: es) t)
    (hbase : attributeBase o name X.env (eval o X.env) = eval o X.env := by rfl)
    (hfew : ((backTo cpos (starEach (e :: es) X.env)).all (fun x => !x.1) && (backToKw cpos (keywordEach [] X.env)).all (fun x => x.1.isSome)
      && decide ((e :: es).length + ([] : List Keyword).length + (if ([] : List Keyword).isEmpty then 0 else 1) < 30)) = true := by rfl)
    (hline : (apos.endLine == cpos.line) = true := by rfl) (hs : starEach (e :: es) X.env = (false, eval e X.env) :: starEach es X.env := by rfl) (hplain : (backTo cpos (starEach es X.env)).any (·.1) = false := by rfl) :
    PE X (.Call (.Attribute o name apos) (e :: es) [] cpos) (tBM K T r to t) := by
  subst hK
  exact pe_bm pa slot hty hm ho ha hbase hfew hline hs hplain
abbrev B60 : Nat := 10 ^ 60
/-- the j-th part of sixty digits, from below -/
def pt (m j : Nat) : Nat := m / B60 ^ j % B60
def prt (m k : Nat) : List V := (List.range k).map fun j => V.str (tx (dg (pt m j)))
theorem prt_succ (m k : Nat) : prt m (k + 1) = prt m k ++ [V.str (tx (dg (pt m k)))] := by
  unfold prt
  rw [List.range_succ, List.map_append]
  rfl
theorem prt_len (m k : Nat) : (prt m k).length = k := by simp [prt]
theorem pt_lt (m j : Nat) : pt m j < 10 ^ 60 := Nat.mod_lt _ (by decide)
theorem div_succ (m j : Nat) : m / B60 ^ (j + 1) = m / B60 ^ j / B60 := by rw [Nat.pow_succ, Nat.div_div_eq_div_mul]
theorem dg_parts (m : Nat) : ∀ k : Nat, (k = 0 ∨ m / B60 ^ k ≠ 0) → dg m = dg (m / B60 ^ k) ++ ((List.range k).reverse.map fun j => pad 60 (pt m j)).flatten
  | 0, _ => by simp
  | k + 1, h => by
    have h1 : m / B60 ^ (k + 1) ≠ 0 := by
      rcases h with h | h
      · cases h
      · exact h
    have e := div_succ m k
    rw [e] at h1 ⊢
    have h0 : m / B60 ^ k ≠ 0 := fun z => h1 (by rw [z]; rfl)
    have ih := dg_parts m k (.inr h0)
    have d := dg_app (a := m / B60 ^ k / B60) (b := pt m k) (k := 60) h1 (by decide) (pt_lt m k)
    have e2 : m / B60 ^ k / B60 * 10 ^ 60 + pt m k = m / B60 ^ k := by
      rw [Nat.mul_comm]
      exact Nat.div_add_mod _ _
    rw [e2] at d
    rw [ih, d, List.range_succ, List.reverse_append, List.map_append, List.flatten_append, List.append_assoc]
    simp
theorem join_tx (ls : List (List Nat)) : Txt.join (tx []) (ls.map tx) = tx ls.flatten := by
  have f : ∀ (r : List (List Nat)) (acc : Array Nat), ((r.map tx).foldl (fun acc p => acc ++ (tx []).cps ++ p.cps) acc) = acc ++ r.flatten.toArray := by
    intro r
    induction r with
    | nil => intro acc; simp
    | cons a r ih =>
      intro acc
      rw [List.map_cons, List.foldl_cons, ih, List.flatten_cons]
      simp [tx]
  cases ls with
  | nil => rfl
  | cons a r =>
    show (⟨(r.map tx).foldl (fun acc p => acc ++ (tx []).cps ++ p.cps) (tx a).cps⟩ : Str) = _
    rw [f]
    simp [tx]
theorem rjust_pad {b : Nat} (h : b < 10 ^ 60) : Txt.rjustF (tx (dg b)) 60 ((Str.ofString "0").cps.getD 0 0) = tx (pad 60 b) := by
  have e0 : (Str.ofString "0").cps.getD 0 0 = 48 := by decide +kernel
  have l := (dlen_le (m := b) (k := 60) (by decide)).mpr h
  rw [e0]
  unfold Txt.rjustF
  rw [tx_len, dg_len]
  split
  · have : dlen b = 60 := by omega
    unfold pad
    rw [this]
    rfl
  · unfold PySem.Builtin.Str.padded pad tx
    have : (60 : Int).toNat - dlen b = 60 - dlen b := rfl
    rw [this]
    simp
theorem m_pow {m : Nat} (h : m < 2 ^ 13500) : m / B60 ^ 70 = 0 := Nat.div_eq_of_lt (Nat.lt_trans h (by decide +kernel))
theorem div_zero_le {m i j : Nat} (h : m / B60 ^ i = 0) (hij : i ≤ j) : m / B60 ^ j = 0 := by
  have h1 : m < B60 ^ i := by
    rcases Nat.div_eq_zero_iff.mp h with h | h
    · exact absurd h (Nat.ne_of_gt (Nat.pow_pos (by decide)))
    · exact h
  exact Nat.div_eq_of_lt (Nat.lt_of_lt_of_le h1 (Nat.pow_le_pow_right (by decide) hij))
theorem cut_last {xs : List V} {x : V} : cutV (xs ++ [x]) none (some (-1)) = xs := by
  unfold cutV HT.sIx
  simp
  rw [List.take_append_of_le_length (by omega), List.take_of_length_le (by omega)]
theorem cp60 : CPow 10 60 := by
  unfold CPow
  decide
def pads (m k : Nat) : List (List Nat) := (List.range k).reverse.map fun j => pad 60 (pt m j)
theorem pads_len (m k : Nat) : (pads m k).length = k := by simp [pads]
theorem pads_sum (m : Nat) : ∀ l : List Nat, (((l.map fun j => pad 60 (pt m j)).map tx).map fun x => x.length).sum = 60 * l.length
  | [] => rfl
  | j :: l => by
    rw [List.map_cons, List.map_cons, List.map_cons, List.sum_cons, pads_sum m l, tx_len, pad_len (by decide) (pt_lt m j), List.length_cons]
    omega
theorem pads_flat (m : Nat) : ∀ l : List Nat, (l.map fun j => pad 60 (pt m j)).flatten.length = 60 * l.length
  | [] => rfl
  | j :: l => by
    rw [List.map_cons, List.flatten_cons, List.length_append, pads_flat m l, pad_len (by decide) (pt_lt m j), List.length_cons]
    omega
theorem prt_rev (m k : Nat) : (prt m k).reverse = (List.range k).reverse.map fun j => V.str (tx (dg (pt m j))) := by
  unfold prt
  rw [List.map_reverse]
def spLT : Sp := fun vs H Q _ => ∃ t : Int, vs = [.int t] ∧ t.natAbs < 2 ^ 13500 ∧ ∀ H', Same H H' → Q (.str (tx (sg t))) H'
abbrev N_L_long_text : List Str := ["_law_number", "_law_left", "_law_parts", "_law_lap", "_law_whole", "_law_part"]
theorem sc_L_long_text : FnScope N_L_long_text ["_law_number"] (defScope s_L_long_text) := ⟨rfl, rfl, rfl, by decide +kernel, rfl, by decide +kernel, by decide +kernel⟩
theorem st_L_long_text {v0 : V} : L2.start N_L_long_text [v0] = [some v0, none, none, none, none, none] := rfl
theorem ok_L_long_text {f : Addr} {fd : FuncData} (F : FD K s_L_long_text "_law_long_text" "_law_long_text" f fd) (dg : HwD.DigK K) (z_range : mg "range" = none) (z_str : mg "str" = none) (z_abs : mg "abs" = none) : FnOk P w K mg base (L2.CX P w) 1 f fd ["_law_number"] (spLT) := by
  have nd := sc_L_long_text.nd
  refine F.ok0 sc_L_long_text (fun vs H Q E h => ?_) (fun cdv A outer s H vs Q E hr h => ?_)
  · obtain ⟨t, rfl, _⟩ := h
    rfl
  · obtain ⟨t, rfl, ht, kq⟩ := h
    refine ⟨_, (C8.pss_cut (ps_par (i := 1) (j := 2) (by rfl) nd rfl rfl (by decide) rfl rfl (pa_cons (pe_callB call_abs (by rfl) z_abs (by decide +kernel) (pa_cons (pv 0) pa_nil)) (pa_cons (pe_lst pa_nil) pa_nil)) (by rfl))
        (C8.pss_cut (ps_for PassesOwn.never rfl (pi_range1 rfl z_range (pa_cons pe_int pa_nil)) (pg_name (i := 3) nd rfl (Or.inl rfl)) (pss_cons (ps_expr (pe_bm PySem.F.plainAttrs_list PySem.F.slot_list_append PySem.F.type_list_append mt_append (pv 2) (pa_cons (pe_callTy (call_str_intB rfl dg) (by rfl) z_str (by decide +kernel) (pa_cons (pe_op op_mod (pv 1) (pe_op op_pow pe_int pe_int)) pa_nil)) pa_nil)))
        (pss_cons (ps_set (i := 1) nd rfl (Or.inl rfl) (pe_op op_fdivB (pv 1) (pe_op op_pow pe_int pe_int)))
        (pss_one (ps_if (pt_cmpR op_eq (pv 1) pe_int (nomark _)) (pss_one ps_break) pss_nil)))))
        (C8.pss_cut (ps_set (i := 4) nd rfl (Or.inl rfl) (pe_op op_add_str (pe_ix ix_listH (pv 2) (pe_un un_neg pe_int) (fun _ _ => rfl)) (pe_join pe_str (pe_lc (own := [("_law_part", 5)]) rfl nd (pi_list (pe_revL (pe_slice sl_list (pv 2) po_none (po_some (pe_un un_neg pe_int))))) (blkOk_by (own := [("_law_part", 5)]) (N := N_L_long_text) (sc := defScope s_L_long_text) (by decide +kernel)) (fun _ _ _ _ _ => (pg_name (i := 5) nd rfl (Or.inl rfl))) (fun _ _ _ _ _ => pts_nil) (fun _ _ _ _ _ => (pe_bmE (K := K) rfl PySem.F.plainAttrs_str PySem.F.slot_str_rjust PySem.F.type_str_rjust mt_rjustF (pv 5) (pa_cons pe_int (pa_cons pe_str pa_nil))))))))
        (pss_one (ps_ret (pe_op op_add_str (pe_ifExp (pt_cmpR op_lt (pv 0) pe_int (nomark _)) pe_str pe_str) (pv 4))))))), ?_⟩
    have sz : (if t < 0 then -t else t) = (t.natAbs : Int) := by split <;> omega
    simp only [tVar, rIxTH, rIxLH, gTupH, line_le, HO.tup.injEq, HO.lst.injEq, List.length_cons, List.length_nil, at0, at1, rU, tOst, tTest, rIxL, rIxT, C8.tCut, cxOf_K, tC, tOp, tUn, tSeq, tAsg, tNext, tRet, tRetN, tDrop, tIfS, tNever, gName, gNil, gCons, gTup, gSub, tPar, rI, rI0, rU, rEq, rNe, tB, tAnd, tOr, tNot, tAndV, tOrV, tNotV, tIf, tTup, tLst, tNil, tCons, tCB, tCall, tMeth, tMake, tFld, sFld, tDGet, sDPut, tDisp, tPairs, tBreak, tCont, scal_ii, scal_bb, scal_ss, List.getElem?_cons_zero, List.getElem?_cons_succ, List.set_cons_zero, List.set_cons_succ, Option.some.injEq, exists_eq_left', exists_eq_left, exists_and_left, V.int.injEq, V.bl.injEq, V.ref.injEq, V.str.injEq, List.cons.injEq, and_true, true_and, Bool.true_eq, List.nil_append, List.append_nil, List.cons_append, exists_eq', and_self, reduceCtorEq, false_or, or_false, false_and, exists_false, exists_const, and_assoc, if_true, Bool.false_eq_true, if_false, Nat.reduceAdd, Nat.reduceLeDiff, Nat.zero_add, Nat.le_refl, forall_const, st_L_long_text]
    rw [sz]
    generalize hm : t.natAbs = m at ht ⊢
    refine ⟨fun σ' H' => ∃ P, σ' = [some (.int t), some (.int (m : Int)), some (.ref P), none, none, none] ∧ H P = none ∧ Same H H' ∧ H' P = some (.lst (prt m 0)), fun P hP => ⟨P, rfl, hP, same_new hP, upd_same⟩, ?_⟩
    rintro σ' H1 ⟨P, rfl, hP, s1, h1⟩
    refine ⟨fun σ' H' => ∃ k v1 v3, σ' = [some (.int t), v1, some (.ref P), v3, none, none] ∧ k ≤ 70 ∧ (k = 0 ∨ m / B60 ^ k ≠ 0) ∧ m / B60 ^ (k + 1) = 0 ∧ Same H H' ∧ H' P = some (.lst (prt m (k + 1))), ?_, ?_⟩
    · refine ⟨100, rfl, by decide, by decide, for_range (lo := 0) (n := 100) (fun i σ' H' => ∃ v3, σ' = [some (.int t), some (.int ((m / B60 ^ i : Nat) : Int)), some (.ref P), v3, none, none] ∧ i ≤ 70 ∧ (i = 0 ∨ m / B60 ^ i ≠ 0) ∧ Same H H' ∧ H' P = some (.lst (prt m i))) ?_ ?_ ?_⟩
      · exact ⟨none, by simp, by decide, .inl rfl, s1, h1⟩
      · rintro i σ' H2 hi ⟨v3, rfl, i70, hz, s2, h2⟩
        have e60 : (10 : Int) ^ (60 : Int).toNat = ((10 ^ 60 : Nat) : Int) := by decide
        simp only [tVar, rIxTH, rIxLH, gTupH, line_le, HO.tup.injEq, HO.lst.injEq, List.length_cons, List.length_nil, at0, at1, rU, tOst, tTest, rIxL, rIxT, C8.tCut, cxOf_K, tC, tOp, tUn, tSeq, tAsg, tNext, tRet, tRetN, tDrop, tIfS, tNever, gName, gNil, gCons, gTup, gSub, tPar, rI, rI0, rU, rEq, rNe, tB, tAnd, tOr, tNot, tAndV, tOrV, tNotV, tIf, tTup, tLst, tNil, tCons, tCB, tCall, tMeth, tMake, tFld, sFld, tDGet, sDPut, tDisp, tPairs, tBreak, tCont, scal_ii, scal_bb, scal_ss, List.getElem?_cons_zero, List.getElem?_cons_succ, List.set_cons_zero, List.set_cons_succ, Option.some.injEq, exists_eq_left', exists_eq_left, exists_and_left, V.int.injEq, V.bl.injEq, V.ref.injEq, V.str.injEq, List.cons.injEq, and_true, true_and, Bool.true_eq, List.nil_append, List.append_nil, List.cons_append, exists_eq', and_self, reduceCtorEq, false_or, or_false, false_and, exists_false, exists_const, and_assoc, if_true, Bool.false_eq_true, if_false, Nat.reduceAdd, Nat.reduceLeDiff, Nat.zero_add, Nat.le_refl, forall_const, st_L_long_text, tBM, rAppend, h2, CDivB, e60]
        have emod : ((m / B60 ^ i : Nat) : Int) % ((10 ^ 60 : Nat) : Int) = ((pt m i : Nat) : Int) := rfl
        have ediv : ((m / B60 ^ i : Nat) : Int).fdiv ((10 ^ 60 : Nat) : Int) = ((m / B60 ^ (i + 1) : Nat) : Int) := by
          rw [div_succ, Int.fdiv_eq_ediv_of_nonneg _ (by decide)]
          rfl
        have lp := pt_lt m i
        rw [emod, ediv, str_sg, sg_nat, ← prt_succ]
        have s3 : Same H (upd H2 P (HO.lst (prt m (i + 1)))) := fun q x hx => by
          rw [upd_ne (fun z => by rw [z, hP] at hx; cases hx)]
          exact s2 q x hx
        refine ⟨.inl ⟨rfl, _, SqL.of h2⟩, cp60, by decide, ?_, ?_, cp60, by decide, ?_, ite2 (fun hc => ?_) (fun hc => ?_)⟩
        · rw [Int.natAbs_natCast]
          exact Nat.lt_trans lp (by decide +kernel)
        · rw [prt_len]
          exact Nat.lt_of_le_of_lt i70 (by decide)
        · rw [Int.natAbs_natCast]
          exact Nat.lt_of_le_of_lt (Nat.div_le_self _ _) ht
        · have hc : m / B60 ^ (i + 1) = 0 := Int.ofNat_eq_zero.mp (of_decide_eq_true hc)
          exact ⟨i, i70, hz, hc, s3, upd_same⟩
        · have hc : m / B60 ^ (i + 1) ≠ 0 := fun z => hc (decide_eq_true (by rw [z]; rfl))
          refine ⟨rfl, Decidable.byContradiction fun z => hc (div_zero_le (m_pow ht) (by clear ht hz s3 lp; omega)), hc, s3, upd_same⟩
      · rintro σ' H2 ⟨v3, rfl, i70, _⟩
        exact absurd i70 (by decide)
    rintro σ' H2 ⟨k, v1, v3, rfl, k70, hz, he, s2, h2⟩
    refine ⟨fun σ' H' => ∃ v1 v3, σ' = [some (.int t), v1, some (.ref P), v3, some (.str (tx (HwT.dg m))), none] ∧ Same H H', ?_, ?_⟩
    · have l1 : atI (prt m (k + 1)) (-1) = some (V.str (tx (HwT.dg (pt m k)))) := atI_last (by rw [prt_succ]; simp)
      simp only [tVar, rIxTH, rIxLH, gTupH, line_le, HO.tup.injEq, HO.lst.injEq, List.length_cons, List.length_nil, at0, at1, rU, tOst, tTest, rIxL, rIxT, C8.tCut, cxOf_K, tC, tOp, tUn, tSeq, tAsg, tNext, tRet, tRetN, tDrop, tIfS, tNever, gName, gNil, gCons, gTup, gSub, tPar, rI, rI0, rU, rEq, rNe, tB, tAnd, tOr, tNot, tAndV, tOrV, tNotV, tIf, tTup, tLst, tNil, tCons, tCB, tCall, tMeth, tMake, tFld, sFld, tDGet, sDPut, tDisp, tPairs, tBreak, tCont, scal_ii, scal_bb, scal_ss, List.getElem?_cons_zero, List.getElem?_cons_succ, List.set_cons_zero, List.set_cons_succ, Option.some.injEq, exists_eq_left', exists_eq_left, exists_and_left, V.int.injEq, V.bl.injEq, V.ref.injEq, V.str.injEq, List.cons.injEq, and_true, true_and, Bool.true_eq, List.nil_append, List.append_nil, List.cons_append, exists_eq', and_self, reduceCtorEq, false_or, or_false, false_and, exists_false, exists_const, and_assoc, if_true, Bool.false_eq_true, if_false, Nat.reduceAdd, Nat.reduceLeDiff, Nat.zero_add, Nat.le_refl, forall_const, st_L_long_text, h2, l1, tM1]
      refine ⟨_, rfl, 1, rfl, -1, rfl, P, prt m (k + 1), rfl, SqL.of h2, fun p1 hp1 => ⟨p1, _, rfl, SqL.of upd_same, fun p2 hp2 => ⟨p2, rfl, ⟨_, SqL.of upd_same⟩, fun D hD => ?_⟩⟩⟩
      rw [prt_succ, cut_last]
      rw [prt_succ, cut_last] at hD
      have s4 : Same H2 (upd (upd H2 p1 (.lst (prt m k))) p2 (.lst (prt m k).reverse)) := (same_new hp1).trans (same_new (by rw [prt_succ, cut_last] at hp2; exact hp2))
      have h4 : (upd (upd H2 p1 (.lst (prt m k))) p2 (.lst (prt m k).reverse)) p2 = some (.lst (prt m k).reverse) := upd_same
      generalize upd (upd H2 p1 (.lst (prt m k))) p2 (.lst (prt m k).reverse) = H4 at hD s4 h4 ⊢
      refine lc_list (K := K) (a := p2) (xs := (prt m k).reverse) (fun i H' => Same H4 H' ∧ H' D = some (.lst (((pads m k).take i).map fun l => V.str (tx l)))) ⟨same_new hD, upd_same⟩ (fun i H' _ h => SqL.of (h.1 _ _ h4)) ?_ ?_
      · rintro i x H5 hx ⟨s5, h5⟩
        rw [prt_rev, List.getElem?_map] at hx
        obtain ⟨j, hj, rfl⟩ := Option.map_eq_some_iff.mp hx
        simp only [tVar, rIxTH, rIxLH, gTupH, line_le, HO.tup.injEq, HO.lst.injEq, List.length_cons, List.length_nil, at0, at1, rU, tOst, tTest, rIxL, rIxT, C8.tCut, cxOf_K, tC, tOp, tUn, tSeq, tAsg, tNext, tRet, tRetN, tDrop, tIfS, tNever, gName, gNil, gCons, gTup, gSub, tPar, rI, rI0, rU, rEq, rNe, tB, tAnd, tOr, tNot, tAndV, tOrV, tNotV, tIf, tTup, tLst, tNil, tCons, tCB, tCall, tMeth, tMake, tFld, sFld, tDGet, sDPut, tDisp, tPairs, tBreak, tCont, scal_ii, scal_bb, scal_ss, List.getElem?_cons_zero, List.getElem?_cons_succ, List.set_cons_zero, List.set_cons_succ, Option.some.injEq, exists_eq_left', exists_eq_left, exists_and_left, V.int.injEq, V.bl.injEq, V.ref.injEq, V.str.injEq, List.cons.injEq, and_true, true_and, Bool.true_eq, List.nil_append, List.append_nil, List.cons_append, exists_eq', and_self, reduceCtorEq, false_or, or_false, false_and, exists_false, exists_const, and_assoc, if_true, Bool.false_eq_true, if_false, Nat.reduceAdd, Nat.reduceLeDiff, Nat.zero_add, Nat.le_refl, forall_const, st_L_long_text, tBM, wipe, List.map_cons, List.map_nil, tYes]
        rw [rjust_pad (pt_lt m j)]
        have hi := (List.getElem?_eq_some_iff.mp hj).1
        rw [List.length_reverse, List.length_range] at hi
        have e : (pads m k)[i]? = some (pad 60 (pt m j)) := by
          unfold pads
          rw [List.getElem?_map, hj]
          rfl
        refine ⟨by first | rfl | exact .inl rfl | exact .inr rfl, by decide, by decide +kernel, _, h5, ?_, ?_, ?_⟩
        · rw [List.length_map]
          refine Nat.lt_of_le_of_lt (List.length_take_le _ _) (Nat.lt_of_lt_of_le (Nat.lt_of_lt_of_le hi k70) (by decide))
        · exact fun q x hx => by
            rw [upd_ne (fun z => by rw [z, hD] at hx; cases hx)]
            exact s5 q x hx
        · rw [upd_same, List.take_add_one, e, List.map_append]
          rfl
      · rintro H5 ⟨s5, h5⟩
        rw [List.length_reverse, prt_len, List.take_of_length_le (by rw [pads_len]; exact Nat.le_refl _)] at h5
        have ee : Str.ofString "" = tx [] := by decide +kernel
        have ek : pt m k = m / B60 ^ k := Nat.mod_eq_of_lt (by
          rw [div_succ] at he
          rcases Nat.div_eq_zero_iff.mp he with h | h
          · cases h
          · exact h)
        refine ⟨D, rfl, (pads m k).map tx, .inl (SqL.of (by rw [h5, List.map_map]; rfl)), ?_, ?_, ?_, s2.trans (s4.trans s5)⟩
        · rw [ee]
          have := pads_sum m (List.range k).reverse
          rw [List.length_reverse, List.length_range] at this
          show (((pads m k).map tx).map fun x => x.length).sum + _ * 0 ≤ _
          unfold pads
          rw [this, Nat.mul_zero]
          clear ht hz he
          omega
        · rw [ee, join_tx, tx_len, tx_len]
          have := pads_flat m (List.range k).reverse
          rw [List.length_reverse, List.length_range] at this
          unfold pads
          rw [this]
          have := (dlen_le (m := pt m k) (k := 60) (by decide)).mpr (pt_lt m k)
          rw [dg_len]
          refine Nat.le_trans (show _ ≤ 60 + 60 * 70 from ?_) (by decide)
          clear ht hz he ek
          omega
        · rw [ee, join_tx, tx_app, ek, dg_parts m k hz]
          rfl
    rintro σ' H3 ⟨v1, v3, rfl, s3⟩
    simp only [tVar, rIxTH, rIxLH, gTupH, line_le, HO.tup.injEq, HO.lst.injEq, List.length_cons, List.length_nil, at0, at1, rU, tOst, tTest, rIxL, rIxT, C8.tCut, cxOf_K, tC, tOp, tUn, tSeq, tAsg, tNext, tRet, tRetN, tDrop, tIfS, tNever, gName, gNil, gCons, gTup, gSub, tPar, rI, rI0, rU, rEq, rNe, tB, tAnd, tOr, tNot, tAndV, tOrV, tNotV, tIf, tTup, tLst, tNil, tCons, tCB, tCall, tMeth, tMake, tFld, sFld, tDGet, sDPut, tDisp, tPairs, tBreak, tCont, scal_ii, scal_bb, scal_ss, List.getElem?_cons_zero, List.getElem?_cons_succ, List.set_cons_zero, List.set_cons_succ, Option.some.injEq, exists_eq_left', exists_eq_left, exists_and_left, V.int.injEq, V.bl.injEq, V.ref.injEq, V.str.injEq, List.cons.injEq, and_true, true_and, Bool.true_eq, List.nil_append, List.append_nil, List.cons_append, exists_eq', and_self, reduceCtorEq, false_or, or_false, false_and, exists_false, exists_const, and_assoc, if_true, Bool.false_eq_true, if_false, Nat.reduceAdd, Nat.reduceLeDiff, Nat.zero_add, Nat.le_refl, forall_const, st_L_long_text]
    have em : Str.ofString "-" = tx [45] := by decide +kernel
    have ee : Str.ofString "" = tx [] := by decide +kernel
    rw [em, ee, tx_app, tx_app]
    have q := kq H3 s3
    rw [sg_eq, hm] at q
    have ld : (HwT.dg m).length ≤ 5000 := by
      rw [dg_len]
      exact (dlen_le (by decide)).mpr (Nat.lt_trans ht (by decide +kernel))
    refine ite2 (fun hc => ?_) (fun hc => ?_)
    · rw [if_pos (of_decide_eq_true hc)] at q
      exact ⟨by rw [tx_len, tx_len]; exact (show 1 + (HwT.dg m).length ≤ sizeLine from Nat.le_trans (Nat.add_le_add_left ld 1) (by decide)), q⟩
    · rw [if_neg (fun z => hc (decide_eq_true z))] at q
      exact ⟨by rw [tx_len, tx_len]; exact (show 0 + (HwT.dg m).length ≤ sizeLine from Nat.le_trans (Nat.add_le_add_left ld 0) (by decide)), q⟩


end HwL
end

section
namespace HwL
open PySem PySem.Spec PyProof.Rows L2 LamX HwT
variable {P : Program} {w : World} {K : PySem.W.Frag} {mg : Str → Option Value} {base : Heap}

theorem pe_m0 {X : Cx} {j k : Nat} {m : Str} {C : Addr} {ps : List Str} {sp : Sp} {E : XK} {o : Expr} {ta : TE} {pos apos : Pos} {pl : Sem Bool} (c : Mf X.prog X.w X.K X.mg X.base C m k ps sp) (hr : Room j X.A) (hk : k ≤ j) (hx : Passes (L2.CX X.prog X.w) X E) (he : PE X o ta)
    (ht : eval (.Call (.Attribute o m apos) [] [] pos) X.env = (do
      let ov ← eval o X.env
      standAt apos.atName
      let (f, first) ← holding [ov] (getMethod ov m pl)
      callWith pos f first (backTo pos (starEach [] X.env)) (backToKw pos (keywordEach [] X.env))) := by rfl) :
    PE X (.Call (.Attribute o m apos) [] [] pos) (tMeth C m sp [] E ta tNil) := by
  obtain ⟨f, fd, h1, h2, h3⟩ := c.ex
  exact pe_meth0 he c.cl h1 h3 (hr.mono hk) h2 .nil hx ht
theorem PenAt.no {H : Hp} {p l b : Addr} {c : Int} {xs : List V} (h : PenAt H p l c) (e : H b = Option.some (.tup xs)) : b ≠ p := by
  obtain ⟨cs, i, dg, n, f, h1, _⟩ := h
  exact fun z => by rw [z, h1] at e; cases e
theorem PenAt.noI {H : Hp} {p l b C dx : Addr} {c : Int} {fs : List (Str × V)} (h : PenAt H p l c) (e : H b = Option.some (.ins C dx fs)) : b ≠ p := by
  obtain ⟨cs, i, dg, n, f, h1, _⟩ := h
  exact fun z => by rw [z, h1] at e; cases e
theorem tabs_ext {T : List (Addr × Str)} {H H' : Hp} {p l : Addr} {c : Int} (t : Tabs T H) (hp : PenAt H p l c) (e : Ext p H H') : Tabs T H' := by
  obtain ⟨cs, i, dg, n, f, h1, _⟩ := hp
  exact tabs_at t h1 (fun ps z => by cases z) (fun c q z => by unfold CodeO at z; cases z) e
theorem PenAt.extN {H H' : Hp} {p l : Addr} {c : Int} (h : PenAt H p l c) (e : ExtN H H') : PenAt H' p l c := by
  obtain ⟨cs, i, dg, n, f, h1, h2, h3⟩ := h
  exact ⟨cs, i, dg, n, f, e _ _ h1 (fun _ z => by cases z), e _ _ h2 (fun _ z => by cases z), h3⟩
theorem IsR.extN {C : Addr} {H H' : Hp} {x : V} {q : Rat} (h : IsR C H x q) (e : ExtN H H') : IsR C H' x q := by
  obtain ⟨a, dx, h1, h2⟩ := h
  exact ⟨a, dx, h1, e _ _ h2 (fun _ z => by cases z)⟩
/-- behind the drawing of a number of digits, in slot 3 or 5 -/
def M1 (a p l PT : Addr) (c : Int) (σ : L2.St) (H : Hp) : Prop := ∃ (v2 v4 v5 v6 v7 v8 v9 v10 : Option V) (m : Nat), σ = [some (.ref a), some (.ref p), v2, some (.int (m : Int)), v4, v5, v6, v7, v8, v9, v10] ∧ 0 < m ∧ m ≤ 4020 ∧ PenAt H p l c ∧ Tabs [(PT, qL)] H
def M2 (a p l PT : Addr) (c : Int) (σ : L2.St) (H : Hp) : Prop := ∃ (v2 v3 v5 v6 v7 v8 v9 v10 : Option V) (t : Int), σ = [some (.ref a), some (.ref p), v2, v3, some (.int t), v5, v6, v7, v8, v9, v10] ∧ t.natAbs < 2 ^ 13450 ∧ PenAt H p l c ∧ Tabs [(PT, qL)] H
def M3 (a p l PT : Addr) (c : Int) (σ : L2.St) (H : Hp) : Prop := ∃ (v2 v3 v6 v7 v8 v9 v10 : Option V) (t : Int) (m : Nat), σ = [some (.ref a), some (.ref p), v2, v3, some (.int t), some (.int (m : Int)), v6, v7, v8, v9, v10] ∧ t.natAbs < 2 ^ 13450 ∧ 0 < m ∧ m ≤ 4020 ∧ PenAt H p l c ∧ Tabs [(PT, qL)] H
def M4 (a p l PT : Addr) (c : Int) (σ : L2.St) (H : Hp) : Prop := ∃ (v2 v3 v4 v5 v7 v8 v9 v10 : Option V) (b : Addr) (q : Rat), σ = [some (.ref a), some (.ref p), v2, v3, v4, v5, some (.ref b), v7, v8, v9, v10] ∧ HwM.Bd 13450 q ∧ H b = some (.tup (qv q)) ∧ PenAt H p l c ∧ Tabs [(PT, qL)] H
def M5 (C a p l PT : Addr) (c : Int) (σ : L2.St) (H : Hp) : Prop := ∃ (v2 v3 v4 v5 v8 v9 v10 : Option V) (b x dx : Addr) (q : Rat), σ = [some (.ref a), some (.ref p), v2, v3, v4, v5, some (.ref b), some (.ref x), v8, v9, v10] ∧ HwM.Bd 13450 q ∧ H b = some (.tup (qv q)) ∧ H x = some (.ins C dx (ratF q)) ∧ PenAt H p l c ∧ Tabs [(PT, qL)] H
def M6 (C a p l PT : Addr) (c : Int) (σ : L2.St) (H : Hp) : Prop := ∃ (v2 v3 v4 v5 v9 v10 : Option V) (b x dx : Addr) (q : Rat), σ = [some (.ref a), some (.ref p), v2, v3, v4, v5, some (.ref b), some (.ref x), some (.str (tx (wrt q.num q.den))), v9, v10] ∧ HwM.Bd 13450 q ∧ H b = some (.tup (qv q)) ∧ H x = some (.ins C dx (ratF q)) ∧ PenAt H p l c ∧ Tabs [(PT, qL)] H
/-- how many digits its longest part has -/
def dgs (q : Rat) : Nat := max (dlen q.num.natAbs) (dlen q.den)
theorem made_rat2 {C CB : Addr} {H : Hp} {t b : Int} {Q : Addr → Hp → Prop} {E : XK} (ht : t.natAbs < 2 ^ 13500) (hb : b.natAbs < 2 ^ 13500) (k : b ≠ 0 → ∀ H' x, Same H H' → IsR C H' (.ref x) (Rat.divInt t b) → Q x H') (ke : b = 0 → Bot0 CB H E) (x dx : Addr) (hx : H x = none) (hd : H dx = none) (hne : dx ≠ x) :
    spInit C CB [.ref x, .int t, .int b] (upd (upd H dx (.own x)) x (.ins C dx [])) (fun v H2 => v = .non ∧ Q x H2) E := by
  have sm : Same H (upd (upd H dx (.own x)) x (.ins C dx [])) := fun c o e => by rw [upd_ne (ne_of_none e hx), upd_ne (ne_of_none e hd)]; exact e
  refine ⟨x, dx, t, b, rfl, upd_same, ht, hb, fun h => ⟨rfl, k h _ _ (fun c o e => ?_) ⟨x, dx, rfl, upd_same⟩⟩, fun h H' d e1 e2 => ke h H' d (sm.trans e1) e2⟩
  rw [upd_ne (ne_of_none e hx)]
  exact sm _ _ e
theorem mulOk01 {x : Str} {b : Bool} : MulOk x (if b = true then 1 else 0) := by
  cases b
  · exact ⟨by decide, fun h => absurd (by decide) h, fun h => absurd (by decide) h⟩
  · exact ⟨by decide, fun _ h => (by cases h), fun _ h => (by cases h)⟩
theorem mul_one' (x : Str) : Txt.mul x 1 = x := by
  unfold Txt.mul
  rw [if_neg (by decide), if_pos (by rfl)]
theorem mul_zero' (x : Str) : Txt.mul x 0 = tx [] := by
  unfold Txt.mul
  rw [if_pos (by decide)]
  rfl
/-- the parts of a written ratio -/
def prts (q : Rat) : List (List Nat) := if (q.den : Int) = 1 then [sg q.num] else [sg q.num, sg q.den]
theorem split_wrt (q : Rat) : Txt.split (tx (wrt q.num q.den)) ⟨#[47]⟩ = (prts q).map tx := by
  unfold wrt prts
  split
  · rw [split_none (x := tx (sg q.num)) (sg47 _)]
    rfl
  · rw [split_some (x := tx (sg q.num ++ 47 :: sg q.den)) (a := sg q.num) (b := sg q.den) rfl (sg47 _) (sg47 _)]
    rfl
theorem prts_max {q : Rat} {m : Int} (h : m ∈ (prts q).map fun l => ((strm l).length : Int)) (g : ∀ y ∈ (prts q).map fun l => ((strm l).length : Int), y ≤ m) : m = (dgs q : Nat) := by
  have hd : (strm (sg (q.den : Int))).length = dlen q.den := by rw [strm_sg, Int.natAbs_natCast]
  have p := dlen_pos q.num.natAbs
  unfold prts at h g
  unfold dgs
  split at h
  · rename_i e
    rw [if_pos e] at g
    have e : q.den = 1 := by omega
    have o : dlen q.den = 1 := by rw [e]; decide
    simp [strm_sg] at h
    omega
  · rename_i e
    rw [if_neg e] at g
    simp [strm_sg, Int.natAbs_natCast] at h g
    omega
theorem dgs_lw (q : Rat) : lw (wrt q.num q.den) = dgs q := by
  rw [wrt_lw (by have := q.den_pos; omega), Int.natAbs_natCast]
  rfl
theorem wrt_len5 {q : Rat} (h : HwM.Bd 13450 q) : (wrt q.num q.den).length ≤ 9000 := by
  have a := (dlen_le (m := q.num.natAbs) (k := 4100) (by decide)).mpr (Nat.lt_trans h.1 (by decide +kernel))
  have b := (dlen_le (m := q.den) (k := 4100) (by decide)).mpr (Nat.lt_trans h.2 (by decide +kernel))
  have c := wrt_len q.num q.den
  rw [Int.natAbs_natCast] at c
  clear h
  omega
theorem bd_num {q : Rat} (h : HwM.Bd 13450 q) : q.num.natAbs < 2 ^ 13500 := HwM.lt_mono h.1 (by decide)
theorem bd_den {q : Rat} (h : HwM.Bd 13450 q) : ((q.den : Nat) : Int).natAbs < 2 ^ 13500 := by
  rw [Int.natAbs_natCast]
  exact HwM.lt_mono h.2 (by decide)
def M7 (C a p l PT : Addr) (c : Int) (σ : L2.St) (H : Hp) : Prop := ∃ (v2 v3 v4 v5 v10 : Option V) (b x dx : Addr) (q : Rat), σ = [some (.ref a), some (.ref p), v2, v3, v4, v5, some (.ref b), some (.ref x), some (.str (tx (wrt q.num q.den))), some (.int (dgs q : Nat)), v10] ∧ HwM.Bd 13450 q ∧ H b = some (.tup (qv q)) ∧ H x = some (.ins C dx (ratF q)) ∧ PenAt H p l c ∧ Tabs [(PT, qL)] H
def M8 (C a p l PT : Addr) (c : Int) (σ : L2.St) (H : Hp) : Prop := ∃ (v2 v3 v4 v5 v9 v10 : Option V) (b x dx : Addr) (q : Rat), σ = [some (.ref a), some (.ref p), v2, v3, v4, v5, some (.ref b), some (.ref x), some (.str (tx (wrt q.num q.den))), v9, v10] ∧ dgs q ≤ 4000 ∧ HwM.Bd 13450 q ∧ H b = some (.tup (qv q)) ∧ H x = some (.ins C dx (ratF q)) ∧ PenAt H p l c ∧ Tabs [(PT, qL)] H
def spLaw (K : PySem.W.Frag) (PT : Addr) : Sp := fun vs H Q _ => ∃ (a : Addr) (ns : List Int), vs = [.ref a] ∧ SqL K H a (ns.map V.int) ∧ ns.length ≤ 63 ∧ Tabs [(PT, qL)] H ∧ ∀ H', Q (.bl true) H'
abbrev N_law : List Str := ["_law_script", "_law_pen_here", "_law_turn", "_law_top_many", "_law_top", "_law_many", "_law_pair", "_law_one", "_law_text", "_law_digits_here", "_law_part"]
theorem sc_law : FnScope N_law ["_law_script"] (defScope s_law) := ⟨rfl, rfl, rfl, by decide +kernel, rfl, by decide +kernel, by decide +kernel⟩
theorem st_law {v0 : V} : L2.start N_law [v0] = [some v0, none, none, none, none, none, none, none, none, none, none] := rfl
theorem ok_law {f : Addr} {fd : FuncData} (F : FD K s_law "law" "law" f fd) {C_Ratio C_TooLong : Addr} (R : RatC K C_Ratio) {gB : Addr} {fdB : FuncData} {PT cL : Addr} (F_bot : FD K s_L_too_long "_law_too_long" "_law_too_long" gB fdB) (B_bot : Binds K fdB ["_law_action"] []) (m_bot : mg "_law_too_long" = some (.ref gB)) (BX : XrC K C_TooLong "digits" "digits") (TB : TabB base mg cL PT) (hcode : fd.code = .ref cL) (z_range : mg "range" = none) (z_max : mg "max" = none) (z_len : mg "len" = none) (z_int : mg "int" = none) (m_TooLong : mg "TooLong" = some (.ref C_TooLong)) (g_L_is_ratio : Gf P w K mg base "_law_is_ratio" 1 ["_law_value", "_law_due"] (spIsR C_Ratio)) (g_ratio_of : Gf P w K mg base "ratio_of" 5 ["text"] (spRd C_Ratio C_BadText C_TooLong)) (g_Ratio_written : Mf P w K mg base C_Ratio "written" 3 ["self"] (spWr C_Ratio C_TooLong)) (g_L_long_text : Gf P w K mg base "_law_long_text" 1 ["_law_number"] (spLT)) (g_Ratio : Kf P w K mg base "Ratio" C_Ratio 3 ["self", "top", "bottom"] [] (spInit C_Ratio C_BadNumber)) (g_L_q : Gf P w K mg base "_law_q" 2 ["_law_top", "_law_bottom"] (spQ)) (g_L_digits : Gf P w K mg base "_law_digits" 2 ["_law_pen_here", "_law_many"] (spLDg)) (g_L_draw : Gf P w K mg base "_law_draw" 1 ["_law_pen_here", "_law_many"] (spDraw)) (g_L_both_wrong : Gf P w K mg base "_law_both_wrong" 7 ["_law_pen_here"] (spBW)) (g_L_pen : Gf P w K mg base "_law_pen" 1 ["_law_script"] (spPen K)) : FnOk P w K mg base (L2.CX P w) 8 f fd ["_law_script"] (spLaw K PT) := by
  have nd := sc_law.nd
  refine F.okC sc_law (fun vs H Q E h => ?_) (fun A outer s H vs Q E hr h => ?_)
  · obtain ⟨a, ns, rfl, _⟩ := h
    rfl
  · obtain ⟨a, ns, rfl, hS, hlen, hT, k⟩ := h
    refine ⟨_, (pss_cons (ps_set (i := 1) nd rfl (Or.inl rfl) (pe_g g_L_pen hr (by decide) passL rfl (pa_cons (pv 0) pa_nil)))
        (C8.pss_cut (ps_if (pt_not (pt_val (pe_g g_L_both_wrong hr (by decide) passL rfl (pa_cons (pv 1) pa_nil)))) (pss_one (ps_ret pe_bl)) pss_nil)
        (pss_cons (ps_for PassesOwn.never rfl (pi_range1 rfl z_range (pa_cons pe_int pa_nil)) (pg_name (i := 2) nd rfl (Or.inl rfl)) (C8.pss_cut (ps_set (i := 3) nd rfl (Or.inl rfl) (pe_ix ix_listH (pe_lst (pa_cons (pe_op op_add pe_int (pe_g g_L_draw hr (by decide) passL rfl (pa_cons (pv 1) (pa_cons pe_int pa_nil)))) (pa_cons (pe_op op_add pe_int (pe_g g_L_draw hr (by decide) passL rfl (pa_cons (pv 1) (pa_cons pe_int pa_nil)))) (pa_cons (pe_op op_add pe_int (pe_g g_L_draw hr (by decide) passL rfl (pa_cons (pv 1) (pa_cons pe_int pa_nil)))) pa_nil)))) (pe_g g_L_draw hr (by decide) passL rfl (pa_cons (pv 1) (pa_cons pe_int pa_nil))) (fun _ _ => rfl)))
        (C8.pss_cut (ps_set (i := 4) nd rfl (Or.inl rfl) (pe_op op_mulW (pe_g g_L_digits hr (by decide) passL rfl (pa_cons (pv 1) (pa_cons (pv 3) pa_nil))) (pe_op op_sub pe_int (pe_op op_mulW pe_int (pe_g g_L_draw hr (by decide) passL rfl (pa_cons (pv 1) (pa_cons pe_int pa_nil)))))))
        (C8.pss_cut (ps_set (i := 5) nd rfl (Or.inl rfl) (pe_ix ix_listH (pe_lst (pa_cons pe_int (pa_cons (pe_op op_add pe_int (pe_g g_L_draw hr (by decide) passL rfl (pa_cons (pv 1) (pa_cons pe_int pa_nil)))) (pa_cons (pe_op op_add pe_int (pe_g g_L_draw hr (by decide) passL rfl (pa_cons (pv 1) (pa_cons pe_int pa_nil)))) pa_nil)))) (pe_g g_L_draw hr (by decide) passL rfl (pa_cons (pv 1) (pa_cons pe_int pa_nil))) (fun _ _ => rfl)))
        (C8.pss_cut (ps_set (i := 6) nd rfl (Or.inl rfl) (pe_g g_L_q hr (by decide) passL rfl (pa_cons (pv 4) (pa_cons (pe_g g_L_digits hr (by decide) passL rfl (pa_cons (pv 1) (pa_cons (pv 5) pa_nil))) pa_nil))))
        (C8.pss_cut (ps_set (i := 7) nd rfl (Or.inr rfl) (pe_k g_Ratio hr (by decide) passL rfl (pa_cons (pe_ix ix_tupH (pv 6) pe_int (fun _ _ => rfl)) (pa_cons (pe_ix ix_tupH (pv 6) pe_int (fun _ _ => rfl)) pa_nil))))
        (C8.pss_cut (ps_set (i := 8) nd rfl (Or.inr rfl) (pe_op op_add_str (pe_g g_L_long_text hr (by decide) passL rfl (pa_cons (pe_ix ix_tupH (pv 6) pe_int (fun _ _ => rfl)) pa_nil)) (pe_op op_mulSI (pe_op op_add_str pe_str (pe_g g_L_long_text hr (by decide) passL rfl (pa_cons (pe_ix ix_tupH (pv 6) pe_int (fun _ _ => rfl)) pa_nil))) (pe_callTy call_int1 (by rfl) z_int (by decide +kernel) (pa_cons (pe_cmpR op_gt (pe_ix ix_tupH (pv 6) pe_int (fun _ _ => rfl)) pe_int (nomark _)) pa_nil)))))
        (C8.pss_cut (ps_set (i := 9) nd rfl (Or.inl rfl) (pe_callB (cr_max rfl) (by rfl) z_max (by decide +kernel) (pa_cons (pe_lc (own := [("_law_part", 10)]) rfl nd (pi_list (pe_split (pv 8) pe_str)) (blkOk_by (own := [("_law_part", 10)]) (N := N_law) (sc := defScope s_law) (by decide +kernel)) (fun _ _ _ _ _ => (pg_name (i := 10) nd rfl (Or.inl rfl))) (fun _ _ _ _ _ => pts_nil) (fun _ _ _ _ _ => (pe_callB call_len_str (by rfl) z_len (by decide +kernel) (pa_cons (pe_m1 PySem.F.slot_str_lstrip PySem.F.type_str_lstrip mt_lstripChars (pv 10) pe_str) pa_nil)))) pa_nil)))
        (C8.pss_cut (ps_if (pt_cmpR op_gt (pv 9) pe_int (nomark _)) (pss_cons (ps_if (pt_cmpR (op_neI (Nat.lt_of_le_of_lt (Nat.le_add_right _ 64) hr.units)) (pe_lamF (k := 3) (T := [(PT, qL)]) F_bot B_bot rfl m_bot sc_L_too_long rfl (Or.inl rfl) (fun cdg => long_gives BX m_TooLong hr.u200 cdg) TB hcode List.mem_cons_self mem1 (hr.mono (by decide)) (lamS_by (sc := defScope s_law) (by decide +kernel)) rfl (fun _ _ _ _ _ => rfl) (fun _ _ _ _ E _ _ hr => (pe_m0 g_Ratio_written hr (by decide) (passX rfl rfl rfl rfl) (pv 7)))) (pe_tup (pa_cons (pv 9) pa_nil)) (nomark _)) (pss_one (ps_ret pe_bl)) pss_nil)
        (pss_cons (ps_if (pt_cmpR (op_neI (Nat.lt_of_le_of_lt (Nat.le_add_right _ 64) hr.units)) (pe_lamF (k := 5) (T := [(PT, qL)]) F_bot B_bot rfl m_bot sc_L_too_long rfl (Or.inl rfl) (fun cdg => long_gives BX m_TooLong hr.u200 cdg) TB hcode List.mem_cons_self mem1 (hr.mono (by decide)) (lamS_by (sc := defScope s_law) (by decide +kernel)) rfl (fun _ _ _ _ _ => rfl) (fun _ _ _ _ E _ _ hr => (pe_g g_ratio_of hr (by decide) (passX rfl rfl rfl rfl) rfl (pa_cons (pv 8) pa_nil)))) (pe_tup (pa_cons (pv 9) pa_nil)) (nomark _)) (pss_one (ps_ret pe_bl)) pss_nil)
        (pss_one ps_continue))) pss_nil)
        (pss_one (ps_if (PW.pt (pw_or (pt_cmpR op_ne (pe_m0 g_Ratio_written hr (by decide) passL (pv 7)) (pv 8) (nomark _)) (pw_or1 (pt_not (pt_val (pe_g g_L_is_ratio hr (by decide) passL rfl (pa_cons (pe_g g_ratio_of hr (by decide) passL rfl (pa_cons (pv 8) pa_nil)) (pa_cons (pv 6) pa_nil)))))))) (pss_one (ps_ret pe_bl)) pss_nil)))))))))))
        (pss_one (ps_ret pe_bl))))), ?_⟩
    simp only [tVar, rIxTH, rIxLH, gTupH, line_le, HO.tup.injEq, HO.lst.injEq, List.length_cons, List.length_nil, at0, at1, rU, tOst, tTest, rIxL, rIxT, C8.tCut, cxOf_K, tC, tOp, tUn, tSeq, tAsg, tNext, tRet, tRetN, tDrop, tIfS, tNever, gName, gNil, gCons, gTup, gSub, tPar, rI, rI0, rU, rEq, rNe, tB, tAnd, tOr, tNot, tAndV, tOrV, tNotV, tIf, tTup, tLst, tNil, tCons, tCB, tCall, tMeth, tMake, tFld, sFld, tDGet, sDPut, tDisp, tPairs, tBreak, tCont, scal_ii, scal_bb, scal_ss, List.getElem?_cons_zero, List.getElem?_cons_succ, List.set_cons_zero, List.set_cons_succ, Option.some.injEq, exists_eq_left', exists_eq_left, exists_and_left, V.int.injEq, V.bl.injEq, V.ref.injEq, V.str.injEq, List.cons.injEq, and_true, true_and, Bool.true_eq, List.nil_append, List.append_nil, List.cons_append, exists_eq', and_self, reduceCtorEq, false_or, or_false, false_and, exists_false, exists_const, and_assoc, if_true, Bool.false_eq_true, if_false, Nat.reduceAdd, Nat.reduceLeDiff, Nat.zero_add, Nat.le_refl, forall_const, st_law]
    refine ⟨a, ns, rfl, hS, hlen, fun H0 p l s0 hp0 hpen => ?_⟩
    have hT0 := hT.ext s0
    clear hS hT s0 hp0
    refine ⟨fun σ' H' => σ' = [some (.ref a), some (.ref p), none, none, none, none, none, none, none, none, none] ∧ PenAt H' p l 2 ∧ Tabs [(PT, qL)] H', ?_, ?_⟩
    · refine ⟨p, l, 0, rfl, hpen, by decide, fun H1 x1 p1 => ⟨true, rfl, ?_⟩⟩
      exact ⟨rfl, p1, tabs_ext hT0 hpen x1⟩
    rintro σ' H1 ⟨rfl, p1, t1⟩
    clear hpen hT0 H0
    refine ⟨3, rfl, by decide, by decide, ?_⟩
    refine for_range (lo := 0) (n := 3) (fun i σ H' => ∃ v2 v3 v4 v5 v6 v7 v8 v9 v10, σ = [some (.ref a), some (.ref p), v2, v3, v4, v5, v6, v7, v8, v9, v10] ∧ PenAt H' p l (40 * i + 2) ∧ Tabs [(PT, qL)] H') ?_ ?_ ?_
    · exact ⟨_, _, _, _, _, _, _, _, _, rfl, p1, t1⟩
    · rintro tn σ H2 hi ⟨v2, v3, v4, v5, v6, v7, v8, v9, v10, rfl, p2, t2⟩
      clear p1 t1 H1
      have pick3 : ∀ {x y z r : Int}, 0 ≤ r → r < 3 → ∃ w, atI [V.int x, V.int y, V.int z] r = some (.int w) ∧ (w = x ∨ w = y ∨ w = z) := fun {x y z r} h0 h3 => by
        rcases (show r = 0 ∨ r = 1 ∨ r = 2 by omega) with rfl | rfl | rfl
        · exact ⟨x, rfl, .inl rfl⟩
        · exact ⟨y, rfl, .inr (.inl rfl)⟩
        · exact ⟨z, rfl, .inr (.inr rfl)⟩
      refine ⟨M1 a p l PT (40 * tn + 6), ?_, ?_⟩
      · simp only [tVar, rIxTH, rIxLH, gTupH, line_le, HO.tup.injEq, HO.lst.injEq, List.length_cons, List.length_nil, at0, at1, rU, tOst, tTest, rIxL, rIxT, C8.tCut, cxOf_K, tC, tOp, tUn, tSeq, tAsg, tNext, tRet, tRetN, tDrop, tIfS, tNever, gName, gNil, gCons, gTup, gSub, tPar, rI, rI0, rU, rEq, rNe, tB, tAnd, tOr, tNot, tAndV, tOrV, tNotV, tIf, tTup, tLst, tNil, tCons, tCB, tCall, tMeth, tMake, tFld, sFld, tDGet, sDPut, tDisp, tPairs, tBreak, tCont, scal_ii, scal_bb, scal_ss, List.getElem?_cons_zero, List.getElem?_cons_succ, List.set_cons_zero, List.set_cons_succ, Option.some.injEq, exists_eq_left', exists_eq_left, exists_and_left, V.int.injEq, V.bl.injEq, V.ref.injEq, V.str.injEq, List.cons.injEq, and_true, true_and, Bool.true_eq, List.nil_append, List.append_nil, List.cons_append, exists_eq', and_self, reduceCtorEq, false_or, or_false, false_and, exists_false, exists_const, and_assoc, if_true, Bool.false_eq_true, if_false, Nat.reduceAdd, Nat.reduceLeDiff, Nat.zero_add, Nat.le_refl, forall_const, st_law]
        refine ⟨p, l, _, 21, rfl, p2, by omega, by decide, by decide, fun H3 d1 x3 p3 d10 d11 => ?_⟩
        simp only [tVar, rIxTH, rIxLH, gTupH, line_le, HO.tup.injEq, HO.lst.injEq, List.length_cons, List.length_nil, at0, at1, rU, tOst, tTest, rIxL, rIxT, C8.tCut, cxOf_K, tC, tOp, tUn, tSeq, tAsg, tNext, tRet, tRetN, tDrop, tIfS, tNever, gName, gNil, gCons, gTup, gSub, tPar, rI, rI0, rU, rEq, rNe, tB, tAnd, tOr, tNot, tAndV, tOrV, tNotV, tIf, tTup, tLst, tNil, tCons, tCB, tCall, tMeth, tMake, tFld, sFld, tDGet, sDPut, tDisp, tPairs, tBreak, tCont, scal_ii, scal_bb, scal_ss, List.getElem?_cons_zero, List.getElem?_cons_succ, List.set_cons_zero, List.set_cons_succ, Option.some.injEq, exists_eq_left', exists_eq_left, exists_and_left, V.int.injEq, V.bl.injEq, V.ref.injEq, V.str.injEq, List.cons.injEq, and_true, true_and, Bool.true_eq, List.nil_append, List.append_nil, List.cons_append, exists_eq', and_self, reduceCtorEq, false_or, or_false, false_and, exists_false, exists_const, and_assoc, if_true, Bool.false_eq_true, if_false, Nat.reduceAdd, Nat.reduceLeDiff, Nat.zero_add, Nat.le_refl, forall_const, st_law]
        refine ⟨p, l, _, 60, rfl, p3, by omega, by decide, by decide, fun H4 d2 x4 p4 d20 d21 => ?_⟩
        simp only [tVar, rIxTH, rIxLH, gTupH, line_le, HO.tup.injEq, HO.lst.injEq, List.length_cons, List.length_nil, at0, at1, rU, tOst, tTest, rIxL, rIxT, C8.tCut, cxOf_K, tC, tOp, tUn, tSeq, tAsg, tNext, tRet, tRetN, tDrop, tIfS, tNever, gName, gNil, gCons, gTup, gSub, tPar, rI, rI0, rU, rEq, rNe, tB, tAnd, tOr, tNot, tAndV, tOrV, tNotV, tIf, tTup, tLst, tNil, tCons, tCB, tCall, tMeth, tMake, tFld, sFld, tDGet, sDPut, tDisp, tPairs, tBreak, tCont, scal_ii, scal_bb, scal_ss, List.getElem?_cons_zero, List.getElem?_cons_succ, List.set_cons_zero, List.set_cons_succ, Option.some.injEq, exists_eq_left', exists_eq_left, exists_and_left, V.int.injEq, V.bl.injEq, V.ref.injEq, V.str.injEq, List.cons.injEq, and_true, true_and, Bool.true_eq, List.nil_append, List.append_nil, List.cons_append, exists_eq', and_self, reduceCtorEq, false_or, or_false, false_and, exists_false, exists_const, and_assoc, if_true, Bool.false_eq_true, if_false, Nat.reduceAdd, Nat.reduceLeDiff, Nat.zero_add, Nat.le_refl, forall_const, st_law]
        refine ⟨p, l, _, 2, rfl, p4, by omega, by decide, by decide, fun H5 d3 x5 p5 d30 d31 => ?_⟩
        simp only [tVar, rIxTH, rIxLH, gTupH, line_le, HO.tup.injEq, HO.lst.injEq, List.length_cons, List.length_nil, at0, at1, rU, tOst, tTest, rIxL, rIxT, C8.tCut, cxOf_K, tC, tOp, tUn, tSeq, tAsg, tNext, tRet, tRetN, tDrop, tIfS, tNever, gName, gNil, gCons, gTup, gSub, tPar, rI, rI0, rU, rEq, rNe, tB, tAnd, tOr, tNot, tAndV, tOrV, tNotV, tIf, tTup, tLst, tNil, tCons, tCB, tCall, tMeth, tMake, tFld, sFld, tDGet, sDPut, tDisp, tPairs, tBreak, tCont, scal_ii, scal_bb, scal_ss, List.getElem?_cons_zero, List.getElem?_cons_succ, List.set_cons_zero, List.set_cons_succ, Option.some.injEq, exists_eq_left', exists_eq_left, exists_and_left, V.int.injEq, V.bl.injEq, V.ref.injEq, V.str.injEq, List.cons.injEq, and_true, true_and, Bool.true_eq, List.nil_append, List.append_nil, List.cons_append, exists_eq', and_self, reduceCtorEq, false_or, or_false, false_and, exists_false, exists_const, and_assoc, if_true, Bool.false_eq_true, if_false, Nat.reduceAdd, Nat.reduceLeDiff, Nat.zero_add, Nat.le_refl, forall_const, st_law]
        intro L hL
        refine ⟨p, l, _, 3, rfl, p5.same (same_new hL), by omega, by decide, by decide, fun H6 d4 x6 p6 d40 d41 => ?_⟩
        have t6 := tabs_ext ((tabs_ext (tabs_ext (tabs_ext t2 p2 x3) p3 x4) p4 x5).ext (same_new hL)) (p5.same (same_new hL)) x6
        have hL6 := x6 _ _ (p5.ne hL) upd_same
        obtain ⟨w, hw, hv⟩ := pick3 (x := 3990 + d1) (y := 1 + d2) (z := 4000 + d3) d40 d41
        refine ⟨_, d4, rfl, hL6, _, hw, ?_⟩
        obtain ⟨m, rfl⟩ : ∃ m : Nat, w = m := ⟨w.toNat, by omega⟩
        exact ⟨_, _, _, _, _, _, _, _, m, rfl, by omega, by omega, p6.mono (by omega), t6⟩
      refine fun σ H3 h3 => ⟨M2 a p l PT (40 * tn + 10), ?_, ?_⟩
      · obtain ⟨v2, v4, v5, v6, v7, v8, v9, v10, m, rfl, m0, m4, p3, t3⟩ := h3
        simp only [tVar, rIxTH, rIxLH, gTupH, line_le, HO.tup.injEq, HO.lst.injEq, List.length_cons, List.length_nil, at0, at1, rU, tOst, tTest, rIxL, rIxT, C8.tCut, cxOf_K, tC, tOp, tUn, tSeq, tAsg, tNext, tRet, tRetN, tDrop, tIfS, tNever, gName, gNil, gCons, gTup, gSub, tPar, rI, rI0, rU, rEq, rNe, tB, tAnd, tOr, tNot, tAndV, tOrV, tNotV, tIf, tTup, tLst, tNil, tCons, tCB, tCall, tMeth, tMake, tFld, sFld, tDGet, sDPut, tDisp, tPairs, tBreak, tCont, scal_ii, scal_bb, scal_ss, List.getElem?_cons_zero, List.getElem?_cons_succ, List.set_cons_zero, List.set_cons_succ, Option.some.injEq, exists_eq_left', exists_eq_left, exists_and_left, V.int.injEq, V.bl.injEq, V.ref.injEq, V.str.injEq, List.cons.injEq, and_true, true_and, Bool.true_eq, List.nil_append, List.append_nil, List.cons_append, exists_eq', and_self, reduceCtorEq, false_or, or_false, false_and, exists_false, exists_const, and_assoc, if_true, Bool.false_eq_true, if_false, Nat.reduceAdd, Nat.reduceLeDiff, Nat.zero_add, Nat.le_refl, forall_const, st_law]
        refine ⟨p, l, _, m, rfl, p3, by omega, m0, m4, fun H4 z x4 p4 z0 zb => ?_⟩
        refine ⟨p, l, _, 2, rfl, p4, by clear zb; omega, by decide, by decide, fun H5 d x5 p5 d0 d1 => ?_⟩
        have t5 := tabs_ext (tabs_ext t3 p3 x4) p4 x5
        have hz : ((z : Nat) : Int).natAbs < 2 ^ 13400 := by rw [Int.natAbs_natCast]; exact zb
        have hd : (1 - 2 * d).natAbs < 2 ^ 8 := by clear zb hz; omega
        have hd2 : d.natAbs < 2 ^ 8 := by clear zb hz; omega
        refine ⟨d, rfl, wide_mul (a := 8) (b := 8) (by decide) hd2 (by decide) (by decide) (by decide), (z : Int), rfl, wide_mul (a := 13400) (b := 8) hz hd (by decide) (by decide) (by decide), ?_⟩
        refine ⟨_, _, _, _, _, _, _, _, _, rfl, ?_, p5.mono (by clear zb hz; omega), t5⟩
        rw [Int.natAbs_mul]
        exact Nat.lt_trans (Nat.mul_lt_mul'' hz hd) (by decide +kernel)
      clear h3
      refine fun σ H4 h4 => ⟨M3 a p l PT (40 * tn + 13), ?_, ?_⟩
      · obtain ⟨v2, v3, v5, v6, v7, v8, v9, v10, t, rfl, ht, p4, t4⟩ := h4
        simp only [tVar, rIxTH, rIxLH, gTupH, line_le, HO.tup.injEq, HO.lst.injEq, List.length_cons, List.length_nil, at0, at1, rU, tOst, tTest, rIxL, rIxT, C8.tCut, cxOf_K, tC, tOp, tUn, tSeq, tAsg, tNext, tRet, tRetN, tDrop, tIfS, tNever, gName, gNil, gCons, gTup, gSub, tPar, rI, rI0, rU, rEq, rNe, tB, tAnd, tOr, tNot, tAndV, tOrV, tNotV, tIf, tTup, tLst, tNil, tCons, tCB, tCall, tMeth, tMake, tFld, sFld, tDGet, sDPut, tDisp, tPairs, tBreak, tCont, scal_ii, scal_bb, scal_ss, List.getElem?_cons_zero, List.getElem?_cons_succ, List.set_cons_zero, List.set_cons_succ, Option.some.injEq, exists_eq_left', exists_eq_left, exists_and_left, V.int.injEq, V.bl.injEq, V.ref.injEq, V.str.injEq, List.cons.injEq, and_true, true_and, Bool.true_eq, List.nil_append, List.append_nil, List.cons_append, exists_eq', and_self, reduceCtorEq, false_or, or_false, false_and, exists_false, exists_const, and_assoc, if_true, Bool.false_eq_true, if_false, Nat.reduceAdd, Nat.reduceLeDiff, Nat.zero_add, Nat.le_refl, forall_const, st_law]
        refine ⟨p, l, _, 10, rfl, p4, by omega, by decide, by decide, fun H5 d2 x5 p5 d20 d21 => ?_⟩
        simp only [tVar, rIxTH, rIxLH, gTupH, line_le, HO.tup.injEq, HO.lst.injEq, List.length_cons, List.length_nil, at0, at1, rU, tOst, tTest, rIxL, rIxT, C8.tCut, cxOf_K, tC, tOp, tUn, tSeq, tAsg, tNext, tRet, tRetN, tDrop, tIfS, tNever, gName, gNil, gCons, gTup, gSub, tPar, rI, rI0, rU, rEq, rNe, tB, tAnd, tOr, tNot, tAndV, tOrV, tNotV, tIf, tTup, tLst, tNil, tCons, tCB, tCall, tMeth, tMake, tFld, sFld, tDGet, sDPut, tDisp, tPairs, tBreak, tCont, scal_ii, scal_bb, scal_ss, List.getElem?_cons_zero, List.getElem?_cons_succ, List.set_cons_zero, List.set_cons_succ, Option.some.injEq, exists_eq_left', exists_eq_left, exists_and_left, V.int.injEq, V.bl.injEq, V.ref.injEq, V.str.injEq, List.cons.injEq, and_true, true_and, Bool.true_eq, List.nil_append, List.append_nil, List.cons_append, exists_eq', and_self, reduceCtorEq, false_or, or_false, false_and, exists_false, exists_const, and_assoc, if_true, Bool.false_eq_true, if_false, Nat.reduceAdd, Nat.reduceLeDiff, Nat.zero_add, Nat.le_refl, forall_const, st_law]
        refine ⟨p, l, _, 50, rfl, p5, by omega, by decide, by decide, fun H6 d3 x6 p6 d30 d31 => ?_⟩
        simp only [tVar, rIxTH, rIxLH, gTupH, line_le, HO.tup.injEq, HO.lst.injEq, List.length_cons, List.length_nil, at0, at1, rU, tOst, tTest, rIxL, rIxT, C8.tCut, cxOf_K, tC, tOp, tUn, tSeq, tAsg, tNext, tRet, tRetN, tDrop, tIfS, tNever, gName, gNil, gCons, gTup, gSub, tPar, rI, rI0, rU, rEq, rNe, tB, tAnd, tOr, tNot, tAndV, tOrV, tNotV, tIf, tTup, tLst, tNil, tCons, tCB, tCall, tMeth, tMake, tFld, sFld, tDGet, sDPut, tDisp, tPairs, tBreak, tCont, scal_ii, scal_bb, scal_ss, List.getElem?_cons_zero, List.getElem?_cons_succ, List.set_cons_zero, List.set_cons_succ, Option.some.injEq, exists_eq_left', exists_eq_left, exists_and_left, V.int.injEq, V.bl.injEq, V.ref.injEq, V.str.injEq, List.cons.injEq, and_true, true_and, Bool.true_eq, List.nil_append, List.append_nil, List.cons_append, exists_eq', and_self, reduceCtorEq, false_or, or_false, false_and, exists_false, exists_const, and_assoc, if_true, Bool.false_eq_true, if_false, Nat.reduceAdd, Nat.reduceLeDiff, Nat.zero_add, Nat.le_refl, forall_const, st_law]
        intro L hL
        refine ⟨p, l, _, 3, rfl, p6.same (same_new hL), by omega, by decide, by decide, fun H7 d4 x7 p7 d40 d41 => ?_⟩
        have t7 := tabs_ext ((tabs_ext (tabs_ext t4 p4 x5) p5 x6).ext (same_new hL)) (p6.same (same_new hL)) x7
        have hL7 := x7 _ _ (p6.ne hL) upd_same
        obtain ⟨w, hw, hv⟩ := pick3 (x := 1) (y := 3995 + d2) (z := 1 + d3) d40 d41
        refine ⟨_, d4, rfl, hL7, _, hw, ?_⟩
        have w0 : 0 < w ∧ w ≤ 4020 := by clear ht; omega
        obtain ⟨m, rfl⟩ : ∃ m : Nat, w = m := ⟨w.toNat, by clear ht; omega⟩
        exact ⟨_, _, _, _, _, _, _, t, m, rfl, ht, by clear ht; omega, by clear ht; omega, p7.mono (by clear ht; omega), t7⟩
      clear h4
      refine fun σ H5 h5 => ⟨M4 a p l PT (40 * tn + 16), ?_, ?_⟩
      · obtain ⟨v2, v3, v6, v7, v8, v9, v10, t, m, rfl, ht, m0, m4, p5, t5⟩ := h5
        simp only [tVar, rIxTH, rIxLH, gTupH, line_le, HO.tup.injEq, HO.lst.injEq, List.length_cons, List.length_nil, at0, at1, rU, tOst, tTest, rIxL, rIxT, C8.tCut, cxOf_K, tC, tOp, tUn, tSeq, tAsg, tNext, tRet, tRetN, tDrop, tIfS, tNever, gName, gNil, gCons, gTup, gSub, tPar, rI, rI0, rU, rEq, rNe, tB, tAnd, tOr, tNot, tAndV, tOrV, tNotV, tIf, tTup, tLst, tNil, tCons, tCB, tCall, tMeth, tMake, tFld, sFld, tDGet, sDPut, tDisp, tPairs, tBreak, tCont, scal_ii, scal_bb, scal_ss, List.getElem?_cons_zero, List.getElem?_cons_succ, List.set_cons_zero, List.set_cons_succ, Option.some.injEq, exists_eq_left', exists_eq_left, exists_and_left, V.int.injEq, V.bl.injEq, V.ref.injEq, V.str.injEq, List.cons.injEq, and_true, true_and, Bool.true_eq, List.nil_append, List.append_nil, List.cons_append, exists_eq', and_self, reduceCtorEq, false_or, or_false, false_and, exists_false, exists_const, and_assoc, if_true, Bool.false_eq_true, if_false, Nat.reduceAdd, Nat.reduceLeDiff, Nat.zero_add, Nat.le_refl, forall_const, st_law]
        refine ⟨p, l, _, m, rfl, p5, by clear ht; omega, m0, m4, fun H6 z x6 p6 z0 zb => ?_⟩
        have hz : ((z : Nat) : Int).natAbs < 2 ^ 13450 := by rw [Int.natAbs_natCast]; exact HwM.lt_mono zb (by decide)
        refine ⟨t, (z : Int), rfl, by clear ht zb hz; omega, HwM.lt_mono ht (by decide), HwM.lt_mono hz (by decide), fun b hb => ?_⟩
        exact ⟨_, _, _, _, _, _, _, _, b, _, rfl, HwM.divInt_bd (by decide) ht hz, upd_same, (p6.same (same_new hb)).mono (by clear ht zb hz; omega), (tabs_ext t5 p5 x6).ext (same_new hb)⟩
      clear h5
      refine fun σ H6 h6 => ⟨M5 C_Ratio a p l PT (40 * tn + 16), ?_, ?_⟩
      · obtain ⟨v2, v3, v4, v5, v7, v8, v9, v10, b, q, rfl, bq, hb, p6, t6⟩ := h6
        simp only [tVar, rIxTH, rIxLH, gTupH, line_le, HO.tup.injEq, HO.lst.injEq, List.length_cons, List.length_nil, at0, at1, rU, tOst, tTest, rIxL, rIxT, C8.tCut, cxOf_K, tC, tOp, tUn, tSeq, tAsg, tNext, tRet, tRetN, tDrop, tIfS, tNever, gName, gNil, gCons, gTup, gSub, tPar, rI, rI0, rU, rEq, rNe, tB, tAnd, tOr, tNot, tAndV, tOrV, tNotV, tIf, tTup, tLst, tNil, tCons, tCB, tCall, tMeth, tMake, tFld, sFld, tDGet, sDPut, tDisp, tPairs, tBreak, tCont, scal_ii, scal_bb, scal_ss, List.getElem?_cons_zero, List.getElem?_cons_succ, List.set_cons_zero, List.set_cons_succ, Option.some.injEq, exists_eq_left', exists_eq_left, exists_and_left, V.int.injEq, V.bl.injEq, V.ref.injEq, V.str.injEq, List.cons.injEq, and_true, true_and, Bool.true_eq, List.nil_append, List.append_nil, List.cons_append, exists_eq', and_self, reduceCtorEq, false_or, or_false, false_and, exists_false, exists_const, and_assoc, if_true, Bool.false_eq_true, if_false, Nat.reduceAdd, Nat.reduceLeDiff, Nat.zero_add, Nat.le_refl, forall_const, st_law, hb]
        refine made_rat2 (bd_num bq) (bd_den bq) (fun _ H' x s ⟨x', dx, ex, hx⟩ => ?_) (fun z => absurd z (by have := q.den_pos; clear bq; omega))
        cases ex
        rw [Rat.num_divInt_den] at hx
        exact ⟨_, _, _, _, _, _, _, b, x, dx, q, rfl, bq, s _ _ hb, hx, p6.same s, t6.ext s⟩
      clear h6
      refine fun σ H7 h7 => ⟨M6 C_Ratio a p l PT (40 * tn + 16), ?_, ?_⟩
      · obtain ⟨v2, v3, v4, v5, v8, v9, v10, b, x, dx, q, rfl, bq, hb, hx, p7, t7⟩ := h7
        simp only [tVar, rIxTH, rIxLH, gTupH, line_le, HO.tup.injEq, HO.lst.injEq, List.length_cons, List.length_nil, at0, at1, rU, tOst, tTest, rIxL, rIxT, C8.tCut, cxOf_K, tC, tOp, tUn, tSeq, tAsg, tNext, tRet, tRetN, tDrop, tIfS, tNever, gName, gNil, gCons, gTup, gSub, tPar, rI, rI0, rU, rEq, rNe, tB, tAnd, tOr, tNot, tAndV, tOrV, tNotV, tIf, tTup, tLst, tNil, tCons, tCB, tCall, tMeth, tMake, tFld, sFld, tDGet, sDPut, tDisp, tPairs, tBreak, tCont, scal_ii, scal_bb, scal_ss, List.getElem?_cons_zero, List.getElem?_cons_succ, List.set_cons_zero, List.set_cons_succ, Option.some.injEq, exists_eq_left', exists_eq_left, exists_and_left, V.int.injEq, V.bl.injEq, V.ref.injEq, V.str.injEq, List.cons.injEq, and_true, true_and, Bool.true_eq, List.nil_append, List.append_nil, List.cons_append, exists_eq', and_self, reduceCtorEq, false_or, or_false, false_and, exists_false, exists_const, and_assoc, if_true, Bool.false_eq_true, if_false, Nat.reduceAdd, Nat.reduceLeDiff, Nat.zero_add, Nat.le_refl, forall_const, st_law, hb]
        refine ⟨q.num, rfl, bd_num bq, fun H8 s8 => ⟨_, s8 _ _ hb, _, atI_nat (j := 1) rfl, q.den, rfl, bd_den bq, fun H9 s9 => ?_⟩⟩
        have s := s8.trans s9
        have e47 : Str.ofString "/" = tx [47] := by decide +kernel
        have ln := wrt_len5 bq
        have a1 := (dlen_le (m := q.num.natAbs) (k := 4100) (by decide)).mpr (Nat.lt_trans bq.1 (by decide +kernel))
        have b1 := (dlen_le (m := q.den) (k := 4100) (by decide)).mpr (Nat.lt_trans bq.2 (by decide +kernel))
        have c1 := sg_len q.num
        have d1 := sg_len q.den
        rw [Int.natAbs_natCast] at d1
        have p9 := p7.same s
        have t9 := t7.ext s
        have hb9 := s _ _ hb
        have hx9 := s _ _ hx
        have bq' := bq
        clear bq
        rw [e47]
        refine ⟨_, rfl, by rw [tx_len, tx_len]; exact Nat.le_trans (show 1 + _ ≤ 9000 by omega) (by decide), _, hb9, _, atI_nat (j := 1) rfl, _, rfl, ?_⟩
        rw [tx_app]
        refine ⟨mulOk01, _, rfl, ?_⟩
        have fin : ∀ y : Str, y = tx (wrt q.num q.den) → M6 C_Ratio a p l PT (40 * tn + 16) [some (V.ref a), some (V.ref p), v2, v3, v4, v5, some (V.ref b), some (V.ref x), some (.str y), v9, v10] H9 := fun y hy => by
          rw [hy]
          exact ⟨_, _, _, _, _, _, b, x, dx, q, rfl, bq', hb9, hx9, p9, t9⟩
        have dp := q.den_pos
        by_cases h1 : q.den = 1
        · rw [if_neg (by rw [h1]; decide), mul_zero', tx_app]
          refine ⟨by rw [tx_len, tx_len]; exact Nat.le_trans (show _ + 0 ≤ 9000 by omega) (by decide), fin _ ?_⟩
          unfold wrt
          rw [if_pos (by omega), List.append_nil]
        · rw [if_pos (decide_eq_true (by omega)), mul_one', tx_app]
          refine ⟨by rw [tx_len, tx_len, List.length_append]; exact Nat.le_trans (show _ + (1 + _) ≤ 9000 by omega) (by decide), fin _ ?_⟩
          unfold wrt
          rw [if_neg (by omega)]
          rfl
      clear h7
      refine fun σ H8 h8 => ⟨M7 C_Ratio a p l PT (40 * tn + 16), ?_, ?_⟩
      · obtain ⟨v2, v3, v4, v5, v9, v10, b, x, dx, q, rfl, bq, hb, hx, p8, t8⟩ := h8
        simp only [tVar, rIxTH, rIxLH, gTupH, line_le, HO.tup.injEq, HO.lst.injEq, List.length_cons, List.length_nil, at0, at1, rU, tOst, tTest, rIxL, rIxT, C8.tCut, cxOf_K, tC, tOp, tUn, tSeq, tAsg, tNext, tRet, tRetN, tDrop, tIfS, tNever, gName, gNil, gCons, gTup, gSub, tPar, rI, rI0, rU, rEq, rNe, tB, tAnd, tOr, tNot, tAndV, tOrV, tNotV, tIf, tTup, tLst, tNil, tCons, tCB, tCall, tMeth, tMake, tFld, sFld, tDGet, sDPut, tDisp, tPairs, tBreak, tCont, scal_ii, scal_bb, scal_ss, List.getElem?_cons_zero, List.getElem?_cons_succ, List.set_cons_zero, List.set_cons_succ, Option.some.injEq, exists_eq_left', exists_eq_left, exists_and_left, V.int.injEq, V.bl.injEq, V.ref.injEq, V.str.injEq, List.cons.injEq, and_true, true_and, Bool.true_eq, List.nil_append, List.append_nil, List.cons_append, exists_eq', and_self, reduceCtorEq, false_or, or_false, false_and, exists_false, exists_const, and_assoc, if_true, Bool.false_eq_true, if_false, Nat.reduceAdd, Nat.reduceLeDiff, Nat.zero_add, Nat.le_refl, forall_const, st_law]
        have ln := wrt_len5 bq
        refine ⟨_, rfl, ⟨_, rfl⟩, _, rfl, _, rfl, by decide +kernel, by rw [tx_len]; exact Nat.le_trans (Nat.add_le_add_right ln 2) (by decide), ?_⟩
        rw [s_slash, split_wrt]
        intro P hP
        refine ⟨P, rfl, ⟨_, SqL.of upd_same⟩, fun D hD => ?_⟩
        have s9 := same_new (o := HO.lst (((prts q).map tx).map V.str)) hP
        have h9 : upd H8 P (HO.lst (((prts q).map tx).map V.str)) P = some (.lst (((prts q).map tx).map V.str)) := upd_same
        generalize upd H8 P (HO.lst (((prts q).map tx).map V.str)) = H9 at hD s9 h9 ⊢
        have lp : (prts q).length ≤ 2 := by
          unfold prts
          split <;> simp
        refine lc_list (K := K) (a := P) (xs := ((prts q).map tx).map V.str) (fun i H' => Same H9 H' ∧ H' D = some (.lst (((prts q).take i).map fun l => V.int ((strm l).length : Int)))) ⟨same_new hD, upd_same⟩ (fun i H' _ h => SqL.of (h.1 _ _ h9)) ?_ ?_
        · rintro i v H10 hv ⟨s10, h10⟩
          rw [List.map_map, List.getElem?_map] at hv
          obtain ⟨z, hz, rfl⟩ := Option.map_eq_some_iff.mp hv
          have lz : z.length ≤ 9000 := by
            have hm := List.mem_of_getElem? hz
            unfold wrt at ln
            unfold prts at hm
            split at hm
            · rename_i e
              rw [if_pos e] at ln
              rw [List.mem_singleton.mp hm]
              exact ln
            · rename_i e
              rw [if_neg e, List.length_append, List.length_cons] at ln
              rcases List.mem_cons.mp hm with e | hm
              · rw [e]; clear bq; omega
              · rw [List.mem_singleton.mp hm]; clear bq; omega
          have li : i < (prts q).length := (List.getElem?_eq_some_iff.mp hz).1
          simp only [tVar, rIxTH, rIxLH, gTupH, line_le, HO.tup.injEq, HO.lst.injEq, List.length_cons, List.length_nil, at0, at1, rU, tOst, tTest, rIxL, rIxT, C8.tCut, cxOf_K, tC, tOp, tUn, tSeq, tAsg, tNext, tRet, tRetN, tDrop, tIfS, tNever, gName, gNil, gCons, gTup, gSub, tPar, rI, rI0, rU, rEq, rNe, tB, tAnd, tOr, tNot, tAndV, tOrV, tNotV, tIf, tTup, tLst, tNil, tCons, tCB, tCall, tMeth, tMake, tFld, sFld, tDGet, sDPut, tDisp, tPairs, tBreak, tCont, scal_ii, scal_bb, scal_ss, List.getElem?_cons_zero, List.getElem?_cons_succ, List.set_cons_zero, List.set_cons_succ, Option.some.injEq, exists_eq_left', exists_eq_left, exists_and_left, V.int.injEq, V.bl.injEq, V.ref.injEq, V.str.injEq, List.cons.injEq, and_true, true_and, Bool.true_eq, List.nil_append, List.append_nil, List.cons_append, exists_eq', and_self, reduceCtorEq, false_or, or_false, false_and, exists_false, exists_const, and_assoc, if_true, Bool.false_eq_true, if_false, Nat.reduceAdd, Nat.reduceLeDiff, Nat.zero_add, Nat.le_refl, forall_const, st_law, tM1, wipe, List.map_cons, List.map_nil, tYes, Function.comp]
          have ed : Str.ofString "-" = ("-" : Str) := rfl
          have ls := lstrip_le (tx z) "-"
          have lt : (tx z).length ≤ 9000 := by rw [tx_len]; exact lz
          rw [strm_len, tx_list] at ls
          rw [ed, strm_len, tx_list]
          refine ⟨le_line (by rw [tx_len]; exact lz), Nat.le_trans (Nat.le_trans ls lt) (by decide), _, h10, ?_, ?_, ?_⟩
          · rw [List.length_map]
            exact Nat.lt_of_le_of_lt (List.length_take_le _ _) (Nat.lt_of_lt_of_le (Nat.lt_of_lt_of_le li lp) (by decide))
          · exact fun w y hw => by
              rw [upd_ne (fun e => by rw [e, hD] at hw; cases hw)]
              exact s10 w y hw
          · rw [upd_same, List.take_add_one, hz, List.map_append]
            rfl
        · rintro H10 ⟨s10, h10⟩
          rw [List.length_map, List.length_map, List.take_of_length_le (Nat.le_refl _)] at h10
          refine ⟨D, (prts q).map fun l => ((strm l).length : Int), rfl, SqL.of (by rw [h10, List.map_map]; rfl), ?_, fun m hm hy => ?_⟩
          · unfold prts
            split <;> simp
          · rw [prts_max hm hy]
            exact ⟨_, _, _, _, _, b, x, dx, q, rfl, bq, (s9.trans s10) _ _ hb, (s9.trans s10) _ _ hx, p8.same (s9.trans s10), t8.ext (s9.trans s10)⟩
      clear h8
      refine fun σ H9 h9 => ⟨M8 C_Ratio a p l PT (40 * tn + 16), ?_, ?_⟩
      · obtain ⟨v2, v3, v4, v5, v10, b, x, dx, q, rfl, bq, hb, hx, p9, t9⟩ := h9
        have dp : (0 : Int) < ((q.den : Nat) : Int) := by have := q.den_pos; clear bq; omega
        have gc : Nat.gcd q.num.natAbs ((q.den : Nat) : Int).natAbs = 1 := by rw [Int.natAbs_natCast]; exact q.reduced
        have ed : max (dlen q.num.natAbs) (dlen ((q.den : Nat) : Int).natAbs) = dgs q := by rw [Int.natAbs_natCast]; rfl
        simp only [tVar, rIxTH, rIxLH, gTupH, line_le, HO.tup.injEq, HO.lst.injEq, List.length_cons, List.length_nil, at0, at1, rU, tOst, tTest, rIxL, rIxT, C8.tCut, cxOf_K, tC, tOp, tUn, tSeq, tAsg, tNext, tRet, tRetN, tDrop, tIfS, tNever, gName, gNil, gCons, gTup, gSub, tPar, rI, rI0, rU, rEq, rNe, tB, tAnd, tOr, tNot, tAndV, tOrV, tNotV, tIf, tTup, tLst, tNil, tCons, tCB, tCall, tMeth, tMake, tFld, sFld, tDGet, sDPut, tDisp, tPairs, tBreak, tCont, scal_ii, scal_bb, scal_ss, List.getElem?_cons_zero, List.getElem?_cons_succ, List.set_cons_zero, List.set_cons_succ, Option.some.injEq, exists_eq_left', exists_eq_left, exists_and_left, V.int.injEq, V.bl.injEq, V.ref.injEq, V.str.injEq, List.cons.injEq, and_true, true_and, Bool.true_eq, List.nil_append, List.append_nil, List.cons_append, exists_eq', and_self, reduceCtorEq, false_or, or_false, false_and, exists_false, exists_const, and_assoc, if_true, Bool.false_eq_true, if_false, Nat.reduceAdd, Nat.reduceLeDiff, Nat.zero_add, Nat.le_refl, forall_const, st_law]
        refine ite2 (fun hc => ?_) (fun hc => ?_)
        · have hc : 4000 < dgs q := by
            have := of_decide_eq_true hc
            clear bq
            omega
          refine ⟨t9, fun H10 e10 t10 => ⟨_, rfl, x, dx, _, rfl, e10 _ _ hx (fun _ z => by cases z), by rfl, x, dx, q.num, q.den, rfl, e10 _ _ hx (fun _ z => by cases z), bd_num bq, bd_den bq, fun hle => absurd hle (by rw [ed]; clear bq; omega), fun _ H' d s hd => ?_⟩⟩
          rw [ed] at hd
          refine ⟨rfl, d, rfl, _, hd, fun H11 T s11 hT T2 hT2 => ?_⟩
          have s12 := same_new (o := HO.tup [V.int (dgs q : Nat)]) hT2
          have p12 := ((p9.extN e10).same (s.trans s11)).same s12
          have t12 := (t10.ext (s.trans s11)).ext s12
          refine .inr ⟨T, T2, _, rfl, rfl, SqT.of (s12 _ _ hT), SqT.of upd_same, by rfl, false, rfl, iteF ?_⟩
          generalize upd H11 T2 (HO.tup [V.int (dgs q : Nat)]) = H12 at p12 t12 ⊢
          refine ⟨t12, fun H13 e13 t13 => ⟨_, rfl, tx (wrt q.num q.den), rfl, wrt_len5 bq, fun z => absurd (wrt_col dp gc) z, fun _ _ H' d s hd => ?_, fun c _ h4 _ => absurd h4 ?_, fun t n h4 _ => absurd h4 ?_⟩⟩
          · rw [tx_list, dgs_lw] at hd
            refine ⟨rfl, d, rfl, _, hd, fun H14 T s14 hT T3 hT3 => ?_⟩
            have s15 := same_new (o := HO.tup [V.int (dgs q : Nat)]) hT3
            refine .inr ⟨T, T3, _, rfl, rfl, SqT.of (s15 _ _ hT), SqT.of upd_same, by rfl, false, rfl, iteF ?_⟩
            exact ⟨(((p12.extN e13).same (s.trans s14)).same s15).mono (by clear bq; omega), (t13.ext (s.trans s14)).ext s15⟩
          · rw [tx_list, dgs_lw]
            clear bq
            omega
          · rw [tx_list, dgs_lw]
            clear bq
            omega
        · have hc : ¬ (4000 : Int) < ((dgs q : Nat) : Int) := fun z => hc (decide_eq_true z)
          exact ⟨_, _, _, _, _, _, b, x, dx, q, rfl, by clear bq; omega, bq, hb, hx, p9, t9⟩
      clear h9
      rintro σ H10 ⟨v2, v3, v4, v5, v9, v10, b, x, dx, q, rfl, hd, bq, hb, hx, p10, t10⟩
      have dp : (0 : Int) < ((q.den : Nat) : Int) := by have := q.den_pos; clear bq; omega
      have gc : Nat.gcd q.num.natAbs ((q.den : Nat) : Int).natAbs = 1 := by rw [Int.natAbs_natCast]; exact q.reduced
      have ed : max (dlen q.num.natAbs) (dlen ((q.den : Nat) : Int).natAbs) = dgs q := by rw [Int.natAbs_natCast]; rfl
      simp only [tVar, rIxTH, rIxLH, gTupH, line_le, HO.tup.injEq, HO.lst.injEq, List.length_cons, List.length_nil, at0, at1, rU, tOst, tTest, rIxL, rIxT, C8.tCut, cxOf_K, tC, tOp, tUn, tSeq, tAsg, tNext, tRet, tRetN, tDrop, tIfS, tNever, gName, gNil, gCons, gTup, gSub, tPar, rI, rI0, rU, rEq, rNe, tB, tAnd, tOr, tNot, tAndV, tOrV, tNotV, tIf, tTup, tLst, tNil, tCons, tCB, tCall, tMeth, tMake, tFld, sFld, tDGet, sDPut, tDisp, tPairs, tBreak, tCont, scal_ii, scal_bb, scal_ss, List.getElem?_cons_zero, List.getElem?_cons_succ, List.set_cons_zero, List.set_cons_succ, Option.some.injEq, exists_eq_left', exists_eq_left, exists_and_left, V.int.injEq, V.bl.injEq, V.ref.injEq, V.str.injEq, List.cons.injEq, and_true, true_and, Bool.true_eq, List.nil_append, List.append_nil, List.cons_append, exists_eq', and_self, reduceCtorEq, false_or, or_false, false_and, exists_false, exists_const, and_assoc, if_true, Bool.false_eq_true, if_false, Nat.reduceAdd, Nat.reduceLeDiff, Nat.zero_add, Nat.le_refl, forall_const, st_law]
      refine ⟨dx, _, hx, by rfl, x, dx, q.num, q.den, rfl, hx, bd_num bq, bd_den bq, fun _ H' s => ⟨rfl, ?_⟩, fun z => absurd z (by rw [ed]; clear bq; omega)⟩
      rw [if_neg (by simp)]
      refine ⟨tx (wrt q.num q.den), rfl, wrt_len5 bq, fun z => absurd (wrt_col dp gc) z, fun _ h4 => absurd h4 (by rw [tx_list, dgs_lw]; clear bq; omega), fun c _ h4 ha => ?_, fun t n h4 ha H11 y s11 hy => ?_⟩
      · rw [tx_list, wrt_ans dp gc (by rw [ed]; exact hd)] at ha
        cases ha
      · rw [tx_list, wrt_ans dp gc (by rw [ed]; exact hd)] at ha
        cases ha
        have s := s.trans s11
        obtain ⟨z, dz, rfl, hz⟩ := hy
        refine ⟨.ref z, b, q, q, rfl, ⟨z, dz, rfl, hz⟩, s _ _ hb, fun H12 s12 => ⟨_, rfl, ?_⟩⟩
        rw [if_neg (by simp)]
        exact ⟨(p10.same (s.trans s12)).mono (by clear bq; omega), t10.ext (s.trans s12)⟩
    · rintro σ' H2 ⟨v2, v3, v4, v5, v6, v7, v8, v9, v10, rfl, p2, t2⟩
      exact k H2


end HwL
end

section
namespace HwL
open PySem PySem.Spec PyProof.Rows L2 LamX HwT
variable {P : Program} {w : World} {K : PySem.W.Frag} {mg : Str → Option Value} {base : Heap}

theorem noCX {P : Program} {w : World} {H : Hp} {s : Shared} {e : Value} {s' : Shared} (z : L2.CX P w [] H s (fun _ _ _ => False) e s') : False := by
  obtain ⟨_, _, _, _, _, _, _, _, _, _, _, _, q⟩ := z
  exact q
theorem facts {w : World} {K : PySem.W.Frag} {h : Heap} {mg : Str → Option Value} {f : Addr} (X : K.In h) (G : h.Ns mainGlobals mg) (hfa : mg ("law" : Str) = some (.ref f)) (c : He.SaysX faL fnL [] tfL exL w h K) :
    LamX.LawAtS PySem.Challenge.rw_hingeworks_k01_long_ratios w K (L2.CX PySem.Challenge.rw_hingeworks_k01_long_ratios.prog w) 8 63 "_law_script" mg f h := by
  have cd := c.t.d
  have exx : ∀ (i : Nat) {b : Bool}, [HwH.bfunB K "gcd" "math.gcd", ratB K (He.ga K "Ratio"), HwH.oexB K (He.ga K "BadNumber"), HwH.oexB K (He.ga K "BadText"), HwH.oexB K (He.ga K "TooLong"), HwH.xrB K (He.ga K "TooLong") "digits" "digits", HwH.xrB K (He.ga K "BadText") "line" "column", decide (PySem.W.exmOne K (.ref (He.ga K "TooLong")) (.ref (He.ga K "BadText")) = some false), HwD.digB K, HwH.iniB K (He.ga K "BadNumber"), HwH.iniB K (He.ga K "BadText"), HwH.iniB K (He.ga K "TooLong")][i]? = some b → b = true := fun i b e => List.all_eq_true.mp c.more _ (List.mem_of_getElem? e)
  have m__law_pen : mg "_law_pen" = some (.ref (He.ga K "_law_pen")) := He.glo_ok X G (cd.fact 0 (f := .glo "_law_pen") rfl)
  have m__law_draw : mg "_law_draw" = some (.ref (He.ga K "_law_draw")) := He.glo_ok X G (cd.fact 1 (f := .glo "_law_draw") rfl)
  have m_is_integer : mg "is_integer" = some (.ref (He.ga K "is_integer")) := He.glo_ok X G (cd.fact 2 (f := .glo "is_integer") rfl)
  have m_is_ratio : mg "is_ratio" = some (.ref (He.ga K "is_ratio")) := He.glo_ok X G (cd.fact 3 (f := .glo "is_ratio") rfl)
  have m__law_gcd : mg "_law_gcd" = some (.ref (He.ga K "_law_gcd")) := He.glo_ok X G (cd.fact 4 (f := .glo "_law_gcd") rfl)
  have m__law_q : mg "_law_q" = some (.ref (He.ga K "_law_q")) := He.glo_ok X G (cd.fact 5 (f := .glo "_law_q") rfl)
  have m__law_is_ratio : mg "_law_is_ratio" = some (.ref (He.ga K "_law_is_ratio")) := He.glo_ok X G (cd.fact 6 (f := .glo "_law_is_ratio") rfl)
  have m_whole_end : mg "whole_end" = some (.ref (He.ga K "whole_end")) := He.glo_ok X G (cd.fact 7 (f := .glo "whole_end") rfl)
  have m_wrong_column : mg "wrong_column" = some (.ref (He.ga K "wrong_column")) := He.glo_ok X G (cd.fact 8 (f := .glo "wrong_column") rfl)
  have m_digits_of : mg "digits_of" = some (.ref (He.ga K "digits_of")) := He.glo_ok X G (cd.fact 9 (f := .glo "digits_of") rfl)
  have m_ratio_of : mg "ratio_of" = some (.ref (He.ga K "ratio_of")) := He.glo_ok X G (cd.fact 10 (f := .glo "ratio_of") rfl)
  have m__law_read_wrong : mg "_law_read_wrong" = some (.ref (He.ga K "_law_read_wrong")) := He.glo_ok X G (cd.fact 11 (f := .glo "_law_read_wrong") rfl)
  have m__law_both_wrong : mg "_law_both_wrong" = some (.ref (He.ga K "_law_both_wrong")) := He.glo_ok X G (cd.fact 12 (f := .glo "_law_both_wrong") rfl)
  have m__law_digits : mg "_law_digits" = some (.ref (He.ga K "_law_digits")) := He.glo_ok X G (cd.fact 13 (f := .glo "_law_digits") rfl)
  have m__law_long_text : mg "_law_long_text" = some (.ref (He.ga K "_law_long_text")) := He.glo_ok X G (cd.fact 14 (f := .glo "_law_long_text") rfl)
  have m_law : mg "law" = some (.ref (He.ga K "law")) := He.glo_ok X G (cd.fact 15 (f := .glo "law") rfl)
  have m__law_too_long : mg "_law_too_long" = some (.ref (He.ga K "_law_too_long")) := He.glo_ok X G (cd.fact 16 (f := .glo "_law_too_long") rfl)
  have m_BadNumber : mg "BadNumber" = some (.ref (He.ga K "BadNumber")) := He.glo_ok X G (cd.fact 17 (f := .glo "BadNumber") rfl)
  have m_Ratio : mg "Ratio" = some (.ref (He.ga K "Ratio")) := He.glo_ok X G (cd.fact 18 (f := .glo "Ratio") rfl)
  have m_BadText : mg "BadText" = some (.ref (He.ga K "BadText")) := He.glo_ok X G (cd.fact 19 (f := .glo "BadText") rfl)
  have m_TooLong : mg "TooLong" = some (.ref (He.ga K "TooLong")) := He.glo_ok X G (cd.fact 20 (f := .glo "TooLong") rfl)
  have z_list : mg "list" = none := He.free_ok X G (cd.fact 21 (f := .free "list") rfl)
  have z_int : mg "int" = none := He.free_ok X G (cd.fact 22 (f := .free "int") rfl)
  have z_len : mg "len" = none := He.free_ok X G (cd.fact 23 (f := .free "len") rfl)
  have m_gcd : mg "gcd" = some (.builtin "math.gcd") := HwH.bfunB_ok X G (exx 0 rfl)
  have z_isinstance : mg "isinstance" = none := He.free_ok X G (cd.fact 24 (f := .free "isinstance") rfl)
  have z_bool : mg "bool" = none := He.free_ok X G (cd.fact 25 (f := .free "bool") rfl)
  have z_range : mg "range" = none := He.free_ok X G (cd.fact 26 (f := .free "range") rfl)
  have z_abs : mg "abs" = none := He.free_ok X G (cd.fact 27 (f := .free "abs") rfl)
  obtain ⟨t_DIGITS, k_DIGITS⟩ := He.str_ok (x := "DIGITS") X G (cd.fact 28 (f := .str "DIGITS" "0123456789") rfl)
  have z_reversed : mg "reversed" = none := He.free_ok X G (cd.fact 29 (f := .free "reversed") rfl)
  have z_str : mg "str" = none := He.free_ok X G (cd.fact 30 (f := .free "str") rfl)
  obtain ⟨t_PLAIN_BITS, k_PLAIN_BITS⟩ := He.int_ok (x := "PLAIN_BITS") X G (cd.fact 31 (f := .int "PLAIN_BITS" 13000) rfl)
  have z_max : mg "max" = none := He.free_ok X G (cd.fact 32 (f := .free "max") rfl)
  obtain ⟨t_MOST_DIGITS, k_MOST_DIGITS⟩ := He.int_ok (x := "MOST_DIGITS") X G (cd.fact 33 (f := .int "MOST_DIGITS" 4000) rfl)
  obtain ⟨fd_L_pen, F0_L_pen⟩ := cd.def_ 0 rfl
  have F_L_pen : FunD K "_law_pen" "_law_pen" (defArgs s_L_pen) (defBody s_L_pen) (defScope s_L_pen) [] [] (He.ga K "_law_pen") fd_L_pen := F0_L_pen
  have B_L_pen : Binds K fd_L_pen ["_law_script"] [] := F_L_pen.bindsN fun _ _ _ _ _ _ us hl => match us, hl with | [_], _ => rfl
  obtain ⟨fd_L_draw, F0_L_draw⟩ := cd.def_ 1 rfl
  have F_L_draw : FunD K "_law_draw" "_law_draw" (defArgs s_L_draw) (defBody s_L_draw) (defScope s_L_draw) [] [] (He.ga K "_law_draw") fd_L_draw := F0_L_draw
  have B_L_draw : Binds K fd_L_draw ["_law_pen_here", "_law_many"] [] := F_L_draw.bindsN fun _ _ _ _ _ _ us hl => match us, hl with | [_, _], _ => rfl
  obtain ⟨fd_BadNumberD_initD, F0_BadNumberD_initD⟩ := cd.def_ 2 rfl
  have F_BadNumberD_initD : FunD K "__init__" "BadNumber.__init__" (defArgs s_BadNumberD_initD) (defBody s_BadNumberD_initD) (defScope s_BadNumberD_initD) [] [] (He.ma K (He.ga K "BadNumber") "__init__") fd_BadNumberD_initD := F0_BadNumberD_initD
  have B_BadNumberD_initD : Binds K fd_BadNumberD_initD ["self", "what", "number"] [] := F_BadNumberD_initD.bindsN fun _ _ _ _ _ _ us hl => match us, hl with | [_, _, _], _ => rfl
  obtain ⟨fd_RatioD_initD, F0_RatioD_initD⟩ := cd.def_ 3 rfl
  have F_RatioD_initD : FunD K "__init__" "Ratio.__init__" (defArgs s_RatioD_initD) (defBody s_RatioD_initD) (defScope s_RatioD_initD) [.int 1] [] (He.ma K (He.ga K "Ratio") "__init__") fd_RatioD_initD := F0_RatioD_initD
  obtain ⟨ds0_RatioD_initD, V0_RatioD_initD, B0_RatioD_initD⟩ := F_RatioD_initD.binds1 (ps := ["self", "top", "bottom"]) 2 0 (by simp) (by rfl) fun T kV doc pm an cdv ct us its hu hi => match us, hu, its, hi with | [_, _], _, [_], _ => ⟨_, rfl, rfl⟩
  obtain ⟨ds1_RatioD_initD, V1_RatioD_initD, B1_RatioD_initD⟩ := F_RatioD_initD.binds1 (ps := ["self", "top", "bottom"]) 3 1 (by simp) (by rfl) fun T kV doc pm an cdv ct us its hu hi => match us, hu, its, hi with | [_, _, _], _, [_], _ => ⟨_, rfl, rfl⟩
  obtain ⟨fd_is_integer, F0_is_integer⟩ := cd.def_ 4 rfl
  have F_is_integer : FunD K "is_integer" "is_integer" (defArgs s_is_integer) (defBody s_is_integer) (defScope s_is_integer) [] [] (He.ga K "is_integer") fd_is_integer := F0_is_integer
  have B_is_integer : Binds K fd_is_integer ["value"] [] := F_is_integer.bindsN fun _ _ _ _ _ _ us hl => match us, hl with | [_], _ => rfl
  obtain ⟨fd_is_ratio, F0_is_ratio⟩ := cd.def_ 5 rfl
  have F_is_ratio : FunD K "is_ratio" "is_ratio" (defArgs s_is_ratio) (defBody s_is_ratio) (defScope s_is_ratio) [] [] (He.ga K "is_ratio") fd_is_ratio := F0_is_ratio
  have B_is_ratio : Binds K fd_is_ratio ["value"] [] := F_is_ratio.bindsN fun _ _ _ _ _ _ us hl => match us, hl with | [_], _ => rfl
  obtain ⟨fd_L_gcd, F0_L_gcd⟩ := cd.def_ 6 rfl
  have F_L_gcd : FunD K "_law_gcd" "_law_gcd" (defArgs s_L_gcd) (defBody s_L_gcd) (defScope s_L_gcd) [] [] (He.ga K "_law_gcd") fd_L_gcd := F0_L_gcd
  have B_L_gcd : Binds K fd_L_gcd ["_law_one", "_law_two"] [] := F_L_gcd.bindsN fun _ _ _ _ _ _ us hl => match us, hl with | [_, _], _ => rfl
  obtain ⟨fd_L_q, F0_L_q⟩ := cd.def_ 7 rfl
  have F_L_q : FunD K "_law_q" "_law_q" (defArgs s_L_q) (defBody s_L_q) (defScope s_L_q) [] [] (He.ga K "_law_q") fd_L_q := F0_L_q
  have B_L_q : Binds K fd_L_q ["_law_top", "_law_bottom"] [] := F_L_q.bindsN fun _ _ _ _ _ _ us hl => match us, hl with | [_, _], _ => rfl
  obtain ⟨fd_L_is_ratio, F0_L_is_ratio⟩ := cd.def_ 8 rfl
  have F_L_is_ratio : FunD K "_law_is_ratio" "_law_is_ratio" (defArgs s_L_is_ratio) (defBody s_L_is_ratio) (defScope s_L_is_ratio) [] [] (He.ga K "_law_is_ratio") fd_L_is_ratio := F0_L_is_ratio
  have B_L_is_ratio : Binds K fd_L_is_ratio ["_law_value", "_law_due"] [] := F_L_is_ratio.bindsN fun _ _ _ _ _ _ us hl => match us, hl with | [_, _], _ => rfl
  obtain ⟨fd_BadTextD_initD, F0_BadTextD_initD⟩ := cd.def_ 9 rfl
  have F_BadTextD_initD : FunD K "__init__" "BadText.__init__" (defArgs s_BadTextD_initD) (defBody s_BadTextD_initD) (defScope s_BadTextD_initD) [] [] (He.ma K (He.ga K "BadText") "__init__") fd_BadTextD_initD := F0_BadTextD_initD
  have B_BadTextD_initD : Binds K fd_BadTextD_initD ["self", "line", "column"] [] := F_BadTextD_initD.bindsN fun _ _ _ _ _ _ us hl => match us, hl with | [_, _, _], _ => rfl
  obtain ⟨fd_whole_end, F0_whole_end⟩ := cd.def_ 10 rfl
  have F_whole_end : FunD K "whole_end" "whole_end" (defArgs s_whole_end) (defBody s_whole_end) (defScope s_whole_end) [] [] (He.ga K "whole_end") fd_whole_end := F0_whole_end
  have B_whole_end : Binds K fd_whole_end ["text", "start"] [] := F_whole_end.bindsN fun _ _ _ _ _ _ us hl => match us, hl with | [_, _], _ => rfl
  obtain ⟨fd_wrong_column, F0_wrong_column⟩ := cd.def_ 11 rfl
  have F_wrong_column : FunD K "wrong_column" "wrong_column" (defArgs s_wrong_column) (defBody s_wrong_column) (defScope s_wrong_column) [] [] (He.ga K "wrong_column") fd_wrong_column := F0_wrong_column
  have B_wrong_column : Binds K fd_wrong_column ["text"] [] := F_wrong_column.bindsN fun _ _ _ _ _ _ us hl => match us, hl with | [_], _ => rfl
  obtain ⟨fd_TooLongD_initD, F0_TooLongD_initD⟩ := cd.def_ 12 rfl
  have F_TooLongD_initD : FunD K "__init__" "TooLong.__init__" (defArgs s_TooLongD_initD) (defBody s_TooLongD_initD) (defScope s_TooLongD_initD) [] [] (He.ma K (He.ga K "TooLong") "__init__") fd_TooLongD_initD := F0_TooLongD_initD
  have B_TooLongD_initD : Binds K fd_TooLongD_initD ["self", "digits"] [] := F_TooLongD_initD.bindsN fun _ _ _ _ _ _ us hl => match us, hl with | [_, _], _ => rfl
  obtain ⟨fd_digits_of, F0_digits_of⟩ := cd.def_ 13 rfl
  have F_digits_of : FunD K "digits_of" "digits_of" (defArgs s_digits_of) (defBody s_digits_of) (defScope s_digits_of) [] [] (He.ga K "digits_of") fd_digits_of := F0_digits_of
  have B_digits_of : Binds K fd_digits_of ["number"] [] := F_digits_of.bindsN fun _ _ _ _ _ _ us hl => match us, hl with | [_], _ => rfl
  obtain ⟨fd_Ratio_written, F0_Ratio_written⟩ := cd.def_ 14 rfl
  have F_Ratio_written : FunD K "written" "Ratio.written" (defArgs s_Ratio_written) (defBody s_Ratio_written) (defScope s_Ratio_written) [] [] (He.ma K (He.ga K "Ratio") "written") fd_Ratio_written := F0_Ratio_written
  have B_Ratio_written : Binds K fd_Ratio_written ["self"] [] := F_Ratio_written.bindsN fun _ _ _ _ _ _ us hl => match us, hl with | [_], _ => rfl
  obtain ⟨fd_ratio_of, F0_ratio_of⟩ := cd.def_ 15 rfl
  have F_ratio_of : FunD K "ratio_of" "ratio_of" (defArgs s_ratio_of) (defBody s_ratio_of) (defScope s_ratio_of) [] [] (He.ga K "ratio_of") fd_ratio_of := F0_ratio_of
  have B_ratio_of : Binds K fd_ratio_of ["text"] [] := F_ratio_of.bindsN fun _ _ _ _ _ _ us hl => match us, hl with | [_], _ => rfl
  obtain ⟨fd_L_read_wrong, F0_L_read_wrong⟩ := cd.def_ 16 rfl
  have F_L_read_wrong : FunD K "_law_read_wrong" "_law_read_wrong" (defArgs s_L_read_wrong) (defBody s_L_read_wrong) (defScope s_L_read_wrong) [] [] (He.ga K "_law_read_wrong") fd_L_read_wrong := F0_L_read_wrong
  have B_L_read_wrong : Binds K fd_L_read_wrong ["_law_text"] [] := F_L_read_wrong.bindsN fun _ _ _ _ _ _ us hl => match us, hl with | [_], _ => rfl
  obtain ⟨fd_L_both_wrong, F0_L_both_wrong⟩ := cd.def_ 17 rfl
  have F_L_both_wrong : FunD K "_law_both_wrong" "_law_both_wrong" (defArgs s_L_both_wrong) (defBody s_L_both_wrong) (defScope s_L_both_wrong) [] [] (He.ga K "_law_both_wrong") fd_L_both_wrong := F0_L_both_wrong
  have B_L_both_wrong : Binds K fd_L_both_wrong ["_law_pen_here"] [] := F_L_both_wrong.bindsN fun _ _ _ _ _ _ us hl => match us, hl with | [_], _ => rfl
  obtain ⟨fd_L_digits, F0_L_digits⟩ := cd.def_ 18 rfl
  have F_L_digits : FunD K "_law_digits" "_law_digits" (defArgs s_L_digits) (defBody s_L_digits) (defScope s_L_digits) [] [] (He.ga K "_law_digits") fd_L_digits := F0_L_digits
  have B_L_digits : Binds K fd_L_digits ["_law_pen_here", "_law_many"] [] := F_L_digits.bindsN fun _ _ _ _ _ _ us hl => match us, hl with | [_, _], _ => rfl
  obtain ⟨fd_L_long_text, F0_L_long_text⟩ := cd.def_ 19 rfl
  have F_L_long_text : FunD K "_law_long_text" "_law_long_text" (defArgs s_L_long_text) (defBody s_L_long_text) (defScope s_L_long_text) [] [] (He.ga K "_law_long_text") fd_L_long_text := F0_L_long_text
  have B_L_long_text : Binds K fd_L_long_text ["_law_number"] [] := F_L_long_text.bindsN fun _ _ _ _ _ _ us hl => match us, hl with | [_], _ => rfl
  obtain ⟨fd_law, F0_law⟩ := cd.def_ 20 rfl
  have F_law : FunD K "law" "law" (defArgs s_law) (defBody s_law) (defScope s_law) [] [] (He.ga K "law") fd_law := F0_law
  have B_law : Binds K fd_law ["_law_script"] [] := F_law.bindsN fun _ _ _ _ _ _ us hl => match us, hl with | [_], _ => rfl
  obtain ⟨fd_L_too_long, F0_L_too_long⟩ := cd.def_ 21 rfl
  have F_L_too_long : FunD K "_law_too_long" "_law_too_long" (defArgs s_L_too_long) (defBody s_L_too_long) (defScope s_L_too_long) [] [] (He.ga K "_law_too_long") fd_L_too_long := F0_L_too_long
  have B_L_too_long : Binds K fd_L_too_long ["_law_action"] [] := F_L_too_long.bindsN fun _ _ _ _ _ _ us hl => match us, hl with | [_], _ => rfl
  have cl_Ratio : Cls K (He.ga K "Ratio") := He.cls_ok (cd.fact 34 (f := .cls "Ratio") rfl)
  have R_Ratio := ratB_ok (K := K) cl_Ratio (He.noat_ok (cd.fact 35 (f := .noat "Ratio" "top") rfl)) (He.noat_ok (cd.fact 36 (f := .noat "Ratio" "bottom") rfl)) (exx 1 rfl)
  have TX_BadNumber : OexC K (He.ga K "BadNumber") := HwH.oexB_ok (exx 2 rfl)
  have n1_BadNumber := He.noat_ok (cd.fact 37 (f := .noat "BadNumber" "what") rfl)
  have n2_BadNumber := He.noat_ok (cd.fact 38 (f := .noat "BadNumber" "number") rfl)
  have TX_BadText : OexC K (He.ga K "BadText") := HwH.oexB_ok (exx 3 rfl)
  have n1_BadText := He.noat_ok (cd.fact 39 (f := .noat "BadText" "line") rfl)
  have n2_BadText := He.noat_ok (cd.fact 40 (f := .noat "BadText" "column") rfl)
  have TX_TooLong : OexC K (He.ga K "TooLong") := HwH.oexB_ok (exx 4 rfl)
  have n1_TooLong := He.noat_ok (cd.fact 41 (f := .noat "TooLong" "digits") rfl)
  have BX_TooLong : XrC K (He.ga K "TooLong") "digits" "digits" := HwH.xrB_ok (exx 5 rfl)
  have BX_BadText : XrC K (He.ga K "BadText") "line" "column" := HwH.xrB_ok (exx 6 rfl)
  have eTB := of_decide_eq_true (exx 7 rfl)
  have dgK : HwD.DigK K := HwD.digB_ok (exx 8 rfl)
  have e := hfa.symm.trans m_law
  cases e
  have one : ∀ p ∈ [He.cT K ("law", none)], p = He.cT K ("law", none) := fun p hp => List.mem_singleton.mp hp
  refine ⟨fd_law, [He.cT K ("law", none)], spLaw K (He.cT K ("law", none)).2, fun p hp => ?_, fun p hp => ?_, fun p hp => ?_, fun s u => F_law.bindsA (ps := ["_law_script"]) (fun _ _ _ _ _ _ us hl => match us, hl with | [_], _ => rfl) s [u] rfl, ?_, fun base Kb Gb TBs => ?_⟩
  · rw [one p hp]; exact c.empty ("law", none) List.mem_cons_self
  · rw [one p hp]; exact c.out ("law", none) List.mem_cons_self
  · rw [one p hp]; exact PySem.W.codeHd_of_K X (c.hd ("law", none) List.mem_cons_self)
  · exact fun H a ns hl _ hT hS => ⟨a, ns, rfl, hS, hl, fun p hp => by rw [List.mem_singleton.mp hp]; exact TabS.nil (hT _ List.mem_cons_self), fun _ => rfl⟩
  ·
    have TB := TBs _ List.mem_cons_self
    have o_L_pen : FnOk PySem.Challenge.rw_hingeworks_k01_long_ratios.prog w K mg base (L2.CX PySem.Challenge.rw_hingeworks_k01_long_ratios.prog w) 1 _ fd_L_pen ["_law_script"] (spPen K) := ok_L_pen F_L_pen (z_list := z_list) (z_int := z_int)
    have g_L_pen : Gf PySem.Challenge.rw_hingeworks_k01_long_ratios.prog w K mg base "_law_pen" 1 ["_law_script"] (spPen K) := ⟨_, fd_L_pen, m__law_pen, F_L_pen.kp, B_L_pen, o_L_pen⟩
    have o_L_draw : FnOk PySem.Challenge.rw_hingeworks_k01_long_ratios.prog w K mg base (L2.CX PySem.Challenge.rw_hingeworks_k01_long_ratios.prog w) 1 _ fd_L_draw ["_law_pen_here", "_law_many"] (spDraw) := ok_L_draw F_L_draw (z_int := z_int) (z_len := z_len)
    have g_L_draw : Gf PySem.Challenge.rw_hingeworks_k01_long_ratios.prog w K mg base "_law_draw" 1 ["_law_pen_here", "_law_many"] (spDraw) := ⟨_, fd_L_draw, m__law_draw, F_L_draw.kp, B_L_draw, o_L_draw⟩
    have o_BadNumberD_initD : FnOk PySem.Challenge.rw_hingeworks_k01_long_ratios.prog w K mg base (L2.CX PySem.Challenge.rw_hingeworks_k01_long_ratios.prog w) 1 _ fd_BadNumberD_initD ["self", "what", "number"] (spX2 (He.ga K "BadNumber") "what" "number") := ok_BadNumberD_initD F_BadNumberD_initD (C_BadNumber := (He.ga K "BadNumber")) (TX := TX_BadNumber) (n1 := n1_BadNumber) (n2 := n2_BadNumber)
    have g_BadNumber : Xf PySem.Challenge.rw_hingeworks_k01_long_ratios.prog w K mg base "BadNumber" (He.ga K "BadNumber") 1 (spX2 (He.ga K "BadNumber") "what" "number") := ⟨_, fd_BadNumberD_initD, ["self", "what", "number"], m_BadNumber, TX_BadNumber, (HwH.iniB_ok (exx 9 rfl)).1, (HwH.iniB_ok (exx 9 rfl)).2, B_BadNumberD_initD, o_BadNumberD_initD⟩
    have o_RatioD_initD : FnOk PySem.Challenge.rw_hingeworks_k01_long_ratios.prog w K mg base (L2.CX PySem.Challenge.rw_hingeworks_k01_long_ratios.prog w) 3 _ fd_RatioD_initD ["self", "top", "bottom"] (spInit (He.ga K "Ratio") (He.ga K "BadNumber")) := ok_RatioD_initD F_RatioD_initD (m_gcd := m_gcd) (g_BadNumber := g_BadNumber) (C_Ratio := (He.ga K "Ratio")) (R := R_Ratio)
    have g_Ratio : Kf PySem.Challenge.rw_hingeworks_k01_long_ratios.prog w K mg base "Ratio" (He.ga K "Ratio") 3 ["self", "top", "bottom"] [] (spInit (He.ga K "Ratio") (He.ga K "BadNumber")) := ⟨_, fd_RatioD_initD, ds1_RatioD_initD, m_Ratio, He.mkr_ok (cd.fact 42 (f := .mkr "Ratio") rfl), B1_RatioD_initD, V1_RatioD_initD, o_RatioD_initD⟩
    have g_Ratio1 : Kf PySem.Challenge.rw_hingeworks_k01_long_ratios.prog w K mg base "Ratio" (He.ga K "Ratio") 3 ["self", "top", "bottom"] [.int 1] (spInit (He.ga K "Ratio") (He.ga K "BadNumber")) := ⟨_, fd_RatioD_initD, ds0_RatioD_initD, m_Ratio, He.mkr_ok (cd.fact 42 (f := .mkr "Ratio") rfl), B0_RatioD_initD, V0_RatioD_initD, o_RatioD_initD⟩
    have o_is_integer : FnOk PySem.Challenge.rw_hingeworks_k01_long_ratios.prog w K mg base (L2.CX PySem.Challenge.rw_hingeworks_k01_long_ratios.prog w) 1 _ fd_is_integer ["value"] (spIsInt K (He.ga K "Ratio")) := ok_is_integer F_is_integer (z_isinstance := z_isinstance) (z_bool := z_bool) (z_int := z_int) (C_Ratio := (He.ga K "Ratio"))
    have g_is_integer : Gf PySem.Challenge.rw_hingeworks_k01_long_ratios.prog w K mg base "is_integer" 1 ["value"] (spIsInt K (He.ga K "Ratio")) := ⟨_, fd_is_integer, m_is_integer, F_is_integer.kp, B_is_integer, o_is_integer⟩
    have o_is_ratio : FnOk PySem.Challenge.rw_hingeworks_k01_long_ratios.prog w K mg base (L2.CX PySem.Challenge.rw_hingeworks_k01_long_ratios.prog w) 2 _ fd_is_ratio ["value"] (spIsRat K (He.ga K "Ratio")) := ok_is_ratio F_is_ratio (z_isinstance := z_isinstance) (m_Ratio := m_Ratio) (g_is_integer := g_is_integer) (C_Ratio := (He.ga K "Ratio"))
    have g_is_ratio : Gf PySem.Challenge.rw_hingeworks_k01_long_ratios.prog w K mg base "is_ratio" 2 ["value"] (spIsRat K (He.ga K "Ratio")) := ⟨_, fd_is_ratio, m_is_ratio, F_is_ratio.kp, B_is_ratio, o_is_ratio⟩
    have o_L_gcd : FnOk PySem.Challenge.rw_hingeworks_k01_long_ratios.prog w K mg base (L2.CX PySem.Challenge.rw_hingeworks_k01_long_ratios.prog w) 1 _ fd_L_gcd ["_law_one", "_law_two"] (spGcd) := ok_L_gcd F_L_gcd (z_range := z_range) (z_int := z_int) (z_abs := z_abs)
    have g_L_gcd : Gf PySem.Challenge.rw_hingeworks_k01_long_ratios.prog w K mg base "_law_gcd" 1 ["_law_one", "_law_two"] (spGcd) := ⟨_, fd_L_gcd, m__law_gcd, F_L_gcd.kp, B_L_gcd, o_L_gcd⟩
    have o_L_q : FnOk PySem.Challenge.rw_hingeworks_k01_long_ratios.prog w K mg base (L2.CX PySem.Challenge.rw_hingeworks_k01_long_ratios.prog w) 2 _ fd_L_q ["_law_top", "_law_bottom"] (spQ) := ok_L_q F_L_q (g_L_gcd := g_L_gcd)
    have g_L_q : Gf PySem.Challenge.rw_hingeworks_k01_long_ratios.prog w K mg base "_law_q" 2 ["_law_top", "_law_bottom"] (spQ) := ⟨_, fd_L_q, m__law_q, F_L_q.kp, B_L_q, o_L_q⟩
    have o_L_is_ratio : FnOk PySem.Challenge.rw_hingeworks_k01_long_ratios.prog w K mg base (L2.CX PySem.Challenge.rw_hingeworks_k01_long_ratios.prog w) 1 _ fd_L_is_ratio ["_law_value", "_law_due"] (spIsR (He.ga K "Ratio")) := ok_L_is_ratio F_L_is_ratio (z_isinstance := z_isinstance) (z_bool := z_bool) (z_int := z_int) (m_Ratio := m_Ratio) (C_Ratio := (He.ga K "Ratio")) (R := R_Ratio)
    have g_L_is_ratio : Gf PySem.Challenge.rw_hingeworks_k01_long_ratios.prog w K mg base "_law_is_ratio" 1 ["_law_value", "_law_due"] (spIsR (He.ga K "Ratio")) := ⟨_, fd_L_is_ratio, m__law_is_ratio, F_L_is_ratio.kp, B_L_is_ratio, o_L_is_ratio⟩
    have o_BadTextD_initD : FnOk PySem.Challenge.rw_hingeworks_k01_long_ratios.prog w K mg base (L2.CX PySem.Challenge.rw_hingeworks_k01_long_ratios.prog w) 1 _ fd_BadTextD_initD ["self", "line", "column"] (spX2 (He.ga K "BadText") "line" "column") := ok_BadTextD_initD F_BadTextD_initD (C_BadText := (He.ga K "BadText")) (TX := TX_BadText) (n1 := n1_BadText) (n2 := n2_BadText)
    have g_BadText : Xf PySem.Challenge.rw_hingeworks_k01_long_ratios.prog w K mg base "BadText" (He.ga K "BadText") 1 (spX2 (He.ga K "BadText") "line" "column") := ⟨_, fd_BadTextD_initD, ["self", "line", "column"], m_BadText, TX_BadText, (HwH.iniB_ok (exx 10 rfl)).1, (HwH.iniB_ok (exx 10 rfl)).2, B_BadTextD_initD, o_BadTextD_initD⟩
    have o_whole_end : FnOk PySem.Challenge.rw_hingeworks_k01_long_ratios.prog w K mg base (L2.CX PySem.Challenge.rw_hingeworks_k01_long_ratios.prog w) 1 _ fd_whole_end ["text", "start"] (spWe) := ok_whole_end F_whole_end (z_len := z_len) (k_DIGITS := k_DIGITS)
    have g_whole_end : Gf PySem.Challenge.rw_hingeworks_k01_long_ratios.prog w K mg base "whole_end" 1 ["text", "start"] (spWe) := ⟨_, fd_whole_end, m_whole_end, F_whole_end.kp, B_whole_end, o_whole_end⟩
    have o_wrong_column : FnOk PySem.Challenge.rw_hingeworks_k01_long_ratios.prog w K mg base (L2.CX PySem.Challenge.rw_hingeworks_k01_long_ratios.prog w) 2 _ fd_wrong_column ["text"] (spCol) := ok_wrong_column F_wrong_column (z_len := z_len) (g_whole_end := g_whole_end)
    have g_wrong_column : Gf PySem.Challenge.rw_hingeworks_k01_long_ratios.prog w K mg base "wrong_column" 2 ["text"] (spCol) := ⟨_, fd_wrong_column, m_wrong_column, F_wrong_column.kp, B_wrong_column, o_wrong_column⟩
    have o_TooLongD_initD : FnOk PySem.Challenge.rw_hingeworks_k01_long_ratios.prog w K mg base (L2.CX PySem.Challenge.rw_hingeworks_k01_long_ratios.prog w) 1 _ fd_TooLongD_initD ["self", "digits"] (spX1 (He.ga K "TooLong") "digits") := ok_TooLongD_initD F_TooLongD_initD (C_TooLong := (He.ga K "TooLong")) (TX := TX_TooLong) (n1 := n1_TooLong)
    have g_TooLong : Xf PySem.Challenge.rw_hingeworks_k01_long_ratios.prog w K mg base "TooLong" (He.ga K "TooLong") 1 (spX1 (He.ga K "TooLong") "digits") := ⟨_, fd_TooLongD_initD, ["self", "digits"], m_TooLong, TX_TooLong, (HwH.iniB_ok (exx 11 rfl)).1, (HwH.iniB_ok (exx 11 rfl)).2, B_TooLongD_initD, o_TooLongD_initD⟩
    have o_digits_of : FnOk PySem.Challenge.rw_hingeworks_k01_long_ratios.prog w K mg base (L2.CX PySem.Challenge.rw_hingeworks_k01_long_ratios.prog w) 1 _ fd_digits_of ["number"] (spDg) := ok_digits_of F_digits_of (z_reversed := z_reversed) (z_range := z_range) (z_len := z_len) (z_str := z_str) (z_abs := z_abs) (k_PLAIN_BITS := k_PLAIN_BITS) (dg := dgK)
    have g_digits_of : Gf PySem.Challenge.rw_hingeworks_k01_long_ratios.prog w K mg base "digits_of" 1 ["number"] (spDg) := ⟨_, fd_digits_of, m_digits_of, F_digits_of.kp, B_digits_of, o_digits_of⟩
    have o_Ratio_written : FnOk PySem.Challenge.rw_hingeworks_k01_long_ratios.prog w K mg base (L2.CX PySem.Challenge.rw_hingeworks_k01_long_ratios.prog w) 3 _ fd_Ratio_written ["self"] (spWr (He.ga K "Ratio") (He.ga K "TooLong")) := ok_Ratio_written F_Ratio_written (z_str := z_str) (z_max := z_max) (k_MOST_DIGITS := k_MOST_DIGITS) (g_TooLong := g_TooLong) (g_digits_of := g_digits_of) (C_Ratio := (He.ga K "Ratio")) (R := R_Ratio) (dg := dgK)
    have g_Ratio_written : Mf PySem.Challenge.rw_hingeworks_k01_long_ratios.prog w K mg base (He.ga K "Ratio") "written" 3 ["self"] (spWr (He.ga K "Ratio") (He.ga K "TooLong")) := ⟨cl_Ratio, _, fd_Ratio_written, He.meth_ok (cd.fact 43 (f := .meth "Ratio" "written") rfl), B_Ratio_written, o_Ratio_written⟩
    have o_ratio_of : FnOk PySem.Challenge.rw_hingeworks_k01_long_ratios.prog w K mg base (L2.CX PySem.Challenge.rw_hingeworks_k01_long_ratios.prog w) 5 _ fd_ratio_of ["text"] (spRd (He.ga K "Ratio") (He.ga K "BadText") (He.ga K "TooLong")) := ok_ratio_of F_ratio_of (z_int := z_int) (z_len := z_len) (z_max := z_max) (z_isinstance := z_isinstance) (z_str := z_str) (m_gcd := m_gcd) (k_MOST_DIGITS := k_MOST_DIGITS) (g_Ratio := g_Ratio) (g_BadText := g_BadText) (g_Ratio1 := g_Ratio1) (g_TooLong := g_TooLong) (g_wrong_column := g_wrong_column) (C_Ratio := (He.ga K "Ratio")) (C_BadText := (He.ga K "BadText")) (C_BadNumber := (He.ga K "BadNumber")) (C_TooLong := (He.ga K "TooLong")) (R := R_Ratio) (dg := dgK)
    have g_ratio_of : Gf PySem.Challenge.rw_hingeworks_k01_long_ratios.prog w K mg base "ratio_of" 5 ["text"] (spRd (He.ga K "Ratio") (He.ga K "BadText") (He.ga K "TooLong")) := ⟨_, fd_ratio_of, m_ratio_of, F_ratio_of.kp, B_ratio_of, o_ratio_of⟩
    have o_L_read_wrong : FnOk PySem.Challenge.rw_hingeworks_k01_long_ratios.prog w K mg base (L2.CX PySem.Challenge.rw_hingeworks_k01_long_ratios.prog w) 6 _ fd_L_read_wrong ["_law_text"] (spRW) := ok_L_read_wrong F_L_read_wrong (m_TooLong := m_TooLong) (m_BadText := m_BadText) (BX_TooLong := BX_TooLong) (BX_BadText := BX_BadText) (g_ratio_of := g_ratio_of) (C_Ratio := (He.ga K "Ratio")) (C_BadText := (He.ga K "BadText")) (C_TooLong := (He.ga K "TooLong")) (eTB := eTB)
    have g_L_read_wrong : Gf PySem.Challenge.rw_hingeworks_k01_long_ratios.prog w K mg base "_law_read_wrong" 6 ["_law_text"] (spRW) := ⟨_, fd_L_read_wrong, m__law_read_wrong, F_L_read_wrong.kp, B_L_read_wrong, o_L_read_wrong⟩
    have o_L_both_wrong : FnOk PySem.Challenge.rw_hingeworks_k01_long_ratios.prog w K mg base (L2.CX PySem.Challenge.rw_hingeworks_k01_long_ratios.prog w) 7 _ fd_L_both_wrong ["_law_pen_here"] (spBW) := ok_L_both_wrong F_L_both_wrong (z_str := z_str) (g_L_read_wrong := g_L_read_wrong) (g_L_draw := g_L_draw)
    have g_L_both_wrong : Gf PySem.Challenge.rw_hingeworks_k01_long_ratios.prog w K mg base "_law_both_wrong" 7 ["_law_pen_here"] (spBW) := ⟨_, fd_L_both_wrong, m__law_both_wrong, F_L_both_wrong.kp, B_L_both_wrong, o_L_both_wrong⟩
    have o_L_digits : FnOk PySem.Challenge.rw_hingeworks_k01_long_ratios.prog w K mg base (L2.CX PySem.Challenge.rw_hingeworks_k01_long_ratios.prog w) 2 _ fd_L_digits ["_law_pen_here", "_law_many"] (spLDg) := ok_L_digits F_L_digits (z_int := z_int) (g_L_draw := g_L_draw) (dg := dgK)
    have g_L_digits : Gf PySem.Challenge.rw_hingeworks_k01_long_ratios.prog w K mg base "_law_digits" 2 ["_law_pen_here", "_law_many"] (spLDg) := ⟨_, fd_L_digits, m__law_digits, F_L_digits.kp, B_L_digits, o_L_digits⟩
    have o_L_long_text : FnOk PySem.Challenge.rw_hingeworks_k01_long_ratios.prog w K mg base (L2.CX PySem.Challenge.rw_hingeworks_k01_long_ratios.prog w) 1 _ fd_L_long_text ["_law_number"] (spLT) := ok_L_long_text F_L_long_text (z_range := z_range) (z_str := z_str) (z_abs := z_abs) (dg := dgK)
    have g_L_long_text : Gf PySem.Challenge.rw_hingeworks_k01_long_ratios.prog w K mg base "_law_long_text" 1 ["_law_number"] (spLT) := ⟨_, fd_L_long_text, m__law_long_text, F_L_long_text.kp, B_L_long_text, o_L_long_text⟩
    have o_law : FnOk PySem.Challenge.rw_hingeworks_k01_long_ratios.prog w K mg base (L2.CX PySem.Challenge.rw_hingeworks_k01_long_ratios.prog w) 8 _ fd_law ["_law_script"] (spLaw K (He.cT K ("law", none)).2) := ok_law F_law (z_range := z_range) (z_max := z_max) (z_len := z_len) (z_int := z_int) (m_TooLong := m_TooLong) (g_L_is_ratio := g_L_is_ratio) (g_ratio_of := g_ratio_of) (g_Ratio_written := g_Ratio_written) (g_L_long_text := g_L_long_text) (g_Ratio := g_Ratio) (g_L_q := g_L_q) (g_L_digits := g_L_digits) (g_L_draw := g_L_draw) (g_L_both_wrong := g_L_both_wrong) (g_L_pen := g_L_pen) (C_Ratio := (He.ga K "Ratio")) (C_TooLong := (He.ga K "TooLong")) (R := R_Ratio) (F_bot := F_L_too_long) (B_bot := B_L_too_long) (m_bot := m__law_too_long) (BX := BX_TooLong) (TB := TB) (hcode := HwH.code_of (p := ("law", none)) F_law)
    exact o_law

end HwL
end

section
namespace HwL
open PySem PySem.Spec PyProof.Rows L2 LamX HwT
variable {P : Program} {w : World} {K : PySem.W.Frag} {mg : Str → Option Value} {base : Heap}

end HwL
open PySem PySem.W PySem.Calls PyProof.Rows
theorem PySem.Challenge.cw_hingeworks_k01_long_ratios_holds : PySem.Challenge.rw_hingeworks_k01_long_ratios.Holds := by
  w_on; o_law
  refine HandSHeadRun.head_imp (r := HwL.RR0) (q := view HwL.RR0.prog [0, 30]) (H := HwL.hk) (ob := HwL.ob) (M := 6000) (loose := HwL.names) (d := HandSHeadRun.topDef HwL.RR0.prog 30) (kwd := []) HwL.ob_eq
    HwL.runK (by kernel_rfl) (by kernel_rfl) (by kernel_rfl) (by rfl) (by first | assumption | decide +kernel) (by decide +kernel) ⟨rfl, rfl, rfl, rfl, rfl, by decide +kernel⟩ ?hw ?hc
  case hw => w_witness2
  case hc =>
    refine LamX.walk_ofTsE (l := PySem.Challenge.rw_hingeworks_k01_long_ratios) (n := 63) (k := 8) (x := "_law_script") (CX := fun w => L2.CX PySem.Challenge.rw_hingeworks_k01_long_ratios.prog w) rfl (by decide) (by kernel_rfl) ⟨rfl, by decide, by decide⟩ ?F (fun w H s e s' z => HwL.noCX z)
    intro w mg fa h Y G hmg0
    obtain ⟨K, KX, c⟩ := Y
    have hmg : mg ("law" : PySem.Str) = some (.ref fa) := by
      have e : (HandSHeadRun.topDef HwL.RR0.prog 30).name = ("law" : PySem.Str) := by kernel_rfl
      rw [← e]
      exact hmg0
    exact ⟨K, KX, HwL.facts KX G hmg c⟩
namespace HwL


end HwL
end


