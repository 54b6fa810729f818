import PyProof.Rows.All
import Wide.All
import OpenK.AllK
import Wide.FinOn
import KE.KOpsOwn
import HandS.ForMost
import HandS.Exc
import HandS.ExcOwn
import HandS.WordsExc
import HandS.IsInst
import HandS.Defaults
import HandS.Wide
import HandS.Gcd
import HandS.Lambda
import HandS.ExcInit
import HandS.ExcField
import HandS.Flow
import HandS.Rev
import HandS.HeadHook4
import HandS.HeadWalk
import HandS.NoneIn
import KE.KStateDown
import HandS.Head0
import HandS.Head1
import HandS.Head2
import HandS.Head3
import HandS.ExcValue
import HandS.ExcIs
import HandS.TryMany
import HandS.Small
import PyProof.ReprRoads
import KE.KExcIs
import KE.KStar
import HandS.Walk
import HandS.Zip
import KE.GoesMore
import KE.GoesEnum
import HandS.OwnEq
import HandS.TupMul
import HandS.TupAny
import PyProof.P3Eq
import PyProof.EnumStmt
import PyProof.EnumMake
import KE.KDictZip
import KE.GoesZip
import PyProof.ListRange
import HandS.Style
import PySem.Challenge.RW_hingeworks_k07_places_and_what_belongs
set_option Elab.async false
set_option linter.all false
set_option maxRecDepth 100000
set_option maxHeartbeats 4000000
section
/-! Ratios as rationals; Euclid. -/
namespace HwM
theorem fdiv_exact {a g : Int} (h : g ∣ a) : a.fdiv g = a / g := Int.fdiv_eq_ediv_of_dvd h
/-- the top of the lowest terms, by floor division -/
theorem num_fdiv {t b : Int} (hb : b ≠ 0) : t.fdiv (if b < 0 then -((Nat.gcd t.natAbs b.natAbs : Nat) : Int) else ((Nat.gcd t.natAbs b.natAbs : Nat) : Int)) = (Rat.divInt t b).num := by
  have hg : ((Nat.gcd t.natAbs b.natAbs : Nat) : Int) ∣ t := Int.ofNat_dvd_left.mpr (Nat.gcd_dvd_left _ _)
  have e : (b.gcd t : Nat) = Nat.gcd t.natAbs b.natAbs := by unfold Int.gcd; exact Nat.gcd_comm _ _
  rw [Rat.num_divInt, e]
  split
  · rename_i h
    rw [fdiv_exact (Int.neg_dvd.mpr hg), Int.sign_eq_neg_one_of_neg h, Int.ediv_neg, Int.neg_one_mul, Int.neg_ediv_of_dvd hg]
  · rename_i h
    rw [fdiv_exact hg, Int.sign_eq_one_of_pos (by omega), Int.one_mul]
theorem den_fdiv {t b : Int} (hb : b ≠ 0) : b.fdiv (if b < 0 then -((Nat.gcd t.natAbs b.natAbs : Nat) : Int) else ((Nat.gcd t.natAbs b.natAbs : Nat) : Int)) = ((Rat.divInt t b).den : Int) := by
  have hg : ((Nat.gcd t.natAbs b.natAbs : Nat) : Int) ∣ b := Int.ofNat_dvd_left.mpr (Nat.gcd_dvd_right _ _)
  have e : (b.gcd t : Nat) = Nat.gcd t.natAbs b.natAbs := by unfold Int.gcd; exact Nat.gcd_comm _ _
  rw [Rat.den_divInt, e, if_neg hb, Int.natCast_ediv]
  split
  · rename_i h
    rw [fdiv_exact (Int.neg_dvd.mpr hg), Int.ediv_neg]
    have : (b.natAbs : Int) = -b := by omega
    rw [this, Int.neg_ediv_of_dvd hg]
  · rename_i h
    rw [fdiv_exact hg]
    have : (b.natAbs : Int) = b := by omega
    rw [this]
theorem gcd_ne {t b : Int} (hb : b ≠ 0) : (if b < 0 then -((Nat.gcd t.natAbs b.natAbs : Nat) : Int) else ((Nat.gcd t.natAbs b.natAbs : Nat) : Int)) ≠ 0 := by
  have : 0 < Nat.gcd t.natAbs b.natAbs := Nat.gcd_pos_of_pos_right _ (by omega)
  split <;> omega
theorem gcd_le {t b : Int} (hb : b ≠ 0) : (if b < 0 then -((Nat.gcd t.natAbs b.natAbs : Nat) : Int) else ((Nat.gcd t.natAbs b.natAbs : Nat) : Int)).natAbs ≤ b.natAbs := by
  have : Nat.gcd t.natAbs b.natAbs ≤ b.natAbs := Nat.gcd_le_right _ (by omega)
  split <;> omega
theorem fdiv_le (a : Int) {b : Int} (hb : 0 < b) : (a.fdiv b).natAbs ≤ a.natAbs := by
  rw [Int.fdiv_eq_ediv_of_nonneg _ (by omega)]
  have h1 := Int.mul_ediv_add_emod a b
  have h2 := Int.emod_nonneg a (b := b) (by omega)
  have h3 := Int.emod_lt_of_pos a hb
  by_cases h : 0 ≤ a
  · have := Int.ediv_le_self b h
    have := Int.ediv_nonneg h (show 0 ≤ b by omega)
    omega
  · have h4 : a ≤ a / b := by
      rw [Int.le_ediv_iff_mul_le hb]
      have : a * b ≤ a * 1 := Int.mul_le_mul_of_nonpos_left (by omega) (by omega)
      omega
    have h5 : a / b < 0 := Int.ediv_neg_of_neg_of_pos (by omega) hb
    omega
theorem log2_lt {n k : Nat} (hk : 0 < k) (h : n < 2 ^ k) : n.log2 < k := by
  by_cases z : n = 0
  · subst z; simpa using hk
  · exact (Nat.log2_lt z).mpr h
/-! sizes -/
/-- both parts are below 2 ^ n -/
def Bd (n : Nat) (q : Rat) : Prop := q.num.natAbs < 2 ^ n ∧ q.den < 2 ^ n
theorem Bd.mono {m n : Nat} {q : Rat} (h : Bd m q) (hn : m ≤ n) : Bd n q :=
  ⟨Nat.lt_of_lt_of_le h.1 (Nat.pow_le_pow_right (by decide) hn), Nat.lt_of_lt_of_le h.2 (Nat.pow_le_pow_right (by decide) hn)⟩
theorem mul_lt {a b m n : Nat} (ha : a < 2 ^ m) (hb : b < 2 ^ n) : a * b < 2 ^ (m + n) := by
  rw [Nat.pow_add]; exact Nat.mul_lt_mul'' ha hb
theorem add_lt {a b n : Nat} (ha : a < 2 ^ n) (hb : b < 2 ^ n) : a + b < 2 ^ (n + 1) := by
  rw [Nat.pow_succ]; omega
theorem lt_mono {a m n : Nat} (h : a < 2 ^ m) (hn : m ≤ n) : a < 2 ^ n := Nat.lt_of_lt_of_le h (Nat.pow_le_pow_right (by decide) hn)
theorem divInt_bd {t b : Int} {n : Nat} (hn : 0 < n) (ht : t.natAbs < 2 ^ n) (hb : b.natAbs < 2 ^ n) : Bd n (Rat.divInt t b) := by
  refine ⟨?_, ?_⟩
  · rw [Rat.num_divInt]
    refine Nat.lt_of_le_of_lt ?_ ht
    refine Nat.le_trans (Int.natAbs_ediv_le_natAbs _ _) ?_
    rw [Int.natAbs_mul]
    have : b.sign.natAbs ≤ 1 := by
      rcases Int.lt_trichotomy b 0 with h | h | h
      · rw [Int.sign_eq_neg_one_of_neg h]; decide
      · subst h; decide
      · rw [Int.sign_eq_one_of_pos h]; decide
    calc b.sign.natAbs * t.natAbs ≤ 1 * t.natAbs := Nat.mul_le_mul_right _ this
      _ = t.natAbs := Nat.one_mul _
  · rw [Rat.den_divInt]
    split
    · exact Nat.one_lt_two_pow (by omega)
    · exact Nat.lt_of_le_of_lt (Nat.div_le_self _ _) hb
theorem num_add_bd {q r : Rat} {m n : Nat} (hq : Bd m q) (hr : Bd n r) : (q.num * r.den + r.num * q.den).natAbs < 2 ^ (m + n + 1) := by
  refine Nat.lt_of_le_of_lt (Int.natAbs_add_le _ _) ?_
  rw [Int.natAbs_mul, Int.natAbs_mul]
  refine add_lt ?_ ?_
  · exact mul_lt hq.1 (by simpa using hr.2)
  · rw [Nat.mul_comm]; exact mul_lt (by simpa using hq.2) hr.1
theorem num_sub_bd {q r : Rat} {m n : Nat} (hq : Bd m q) (hr : Bd n r) : (q.num * r.den - r.num * q.den).natAbs < 2 ^ (m + n + 1) := by
  refine Nat.lt_of_le_of_lt (Int.natAbs_sub_le _ _) ?_
  rw [Int.natAbs_mul, Int.natAbs_mul]
  refine add_lt ?_ ?_
  · exact mul_lt hq.1 (by simpa using hr.2)
  · rw [Nat.mul_comm]; exact mul_lt (by simpa using hq.2) hr.1
theorem den_bd {q r : Rat} {m n : Nat} (hq : Bd m q) (hr : Bd n r) : ((q.den : Int) * r.den).natAbs < 2 ^ (m + n) := by
  rw [Int.natAbs_mul]; exact mul_lt (by simpa using hq.2) (by simpa using hr.2)
theorem num_mul_bd {q r : Rat} {m n : Nat} (hq : Bd m q) (hr : Bd n r) : (q.num * r.num).natAbs < 2 ^ (m + n) := by
  rw [Int.natAbs_mul]; exact mul_lt hq.1 hr.1
theorem den_ne (q : Rat) : (q.den : Int) ≠ 0 := by have := q.den_pos; omega
theorem dens_ne (q r : Rat) : (q.den : Int) * r.den ≠ 0 := Int.mul_ne_zero (den_ne q) (den_ne r)
theorem add_eq (q r : Rat) : Rat.divInt (q.num * r.den + r.num * q.den) ((q.den : Int) * r.den) = q + r := by
  rw [Rat.add_def', ← Rat.divInt_ofNat]; norm_cast
theorem sub_eq (q r : Rat) : Rat.divInt (q.num * r.den - r.num * q.den) ((q.den : Int) * r.den) = q - r := by
  rw [Rat.sub_def', ← Rat.divInt_ofNat]; norm_cast
theorem mul_eq (q r : Rat) : Rat.divInt (q.num * r.num) ((q.den : Int) * r.den) = q * r := by
  rw [Rat.mul_def', ← Rat.divInt_ofNat]; norm_cast
theorem div_eq (q r : Rat) : Rat.divInt (q.num * r.den) ((q.den : Int) * r.num) = q / r := by
  rw [Rat.div_def, Rat.inv_def, ← Rat.divInt_mul_divInt, Rat.num_divInt_den]
theorem neg_eq (q : Rat) : Rat.divInt (-q.num) (q.den : Int) = -q := by
  rw [← Rat.neg_divInt, Rat.num_divInt_den]
theorem self_eq (q : Rat) : Rat.divInt q.num (q.den : Int) = q := Rat.num_divInt_den q
theorem scale_eq (q : Rat) {k : Int} (hk : k ≠ 0) : Rat.divInt (q.num * k) ((q.den : Int) * k) = q := by
  rw [Rat.divInt_mul_right hk, Rat.num_divInt_den]
theorem int_eq (i : Int) : Rat.divInt i 1 = (i : Rat) := by
  have := Rat.num_divInt_den (i : Rat)
  simpa using this
theorem add_bd {q r : Rat} {m n : Nat} (hq : Bd m q) (hr : Bd n r) : Bd (m + n + 1) (q + r) := by
  rw [← add_eq]; exact divInt_bd (by omega) (num_add_bd hq hr) (lt_mono (den_bd hq hr) (by omega))
theorem sub_bd {q r : Rat} {m n : Nat} (hq : Bd m q) (hr : Bd n r) : Bd (m + n + 1) (q - r) := by
  rw [← sub_eq]; exact divInt_bd (by omega) (num_sub_bd hq hr) (lt_mono (den_bd hq hr) (by omega))
theorem mul_bd {q r : Rat} {m n : Nat} (h0 : 0 < m + n) (hq : Bd m q) (hr : Bd n r) : Bd (m + n) (q * r) := by
  rw [← mul_eq]; exact divInt_bd h0 (num_mul_bd hq hr) (den_bd hq hr)
theorem neg_bd {q : Rat} {n : Nat} (hq : Bd n q) : Bd n (-q) := ⟨by simpa using hq.1, hq.2⟩
theorem int_bd {i : Int} {n : Nat} (hn : 0 < n) (h : i.natAbs < 2 ^ n) : Bd n (i : Rat) := ⟨by simpa using h, by simpa using Nat.one_lt_two_pow (by omega)⟩
/-! signs -/
theorem sign_num (q : Rat) : (q.num < 0 ↔ q < 0) ∧ (0 < q.num ↔ 0 < q) := by
  constructor
  · rw [Rat.lt_iff]; simp
  · rw [Rat.lt_iff]; simp
/-- -1, 0, 1 -/
def cmp (q r : Rat) : Int := if q < r then -1 else if r < q then 1 else 0
theorem gap_neg (q r : Rat) : q.num * r.den - r.num * q.den < 0 ↔ q < r := by rw [Rat.lt_iff]; omega
theorem gap_pos (q r : Rat) : 0 < q.num * r.den - r.num * q.den ↔ r < q := by rw [Rat.lt_iff]; omega
theorem cmp_lt (q r : Rat) : cmp q r < 0 ↔ q < r := by
  unfold cmp
  split
  · simp [*]
  · split <;> simp [*]
theorem cmp_le (q r : Rat) : cmp q r ≤ 0 ↔ q ≤ r := by
  unfold cmp
  split
  · rename_i h; simp [Rat.le_of_lt h]
  · rename_i h
    split
    · rename_i h2; simp [Rat.not_le.mpr h2]
    · rename_i h2; simp [Rat.not_lt.mp h2]
theorem cmp_zero (q r : Rat) : cmp q r = 0 ↔ q = r := by
  unfold cmp
  split
  · rename_i h; simp [Rat.ne_of_lt h]
  · rename_i h
    split
    · rename_i h2; simp [Rat.ne_of_gt h2]
    · rename_i h2; simp [Rat.le_antisymm (Rat.not_lt.mp h2) (Rat.not_lt.mp h)]
theorem cmp_sub (q r : Rat) : cmp (q - r) 0 = cmp q r := by
  have h1 : (q - r < 0) ↔ q < r := by
    rw [Rat.lt_iff_sub_pos, Rat.lt_iff_sub_pos q r]
    have : (0 : Rat) - (q - r) = r - q := by grind
    rw [this]
  have h2 : (0 < q - r) ↔ r < q := by rw [Rat.lt_iff_sub_pos r q]
  unfold cmp
  simp [h1, h2]
/-! Euclid's laps -/
theorem lap {x y : Int} {i n : Nat} (h0 : 0 ≤ x) (hy : 0 < y) (hyn : y.natAbs < 2 ^ n) (hi : i = 0 ∨ (y < x ∧ x.natAbs * y.natAbs * 2 ^ i < 2 ^ (2 * n + 2))) :
    x % y < y ∧ 0 ≤ x % y ∧ (x % y).natAbs < 2 ^ n ∧ y.natAbs * (x % y).natAbs * 2 ^ (i + 1) < 2 ^ (2 * n + 2) := by
  have a := Int.emod_nonneg x (show y ≠ 0 by omega)
  have b := Int.emod_lt_of_pos x hy
  have hr : (x % y).natAbs < 2 ^ n := by omega
  refine ⟨b, a, hr, ?_⟩
  rcases hi with rfl | ⟨h1, h2⟩
  · have := mul_lt hyn hr
    have e : 2 ^ (2 * n + 2) = 2 ^ (n + n) * 4 := by rw [show 2 * n + 2 = (n + n) + 2 by omega, Nat.pow_add]
    rw [e]
    simp only [Nat.zero_add, Nat.pow_one]
    omega
  · have hx : 2 * (x % y) < x := by
      have e := Int.mul_ediv_add_emod x y
      have q : 1 ≤ x / y := (Int.le_ediv_iff_mul_le hy).mpr (by omega)
      have : y * 1 ≤ y * (x / y) := Int.mul_le_mul_of_nonneg_left q (by omega)
      omega
    have h3 : 2 * (x % y).natAbs ≤ x.natAbs := by omega
    refine Nat.lt_of_le_of_lt ?_ h2
    calc y.natAbs * (x % y).natAbs * 2 ^ (i + 1) = y.natAbs * (2 * (x % y).natAbs) * 2 ^ i := by rw [Nat.pow_succ]; grind
      _ ≤ y.natAbs * x.natAbs * 2 ^ i := Nat.mul_le_mul_right _ (Nat.mul_le_mul_left _ h3)
      _ = x.natAbs * y.natAbs * 2 ^ i := by rw [Nat.mul_comm y.natAbs]
theorem laps_end {x y : Int} {n : Nat} (h0 : 0 ≤ y) (hy : y < x) (h : x.natAbs * y.natAbs * 2 ^ n < 2 ^ n) : y = 0 := by
  have : x.natAbs * y.natAbs < 1 := by
    have h2 : x.natAbs * y.natAbs * 2 ^ n < 1 * 2 ^ n := by simpa using h
    exact Nat.lt_of_mul_lt_mul_right h2
  have h3 : x.natAbs * y.natAbs = 0 := by omega
  rcases Nat.mul_eq_zero.mp h3 with e | e <;> omega
theorem gcd_step {x y : Int} (h0 : 0 ≤ x) (hy : 0 < y) : Nat.gcd y.natAbs (x % y).natAbs = Nat.gcd x.natAbs y.natAbs := by
  have e : (x % y).natAbs = x.natAbs % y.natAbs := by
    have := Int.natAbs_emod_of_nonneg h0 y
    exact this
  rw [e, Nat.gcd_comm y.natAbs, ← Nat.gcd_rec, Nat.gcd_comm]
end HwM
end

section
/-! Operators of an own class. -/
namespace Hw
open PySem PySem.W PySem.Calls PyProof.Rows

section
variable {prog : Program} {w : World} {A : Around} {E : Value → Shared → Prop} {s : Shared} {K : Frag} {x y C L f : Addr} {h₀ : Heap} {m : Str → Option Value} {ox oy : Obj} {od ody : Option Obj}
/-- a + b, both of the same own class -/
theorem bin_same {op : Operator} {Q : Value → Shared → Prop} (F : Fr h₀ L s.heap m) (X₀ : K.In h₀) (I : InstAt s.heap x ox C od) (J : InstAt s.heap y oy C ody) (hc : selfFirst K C = true)
    (hs : findIn K (.ref C) (PySem.dunder op.info.2) = some (some (.ref f))) (hf : isFn K (.ref f) = true)
    (h : wpAny (model prog w) A (call (.ref f) [.ref x, .ref y]) (PySem.W.CmpBack Q) E s) : wpAny (model prog w) A (binaryOp op (.ref x) (.ref y)) Q E s := by
  have X := X₀.keeps F.keep
  obtain ⟨cd, rest, hcd, hm⟩ := ksp_first hc
  rcases hi : op.info with ⟨sym, nm'⟩
  rw [hi] at hs
  dsimp only at hs
  have one := ksp_try X I hs hf h
  obtain ⟨hh, g, d, tt, os⟩ := s
  have L1 : Looks (model prog w) hh (typeOf (.ref x)) (.ref C) := I.type
  have L2 : Looks (model prog w) hh (typeOf (.ref y)) (.ref C) := J.type
  have L3 : Looks (model prog w) hh (fillsNumberSlot (.ref C) nm') true := fills_K X hcd hm hs
  have heq : (Value.ref C == Value.ref C) = true := by simp
  simp only [binaryOp, hi]
  refine wpAny_holding (wpAny_bind ?_)
  unfold binaryOp1
  refine wpAny_bind (L1.at (wpAny_bind (L2.at (wpAny_bind (L3.at ?_)))))
  simp only [heq, if_true]
  repeat ((fail_if_success (with_reducible show wpAny _ _ (tryMethod _ _ _) _ _ _)); lk)
  refine wpAny_mono one (fun r s' hr' => ?_) fun _ _ e => e
  obtain ⟨v, rfl, hq⟩ := hr'
  repeat ((fail_if_success (with_reducible show wpAny _ _ (tryMethod _ _ _) _ _ _)); lk)
  exact hq
end
end Hw

namespace L2
open PySem PySem.Spec PyProof.Rows
/-- what an own class must have for its operators -/
structure OpC (K : PySem.W.Frag) (C : Addr) (op : Operator) (f : Addr) : Prop where
  first : PySem.W.selfFirst K C = true
  at_ : PySem.W.findIn K (.ref C) (PySem.dunder op.info.2) = some (some (.ref f))
  fn : PySem.W.isFn K (.ref f) = true
  refl : PySem.W.findIn K (.ref C) (dunderR op.info.2) = some none
theorem cmpBack_of {X : Cx} {pins : List (Addr × Obj)} {σ : St} {Q : VK} {u : Value} {s : Shared} (h : EP X pins σ Q u s) : PySem.W.CmpBack (EP X pins σ Q) u s := by
  obtain ⟨v, H, I, r, q⟩ := id h
  cases v with
  | non => cases (show u = Value.none from r); exact h
  | bl b => cases (show u = Value.bool b from r); exact h
  | int i => obtain ⟨t, e⟩ := (show ∃ t, u = Value.int i t from r); cases e; exact h
  | str x => obtain ⟨t, e⟩ := (show ∃ t, u = Value.str x t from r); cases e; exact h
  | byt b => obtain ⟨t, e⟩ := (show ∃ t, u = Value.bytes b t from r); cases e; exact h
  | flt b => obtain ⟨t, e⟩ := (show ∃ t, u = Value.float b t from r); cases e; exact h
  | ref a => cases (show u = Value.ref a from r); exact h
  | ty n => cases (show u = Value.type n from r); exact h
/-- an instance at a -/
def Inst (H : Hp) (C : Addr) (x : V) : Prop := ∃ a dx fs, x = .ref a ∧ H a = some (.ins C dx fs)
def rOwn (C : Addr) (sp : Sp) (E : XK) : R2 := fun x y H Q => Inst H C x ∧ ((∃ i, y = .int i) ∨ Inst H C y) ∧ sp [x, y] H Q E
section
variable {X : Cx} {CX : CXT} {k : Nat} {f C : Addr} {fd : FuncData} {ps : List Str} {sp : Sp} {E : XK} {op : Operator}
theorem op_own (c : OpC X.K C op f) (F : FnOk X.prog X.w X.K X.mg X.base CX k f fd ps sp) (hr : Room k X.A) (hb : Binds X.K fd ps []) (hx : Passes CX X E)
    {fo ro : Option Value} (h1 : PySem.W.findIn X.K (.type "int") (PySem.dunder op.info.2) = some fo) (h2 : PySem.W.findIn X.K (.type "int") (dunderR op.info.2) = some ro) (hsub : PySem.W.subIn X.K (.type "int") (.ref C) = some false) :
    OpR X (binaryOp op) (rOwn C sp E) := by
  intro pins s σ H x y u v Q I rx ry h
  obtain ⟨⟨a, dx, fs, ex, ha⟩, hy, hs⟩ := h
  subst ex
  obtain rfl : u = Value.ref a := rx
  obtain ⟨mA, O, _⟩ := ins_get I.hok ha
  obtain ⟨od, J, _⟩ := O.look
  obtain ⟨m, fr⟩ := I.fr
  have run : wpAny (model X.prog X.w) X.A (call (.ref f) [Value.ref a, v]) (PySem.W.CmpBack (EP X pins σ Q)) X.xe s :=
    wpAny_mono (run_fn (vs := [.ref a, y]) (us := [.ref a, v]) F hr hb .nil hx I (.cons rfl (.cons ry .nil)) (by simpa using hs)) (fun _ _ z => cmpBack_of z) fun _ _ z => z
  rcases hy with ⟨i, rfl⟩ | ⟨b, dy, gs, rfl, hb'⟩
  · obtain ⟨t, rfl⟩ := (show ∃ t, v = Value.int i t from ry)
    exact PySem.W.ksp_binT fr I.ok.mod.kin J rfl c.first c.at_ c.fn c.refl (.inl rfl) h1 h2 hsub run
  · obtain rfl : v = Value.ref b := ry
    obtain ⟨mB, O2, _⟩ := ins_get I.hok hb'
    obtain ⟨od2, J2, _⟩ := O2.look
    exact Hw.bin_same fr I.ok.mod.kin J J2 c.first c.at_ c.fn run
/-- -a -/
def rOwn1 (C : Addr) (sp : Sp) (E : XK) : V → Hp → VK → Prop := fun x H Q => Inst H C x ∧ sp [x] H Q E
theorem un_own (hs : PySem.W.findIn X.K (.ref C) "__neg__" = some (some (.ref f))) (hf : PySem.W.isFn X.K (.ref f) = true) (F : FnOk X.prog X.w X.K X.mg X.base CX k f fd ps sp) (hr : Room k X.A) (hb : Binds X.K fd ps []) (hx : Passes CX X E) :
    UnR X (unaryOp .USub) (rOwn1 C sp E) := by
  intro pins s σ H x u Q I rx h
  obtain ⟨⟨a, dx, fs, ex, ha⟩, hs'⟩ := h
  subst ex
  obtain rfl : u = Value.ref a := rx
  obtain ⟨mA, O, _⟩ := ins_get I.hok ha
  obtain ⟨od, J, _⟩ := O.look
  obtain ⟨m, fr⟩ := I.fr
  exact PySem.W.ksp_neg fr I.ok.mod.kin J hs hf (run_fn (vs := [.ref a]) (us := [.ref a]) F hr hb .nil hx I (.cons rfl .nil) (by simpa using hs'))
/-- a == b by an own __eq__, b any value whose type is known -/
def rOwnEq (K : PySem.W.Frag) (C : Addr) (sp : Sp) (E : XK) : R2 := fun x y H Q => Inst H C x ∧ (∃ t, TyX K H y t ∧ PySem.W.notFirst K C t = true) ∧ sp [x, y] H Q E
theorem typ_of {pins : List (Addr × Obj)} {σ : St} {H : Hp} {s : Shared} {x : V} {u t : Value} (I : Inv X pins σ H s) (rx : RelV x u) (ty : TyX X.K H x t) : PySem.W.Looks (model X.prog X.w) s.heap (typeOf u) t := by
  obtain ⟨P, Z, p, _⟩ := kit_of I rx ty
  exact Z.ty _ _ I.kIn p
theorem op_ownEq (hs : PySem.W.findIn X.K (.ref C) "__eq__" = some (some (.ref f))) (hf : PySem.W.isFn X.K (.ref f) = true) (F : FnOk X.prog X.w X.K X.mg X.base CX k f fd ps sp) (hr : Room k X.A) (hb : Binds X.K fd ps []) (hx : Passes CX X E) :
    OpR X (compareOp .Eq) (rOwnEq X.K C sp E) := by
  intro pins s σ H x y u v Q I rx ry h
  obtain ⟨⟨a, dx, fs, ex, ha⟩, ⟨t, ty, nf⟩, hs'⟩ := h
  subst ex
  obtain rfl : u = Value.ref a := rx
  obtain ⟨mA, O, _⟩ := ins_get I.hok ha
  obtain ⟨od, J, _⟩ := O.look
  obtain ⟨m, fr⟩ := I.fr
  show wpAny (model X.prog X.w) X.A (richCompare .Eq (.ref a) v) (EP X pins σ Q) X.xe s
  refine PySem.W.cmp_K (op := .Eq) hr.units0 fr I.ok.mod.kin J (typ_of I ry ty) nf hs hf ?_
  exact wpAny_mono (run_fn (vs := [.ref a, y]) (us := [.ref a, v]) F hr hb .nil hx I (.cons rfl (.cons ry .nil)) (by simpa using hs')) (fun _ _ z => cmpBack_of z) fun _ _ z => z
end
end L2
end

section
/-! Calls by name, in short. -/
namespace L2
open PySem PySem.Spec PyProof.Rows
/-- a def of the text, as it stands behind the top -/
abbrev FD (K : PySem.W.Frag) (st : Stmt) (x qual : Str) (f : Addr) (fd : FuncData) : Prop := FunD K x qual (defArgs st) (defBody st) (defScope st) [] [] f fd
section
variable {P : Program} {w : World} {K : PySem.W.Frag} {mg : Str → Option Value} {base : Heap} {x qual : Str} {params : Arguments} {body : List Stmt} {scope : Scope} {dvs : List V} {kws : List (Str × V)} {f : Addr} {fd : FuncData}
/-- a def that lets no exception out -/
theorem FunD.ok0 {N ps : List Str} {k : Nat} {sp : Sp} (F : FunD K x qual params body scope dvs kws f fd) (S : FnScope N ps scope) (len : ∀ vs H Q E, sp vs H Q E → vs.length = ps.length)
    (hbody : ∀ (cdv : Value) (A : Around) (outer : List Env) (s : Shared) (H : Hp) (vs : List V) (Q : VK) (E : XK), Room k (A.deeper (envOfC qual scope s.heap.objs.size f cdv)) → sp vs H Q E →
      ∃ t, PSs (cxOf (L2.CX P w) P w K mg base N qual scope f cdv A outer s H E).nox body t ∧ t { nx := fun _ H' => Q .non H', rt := Q } (start N vs) H) : FnOk P w K mg base (L2.CX P w) (k + 1) f fd ps sp :=
  FunD.ok F S len fun cdv A outer s H vs Q E hr hsp => let ⟨t, h, q⟩ := hbody cdv A outer s H vs Q E hr hsp; ⟨t, h.nox, q⟩
theorem FunD.okX {N ps : List Str} {k : Nat} {sp : Sp} (F : FunD K x qual params body scope dvs kws f fd) (S : FnScope N ps scope) (len : ∀ vs H Q E, sp vs H Q E → vs.length = ps.length)
    (hbody : ∀ (cdv : Value) (A : Around) (outer : List Env) (s : Shared) (H : Hp) (vs : List V) (Q : VK) (E : XK), Room k (A.deeper (envOfC qual scope s.heap.objs.size f cdv)) → sp vs H Q E →
      ∃ t, PSs (cxOf (L2.CX P w) P w K mg base N qual scope f cdv A outer s H E) body t ∧ t { nx := fun _ H' => Q .non H', rt := Q } (start N vs) H) : FnOk P w K mg base (L2.CX P w) (k + 1) f fd ps sp :=
  FunD.ok F S len hbody
end
/-- a def that stands at the module's name x and keeps the promise sp -/
structure Gf (P : Program) (w : World) (K : PySem.W.Frag) (mg : Str → Option Value) (base : Heap) (x : Str) (k : Nat) (ps : List Str) (sp : Sp) : Prop where
  ex : ∃ (f : Addr) (fd : FuncData), mg x = some (.ref f) ∧ PySem.W.keepIn K (.ref f) = true ∧ Binds K fd ps [] ∧ FnOk P w K mg base (L2.CX P w) k f fd ps sp
/-- a method of the class at C -/
structure Mf (P : Program) (w : World) (K : PySem.W.Frag) (mg : Str → Option Value) (base : Heap) (C : Addr) (m : Str) (k : Nat) (ps : List Str) (sp : Sp) : Prop where
  cl : Cls K C
  ex : ∃ (f : Addr) (fd : FuncData), Meth K C m f ∧ Binds K fd ps [] ∧ FnOk P w K mg base (L2.CX P w) k f fd ps sp
/-- a class whose __init__ keeps sp; dvs: the defaults that are filled in -/
structure Kf (P : Program) (w : World) (K : PySem.W.Frag) (mg : Str → Option Value) (base : Heap) (x : Str) (C : Addr) (k : Nat) (ps : List Str) (dvs : List V) (sp : Sp) : Prop where
  ex : ∃ (f : Addr) (fd : FuncData) (ds : List Value), mg x = some (.ref C) ∧ Mk K C f ∧ Binds K fd ps ds ∧ Vals dvs ds ∧ FnOk P w K mg base (L2.CX P w) k f fd ps sp
section
variable {X : Cx} {j k : Nat} {x m : Str} {C : Addr} {ps : List Str} {dvs : List V} {sp : Sp} {E : XK} {e o : Expr} {es : List Expr} {t : TA} {ta : TE} {p pos apos : Pos}
theorem pe_g (c : Gf X.prog X.w X.K X.mg X.base x k ps sp) (hr : Room j X.A) (hk : k ≤ j) (hx : Passes (L2.CX X.prog X.w) X E) (hg : Gl X x) (ha : PA X (e :: es) t) (hdb : (x == ("__debug__" : Str)) = false := by decide)
    (he : starEach (e :: es) X.env = (false, eval e X.env) :: starEach es X.env := by rfl) (hpl : (backTo pos (starEach es X.env)).any (·.1) = false := by rfl) : PE X (.Call (.Name x p) (e :: es) [] pos) (tCall sp [] E t) := by
  obtain ⟨f, fd, h1, h2, h3, h4⟩ := c.ex
  exact pe_call h4 (hr.mono hk) hg h1 h2 h3 .nil hx ha hdb he hpl
theorem pe_g0 (c : Gf X.prog X.w X.K X.mg X.base x k ps sp) (hr : Room j X.A) (hk : k ≤ j) (hx : Passes (L2.CX X.prog X.w) X E) (hg : Gl X x) (hdb : (x == ("__debug__" : Str)) = false := by decide) : PE X (.Call (.Name x p) [] [] pos) (tCall sp [] E tNil) := by
  obtain ⟨f, fd, h1, h2, h3, h4⟩ := c.ex
  exact pe_call0 h4 (hr.mono hk) hg h1 h2 h3 .nil hx hdb
theorem pe_m {pl : Sem Bool} (c : Mf X.prog X.w X.K X.mg X.base C m k ps sp) (hr : Room j X.A) (hk : k ≤ j) (hx : Passes (L2.CX X.prog X.w) X E) (he : PE X o ta) (ha : PA X (e :: es) t)
    (hst : starEach (e :: es) X.env = (false, eval e X.env) :: starEach es X.env := by rfl) (hpl : (backTo pos (starEach es X.env)).any (·.1) = false := by rfl)
    (ht : eval (.Call (.Attribute o m apos) (e :: es) [] pos) X.env = (do
      let ov ← eval o X.env
      standAt apos.atName
      let (f, first) ← holding [ov] (getMethod ov m pl)
      callWith pos f first (backTo pos (starEach (e :: es) X.env)) (backToKw pos (keywordEach [] X.env))) := by rfl) :
    PE X (.Call (.Attribute o m apos) (e :: es) [] pos) (tMeth C m sp [] E ta t) := by
  obtain ⟨f, fd, h1, h2, h3⟩ := c.ex
  exact pe_meth he c.cl h1 h3 (hr.mono hk) h2 .nil hx ha hst hpl ht
theorem pe_k (c : Kf X.prog X.w X.K X.mg X.base x C k ps dvs sp) (hr : Room j X.A) (hk : k + 1 ≤ j) (hx : Passes (L2.CX X.prog X.w) X E) (hg : Gl X x) (ha : PA X (e :: es) t) (hdb : (x == ("__debug__" : Str)) = false := by decide)
    (he : starEach (e :: es) X.env = (false, eval e X.env) :: starEach es X.env := by rfl) (hpl : (backTo pos (starEach es X.env)).any (·.1) = false := by rfl) : PE X (.Call (.Name x p) (e :: es) [] pos) (tMake C sp dvs E t) := by
  obtain ⟨f, fd, ds, h1, h2, h3, h4, h5⟩ := c.ex
  exact pe_make h2 h5 (hr.mono hk) hg h1 h3 h4 hx ha hdb he hpl
theorem cxOf_K {CX : CXT} {P : Program} {w : World} {K : PySem.W.Frag} {mg : Str → Option Value} {base : Heap} {N : List Str} {q : Str} {sc : Scope} {f : Addr} {cd : Value} {A : Around} {o : List Env} {s : Shared} {H : Hp} {E : XK} : (cxOf CX P w K mg base N q sc f cd A o s H E).K = K := rfl
/-- a tuple (top, bottom) -/
def qv (q : Rat) : List V := [.int q.num, .int (q.den : Int)]
theorem at0 {q : Rat} {v : V} : atI (qv q) 0 = some v ↔ v = .int q.num := by
  have e : atI (qv q) ((0 : Nat) : Int) = some (.int q.num) := atI_nat rfl
  have e2 : atI (qv q) 0 = some (.int q.num) := e
  rw [e2]
  exact ⟨fun z => (Option.some.inj z).symm, fun z => by rw [z]⟩
theorem at1 {q : Rat} {v : V} : atI (qv q) 1 = some v ↔ v = .int (q.den : Int) := by
  have e : atI (qv q) ((1 : Nat) : Int) = some (.int (q.den : Int)) := atI_nat rfl
  have e2 : atI (qv q) 1 = some (.int (q.den : Int)) := e
  rw [e2]
  exact ⟨fun z => (Option.some.inj z).symm, fun z => by rw [z]⟩
def rIxTH : R2 := fun x y H Q => ∃ p xs i v, x = .ref p ∧ y = .int i ∧ H p = some (.tup xs) ∧ atI xs i = some v ∧ Q v H
def rIxLH : R2 := fun x y H Q => ∃ p xs i v, x = .ref p ∧ y = .int i ∧ H p = some (.lst xs) ∧ atI xs i = some v ∧ Q v H
theorem ix_tupH {X : Cx} : IxR X rIxTH := fun va sl pins s σ H x y v u Q I rx ry h hs => by
  obtain ⟨p, xs, i, z, e1, e2, e3, e4, q⟩ := h
  exact ix_tup va sl pins s σ H x y v u Q I rx ry ⟨p, xs, i, z, e1, e2, SqT.of e3, e4, q⟩ hs
theorem ix_listH {X : Cx} : IxR X rIxLH := fun va sl pins s σ H x y v u Q I rx ry h hs => by
  obtain ⟨p, xs, i, z, e1, e2, e3, e4, q⟩ := h
  exact ix_list va sl pins s σ H x y v u Q I rx ry ⟨p, xs, i, z, e1, e2, SqL.of e3, e4, q⟩ hs
theorem call_isiE {X : Cx} {K : PySem.W.Frag} (h : X.K = K) : CallR X (.builtin "isinstance") (rIsi K) := by subst h; exact call_isi
theorem ne_nil {K : PySem.W.Frag} {H : Hp} {a b : Addr} {Q : VK} (ha : H a = some (.lst [])) (hb : H b = some (.lst [])) (k : Q (.bl false) H) : rNeD K (.ref a) (.ref b) H Q :=
  ⟨.list [], .list [], .lst (SqL.of ha) .nil, .lst (SqL.of hb) .nil, by rfl, by rfl, k⟩
theorem eq_pair {K : PySem.W.Frag} {H : Hp} {a b : Addr} {t1 b1 t2 b2 : Int} {Q : VK} (ha : H a = some (.tup [.int t1, .int b1])) (hb : H b = some (.tup [.int t2, .int b2])) (k : Q (.bl (decide (t1 = t2 ∧ b1 = b2))) H) : rEqD K (.ref a) (.ref b) H Q := by
  refine ⟨.tuple [.int t1, .int b1], .tuple [.int t2, .int b2], .tup (SqT.of ha) (.cons (.int _) (.cons (.int _) .nil)), .tup (SqT.of hb) (.cons (.int _) (.cons (.int _) .nil)), by rfl, by rfl, ?_⟩
  have e : PyData.eqv (.tuple [.int t1, .int b1]) (.tuple [.int t2, .int b2]) = decide (t1 = t2 ∧ b1 = b2) := by
    simp [PyData.eqv, PyData.eqvAll, Bool.beq_eq_decide_eq]
  rw [e]
  exact k
section
variable {K : PySem.W.Frag} {H : Hp} {R : Bool → Prop} {i : Int} {c : Bool}
theorem isi_ii (h : R true) : ∃ x x1, ClsV (.ty "int") x1 ∧ TyX K H (.int i) x ∧ ∃ b, PySem.W.kitOne K x x1 = some b ∧ R b := ⟨.type "int", .type "int", .ty _, .base (.int i), true, kit_ty (by decide +kernel), h⟩
theorem isi_ib (h : R false) : ∃ x x1, ClsV (.ty "bool") x1 ∧ TyX K H (.int i) x ∧ ∃ b, PySem.W.kitOne K x x1 = some b ∧ R b := ⟨.type "int", .type "bool", .ty _, .base (.int i), false, kit_ty (by decide +kernel), h⟩
theorem isi_bb (h : R true) : ∃ x x1, ClsV (.ty "bool") x1 ∧ TyX K H (.bl c) x ∧ ∃ b, PySem.W.kitOne K x x1 = some b ∧ R b := ⟨.type "bool", .type "bool", .ty _, .base (.bl c), true, kit_ty (by decide +kernel), h⟩
end
theorem eq_bl3 {K : PySem.W.Frag} {H : Hp} {a b : Addr} {x y z : Bool} {Q : VK} (ha : H a = some (.lst [.bl x, .bl y, .bl z])) (hb : H b = some (.lst [.bl x, .bl y, .bl z])) (k : Q (.bl true) H) : rEqD K (.ref a) (.ref b) H Q := by
  refine ⟨.list [.bool x, .bool y, .bool z], .list [.bool x, .bool y, .bool z], .lst (SqL.of ha) (.cons (.bl _) (.cons (.bl _) (.cons (.bl _) .nil))), .lst (SqL.of hb) (.cons (.bl _) (.cons (.bl _) (.cons (.bl _) .nil))), by rfl, by rfl, ?_⟩
  have e : PyData.eqv (.list [.bool x, .bool y, .bool z]) (.list [.bool x, .bool y, .bool z]) = true := by simp [PyData.eqv, PyData.eqvAll]
  rw [e]
  exact k
def gTupH (n : Nat) (t : TGs) : TG := fun v σ H Q => ∃ a xs, v = .ref a ∧ H a = some (.tup xs) ∧ xs.length = n ∧ t xs σ H Q
theorem pg_tupH {X : Cx} {es : List Expr} {k : Nat} {t : TGs} {n : Nat} {pos : Pos} (hc : X.calm = true) (h : PGs X es t)
    (hn : (assignEach es X.env).length = n := by rfl) (hst : (assignEach es X.env).findIdx? (·.1) = none := by rfl) : PG X (.Tuple es k pos) (gTupH n t) :=
  ⟨fun pins s σ H v u Q I r hw => by
    obtain ⟨a, xs, e1, e2, e3, e4⟩ := hw
    exact (pg_tup (pos := pos) (k := k) hc h hn hst).run pins s σ H v u Q I r ⟨a, xs, e1, SqT.of e2, e3, e4⟩⟩
theorem line_le {n : Nat} (h : n ≤ 1000) : n ≤ sizeLine := Nat.le_trans h (by decide)
theorem scal_ii {i j : Int} : scal (.int i) (.int j) = true := rfl
theorem scal_bb {i j : Bool} : scal (.bl i) (.bl j) = true := rfl
theorem scal_ss {i j : Str} : scal (.str i) (.str j) = true := rfl
theorem same_new {H : Hp} {p : Addr} {o : HO} (h : H p = none) : Same H (upd H p o) := fun b u e => by rw [upd_ne (ne_of_none e h)]; exact e
theorem seqL_same {K : PySem.W.Frag} {H H' : Hp} {a : Addr} {xs : List V} (e : Same H H') (h : SqL K H a xs) : SqL K H' a xs := e.seq h
theorem seqT_same {K : PySem.W.Frag} {H H' : Hp} {a : Addr} {xs : List V} (e : Same H H') (h : SqT K H a xs) : SqT K H' a xs :=
  h.elim (fun h => .inl (h.elim (fun h => .inl (e _ _ h)) fun ⟨o, h⟩ => .inr ⟨o, e _ _ h⟩)) fun h => .inr h
theorem upd_get {H : Hp} {p : Addr} {o u : HO} (h : H p = none) {b : Addr} (e : H b = some u) : upd H p o b = some u := by rw [upd_ne (ne_of_none e h)]; exact e
/-- floor division by any divisor below 2 ^ 9000 in size, not 0 -/
def CDivX (_ j : Int) : Prop := j ≠ 0 ∧ j.natAbs.log2 < 9000
theorem op_fdivX : OpR X (binaryOp .FloorDiv) (rI CDivX fun i j => .int (i.fdiv j)) := opI fun i j _ _ _ _ _ hc q => floordiv_int hc.1 q (.inl (PyProof.noPylong_of_log2 hc.2))
end

/-- an operator of the own class at C -/
structure Of (P : Program) (w : World) (K : PySem.W.Frag) (mg : Str → Option Value) (base : Heap) (C : Addr) (op : Operator) (k : Nat) (sp : Sp) : Prop where
  ex : ∃ (f : Addr) (fd : FuncData) (ps : List Str) (fo ro : Option Value), OpC K C op f ∧ Binds K fd ps [] ∧ FnOk P w K mg base (L2.CX P w) k f fd ps sp ∧
    PySem.W.findIn K (.type "int") (PySem.dunder op.info.2) = some fo ∧ PySem.W.findIn K (.type "int") (dunderR op.info.2) = some ro ∧ PySem.W.subIn K (.type "int") (.ref C) = some false
/-- -x of the own class at C -/
structure Nf (P : Program) (w : World) (K : PySem.W.Frag) (mg : Str → Option Value) (base : Heap) (C : Addr) (k : Nat) (sp : Sp) : Prop where
  ex : ∃ (f : Addr) (fd : FuncData) (ps : List Str), PySem.W.findIn K (.ref C) "__neg__" = some (some (.ref f)) ∧ PySem.W.isFn K (.ref f) = true ∧ Binds K fd ps [] ∧ FnOk P w K mg base (L2.CX P w) k f fd ps sp
/-- == of the own class at C -/
structure Ef (P : Program) (w : World) (K : PySem.W.Frag) (mg : Str → Option Value) (base : Heap) (C : Addr) (k : Nat) (sp : Sp) : Prop where
  ex : ∃ (f : Addr) (fd : FuncData) (ps : List Str), PySem.W.findIn K (.ref C) "__eq__" = some (some (.ref f)) ∧ PySem.W.isFn K (.ref f) = true ∧ Binds K fd ps [] ∧ FnOk P w K mg base (L2.CX P w) k f fd ps sp
/-- an own exception class at C, its __init__ keeps sp -/
structure Xf (P : Program) (w : World) (K : PySem.W.Frag) (mg : Str → Option Value) (base : Heap) (x : Str) (C : Addr) (k : Nat) (sp : Sp) : Prop where
  ex : ∃ (f : Addr) (fd : FuncData) (ps : List Str), mg x = some (.ref C) ∧ OexC K C ∧ PySem.W.findIn K (.ref C) "__init__" = some (some (.ref f)) ∧ PySem.W.typeIn K (.ref f) = some (.type "function") ∧ Binds K fd ps [] ∧ FnOk P w K mg base (L2.CX P w) k f fd ps sp
section
variable {X : Cx} {j k : Nat} {x : Str} {C : Addr} {sp : Sp} {E : XK} {op : Operator} {e : Expr} {es : List Expr} {t : TA} {p pos pos2 : Pos} {W : WX}
theorem op_o (c : Of X.prog X.w X.K X.mg X.base C op k sp) (hr : Room j X.A) (hk : k ≤ j) (hx : Passes (L2.CX X.prog X.w) X E) : OpR X (binaryOp op) (rOwn C sp E) := by
  obtain ⟨f, fd, ps, fo, ro, h1, h2, h3, h4, h5, h6⟩ := c.ex
  exact op_own h1 h3 (hr.mono hk) h2 hx h4 h5 h6
theorem un_o (c : Nf X.prog X.w X.K X.mg X.base C k sp) (hr : Room j X.A) (hk : k ≤ j) (hx : Passes (L2.CX X.prog X.w) X E) : UnR X (unaryOp .USub) (rOwn1 C sp E) := by
  obtain ⟨f, fd, ps, h1, h2, h3, h4⟩ := c.ex
  exact un_own h1 h2 h4 (hr.mono hk) h3 hx
theorem eq_o (c : Ef X.prog X.w X.K X.mg X.base C k sp) (hr : Room j X.A) (hk : k ≤ j) (hx : Passes (L2.CX X.prog X.w) X E) : OpR X (compareOp .Eq) (rOwnEq X.K C sp E) := by
  obtain ⟨f, fd, ps, h1, h2, h3, h4⟩ := c.ex
  exact op_ownEq h1 h2 h4 (hr.mono hk) h3 hx
theorem ps_raiseX (c : Xf X.prog X.w X.K X.mg X.base x C k sp) (hr : Room j X.A) (hk : k + 1 ≤ j) (hc : X.calm = true) (tk : Takes X W) (hg : Gl X x) (ha : PA X (e :: es) t)
    (hdb : (x == ("__debug__" : Str)) = false := by decide) (he : starEach (e :: es) X.env = (false, eval e X.env) :: starEach es X.env := by rfl) (hpl : (backTo pos (starEach es X.env)).any (·.1) = false := by rfl) :
    PS X (.Raise (some (.Call (.Name x p) (e :: es) [] pos)) none pos2) (fun _ σ H => tMkO C sp [] t σ H fun cls d H' => W cls d σ H') := by
  obtain ⟨f, fd, ps, h1, h2, h3, h4, h5, h6⟩ := c.ex
  exact ps_raise hc tk (pmk_oex h2 h3 h4 h6 (hr.mono hk) h5 .nil passL hg h1 ha hdb he hpl)
theorem passX (hs : X.stack = X.env :: X.outer) (hf : X.env.frame = some X.env.locals) (hex : X.ex = []) {E₁ : Value → Shared → Prop}
    (hx : X.xe = fun e s' => wpAny (model X.prog X.w) X.A (leaving X.env e) (fun _ s'' => CX X.prog X.w X.outer X.H_0 X.s_0 E e s'') E₁ s') : Passes (L2.CX X.prog X.w) X E :=
  passes_call (takes_of hs hf hex hx) fun _ _ _ _ z => z
end
/-! ### own exceptions with fields -/
/-- __init__(self, a, b): self.a = a; self.b = b -/
def spX2 (C : Addr) (f1 f2 : Str) : Sp := fun vs H Q _ => ∃ (a : Addr) (x y : V), vs = [.ref a, x, y] ∧ H a = some (exo a C none) ∧
  ∀ d, H d = none → d ≠ a → Q .non (upd (upd (upd H d (exd d [(f1, x)])) a (exo a C (some d))) d (exd d [(f2, y), (f1, x)]))
def spX1 (C : Addr) (f1 : Str) : Sp := fun vs H Q _ => ∃ (a : Addr) (x : V), vs = [.ref a, x] ∧ H a = some (exo a C none) ∧
  ∀ d, H d = none → d ≠ a → Q .non (upd (upd H d (exd d [(f1, x)])) a (exo a C (some d)))
theorem x2_made {H1 : Hp} {a d C : Addr} {f1 f2 : Str} {x y : V} {Q : XK} (ha : H1 a = none) (hd : H1 d = none) (hda : d ≠ a)
    (k : ∀ H', Same H1 H' → H' d = some (.xd [(f2, y), (f1, x)]) → Q (.ref C) (some d) H') :
    ∃ (d' : Addr), (upd (upd (upd (upd H1 a (exo a C none)) d (exd d [(f1, x)])) a (exo a C (some d))) d (exd d [(f2, y), (f1, x)])) a = some (exo a C (some d')) ∧ ∃ (fs : List (Str × V)),
      (upd (upd (upd (upd H1 a (exo a C none)) d (exd d [(f1, x)])) a (exo a C (some d))) d (exd d [(f2, y), (f1, x)])) d' = some (exd d' fs) ∧ H1 d' = none ∧
      Q (.ref C) (some d') (upd (del (upd (upd (upd (upd H1 a (exo a C none)) d (exd d [(f1, x)])) a (exo a C (some d))) d (exd d [(f2, y), (f1, x)])) a) d' (.xd fs)) := by
  refine ⟨d, by rw [upd_ne hda.symm, upd_same], _, upd_same, hd, k _ (fun b o e => ?_) upd_same⟩
  have n1 := ne_of_none e ha
  have n2 := ne_of_none e hd
  rw [upd_ne n2, del_ne n1, upd_ne n2, upd_ne n1, upd_ne n2, upd_ne n1]
  exact e
theorem x1_made {H1 : Hp} {a d C : Addr} {f1 : Str} {x : V} {Q : XK} (ha : H1 a = none) (hd : H1 d = none) (hda : d ≠ a)
    (k : ∀ H', Same H1 H' → H' d = some (.xd [(f1, x)]) → Q (.ref C) (some d) H') :
    ∃ (d' : Addr), (upd (upd (upd H1 a (exo a C none)) d (exd d [(f1, x)])) a (exo a C (some d))) a = some (exo a C (some d')) ∧ ∃ (fs : List (Str × V)),
      (upd (upd (upd H1 a (exo a C none)) d (exd d [(f1, x)])) a (exo a C (some d))) d' = some (exd d' fs) ∧ H1 d' = none ∧
      Q (.ref C) (some d') (upd (del (upd (upd (upd H1 a (exo a C none)) d (exd d [(f1, x)])) a (exo a C (some d))) a) d' (.xd fs)) := by
  refine ⟨d, upd_same, _, by rw [upd_ne hda, upd_same], hd, k _ (fun b o e => ?_) upd_same⟩
  have n1 := ne_of_none e ha
  have n2 := ne_of_none e hd
  rw [upd_ne n2, del_ne n1, upd_ne n1, upd_ne n2, upd_ne n1]
  exact e
end L2
end

section
/-! Lambdas handed to a def of the text; the tables of code objects beside a thing that changes. -/
namespace L2
open PySem PySem.Spec PyProof.Rows LamX
section
variable {P : Program} {w : World} {K : PySem.W.Frag} {mg : Str → Option Value} {base : Heap} {x qual : Str} {params : Arguments} {body : List Stmt} {scope : Scope} {dvs : List V} {kws : List (Str × V)} {f : Addr} {fd : FuncData}
/-- a def that lets no exception out, its code object named -/
theorem FunD.okC {N ps : List Str} {k : Nat} {sp : Sp} (F : FunD K x qual params body scope dvs kws f fd) (S : FnScope N ps scope) (len : ∀ vs H Q E, sp vs H Q E → vs.length = ps.length)
    (hbody : ∀ (A : Around) (outer : List Env) (s : Shared) (H : Hp) (vs : List V) (Q : VK) (E : XK), Room k (A.deeper (envOfC qual scope s.heap.objs.size f fd.code)) → sp vs H Q E →
      ∃ t, PSs (cxOf (L2.CX P w) P w K mg base N qual scope f fd.code A outer s H E).nox body t ∧ t { nx := fun _ H' => Q .non H', rt := Q } (start N vs) H) : FnOk P w K mg base (L2.CX P w) (k + 1) f fd ps sp := by
  obtain ⟨oc, od, dV, kV, doc, pm, an, cdv, ct, osl, rfl, lk, hcd, _, _⟩ := F.ex
  exact fn_of lk hcd S len fun A outer s H vs Q E hr hsp => let ⟨t, h, q⟩ := hbody A outer s H vs Q E hr hsp; ⟨t, h.nox, q⟩
end
section
variable {X : Cx}
/-- x(lambda: body), x a def of the text -/
theorem pe_lamF {T : List (Addr × Str)} {TT : (XK → Hp → VK → Prop) → Hp → VK → Prop} {x a : Str} {g c P : Addr} {fdg : FuncData} {k : Nat} {pg : Arguments} {bg : List Stmt} {sg : Scope} {Ng : List Str}
    {params : Arguments} {body : Expr} {scope : Scope} {t : XK → TE} {p lpos pos : Pos} (F : FunD X.K x x pg bg sg [] [] g fdg) (bB : Binds X.K fdg [a] []) (hg : Gl X x) (hm : X.mg x = some (.ref g)) (Sg : FnScope Ng [a] sg) (hNg : Ng[0]? = some a) (hva : Vis sg a)
    (hG : ∀ cdg : Value, GivesTo X Ng x sg g cdg bg a (X.env.qual ++ "<lambda>") TT)
    (TB : TabB X.base X.mg c P) (hcode : X.env.code = .ref c) (hmT : (P, X.env.qual ++ "<lambda>") ∈ T) (hu : ∀ p ∈ T, p.1 = P → p.2 = X.env.qual ++ "<lambda>") (hr : Room (k + 2) X.A) (L : LamS X.env.scope scope) (hdef : defaultsOf params X.env = ([], []))
    (hbind : ∀ (q : Str) (cl : List (Str × Addr)) (pm cv ctv : Value), bindArgs (PySem.W.kla_fn "<lambda>" q params body scope cl pm cv ctv) ⟨[], []⟩ = pure [])
    (hbody : ∀ (A : Around) (outer : List Env) (s : Shared) (H : Hp) (E : XK) (f c' : Addr), Room k (A.deeper (lamEnv X scope s.heap.objs.size f c')) → PE (lamCx X A outer s H E scope f c') body (t E))
    (hdb : (x == ("__debug__" : Str)) = false := by decide) (hd : (a == ("__debug__" : Str)) = false := by decide) (hcd : (a == ("__classdict__" : Str)) = false := by decide) :
    PE X (.Call (.Name x p) [.Lambda params body scope lpos] [] pos) (tLam T TT t) := by
  obtain ⟨oc, od, dV, kV, doc, pm, an, cdv, ct, osl, rfl, lk, hcg, _, _⟩ := F.ex
  exact pe_lamcall hg hm F.kp lk hcg bB Sg hNg hva (hG cdv) TB hcode hmT hu hr L hdef hbind hbody hdb hd hcd
end
/-- at a raise, all slots are there -/
theorem takes_len {X : Cx} {W : WX} (t : Takes X W) : Takes X (fun cls d σ H => σ.length = X.N.length → W cls d σ H) := fun e s1 h => by
  obtain ⟨a, B, sI, pins, σ', H', cls, d, e1, J, r1, r2, r3, r4, r5, r6, z⟩ := h
  exact t e s1 ⟨a, B, sI, pins, σ', H', cls, d, e1, J, r1, r2, r3, r4, r5, r6, z J.len⟩
theorem Room.u200 {k : Nat} {A : Around} (r : Room k A) : A.units + 200 < cLine := by have := r.un; omega
theorem mem1 {P : Addr} {q : Str} : ∀ p ∈ [(P, q)], p.1 = P → p.2 = q := fun p hp _ => by rw [List.mem_singleton.mp hp]
abbrev qL : Str := ("law" : Str) ++ ".<locals>." ++ "<lambda>"
/-- the tables, the heap changed at p only, which is neither a table nor a code object -/
theorem tabS_at {H H' : Hp} {T p : Addr} {q : Str} {o : HO} (t : TabS H T q) (hp : H p = some o) (h1 : ∀ ps, o ≠ .tbl ps) (h2 : ∀ c, o ≠ CodeO c q) (e : ∀ b u, b ≠ p → H b = some u → H' b = some u) : TabS H' T q := by
  obtain ⟨ps, e1, e2, e3⟩ := t
  refine ⟨ps, e _ _ (fun z => ?_) e1, e2, fun pos cv hc => ?_⟩
  · rw [z, hp] at e1
    exact h1 _ (Option.some.inj e1)
  · obtain ⟨c, r1, r2⟩ := e3 pos cv hc
    refine ⟨c, r1, e _ _ (fun z => ?_) r2⟩
    rw [z, hp] at r2
    exact h2 _ (Option.some.inj r2)
theorem tabs_at {T : List (Addr × Str)} {H H' : Hp} {p : Addr} {o : HO} (t : Tabs T H) (hp : H p = some o) (h1 : ∀ ps, o ≠ .tbl ps) (h2 : ∀ c q, o ≠ CodeO c q) (e : ∀ b u, b ≠ p → H b = some u → H' b = some u) : Tabs T H' :=
  fun z hz => tabS_at (t z hz) hp h1 (fun c => h2 c _) e
theorem ne_bls {K : PySem.W.Frag} {H : Hp} {a b : Addr} {Q : VK} (bs : List Bool) (ha : H a = some (.lst (bs.map V.bl))) (hb : H b = some (.lst (bs.map V.bl))) (sh : SeqAt.shaped (.list (bs.map PyData.bool)) = true) (k : Q (.bl false) H) : rNeD K (.ref a) (.ref b) H Q := by
  have d : ∀ (l : List Bool), DpAll K H (l.map V.bl) (l.map PyData.bool) := fun l => by
    induction l with
    | nil => exact .nil
    | cons x l ih => exact .cons (.bl x) ih
  refine ⟨.list (bs.map .bool), .list (bs.map .bool), .lst (SqL.of ha) (d bs), .lst (SqL.of hb) (d bs), sh, sh, ?_⟩
  have e : ∀ l : List Bool, PyData.eqvAll (l.map PyData.bool) (l.map PyData.bool) = true := fun l => by
    induction l with
    | nil => rfl
    | cons x l ih => simp [PyData.eqvAll, PyData.eqv, ih]
  have e2 : PyData.eqv (.list (bs.map PyData.bool)) (.list (bs.map PyData.bool)) = true := by simp [PyData.eqv, e]
  rw [e2]
  exact k
/-- what is asked of an own exception class whose fields are read -/
structure XrC (K : PySem.W.Frag) (C : Addr) (f1 f2 : Str) : Prop where
  T : XfC K C
  n1 : PySem.W.findIn K (.ref C) f1 = some none
  n2 : PySem.W.findIn K (.ref C) f2 = some none
  me : PySem.W.exmOne K (.ref C) (.ref C) = some true
/-- calls; only the exception with these two fields is wished -/
def TBot (CB : Addr) (f1 f2 : Str) (v1 v2 : V) : (XK → Hp → VK → Prop) → Hp → VK → Prop := fun tl H Q =>
  tl (fun cls d H' => cls = .ref CB ∧ ∃ dd, d = some dd ∧ H' dd = some (.xd [(f2, v2), (f1, v1)]) ∧ ∀ H'', Same H' H'' → Q (.bl true) H'') H fun _ H' => Q (.bl false) H'
theorem eq_sn {K : PySem.W.Frag} {H : Hp} {a b : Addr} {i j : Str} {m n : Int} {Q : VK} (ha : H a = some (.tup [.str i, .int m])) (hb : H b = some (.tup [.str j, .int n])) (si : SeqAt.shaped (.tuple [.str i, .int m]) = true) (sj : SeqAt.shaped (.tuple [.str j, .int n]) = true) (k : Q (.bl (decide (i = j ∧ m = n))) H) : rEqD K (.ref a) (.ref b) H Q := by
  refine ⟨.tuple [.str i, .int m], .tuple [.str j, .int n], .tup (SqT.of ha) (.cons (.str _) (.cons (.int _) .nil)), .tup (SqT.of hb) (.cons (.str _) (.cons (.int _) .nil)), si, sj, ?_⟩
  have e : PyData.eqv (.tuple [.str i, .int m]) (.tuple [.str j, .int n]) = decide (i = j ∧ m = n) := by
    simp [PyData.eqv, PyData.eqvAll, Bool.beq_eq_decide_eq]
  rw [e]
  exact k
end L2
end

section
/-! What the head's facts are asked beside the library's: exceptions with an __init__, operators. -/
namespace HwH
open PySem PySem.Spec PyProof.Rows L2 He
def oexB (K : PySem.W.Frag) (C : Addr) : Bool := (match K.lookup C with
  | some ⟨.type ty, _, .cls cd, sl⟩ => decide (ty = "type") && (cd.hasDict && (!cd.hasDel && ((match cd.mro with
    | .ref c :: bm => decide (c = C) && PySem.HandSPX.refsVE bm
    | _ => false) && (match sl.toList with
    | [_, _, _, _, some (.builtin nid), _] => decide (nid = "ValueError.__new__")
    | _ => false))))
  | _ => false) && (eqO (PySem.W.findIn K (.ref C) "__setattr__") (some (some (.builtin "object.__setattr__"))) && (decide (PySem.W.subIn K (.ref C) (.type "BaseException") = some true) && (decide (PySem.W.typeIn K (.ref C) = some (.type "type")) && PySem.W.keepIn K (.ref C))))
theorem oexB_ok {K : PySem.W.Frag} {C : Addr} (h : oexB K C = true) : OexC K C := by
  obtain ⟨h1, h⟩ := ba h
  obtain ⟨h2, h⟩ := ba h
  obtain ⟨h3, h⟩ := ba h
  obtain ⟨h4, h5⟩ := ba h
  refine ⟨?_, eqO_ok h2, of_decide_eq_true h3, of_decide_eq_true h4, h5⟩
  cases q : K.lookup C with
  | none =>
    rw [q] at h1
    cases h1
  | some o =>
    obtain ⟨oc, od, dt, sl⟩ := o
    rw [q] at h1
    cases oc with
    | type ty =>
      cases dt with
      | cls cd =>
        obtain ⟨nm, bs, mro, ns, qn, hd, sn, sub, ab, col, hdel⟩ := cd
        obtain ⟨g1, h1⟩ := ba h1
        obtain ⟨g2, h1⟩ := ba h1
        obtain ⟨g3, h1⟩ := ba h1
        obtain ⟨g4, g5⟩ := ba h1
        obtain ⟨sl⟩ := sl
        have e1 : ty = "type" := of_decide_eq_true g1
        have e2 : hd = true := g2
        have e3 : hdel = false := by
          have : (!hdel) = true := g3
          simpa using this
        subst e1 e2 e3
        match mro, g4 with
        | .ref c :: bm, g4 =>
          obtain ⟨g6, g7⟩ := ba g4
          have e4 : c = C := of_decide_eq_true g6
          subst e4
          match sl, g5 with
          | [k0, k1, k2, k3, some (.builtin nid), k5], g5 =>
            have e5 : nid = "ValueError.__new__" := of_decide_eq_true g5
            subst e5
            exact ⟨nm, qn, ns, bs, bm, sn, sub, ab, col, od, k0, k1, k2, k3, k5, rfl, g7⟩
      | _ => cases h1
    | _ => cases h1
def opB (K : PySem.W.Frag) (C : Addr) (op : Operator) : Bool := PySem.W.selfFirst K C && (eqO (PySem.W.findIn K (.ref C) (PySem.dunder op.info.2)) (some (some (.ref (ma K C (PySem.dunder op.info.2))))) && (PySem.W.isFn K (.ref (ma K C (PySem.dunder op.info.2))) && (eqO (PySem.W.findIn K (.ref C) (dunderR op.info.2)) (some none) &&
  ((PySem.W.findIn K (.type "int") (PySem.dunder op.info.2)).isSome && ((PySem.W.findIn K (.type "int") (dunderR op.info.2)).isSome && decide (PySem.W.subIn K (.type "int") (.ref C) = some false))))))
theorem opB_ok {K : PySem.W.Frag} {C : Addr} {op : Operator} (h : opB K C op = true) : OpC K C op (ma K C (PySem.dunder op.info.2)) ∧ ∃ fo ro, PySem.W.findIn K (.type "int") (PySem.dunder op.info.2) = some fo ∧ PySem.W.findIn K (.type "int") (dunderR op.info.2) = some ro ∧ PySem.W.subIn K (.type "int") (.ref C) = some false := by
  obtain ⟨h1, h⟩ := ba h
  obtain ⟨h2, h⟩ := ba h
  obtain ⟨h3, h⟩ := ba h
  obtain ⟨h4, h⟩ := ba h
  obtain ⟨h5, h⟩ := ba h
  obtain ⟨h6, h7⟩ := ba h
  obtain ⟨fo, e5⟩ := Option.isSome_iff_exists.mp h5
  obtain ⟨ro, e6⟩ := Option.isSome_iff_exists.mp h6
  exact ⟨⟨h1, eqO_ok h2, h3, eqO_ok h4⟩, fo, ro, e5, e6, of_decide_eq_true h7⟩
/-- a method that is reached through a special name -/
def spcB (K : PySem.W.Frag) (C : Addr) (m : Str) : Bool := eqO (PySem.W.findIn K (.ref C) m) (some (some (.ref (ma K C m)))) && PySem.W.isFn K (.ref (ma K C m))
theorem spcB_ok {K : PySem.W.Frag} {C : Addr} {m : Str} (h : spcB K C m = true) : PySem.W.findIn K (.ref C) m = some (some (.ref (ma K C m))) ∧ PySem.W.isFn K (.ref (ma K C m)) = true := by
  obtain ⟨h1, h2⟩ := ba h
  exact ⟨eqO_ok h1, h2⟩
def iniB (K : PySem.W.Frag) (C : Addr) : Bool := eqO (PySem.W.findIn K (.ref C) "__init__") (some (some (.ref (ma K C "__init__")))) && decide (PySem.W.typeIn K (.ref (ma K C "__init__")) = some (.type "function"))
theorem iniB_ok {K : PySem.W.Frag} {C : Addr} (h : iniB K C = true) : PySem.W.findIn K (.ref C) "__init__" = some (some (.ref (ma K C "__init__"))) ∧ PySem.W.typeIn K (.ref (ma K C "__init__")) = some (.type "function") := by
  obtain ⟨h1, h2⟩ := ba h
  exact ⟨eqO_ok h1, of_decide_eq_true h2⟩
def xrB (K : PySem.W.Frag) (C : Addr) (f1 f2 : Str) : Bool := xfB K C && (eqO (PySem.W.findIn K (.ref C) f1) (some none) && (eqO (PySem.W.findIn K (.ref C) f2) (some none) && decide (PySem.W.exmOne K (.ref C) (.ref C) = some true)))
theorem xrB_ok {K : PySem.W.Frag} {C : Addr} {f1 f2 : Str} (h : xrB K C f1 f2 = true) : XrC K C f1 f2 := by
  obtain ⟨h1, h⟩ := ba h
  obtain ⟨h2, h⟩ := ba h
  obtain ⟨h3, h4⟩ := ba h
  exact ⟨xfB_ok h1, eqO_ok h2, eqO_ok h3, of_decide_eq_true h4⟩
def bfunB (K : PySem.W.Frag) (x : Str) (id : String) : Bool := eqO (PySem.W.nsIn K mainGlobals x) (some (some (.builtin id)))
theorem bfunB_ok {K : PySem.W.Frag} {h : Heap} {mg : Str → Option Value} (X : K.In h) (G : h.Ns mainGlobals mg) {x : Str} {id : String} (c : bfunB K x id = true) : mg x = some (.builtin id) := PySem.W.mg_of X G (eqO_ok c)
/-- a def's code object, its table -/
theorem code_of {K : PySem.W.Frag} {p : Defn} {x qual : Str} {params : Arguments} {body : List Stmt} {scope : Scope} {dvs : List V} {kws : List (Str × V)} {fd : FuncData} (F : FunD K x qual params body scope dvs kws (fAd K p) fd) : fd.code = .ref (codeOf K p) := by
  obtain ⟨oc, od, dV, kV, doc, pm, an, cdv, ct, osl, rfl, lk, hcd, _, _⟩ := F.ex
  obtain ⟨c, rfl⟩ := codeIn_ref hcd
  rw [codeOf_eq lk rfl]
end HwH
end

section
/-! Own exceptions as values; texts of data by repr. -/
namespace L2
open PySem PySem.Spec PyProof.Rows LamX
section
variable {X : Cx}
/-! ### isinstance of own exceptions -/
/-- what a class of exceptions must say, for isinstance and for fields -/
structure EvC (K : PySem.W.Frag) (C : Addr) : Prop where
  T : XfC K C
  ha : PySem.W.findIn K (.ref C) "__class__" = some (some (.builtin "object.__class__"))
  hn : PySem.W.specialIn K (.builtin "object.__class__") "__get__" = some (some (.builtin "getset_descriptor.__get__"))
  ht : PySem.W.takesIn K (.builtin "object.__class__") = some true
  hm : PySem.W.mroIn K C (.type "object") = some true
theorem EvC.kit {K : PySem.W.Frag} {C x : Addr} {ox : Obj} {od : Option Obj} (c : EvC K C) : PySem.W.KitX K (.ref x) (.ref C) (fun h => PySem.W.InstAt h x ox C od) :=
  PySem.W.kitx_exc (by obtain ⟨cd, e, _⟩ := PySem.W.any_some c.T.hdC; rw [e]; rfl) c.T.ga c.T.gg c.T.exC c.ha c.hn c.ht c.hm
/-- an exception held at a, of class C, with these fields -/
def ExV (H : Hp) (C : Addr) (x : V) (fs : List (Str × V)) : Prop := ∃ a, x = .ref a ∧ ((fs = [] ∧ H a = some (exo a C none)) ∨ ∃ d, H a = some (exo a C (some d)) ∧ H d = some (exd d fs))
def rIsX (K : PySem.W.Frag) : List V → Hp → VK → Prop := fun xs H Q => ∃ (x c : V) (C : Addr) (fs : List (Str × V)) (u : Value) (b : Bool), xs = [x, c] ∧ ExV H C x fs ∧ EvC K C ∧ ClsV c u ∧ PySem.W.kitOne K (.ref C) u = some b ∧ Q (.bl b) H
theorem inst_of {pins : List (Addr × Obj)} {σ : L2.St} {H : Hp} {s : Shared} {C a : Addr} {fs : List (Str × V)} (I : Inv X pins σ H s) (h : (fs = [] ∧ H a = some (exo a C none)) ∨ ∃ d, H a = some (exo a C (some d)) ∧ H d = some (exd d fs)) :
    ∃ ox od, PySem.W.InstAt s.heap a ox C od ∧ (od.isSome = true → ∃ d o, od = some o ∧ H d = some (exd d fs) ∧ s.heap.get? d = some o) := by
  rcases h with ⟨_, h⟩ | ⟨d, h, hd⟩
  · obtain ⟨t, ho⟩ := exo_at I.hok h
    exact ⟨_, none, ⟨ho, rfl, rfl, trivial⟩, fun z => by cases z⟩
  · obtain ⟨t, ho⟩ := exo_at I.hok h
    obtain ⟨mA, hns, rel⟩ := exd_at I.hok hd
    obtain ⟨o, es, ep, e1, e2, e3⟩ := hns
    exact ⟨_, some o, ⟨ho, rfl, rfl, e1⟩, fun _ => ⟨d, o, rfl, hd, e1⟩⟩
theorem call_isX {K : PySem.W.Frag} (hK : X.K = K) : CallR X (.builtin "isinstance") (rIsX K) := by
  subst hK
  intro pins s σ H xs us Q I r h
  obtain ⟨x, c, C, fs, cv, b, rfl, ⟨a, rfl, hx⟩, hc, hv, hk, q⟩ := h
  obtain ⟨u1, u2, rfl, r1, r2⟩ := r.two
  obtain rfl : u1 = Value.ref a := r1
  obtain ⟨ox, od, J, _⟩ := inst_of I hx
  have e2 : u2 = cv := by
    cases hv with
    | _ => first | exact r2 | exact r2.symm | (cases r2; rfl)
  subst e2
  exact PySem.W.kia_one hc.kit I.kIn J hk (fun z => nomatch z) fun tk => ⟨.bl b, H, I.kept (t' := tk) fun _ _ z => z, rfl, q⟩
/-! ### fields -/
def tXv (K : PySem.W.Frag) (te : TE) (n : Str) : TE := fun σ H Q => te σ H fun x H1 => ∃ (C : Addr) (fs : List (Str × V)) (v : V), ExV H1 C x fs ∧ EvC K C ∧ PySem.W.findIn K (.ref C) n = some none ∧ fs.lookup n = some v ∧ Q v H1
theorem pe_xv {K : PySem.W.Frag} {e : Expr} {te : TE} {pos : Pos} {n : Str} (hK : X.K = K) (he : PE X e te) (hb : attributeBase e n X.env (eval e X.env) = eval e X.env := by rfl) : PE X (.Attribute e n pos) (tXv K te n) := by
  subst hK
  refine ⟨fun pins s σ H Q I h => attr_of hb (thn (he.run pins s σ H _ I h) fun u s1 hh => ?_)⟩
  obtain ⟨x, H1, I1, rx, C, fs, v, ⟨a, rfl, hx⟩, hc, hno, l, q⟩ := hh
  obtain rfl : u = Value.ref a := rx
  rcases hx with ⟨rfl, _⟩ | ⟨d, hx, hd⟩
  · cases l
  obtain ⟨t, ho⟩ := exo_at I1.hok hx
  obtain ⟨mA, hns, rel⟩ := exd_at I1.hok hd
  obtain ⟨oD, es, ep, e1, e2, e3⟩ := id hns
  obtain ⟨od, hod, hl⟩ := lookIn_ns ⟨_, es, ep, e1, e2, e3⟩
  have hod' : oD = od := by rw [e1] at hod; exact Option.some.inj hod
  obtain ⟨w', hw, rw'⟩ := RelO.some_of (v := v) (o := mA n) (by rw [← l]; exact rel n)
  have J : PySem.W.InstAt s1.heap a _ C (some od) := ⟨ho, rfl, rfl, hod⟩
  exact HandSPX.exc_get I1.kIn J hc.T.ga hc.T.gg hc.T.exC (PySem.W.findObj_own hc.T.hdC hno rfl (by rw [hl, hw])) (handed_of rw') ⟨v, H1, I1.tok _, rw', q⟩
/-! ### making one -/
def tMkV (C : Addr) (sp : Sp) (ta : TA) : TE := fun σ H Q => ta σ H fun vs H1 => vs.length ≤ 1000 ∧ ∀ a, H1 a = none → sp (.ref a :: vs) (upd H1 a (exo a C none)) (fun v H2 => v = .non ∧ Q (.ref a) H2) (fun _ _ _ => False)
theorem pe_mkV {j k : Nat} {x : Str} {C : Addr} {sp : Sp} {e : Expr} {es : List Expr} {ta : TA} {p pos : Pos} (c : Xf X.prog X.w X.K X.mg X.base x C k sp) (hr : Room j X.A) (hk : k + 1 ≤ j) (hx : Passes (L2.CX X.prog X.w) X (fun _ _ _ => False)) (hg : Gl X x) (ha : PA X (e :: es) ta)
    (hdb : (x == ("__debug__" : Str)) = false := by decide) (he : starEach (e :: es) X.env = (false, eval e X.env) :: starEach es X.env := by rfl) (hpl : (backTo pos (starEach es X.env)).any (·.1) = false := by rfl) :
    PE X (.Call (.Name x p) (e :: es) [] pos) (tMkV C sp ta) := by
  obtain ⟨fI, fd, ps, hm, T, iC, tI, hb, F1⟩ := c.ex
  refine ⟨fun pins s σ H Q I h => ?_⟩
  obtain ⟨nm, qn, N, bs, bm, sn, sub, ab, col, dd, k0, k1, k2, k3, k5, hC, hbm⟩ := T.cls
  refine wpAny_Call_Name_kw (ld_glob I hg hm ?_ hdb)
  refine PySem.W.callWith_K (h₀ := X.base) I.ok.mod.kin T.kC (thn (ha.run pos pins s σ H _ I h) fun us s1 hh => ?_) he hpl
  obtain ⟨vs, H1, I1, r1, hz, q1⟩ := hh
  refine ⟨I1.kIn, ?_⟩
  show wpAny _ _ (call (.ref C) us) _ _ _
  obtain ⟨hp, g, dr, tk, os⟩ := s1
  have at_ : ((hp.push (PySem.W.kdv_tup us)).push (PySem.HandSPX.excO C hp.objs.size)).get? (hp.objs.size + 1) = some (PySem.HandSPX.excO C hp.objs.size) := by heap_get
  have new : H1 (hp.objs.size + 1) = none := I1.hok.fresh (Nat.le_succ _)
  have hq := q1 (hp.objs.size + 1) new
  have I2 := I1.laid (t' := tk) (a := hp.objs.size + 1) (o := exo (hp.objs.size + 1) C none) (h' := (hp.push (PySem.W.kdv_tup us)).push (PySem.HandSPX.excO C hp.objs.size)) (fun b o z => Heap.get?_push_of_some _ (Heap.get?_push_of_some _ z)) (Nat.le_succ _) (exo_ok at_)
  have r2 : Vals (V.ref (hp.objs.size + 1) :: vs) (Value.ref (hp.objs.size + 1) :: us) := .cons rfl r1
  have lens : (Value.ref (hp.objs.size + 1) :: us ++ []).length = ps.length := by
    rw [List.append_nil, ← r2.length]
    exact F1.len _ _ _ _ hq
  have hus : us.length ≤ sizeLine := by
    rw [← Paired.length r1]
    exact line_le hz
  refine wpAny_call (PySem.HandSPX.call_own F.excBase_ValueError (fun Y => PySem.HandSPX.refsVE_contains Y bm hbm) (I1.kIn _ _ hC) (PySem.W.looks_findIn I1.kIn iC) (fun self => PySem.W.bind_fn I1.kIn self tI) hus
    (codeAny_mono (F1.run _ X.stack _ _ ⟨Value.ref (hp.objs.size + 1) :: us, []⟩ (Value.ref (hp.objs.size + 1) :: us) _ _ (fun _ _ _ => False) ((hr.mono hk).make C us []) (I2.env0.make C us []) (by have := hb _ (Value.ref (hp.objs.size + 1) :: us) I2.kIn lens; simpa using this) r2 hq) fun r s' out => ?_))
  cases r with
  | error er => exact hx pins σ _ _ er s' I2 out
  | ok fl =>
    cases fl with
    | next => exact False.elim out
    | brk => exact False.elim out
    | cont => exact False.elim out
    | ret u =>
      obtain ⟨v, H2, os2, bare2, un2, hok2, rv, ev, q2⟩ := out
      subst ev
      exact ⟨rv, .ref (hp.objs.size + 1), H2, I2.call' (ch := []) os2 un2 hok2 bare2 (fun b z => absurd z (by simp)), rfl, q2⟩
end
end L2
namespace L2
open PySem PySem.Spec PyProof.Rows LamX
section
variable {X : Cx}
/-! ### classes without an own __init__ -/
abbrev veB : List Value := [.type "ValueError", .type "Exception", .type "BaseException", .type "object"]
theorem pe_mk0 {C : Addr} {x : Str} {p pos : Pos} (ok : PySem.W.excIn X.K C veB "ValueError.__new__" = true) (gC : X.mg x = some (.ref C)) (kC : PySem.W.keepIn X.K (.ref C) = true) (hg : Gl X x) (hdb : (x == ("__debug__" : Str)) = false := by decide) :
    PE X (.Call (.Name x p) [] [] pos) (fun _ H Q => ∀ a, H a = none → Q (.ref a) (upd H a (exo a C none))) := by
  refine ⟨fun pins s σ H Q I h => wpAny_Call_Name_kw (ld_glob I hg gC (PySem.W.callWith_K0 I.kIn kC ?_) hdb)⟩
  obtain ⟨bm, N, nm, qn, bs, hdct, sn, sub, ab, col, dd, k0, k1, k2, k3, k5, mN, hC, hN, hni, T⟩ := exc_obj I.kIn ok
  refine wpAny_call_exc_subT F.excBase_ValueError T hC hN hni (fun h' a mk => ?_) (Nat.zero_le _)
  have fresh := I.hok.gone mk.new
  obtain ⟨t, there, _, _⟩ := mk.there
  exact ⟨.ref a, upd H a (exo a C none), I.laidN mk.keeps mk.new fresh (exo_ok there), rfl, h a fresh⟩
theorem pmk_0 {C : Addr} {x : Str} {p pos : Pos} (ok : PySem.W.excIn X.K C veB "ValueError.__new__" = true) (gC : X.mg x = some (.ref C)) (kC : PySem.W.keepIn X.K (.ref C) = true) (r : Raises X (.ref C)) (hg : Gl X x) (hdb : (x == ("__debug__" : Str)) = false := by decide) :
    PMk X (.Call (.Name x p) [] [] pos) (fun _ H Q => Q (.ref C) none H) := by
  intro pins s σ H Q I h
  refine wpAny_Call_Name_kw (ld_glob I hg gC (PySem.W.callWith_K0 I.kIn kC ?_) hdb)
  obtain ⟨bm, N, nm, qn, bs, hdct, sn, sub, ab, col, dd, k0, k1, k2, k3, k5, mN, hC, hN, hni, T⟩ := exc_obj I.kIn ok
  exact wpAny_call_exc_subT F.excBase_ValueError T hC hN hni (fun h' a mk => mk_of I mk r h (I.hok.gone mk.new)) (Nat.zero_le _)
/-! ### several except clauses, with names or without -/
abbrev HdA : Type := Option Nat × Value × (Addr → Value → Option Addr → TS)
/-- what follows a suite whose exception has a name in slot i -/
def dropS (i : Nat) (D : Ends) : Ends := { nx := fun τ G => D.nx (τ.set i none) G, rt := D.rt, bk := fun τ G => D.bk (τ.set i none) G, ct := fun τ G => D.ct (τ.set i none) G }
def wAll (K : PySem.W.Frag) (Wo : WX) (D : Ends) : List HdA → WX
  | [] => Wo
  | (none, c, ts) :: r => fun kl dd τ G => ∃ b, PySem.W.exmOne K kl c = some b ∧ (b = true → ∀ e, G e = none → ts e kl dd D τ G) ∧ (b = false → wAll K Wo D r kl dd τ G)
  | (some i, c, ts) :: r => fun kl dd τ G => ∃ b, PySem.W.exmOne K kl c = some b ∧ (b = true → ∀ e, G e = none → ts e kl dd (dropS i D) (τ.set i (some (.ref e))) G) ∧ (b = false → wAll K Wo D r kl dd τ G)
inductive HdsA (X : Cx) : List ExceptHandler → List HdA → Prop
  | nil : HdsA X [] []
  | plain {x : Str} {c : Value} {ts : Addr → Value → Option Addr → TS} {b₀ : Stmt} {suite : List Stmt} {np pos' : Pos} {hds : List ExceptHandler} {l : List HdA} (hc : Names X x c)
      (hsu : ∀ (e : Addr) (oe : Obj) (kl : Value) (dd : Option Addr) (pn : List (Addr × Obj)), Zc kl dd oe → (∃ vs, oe.data = .fields vs) → PSs (X.suite e ((e, oe) :: pn)) (b₀ :: suite) (ts e kl dd)) (r : HdsA X hds l) :
      HdsA X (.ExceptHandler (some (.Name x np)) none (b₀ :: suite) pos' :: hds) ((none, c, ts) :: l)
  | named {x n : Str} {i : Nat} {c : Value} {ts : Addr → Value → Option Addr → TS} {b₀ : Stmt} {suite : List Stmt} {np pos' : Pos} {hds : List ExceptHandler} {l : List HdA} (hi : X.N[i]? = some n) (hln : X.env.kindOf n = some .local) (hc : Names X x c)
      (hsu : ∀ (e : Addr) (oe : Obj) (kl : Value) (dd : Option Addr) (pn : List (Addr × Obj)), Zc kl dd oe → (∃ vs, oe.data = .fields vs) → PSs (X.suite e ((e, oe) :: pn)) (b₀ :: suite) (ts e kl dd)) (r : HdsA X hds l) :
      HdsA X (.ExceptHandler (some (.Name x np)) (some n) (b₀ :: suite) pos' :: hds) ((some i, c, ts) :: l)
variable {body : List Stmt} {h₀ : ExceptHandler} {hds : List ExceptHandler} {l : List HdA} {pos : Pos} {tb : WX → TS} {Wo : WX}
theorem ps_try_all (hs : X.stack = X.env :: X.outer) (hf : X.env.frame = some X.env.locals) (hN : X.N.Nodup) (tk : Takes X Wo)
    (hb : ∀ (W : WX) (pn : List (Addr × Obj)) (xe : Value → Shared → Prop), Takes (X.tr pn xe) W → PassesOwn (model X.prog X.w) X.A X.env xe → PSs (X.tr pn xe) body (tb W))
    (hh : HdsA X (h₀ :: hds) l) : PS X (.Try body (h₀ :: hds) [] [] pos) (fun D τ G => tb (wAll X.K Wo D l) D τ G) := by
  refine ⟨fun pins s σ H D I h => ?_⟩
  have good := I.ok
  have stk : X.A.frames = some (X.env :: X.outer) := by rw [good.frames, hs]
  refine wpAny_Try_except (wpAny_mono ((hb (wAll X.K Wo D l) (X.pn ++ pins) (fun u r1 => wpAny (model X.prog X.w) X.A (noteFrame u X.env) (fun _ r2 => wpAny (model X.prog X.w) X.A (setFlight u none) (fun _ r3 =>
    wpAny (model X.prog X.w) X.A (handleBy u X.env (h₀ :: hds)) (SP X pins D) X.xe r3) X.xe r2) X.xe r1) (fun u s1 air => ?_) PassesOwn.looking).run [] s σ H D (I.toTry _) h) (fun fl s1 out => ?_) (fun u s1 z => z))
  · obtain ⟨ea, Bo, s0, pins0, τ, G, kl, dd, rfl, J0, b1, u1, sk, n1, o1, g1, wz⟩ := air
    have J : Inv X pins τ G s0 := J0.ofTry good
    rw [hs] at sk
    show wpAny (model X.prog X.w) X.A (noteFrame (.ref ea) X.env) _ _ _
    refine Sky.land Zc.steady stk hf sk fun g3 f3 up3 => ?_
    have J3 : Inv X pins τ G { s1 with heap := g3 } := J.landed b1 f3.1 (u1.trans up3) o1 g1
    obtain ⟨o3, vs3, at3, z3, dt3⟩ := f3.there
    have off : ∀ {g : Heap} {o : Obj} {vs : Array Value}, g.FunFrames Bo (X.env :: X.outer) → g.get? ea = some o → o.data = .fields vs → ea ∉ frs (X.env :: X.outer) := fun {g o vs} ff y dy m => by
      obtain ⟨_, o', y', nf⟩ := ff.mem m
      rw [y] at y'
      cases y'
      exact nf _ dy
    have out3 := off f3.2.2.1 at3 dt3
    have nL : ea ≠ X.env.locals := fun z => out3 (List.mem_filterMap.mpr ⟨X.env, List.mem_cons_self, by rw [hf, z]⟩)
    have nF : ea ∉ X.fs := fun m => by
      obtain ⟨y, my, q⟩ := List.mem_filterMap.mp m
      exact out3 (List.mem_filterMap.mpr ⟨y, List.mem_cons_of_mem _ my, q⟩)
    have S3 := J3.suite at3 dt3 n1 nL nF
    have names : ∀ {x : Str} {c : Value} {np : Pos} {Q : Value → Shared → Prop} {E : Value → Shared → Prop}, Names X x c → Q c { s1 with heap := g3 } → wpAny (model X.prog X.w) (X.A.mark (some (.ref ea))) (eval (.Name x np) X.env) Q E { s1 with heap := g3 } := fun {x c np Q E} hc q => by
      obtain ⟨hg, hdb, hm | ⟨hm, hv, hn⟩⟩ := hc
      · exact ld_glob (X := X.suite ea ((ea, o3) :: (X.pn ++ pins))) S3 hg hm q hdb
      · exact ld_blt (X := X.suite ea ((ea, o3) :: (X.pn ++ pins))) S3 hg hm hv q hn hdb
    have kind : PySem.W.Looks (model X.prog X.w) g3 (typeOf (.ref ea)) kl := fun A Q E r k q => wpAny_typeOf_ref (k _ _ at3) (by rw [z3.1]; exact q)
    have go : ∀ {hs' : List ExceptHandler} {l' : List HdA}, HdsA X hs' l' → wAll X.K Wo D l' kl dd τ G → wpAny (model X.prog X.w) X.A (handleBy (.ref ea) X.env hs') (SP X pins D) X.xe { s1 with heap := g3 } := by
      intro hs' l' hk
      induction hk with
      | nil =>
        intro wz
        refine wpAny_handleBy_nil ?_
        obtain ⟨k1, k2, k3, oe, vs, T, oT, ts', y1, y2, y3, y4, y5⟩ := id f3
        unfold PySem.passOn
        refine wpAny_bind (wpAny_field y1 y3 y4 ?_)
        rw [if_neg (show ¬ ((Value.ref T == Value.none) = true) from by simp)]
        have on : wpAny (model X.prog X.w) X.A (setFlight (.ref ea) X.env.frame) (fun _ r4 => wpAny (model X.prog X.w) X.A (throw (.ref ea) : Sem Flow) (SP X pins D) X.xe r4) X.xe { s1 with heap := g3 } := by
          rw [hf]
          refine HandSPX.setFlight_upZ f3 fun g4 hold up4 => wpAny_throw (tk _ _ ?_)
          exact ⟨ea, Bo, s0, pins, τ, G, kl, dd, rfl, J, b1, (u1.trans up3).trans up4, .inr (.inr (by rw [hs]; exact hold)), n1, o1, g1, wz⟩
        first
          | exact wpAny_bind (wpAny_pure (wpAny_bind on))
          | exact wpAny_bind on
      | @plain x c ts b₀ suite np pos' hds2 l2 hc hsu r ih =>
        intro wz
        obtain ⟨b, hit, yes, no⟩ := wz
        refine wpAny_handleBy_cons (codeAny_handlers_test (names hc ((PySem.W.exm_one (M := model X.prog X.w) J3.kIn kind hit).here ?_))) (by intro q; cases q)
        cases b with
        | false => exact ih (no rfl)
        | true =>
          refine codeAny_handlers_suite (HandSPX.lands_againZ f3 fun g4 f4 up4 => ?_)
          have J4 : Inv X pins τ G { s1 with heap := g4 } := J.landed b1 f4.1 ((u1.trans up3).trans up4) o1 g1
          obtain ⟨o4, vs4, at4, z4, dt4⟩ := f4.there
          refine wpAny_mono ((hsu ea o4 kl dd (X.pn ++ pins) z4 ⟨_, dt4⟩).run [] _ τ G _ (J4.suite at4 dt4 n1 nL nF) (yes rfl ea n1)) (fun fl r6 o => ?_) (fun _ _ z => False.elim z)
          cases fl with
          | next => obtain ⟨τ6, G6, S6, q6⟩ := o; exact ⟨_, _, S6.unsuite good, q6⟩
          | brk => obtain ⟨τ6, G6, S6, q6⟩ := o; exact ⟨_, _, S6.unsuite good, q6⟩
          | cont => obtain ⟨τ6, G6, S6, q6⟩ := o; exact ⟨_, _, S6.unsuite good, q6⟩
          | ret u => obtain ⟨v6, τ6, G6, S6, r6, q6⟩ := o; exact ⟨_, _, _, S6.unsuite good, r6, q6⟩
      | @named x n i c ts b₀ suite np pos' hds2 l2 hi hln hc hsu r ih =>
        intro wz
        obtain ⟨b, hit, yes, no⟩ := wz
        refine wpAny_handleBy_cons (codeAny_handlers_test (names hc ((PySem.W.exm_one (M := model X.prog X.w) J3.kIn kind hit).here ?_))) (by intro q; cases q)
        cases b with
        | false => exact ih (no rfl)
        | true =>
          refine codeAny_handlers_suite_as (HandSPX.lands_againZ f3 fun g4 f4 up4 => ?_)
          have J4 : Inv X pins τ G { s1 with heap := g4 } := J.landed b1 f4.1 ((u1.trans up3).trans up4) o1 g1
          obtain ⟨o4, vs4, at4, z4, dt4⟩ := f4.there
          refine store_ok (X := X.suite ea ((ea, o4) :: (X.pn ++ pins))) (v := .ref ea) (J4.suite at4 dt4 n1 nL nF) hN hi (.inl hln) rfl (fun r5 S5 => ?_) (.inr hln)
          refine wpAny_mono ((hsu ea o4 kl dd (X.pn ++ pins) z4 ⟨_, dt4⟩).run [] r5 _ G _ S5 (yes rfl ea n1)) (fun fl r6 o => ?_) (fun _ _ z => False.elim z)
          cases fl with
          | next => obtain ⟨τ6, G6, S6, q6⟩ := o; exact gone_ok (S6.unsuite good) hN hi hln fun r7 J7 => ⟨_, _, J7, q6⟩
          | brk => obtain ⟨τ6, G6, S6, q6⟩ := o; exact gone_ok (S6.unsuite good) hN hi hln fun r7 J7 => ⟨_, _, J7, q6⟩
          | cont => obtain ⟨τ6, G6, S6, q6⟩ := o; exact gone_ok (S6.unsuite good) hN hi hln fun r7 J7 => ⟨_, _, J7, q6⟩
          | ret u => obtain ⟨v6, τ6, G6, S6, r6, q6⟩ := o; exact gone_ok (S6.unsuite good) hN hi hln fun r7 J7 => ⟨_, _, _, J7, r6, q6⟩
    exact go hh wz
  · cases fl with
    | next => obtain ⟨τ, G, J, q⟩ := out; exact wpAny_execs_nil ⟨τ, G, J.ofTry good, q⟩
    | brk => obtain ⟨τ, G, J, q⟩ := out; exact ⟨τ, G, J.ofTry good, q⟩
    | cont => obtain ⟨τ, G, J, q⟩ := out; exact ⟨τ, G, J.ofTry good, q⟩
    | ret u => obtain ⟨v, τ, G, J, r, q⟩ := out; exact ⟨v, τ, G, J.ofTry good, r, q⟩
end
end L2
namespace L2
open PySem PySem.Spec PyProof.Rows LamX
section
variable {X : Cx}
/-- isinstance(e, c), e what the suite caught -/
def rIsC (K : PySem.W.Frag) (a : Addr) (cls : Value) (d : Option Addr) : List V → Hp → VK → Prop := fun xs H Q => ∃ (c : V) (D : Addr) (u : Value) (b : Bool), xs = [.ref a, c] ∧ cls = .ref D ∧ EvC K D ∧ ClsV c u ∧ PySem.W.kitOne K (.ref D) u = some b ∧ (d = none ∨ ∃ dd fs, d = some dd ∧ H dd = some (.xd fs)) ∧ Q (.bl b) H
theorem call_isC {a : Addr} {oe : Obj} {cls : Value} {d : Option Addr} {pn : List (Addr × Obj)} (hz : Zc cls d oe) (hf : ∃ vs, oe.data = .fields vs) : CallR (X.suite a ((a, oe) :: pn)) (.builtin "isinstance") (rIsC X.K a cls d) := by
  intro pins s σ H xs us Q I r h
  obtain ⟨c, D, cv, b, rfl, rfl, hc, hv, hk, hd, q⟩ := h
  obtain ⟨u1, u2, rfl, r1, r2⟩ := r.two
  obtain rfl : u1 = Value.ref a := r1
  have e2 : u2 = cv := by
    cases hv with
    | _ => first | exact r2 | exact r2.symm | (cases r2; rfl)
  subst e2
  obtain ⟨here, _⟩ := I.pin (a, oe) (List.mem_append.mpr (.inl List.mem_cons_self))
  obtain ⟨vs, dat⟩ := hf
  have nc : PySem.W.notCls oe := by unfold PySem.W.notCls; rw [dat] <;> rfl
  have J : ∃ od, PySem.W.InstAt s.heap a oe D od := by
    rcases hd with rfl | ⟨dd, fs, rfl, hx⟩
    · exact ⟨none, here, hz.1, nc, by rw [hz.2]; trivial⟩
    · have z : ObjOk X.prog X.w H s.heap dd (.xd fs) := I.hok dd _ hx
      obtain ⟨mA, ⟨o, es, ep, e1, e3⟩, _⟩ := z
      exact ⟨some o, here, hz.1, nc, by rw [hz.2]; exact e1⟩
  obtain ⟨od, J⟩ := J
  exact PySem.W.kia_one hc.kit I.kIn J hk (fun z => nomatch z) fun tk => ⟨.bl b, H, I.kept (t' := tk) fun _ _ z => z, rfl, q⟩
end
end L2
end

section
/-! Defs that ask for repr of lists: what surrounds them holds no repr that runs. -/
namespace L2
open PySem PySem.Spec PyProof.Rows LamX
/-- as FnOk, where no repr runs around -/
structure FnG (P : Program) (w : World) (K : PySem.W.Frag) (mg : Str → Option Value) (base : Heap) (CX : CXT) (k : Nat) (f : Addr) (fd : FuncData) (ps : List Str) (sp : Sp) : Prop where
  len : ∀ vs H Q E, sp vs H Q E → vs.length = ps.length
  run : ∀ (A : Around) (outer : List Env) (s : Shared) (H : Hp) (args : Args) (us : List Value) (vs : List V) (Q : VK) (E : XK), Room k A → A.guards = some [] → Env0 P w K mg base A outer s H →
    BindsTo s fd args (ps.zip us) → Vals vs us → sp vs H Q E → codeAny (model P w) A (.call (.ref f) args) (CR CX outer P w H s Q E) s
section
variable {P : Program} {w : World} {K : PySem.W.Frag} {mg : Str → Option Value} {base : Heap} {x qual : Str} {params : Arguments} {body : List Stmt} {scope : Scope} {dvs : List V} {kws : List (Str × V)} {f : Addr} {fd : FuncData}
theorem FnOk.toG {CX : CXT} {k : Nat} {ps : List Str} {sp : Sp} (F : FnOk P w K mg base CX k f fd ps sp) : FnG P w K mg base CX k f fd ps sp := ⟨F.len, fun A outer s H args us vs Q E hr _ => F.run A outer s H args us vs Q E hr⟩
theorem FunD.okG {N ps : List Str} {k : Nat} {sp : Sp} (F : FunD K x qual params body scope dvs kws f fd) (S : FnScope N ps scope) (len : ∀ vs H Q E, sp vs H Q E → vs.length = ps.length)
    (hbody : ∀ (A : Around) (outer : List Env) (s : Shared) (H : Hp) (vs : List V) (Q : VK) (E : XK), Room k (A.deeper (envOfC qual scope s.heap.objs.size f fd.code)) → (A.deeper (envOfC qual scope s.heap.objs.size f fd.code)).guards = some [] → sp vs H Q E →
      ∃ t, PSs (cxOf (L2.CX P w) P w K mg base N qual scope f fd.code A outer s H E).nox body t ∧ t { nx := fun _ H' => Q .non H', rt := Q } (start N vs) H) : FnG P w K mg base (L2.CX P w) (k + 1) f fd ps sp := by
  obtain ⟨oc, od, dV, kV, doc, pm, an, cdv, ct, osl, rfl, lk, hcd, _, _⟩ := F.ex
  refine ⟨len, fun A outer s H args us vs Q E hr hg e0 hb r h => ?_⟩
  refine LamX.run_ofS lk hcd S hr e0 hb r (len _ _ _ _ h) fun hr' => ?_
  obtain ⟨t, p, q⟩ := hbody A outer s H vs Q E hr' hg h
  exact ⟨t, p.nox, q⟩
end
/-- a def at the module's name x, called where no repr runs -/
structure Gg (P : Program) (w : World) (K : PySem.W.Frag) (mg : Str → Option Value) (base : Heap) (x : Str) (k : Nat) (ps : List Str) (sp : Sp) : Prop where
  ex : ∃ (f : Addr) (fd : FuncData), mg x = some (.ref f) ∧ PySem.W.keepIn K (.ref f) = true ∧ Binds K fd ps [] ∧ FnG P w K mg base (L2.CX P w) k f fd ps sp
section
variable {X : Cx} {j k : Nat} {x : Str} {ps : List Str} {sp : Sp} {E : XK} {e : Expr} {es : List Expr} {t : TA} {p pos : Pos}
theorem pe_gg (c : Gg X.prog X.w X.K X.mg X.base x k ps sp) (hr : Room j X.A) (hgd : X.A.guards = some []) (hk : k ≤ j) (hx : Passes (L2.CX X.prog X.w) X E) (hg : Gl X x) (ha : PA X (e :: es) t) (hdb : (x == ("__debug__" : Str)) = false := by decide)
    (he : starEach (e :: es) X.env = (false, eval e X.env) :: starEach es X.env := by rfl) (hpl : (backTo pos (starEach es X.env)).any (·.1) = false := by rfl) : PE X (.Call (.Name x p) (e :: es) [] pos) (tCall sp [] E t) := by
  obtain ⟨f, fd, hm, kp, hb, F⟩ := c.ex
  refine ⟨fun pins s σ H Q I h => wpAny_Call_Name_kw (ld_glob I hg hm ?_ hdb)⟩
  refine PySem.W.callWith_K (h₀ := X.base) I.ok.mod.kin kp (thn (ha.run pos pins s σ H _ I h) fun us s1 hh => ?_) he hpl
  obtain ⟨vs, H1, I1, r, q⟩ := hh
  refine ⟨I1.kIn, ?_⟩
  have q : sp vs H1 Q E := by simpa using q
  have lens : (us ++ []).length = ps.length := by
    rw [List.append_nil, ← r.length]
    exact F.len _ _ _ _ q
  have bnd : BindsTo s1 fd ⟨us, []⟩ (ps.zip us) := by have := hb s1 us I1.kIn lens; simpa using this
  show wpAny _ _ (call (.ref f) us) _ _ _
  refine wpAny_call (codeAny_mono (F.run X.A X.stack s1 H1 ⟨us, []⟩ us vs Q E (hr.mono hk) hgd I1.env0 bnd r q) fun z s2 out => ?_)
  cases z with
  | error er => exact hx pins σ H1 s1 er s2 I1 out
  | ok fl =>
    cases fl with
    | next => exact False.elim out
    | brk => exact False.elim out
    | cont => exact False.elim out
    | ret u => exact I1.after out
/-- repr(x), x any datum of none, bools, ints, texts, lists and tuples -/
def rRepr (K : PySem.W.Frag) : List V → Hp → VK → Prop := fun xs H Q => ∃ (x : V) (d : PyData), xs = [x] ∧ Dp K H x d ∧ d.showable = true ∧ d.hasDict = false ∧ d.depth ≤ 60 ∧ d.shown.length ≤ sizeLine ∧ Q (.str d.shown) H
theorem call_reprD {K : PySem.W.Frag} (hK : X.K = K) (hgd : X.A.guards = some []) (hu : X.A.units + 64 < cLine) : CallR X (.builtin "repr") (rRepr K) := by
  subst hK
  intro pins s σ H xs us Q I r h
  obtain ⟨x, d, rfl, hd, hs, hn, hdep, hsz, q⟩ := h
  obtain ⟨u, rfl, rx⟩ := vals1 r
  have fin : ∀ (h' : Heap) (tk : Tok) (k : Nat), (∀ b o, s.heap.get? b = some o → h'.get? b = some o) → EP X pins σ Q (.str d.shown tk) { s with heap := h', toks := k } := fun h' tk k hk => ⟨.str d.shown, H, I.kept (t' := k) hk, ⟨tk, rfl⟩, q⟩
  have one : EP X pins σ Q (.str d.shown s.toks) { s with toks := s.toks + 1 } := fin s.heap s.toks (s.toks + 1) fun _ _ z => z
  cases hd with
  | non => cases rx; exact PySem.P.repr_of_none one
  | bl b => cases rx; exact PySem.P.repr_of_bool one
  | int i => obtain ⟨t, rfl⟩ := rx; exact PySem.P.repr_of_int (of_decide_eq_true hs) one
  | str z => obtain ⟨t, rfl⟩ := rx; exact PySem.P.repr_of_str one hsz
  | lst hq ha =>
    obtain ⟨as, rd⟩ := Dp.reads I _ _ u (.lst hq ha) rx
    cases rx
    exact repr_of_reads' rd hs (fun z => by rw [hn] at z; cases z) hgd (by omega) (fun _ _ z => z) (fun h' u tk hk => fin h' u tk hk) hsz
  | tup hq ha =>
    obtain ⟨as, rd⟩ := Dp.reads I _ _ u (.tup hq ha) rx
    cases rx
    exact repr_of_reads' rd hs (fun z => by rw [hn] at z; cases z) hgd (by omega) (fun _ _ z => z) (fun h' u tk hk => fin h' u tk hk) hsz
end
end L2
namespace L2
open PySem PySem.Spec PyProof.Rows LamX
/-- where the law starts: the script, unless the module holds it, and the tables -/
def hp0 (K : PySem.W.Frag) (cs : List (Addr × Addr)) (a : Addr) (o : Obj) (ns : List Int) : Hp := fun b =>
  if b = a ∧ K.lookup a = none then some (.frz o (.lst (ns.map V.int))) else if b ∈ cs.map (·.2) then some (.tbl #[]) else none
section
variable {P : Program} {w : World} {K : PySem.W.Frag} {mg mb : Str → Option Value} {k : Nat} {fa a : Addr} {cs : List (Addr × Addr)} {fd : FuncData} {x : Str} {sp : Sp} {s : Shared} {vs : List Value} {ns : List Int}
/-- the law's end over FnG -/
theorem law_endG (kin : K.In s.heap) (glo : s.heap.Ns mainGlobals mg) (blt : s.heap.Ns builtinsNs mb) (std : ∀ x : Str, x ≠ "__name__" → mb x = bootBuiltins x) (nol : s.heap.NoLimit) (gen : s.gens = #[])
    (tab : ∀ p ∈ cs, s.heap.get? p.2 = some { cls := .none, data := .fields #[] }) (out : ∀ p ∈ cs, K.lookup p.2 = none) (cod : ∀ p ∈ cs, PySem.W.CodeHd s.heap p.1 p.2)
    (bmod : ∃ (bm : Addr) (ob : Obj), mg "__builtins__" = some (.ref bm) ∧ bm ≠ builtinsNs ∧ s.heap.get? bm = some ob ∧ ob.cls = .type "module" ∧ ob.dict = some builtinsNs ∧ ob.data = .plain)
    (scr : s.heap.get? a = some { cls := .type "list", data := .seq vs.toArray }) (isn : IntsAre vs ns) (len : ns.length ≤ sizeLine) (hr : Room k callerA)
    (F : ∀ base : Heap, K.In base → base.Ns mainGlobals mg → (∀ p ∈ cs, TabB base mg p.1 p.2) → FnG P w K mg base (L2.CX P w) k fa fd [x] sp) (bnd : ∀ (s : Shared) (u : Value), BindsTo s fd ⟨[u], []⟩ [(x, u)])
    (give : ∀ H : Hp, (∀ p ∈ cs, H p.2 = some (.tbl #[])) → SqL K H a (ns.map V.int) → sp [.ref a] H (fun v _ => v = .bl true) fun _ _ _ => False) :
    codeAny (model P w) callerA (.call (.ref fa) ⟨[.ref a], []⟩) (fun r s' => r = .ok (.ret (.bool true)) ∧ OldK s.heap s'.heap ∧ s'.os = s.os ∧ AllBare s'.gens) s := by
  have val := vals_ints isn
  have cnt := isn.length
  have isT : ∀ b, b ∈ cs.map (·.2) → s.heap.get? b = some { cls := .none, data := .fields #[] } := fun b m => by
    obtain ⟨p, hp, rfl⟩ := List.mem_map.mp m
    exact tab p hp
  have naT : a ∉ cs.map (·.2) := fun z => by
    have q := (isT a z).symm.trans scr
    cases q
  let o : Obj := { cls := .type "list", data := .seq vs.toArray }
  -- what H0 says, place by place
  have inv : ∀ b u, hp0 K cs a o ns b = some u → (b = a ∧ K.lookup a = none ∧ u = .frz o (.lst (ns.map V.int))) ∨ (b ∈ cs.map (·.2) ∧ u = .tbl #[]) := fun b u e => by
    unfold hp0 at e
    split at e
    · rename_i c
      exact .inl ⟨c.1, c.2, (Option.some.inj e).symm⟩
    · split at e
      · rename_i c
        exact .inr ⟨c, (Option.some.inj e).symm⟩
      · cases e
  have atT : ∀ b, b ∈ cs.map (·.2) → hp0 K cs a o ns b = some (.tbl #[]) := fun b m => by
    unfold hp0
    have nc : ¬ (b = a ∧ K.lookup a = none) := fun c => naT (by rw [← c.1]; exact m)
    rw [if_neg nc, if_pos m]
  have sq : SqL K (hp0 K cs a o ns) a (ns.map V.int) := by
    cases q : K.lookup a with
    | none => exact .inl (.inr ⟨o, by unfold hp0; rw [if_pos ⟨rfl, q⟩]⟩)
    | some u =>
      have e := (kin a u q).symm.trans scr
      cases e
      exact .inr ⟨_, vs.toArray, _, q, rfl, rfl, rfl, by rw [List.size_toArray, cnt]; exact len, by simpa using val⟩
  have hok : HOk P w (hp0 K cs a o ns) s.heap := fun b u e => by
    rcases inv b u e with ⟨rfl, _, rfl⟩ | ⟨m, rfl⟩
    · exact ⟨scr, by rw [List.length_map]; exact len, vs, _, val, scr⟩
    · exact isT b m
  -- what stands below
  have free : ∀ {b : Addr} {u : Obj}, s.heap.get? b = some u → (∀ l n, u.data ≠ .seq l n) → u.data ≠ .fields #[] → hp0 K cs a o ns b = none := fun {b u} e d1 d2 => by
    cases q : hp0 K cs a o ns b with
    | none => rfl
    | some z =>
      rcases inv b z q with ⟨rfl, _, _⟩ | ⟨m, _⟩
      · have e2 := e.symm.trans scr
        cases e2
        exact absurd rfl (d1 _ _)
      · have e2 := e.symm.trans (isT b m)
        cases e2
        exact absurd rfl d2
  have dic : ∀ {b : Addr} {m : Str → Option Value}, s.heap.Ns b m → (hidT s.heap (hp0 K cs a o ns)).Ns b m := fun {b m} ⟨u, es, ep, e, d, r⟩ =>
    ⟨u, es, ep, hidT_get e (free e (fun l n z => by rw [d] at z; cases z) fun z => by rw [d] at z; cases z), d, r⟩
  have kb : K.In (hidT s.heap (hp0 K cs a o ns)) := fun b u e => hidT_get (kin b u e) (by
    cases q : hp0 K cs a o ns b with
    | none => rfl
    | some z =>
      rcases inv b z q with ⟨rfl, n, _⟩ | ⟨m, _⟩
      · rw [n] at e; cases e
      · obtain ⟨p, hp, rfl⟩ := List.mem_map.mp m
        rw [out p hp] at e
        cases e)
  have md : Mod K mg (hidT s.heap (hp0 K cs a o ns)) := ⟨kb, dic glo, ⟨mb, dic blt, std⟩, nol.imp fun mc z => ⟨dic z.1, z.2⟩⟩
  have tb : ∀ p ∈ cs, TabB (hidT s.heap (hp0 K cs a o ns)) mg p.1 p.2 := fun p hp => by
    have t := tab p hp
    refine ⟨?_, ?_, fun z => ?_⟩
    · obtain ⟨u, us, f1, f2, f3, f4, f5, f6, f7, e, c1, c2, c3, c4⟩ := cod p hp
      exact ⟨u, us, f1, f2, f3, f4, f5, f6, f7, hidT_get e (free e (fun l n z => by rw [c2] at z; cases z) fun z => by rw [c2] at z; cases z; simp at c3), c1, c2, c3, c4⟩
    · obtain ⟨bm, ob, g1, g2, g3, g4, g5, g6⟩ := bmod
      refine ⟨bm, ob, g1, g2, fun z => ?_, fun z => ?_, hidT_get g3 (free g3 (fun l n z => by rw [g6] at z; cases z) fun z => by rw [g6] at z; cases z), g4, g5, g6⟩
      · obtain ⟨u, es, ep, e, d, _⟩ := glo
        rw [z, e] at g3
        cases g3
        rw [d] at g6
        cases g6
      · rw [z, t] at g3
        cases g3
        cases g6
    · obtain ⟨u, es, ep, e, d, _⟩ := glo
      rw [z, t] at e
      cases e
      cases d
  have e0 : Env0 P w K mg (hidT s.heap (hp0 K cs a o ns)) callerA [] s (hp0 K cs a o ns) := ⟨rfl, md, fun b u e => of_hidT e, Nat.le_of_eq (hidT_size _ _), trivial, fun b m => (nomatch m), hok, .of_eq gen⟩
  refine codeAny_mono ((F _ kb (dic glo) tb).run callerA [] s _ ⟨[.ref a], []⟩ [.ref a] [.ref a] _ _ hr rfl e0 (bnd s (.ref a)) (.cons rfl .nil) (give _ (fun p hp => atT p.2 (List.mem_map.mpr ⟨p, hp, rfl⟩)) sq)) fun r s' z => ?_
  cases r with
  | error e =>
    obtain ⟨_, _, _, _, _, _, _, _, _, _, _, _, no⟩ := z
    exact no.elim
  | ok fl =>
    cases fl with
    | next => exact False.elim z
    | brk => exact False.elim z
    | cont => exact False.elim z
    | ret u =>
      obtain ⟨v, H', os, bare, un, hok', rv, q⟩ := z
      have q : v = .bl true := q
      subst q
      obtain rfl : u = Value.bool true := rv
      have kept : ∀ b z, b ∉ cs.map (·.2) → s.heap.get? b = some z → s'.heap.get? b = some z := fun b z nm e => by
        cases q : hp0 K cs a o ns b with
        | none => exact un.keep b z e q (fun m => nomatch m) (fun m => nomatch m)
        | some y =>
          rcases inv b y q with ⟨rfl, _, rfl⟩ | ⟨m, _⟩
          · have g := (hok' b _ (un.frzs b o _ q)).1
            have e2 := e.symm.trans scr
            rw [Option.some.inj e2]
            exact g
          · exact absurd m nm
      have grow : ∀ p ∈ cs, ∃ more : Array Value, s'.heap.get? p.2 = some { cls := .none, data := .fields more } := fun p hp => by
        obtain ⟨more, z⟩ := un.tbls p.2 #[] (atT p.2 (List.mem_map.mpr ⟨p, hp, rfl⟩))
        exact ⟨_, hok' p.2 _ z⟩
      refine ⟨rfl, ⟨fun b z e => ?_, fun b z e => ?_⟩, os, bare⟩
      · by_cases m : b ∈ cs.map (·.2)
        · obtain ⟨p, hp, rfl⟩ := List.mem_map.mp m
          obtain ⟨more, g⟩ := grow p hp
          have e2 := e.symm.trans (tab p hp)
          cases e2
          exact .inr (.inl ⟨((cod p hp).tab (tab p hp)).isCodeTable, rfl, #[], more, rfl, by rw [Array.empty_append]; exact g⟩)
        · exact .inl (kept b z m e)
      · by_cases m : b ∈ cs.map (·.2)
        · obtain ⟨p, hp, rfl⟩ := List.mem_map.mp m
          obtain ⟨more, g⟩ := grow p hp
          exact ⟨_, g⟩
        · exact ⟨z, kept b z m e⟩
end
/-- what is known of the law's promise at the head's heap -/
def LawG (l : PySem.W.OpenLaw) (w : World) (K : PySem.W.Frag) (k n : Nat) (x : Str) (mg : Str → Option Value) (fa : Addr) (h : Heap) : Prop :=
  ∃ (fd : FuncData) (cs : List (Addr × Addr)) (sp : Sp), (∀ p ∈ cs, h.get? p.2 = some { cls := .none, data := .fields #[] }) ∧ (∀ p ∈ cs, K.lookup p.2 = none) ∧ (∀ p ∈ cs, PySem.W.CodeHd h p.1 p.2) ∧ (∀ (s : Shared) (u : Value), BindsTo s fd ⟨[u], []⟩ [(x, u)]) ∧
    (∀ (H : Hp) (a : Addr) (ns : List Int), ns.length ≤ n → (∀ z ∈ ns, Builtin.Int.intBits z ≤ 1048576) → (∀ p ∈ cs, H p.2 = some (.tbl #[])) → SqL K H a (ns.map V.int) → sp [.ref a] H (fun v _ => v = .bl true) fun _ _ _ => False) ∧
    ∀ base : Heap, K.In base → base.Ns mainGlobals mg → (∀ p ∈ cs, TabB base mg p.1 p.2) → FnG l.prog w K mg base (L2.CX l.prog w) k fa fd [x] sp
theorem walk_G {l : PySem.W.OpenLaw} {n k : Nat} {q : Program} {loose : List Str} {XP : (Str → Option Value) → Heap → Prop} {YP : World → Heap → Prop} {d : DefRec} {x : Str} (hn : l.most = some n) (hn2 : n ≤ sizeLine) (hdf : d.params.defaults = []) (hr : Room k callerA)
    (F : ∀ (w : World) (mg : Str → Option Value) (fa : Addr) (h : Heap), YP w h → h.Ns mainGlobals mg → mg d.name = some (.ref fa) → ∃ K : PySem.W.Frag, K.In h ∧ LawG l w K k n x mg fa h) : PySem.W.WalkO q loose XP YP l.row.toRowW d [] (fun f vs => PySem.call f vs) := by
  refine Att.attach_callB hn hdf fun w s₀ s₁ mg mb fa o pm cd doc a vs ns G Y ho hd hcd hmg hobj hints hlen hbits hg => ?_
  obtain ⟨K, kin, fd, cs, sp, t1, t2, t3, b, g, FF⟩ := F w mg fa _ Y G.T.g hmg
  exact law_endG kin G.T.g G.T.b G.T.builtins G.T.nolimit hg t1 t2 t3 G.T.bmain hobj hints (Nat.le_trans hlen hn2) hr FF b fun H hH hS => g H a ns hlen hbits hH hS
end L2
end

section
/-! The 22 classes of errors: what is asked of them, and what is made of it. -/
namespace L2
open PySem PySem.Spec PyProof.Rows LamX
/-- the fields of each class -/
def fldL : List (Nat × Str) := [(0, "line"), (0, "column"), (1, "name"), (2, "what"), (2, "number"), (3, "what"), (4, "place"), (5, "row"), (6, "row"), (7, "digits"), (8, "what"), (8, "many"), (8, "limit"), (9, "what"), (9, "many"), (9, "limit"), (10, "what"), (12, "name"), (14, "rank"), (15, "name"), (16, "name"), (17, "name"), (18, "name"), (19, "promise"), (19, "given")]
structure KinC (K : PySem.W.Frag) (CL : Nat → Addr) (CH : Addr) : Prop where
  ev : ∀ i, i < 22 → EvC K (CL i)
  kit : ∀ i j, i < 22 → j < 22 → PySem.W.kitOne K (.ref (CL i)) (.ref (CL j)) = some (decide (i = j))
  kH : ∀ i, i < 22 → PySem.W.kitOne K (.ref (CL i)) (.ref CH) = some true
  kV : ∀ i, i < 22 → PySem.W.kitOne K (.ref (CL i)) (.type "ValueError") = some true
  e0 : ∀ i, i ∈ [11, 13, 20, 21] → PySem.W.excIn K (CL i) veB "ValueError.__new__" = true ∧ PySem.W.keepIn K (.ref (CL i)) = true ∧ PySem.W.subIn K (.ref (CL i)) (.type "BaseException") = some true ∧ PySem.W.typeIn K (.ref (CL i)) = some (.type "type")
  no : ∀ q ∈ fldL, PySem.W.findIn K (.ref (CL q.1)) q.2 = some none
  em : ∀ i, i ∈ [0, 8, 19, 11] → PySem.W.exmOne K (.ref (CL i)) (.ref (CL 0)) = some (decide (i = 0)) ∧ PySem.W.exmOne K (.ref (CL i)) (.ref (CL 8)) = some (decide (i = 8)) ∧ PySem.W.exmOne K (.ref (CL i)) (.ref CH) = some true
def evB (K : PySem.W.Frag) (C : Addr) : Bool := xfB K C && (decide (PySem.W.findIn K (.ref C) "__class__" = some (some (.builtin "object.__class__"))) && (decide (PySem.W.specialIn K (.builtin "object.__class__") "__get__" = some (some (.builtin "getset_descriptor.__get__"))) && (decide (PySem.W.takesIn K (.builtin "object.__class__") = some true) && decide (PySem.W.mroIn K C (.type "object") = some true))))
theorem evB_ok {K : PySem.W.Frag} {C : Addr} (h : evB K C = true) : EvC K C := by
  obtain ⟨h1, h⟩ := Bool.and_eq_true_iff.mp h
  obtain ⟨h2, h⟩ := Bool.and_eq_true_iff.mp h
  obtain ⟨h3, h⟩ := Bool.and_eq_true_iff.mp h
  obtain ⟨h4, h5⟩ := Bool.and_eq_true_iff.mp h
  exact ⟨xfB_ok h1, of_decide_eq_true h2, of_decide_eq_true h3, of_decide_eq_true h4, of_decide_eq_true h5⟩
def kinB (K : PySem.W.Frag) (CL : Nat → Addr) (CH : Addr) : Bool :=
  ((List.range 22).all fun i => evB K (CL i) && (((List.range 22).all fun j => decide (PySem.W.kitOne K (.ref (CL i)) (.ref (CL j)) = some (decide (i = j)))) && (decide (PySem.W.kitOne K (.ref (CL i)) (.ref CH) = some true) && decide (PySem.W.kitOne K (.ref (CL i)) (.type "ValueError") = some true))))
  && (([11, 13, 20, 21].all fun i => PySem.W.excIn K (CL i) veB "ValueError.__new__" && (PySem.W.keepIn K (.ref (CL i)) && (decide (PySem.W.subIn K (.ref (CL i)) (.type "BaseException") = some true) && decide (PySem.W.typeIn K (.ref (CL i)) = some (.type "type")))))
  && ((fldL.all fun q => decide (PySem.W.findIn K (.ref (CL q.1)) q.2 = some none))
  && ([0, 8, 19, 11].all fun i => decide (PySem.W.exmOne K (.ref (CL i)) (.ref (CL 0)) = some (decide (i = 0))) && (decide (PySem.W.exmOne K (.ref (CL i)) (.ref (CL 8)) = some (decide (i = 8))) && decide (PySem.W.exmOne K (.ref (CL i)) (.ref CH) = some true)))))
theorem kinB_ok {K : PySem.W.Frag} {CL : Nat → Addr} {CH : Addr} (h : kinB K CL CH = true) : KinC K CL CH := by
  obtain ⟨h1, h⟩ := Bool.and_eq_true_iff.mp h
  obtain ⟨h2, h⟩ := Bool.and_eq_true_iff.mp h
  obtain ⟨h3, h4⟩ := Bool.and_eq_true_iff.mp h
  have a1 := fun i (hi : i < 22) => List.all_eq_true.mp h1 i (List.mem_range.mpr hi)
  have a2 := List.all_eq_true.mp h2
  have a4 := List.all_eq_true.mp h4
  refine ⟨fun i hi => evB_ok (Bool.and_eq_true_iff.mp (a1 i hi)).1, fun i j hi hj => ?_, fun i hi => ?_, fun i hi => ?_, fun i hi => ?_, fun q hq => of_decide_eq_true (List.all_eq_true.mp h3 q hq), fun i hi => ?_⟩
  · exact of_decide_eq_true (List.all_eq_true.mp (Bool.and_eq_true_iff.mp (Bool.and_eq_true_iff.mp (a1 i hi)).2).1 j (List.mem_range.mpr hj))
  · exact of_decide_eq_true (Bool.and_eq_true_iff.mp (Bool.and_eq_true_iff.mp (Bool.and_eq_true_iff.mp (a1 i hi)).2).2).1
  · exact of_decide_eq_true (Bool.and_eq_true_iff.mp (Bool.and_eq_true_iff.mp (Bool.and_eq_true_iff.mp (a1 i hi)).2).2).2
  · obtain ⟨b1, b⟩ := Bool.and_eq_true_iff.mp (a2 i hi)
    obtain ⟨b2, b⟩ := Bool.and_eq_true_iff.mp b
    obtain ⟨b3, b4⟩ := Bool.and_eq_true_iff.mp b
    exact ⟨b1, b2, of_decide_eq_true b3, of_decide_eq_true b4⟩
  · obtain ⟨b1, b⟩ := Bool.and_eq_true_iff.mp (a4 i hi)
    obtain ⟨b2, b3⟩ := Bool.and_eq_true_iff.mp b
    exact ⟨of_decide_eq_true b1, of_decide_eq_true b2, of_decide_eq_true b3⟩
section
variable {K : PySem.W.Frag} {CL : Nat → Addr} {CH : Addr} {H : Hp} {x : V} {fs : List (Str × V)} {i j : Nat} {Q : VK}
theorem ExV.same {H H' : Hp} {C : Addr} (h : ExV H C x fs) (e : Same H H') : ExV H' C x fs := by
  obtain ⟨a, rfl, h | ⟨d, h1, h2⟩⟩ := h
  · exact ⟨a, rfl, .inl ⟨h.1, e _ _ h.2⟩⟩
  · exact ⟨a, rfl, .inr ⟨d, e _ _ h1, e _ _ h2⟩⟩
theorem isK (KC : KinC K CL CH) (hx : ExV H (CL i) x fs) (hi : i < 22) (hj : j < 22) (k : Q (.bl (decide (i = j))) H) : rIsX K [x, .ref (CL j)] H Q := ⟨x, .ref (CL j), CL i, fs, _, _, rfl, hx, KC.ev i hi, .own _, KC.kit i j hi hj, k⟩
theorem isKH (KC : KinC K CL CH) (hx : ExV H (CL i) x fs) (hi : i < 22) (k : Q (.bl true) H) : rIsX K [x, .ref CH] H Q := ⟨x, .ref CH, CL i, fs, _, _, rfl, hx, KC.ev i hi, .own _, KC.kH i hi, k⟩
theorem isKV (KC : KinC K CL CH) (hx : ExV H (CL i) x fs) (hi : i < 22) (k : Q (.bl true) H) : rIsX K [x, .ty "ValueError"] H Q := ⟨x, .ty "ValueError", CL i, fs, _, _, rfl, hx, KC.ev i hi, .ty _, KC.kV i hi, k⟩
end
/-- __init__ of three fields -/
def spX3 (C : Addr) (f1 f2 f3 : Str) : Sp := fun vs H Q _ => ∃ (a : Addr) (x y z : V), vs = [.ref a, x, y, z] ∧ H a = some (exo a C none) ∧
  ∀ d, H d = none → d ≠ a → Q .non (upd (upd (upd (upd H d (exd d [(f1, x)])) a (exo a C (some d))) d (exd d [(f2, y), (f1, x)])) d (exd d [(f3, z), (f2, y), (f1, x)]))
section
variable {C p : Addr} {H : Hp} {f1 f2 f3 : Str} {x y z : V} {Q : VK} {E : XK}
theorem mk1 (hp : H p = none) (k : ∀ H', Same H H' → ExV H' C (.ref p) [(f1, x)] → Q .non H') : spX1 C f1 [.ref p, x] (upd H p (exo p C none)) Q E := by
  refine ⟨p, x, rfl, upd_same, fun d hd hdp => ?_⟩
  have hd0 : H d = none := by rwa [upd_ne hdp] at hd
  exact k _ (fun b o e => by rw [upd_ne (ne_of_none e hp), upd_ne (ne_of_none e hd0), upd_ne (ne_of_none e hp)]; exact e) ⟨p, rfl, .inr ⟨d, upd_same, by rw [upd_ne hdp, upd_same]⟩⟩
theorem mk2 (hp : H p = none) (k : ∀ H', Same H H' → ExV H' C (.ref p) [(f2, y), (f1, x)] → Q .non H') : spX2 C f1 f2 [.ref p, x, y] (upd H p (exo p C none)) Q E := by
  refine ⟨p, x, y, rfl, upd_same, fun d hd hdp => ?_⟩
  have hd0 : H d = none := by rwa [upd_ne hdp] at hd
  exact k _ (fun b o e => by rw [upd_ne (ne_of_none e hd0), upd_ne (ne_of_none e hp), upd_ne (ne_of_none e hd0), upd_ne (ne_of_none e hp)]; exact e) ⟨p, rfl, .inr ⟨d, by rw [upd_ne hdp.symm, upd_same], upd_same⟩⟩
theorem mk3 (hp : H p = none) (k : ∀ H', Same H H' → ExV H' C (.ref p) [(f3, z), (f2, y), (f1, x)] → Q .non H') : spX3 C f1 f2 f3 [.ref p, x, y, z] (upd H p (exo p C none)) Q E := by
  refine ⟨p, x, y, z, rfl, upd_same, fun d hd hdp => ?_⟩
  have hd0 : H d = none := by rwa [upd_ne hdp] at hd
  exact k _ (fun b o e => by rw [upd_ne (ne_of_none e hd0), upd_ne (ne_of_none e hd0), upd_ne (ne_of_none e hp), upd_ne (ne_of_none e hd0), upd_ne (ne_of_none e hp)]; exact e) ⟨p, rfl, .inr ⟨d, by rw [upd_ne hdp.symm, upd_ne hdp.symm, upd_same], upd_same⟩⟩
theorem mk0 (hp : H p = none) : Same H (upd H p (exo p C none)) ∧ ExV (upd H p (exo p C none)) C (.ref p) [] := ⟨fun b o e => by rw [upd_ne (ne_of_none e hp)]; exact e, p, rfl, .inl ⟨rfl, upd_same⟩⟩
theorem lkA {f : Str} {v : V} {r : List (Str × V)} : List.lookup f ((f, v) :: r) = some v := by simp [List.lookup]
theorem lkB {f g : Str} {u : V} {o : Option V} {r : List (Str × V)} (h : (f == g) = false) (k : List.lookup f r = o) : List.lookup f ((g, u) :: r) = o := by simp [List.lookup, h, k]
end
/-- what a suite caught: the raise's end, three fields -/
theorem x3_made {H1 : Hp} {a d C : Addr} {f1 f2 f3 : Str} {x y z : V} {Q : XK} (ha : H1 a = none) (hd : H1 d = none) (hda : d ≠ a)
    (k : ∀ H', Same H1 H' → H' d = some (.xd [(f3, z), (f2, y), (f1, x)]) → Q (.ref C) (some d) H') :
    ∃ (d' : Addr), (upd (upd (upd (upd (upd H1 a (exo a C none)) d (exd d [(f1, x)])) a (exo a C (some d))) d (exd d [(f2, y), (f1, x)])) d (exd d [(f3, z), (f2, y), (f1, x)])) a = some (exo a C (some d')) ∧ ∃ (fs : List (Str × V)),
      (upd (upd (upd (upd (upd H1 a (exo a C none)) d (exd d [(f1, x)])) a (exo a C (some d))) d (exd d [(f2, y), (f1, x)])) d (exd d [(f3, z), (f2, y), (f1, x)])) d' = some (exd d' fs) ∧ H1 d' = none ∧
      Q (.ref C) (some d') (upd (del (upd (upd (upd (upd (upd H1 a (exo a C none)) d (exd d [(f1, x)])) a (exo a C (some d))) d (exd d [(f2, y), (f1, x)])) d (exd d [(f3, z), (f2, y), (f1, x)])) a) d' (.xd fs)) := by
  refine ⟨d, by rw [upd_ne hda.symm, upd_ne hda.symm, upd_same], _, upd_same, hd, k _ (fun b o e => ?_) upd_same⟩
  have n1 := ne_of_none e ha
  have n2 := ne_of_none e hd
  rw [upd_ne n2, del_ne n1, upd_ne n2, upd_ne n2, upd_ne n1, upd_ne n2, upd_ne n1]
  exact e
/-- a field's value, and the datum it is -/
inductive Fv (H : Hp) : V → PyData → Prop
  | int (i : Int) (h : i.natAbs < 2 ^ 110) : Fv H (.int i) (.int i)
  | st : Fv H (.str "name") (.str "name")
  | se : Fv H (.str "") (.str "")
  | non : Fv H .non .none
  | bl (b : Bool) : Fv H (.bl b) (.bool b)
  | tup (a : Addr) (h : H a = some (.tup [.int 1, .str "x"])) : Fv H (.ref a) (.tuple [.int 1, .str "x"])
theorem Fv.same {H H' : Hp} {v : V} {d : PyData} (h : Fv H v d) (e : Same H H') : Fv H' v d := by
  cases h with
  | int i h => exact .int i h
  | st => exact .st
  | se => exact .se
  | non => exact .non
  | bl b => exact .bl b
  | tup a h => exact .tup a (e _ _ h)
theorem Fv.dp {K : PySem.W.Frag} {H : Hp} {v : V} {d : PyData} (h : Fv H v d) : Dp K H v d := by
  cases h with
  | int i h => exact .int i
  | st => exact .str _
  | se => exact .str _
  | non => exact .non
  | bl b => exact .bl b
  | tup a h => exact .tup (SqT.of h) (.cons (.int _) (.cons (.str _) .nil))
theorem Fv.shape {H : Hp} {v : V} {d : PyData} (h : Fv H v d) : d.showable = true ∧ d.hasDict = false ∧ d.depth ≤ 2 ∧ d.shown.length ≤ 120 := by
  cases h with
  | int i h =>
    have l : i.natAbs.log2 < 110 := HwM.log2_lt (k := 110) (by decide) h
    have e := PySem.int_text_length_le (a := i) (k := 110) (by decide) l
    refine ⟨?_, rfl, by simp [PyData.depth], ?_⟩
    · simp only [PyData.showable]
      exact decide_eq_true (by omega)
    · simp only [PyData.shown]
      rw [PySem.ofString_length]
      omega
  | st => exact ⟨by decide +kernel, by decide +kernel, by decide +kernel, by decide +kernel⟩
  | se => exact ⟨by decide +kernel, by decide +kernel, by decide +kernel, by decide +kernel⟩
  | non => exact ⟨rfl, rfl, by decide, by decide +kernel⟩
  | bl b => cases b <;> exact ⟨rfl, rfl, by decide, by decide +kernel⟩
  | tup a h => exact ⟨by decide +kernel, by rfl, by decide +kernel, by decide +kernel⟩
inductive FvL (H : Hp) : List V → List PyData → Prop
  | nil : FvL H [] []
  | cons {v : V} {d : PyData} {vs : List V} {ds : List PyData} (h : Fv H v d) (r : FvL H vs ds) : FvL H (v :: vs) (d :: ds)
theorem FvL.dp {K : PySem.W.Frag} {H : Hp} {vs : List V} {ds : List PyData} (h : FvL H vs ds) : DpAll K H vs ds := by
  induction h with
  | nil => exact .nil
  | cons h r ih => exact .cons h.dp ih
theorem FvL.same {H H' : Hp} {vs : List V} {ds : List PyData} (h : FvL H vs ds) (e : Same H H') : FvL H' vs ds := by
  induction h with
  | nil => exact .nil
  | cons h r ih => exact .cons (h.same e) ih
theorem FvL.shape {H : Hp} {vs : List V} {ds : List PyData} (h : FvL H vs ds) : PyData.showableAll ds = true ∧ PyData.hasDictAll ds = false ∧ PyData.depthAll ds ≤ 2 ∧ ((PyData.shownAll ds).map (·.length)).sum ≤ 120 * vs.length ∧ (PyData.shownAll ds).length = vs.length := by
  induction h with
  | nil => exact ⟨rfl, rfl, by decide, by decide, rfl⟩
  | cons h r ih =>
    obtain ⟨a, b, c, d⟩ := h.shape
    obtain ⟨a2, b2, c2, d2, e2⟩ := ih
    refine ⟨by simp [PyData.showableAll, a, a2], by simp [PyData.hasDictAll, b, b2], by simp only [PyData.depthAll]; omega, ?_, by simp [PyData.shownAll, e2]⟩
    simp only [PyData.shownAll, List.map_cons, List.sum_cons, List.length_cons]
    omega
/-- repr of a list of fields -/
theorem rep_fields {K : PySem.W.Frag} {H : Hp} {a : Addr} {vs : List V} {ds : List PyData} {Q : VK} (ha : H a = some (.lst vs)) (h : FvL H vs ds) (hl : vs.length ≤ 8) (k : Q (.str (PyData.list ds).shown) H) : rRepr K [.ref a] H Q := by
  obtain ⟨a1, b1, c1, d1, e1⟩ := h.shape
  refine ⟨.ref a, .list ds, rfl, .lst (SqL.of ha) h.dp, by simpa [PyData.showable] using a1, by simpa [PyData.hasDict] using b1, by simp only [PyData.depth]; omega, ?_, k⟩
  simp only [PyData.shown]
  have := listText_len_le (PyData.shownAll ds)
  refine line_le ?_
  omega
theorem isC {K : PySem.W.Frag} {CL : Nat → Addr} {CH : Addr} {H : Hp} {i j : Nat} {Q : VK} {a : Addr} {d : Option Addr} (KC : KinC K CL CH) (hi : i < 22) (hj : j < 22) (hd : d = none ∨ ∃ dd fs, d = some dd ∧ H dd = some (.xd fs)) (k : Q (.bl (decide (i = j))) H) : rIsC K a (.ref (CL i)) d [.ref a, .ref (CL j)] H Q :=
  ⟨.ref (CL j), CL i, _, _, rfl, rfl, KC.ev i hi, .own _, KC.kit i j hi hj, hd, k⟩
theorem isCV {K : PySem.W.Frag} {CL : Nat → Addr} {CH : Addr} {H : Hp} {i : Nat} {Q : VK} {a : Addr} {d : Option Addr} (KC : KinC K CL CH) (hi : i < 22) (hd : d = none ∨ ∃ dd fs, d = some dd ∧ H dd = some (.xd fs)) (k : Q (.bl true) H) : rIsC K a (.ref (CL i)) d [.ref a, .ty "ValueError"] H Q :=
  ⟨.ty "ValueError", CL i, _, _, rfl, rfl, KC.ev i hi, .ty _, KC.kV i hi, hd, k⟩
theorem FvL.of {H : Hp} : ∀ {xs : List V}, (∀ x ∈ xs, ∃ d, Fv H x d) → ∃ ds, FvL H xs ds
  | [], _ => ⟨[], .nil⟩
  | x :: xs, h => by
    obtain ⟨d, hd⟩ := h x List.mem_cons_self
    obtain ⟨ds, hds⟩ := FvL.of (xs := xs) fun y hy => h y (List.mem_cons_of_mem _ hy)
    exact ⟨d :: ds, .cons hd hds⟩
theorem ne_int1 {K : PySem.W.Frag} {H : Hp} {a b : Addr} {i j : Int} {Q : VK} (ha : H a = some (.lst [.int i])) (hb : H b = some (.lst [.int j])) (e : i = j) (k : Q (.bl false) H) : rNeD K (.ref a) (.ref b) H Q := by
  subst e
  refine ⟨.list [.int i], .list [.int i], .lst (SqL.of ha) (.cons (.int _) .nil), .lst (SqL.of hb) (.cons (.int _) .nil), by rfl, by rfl, ?_⟩
  rw [show PyData.eqv (.list [.int i]) (.list [.int i]) = true by simp [PyData.eqv, PyData.eqvAll]]
  exact k
theorem eq_bls3 {K : PySem.W.Frag} {H : Hp} {a b : Addr} {x y z : Bool} {Q : VK} (ha : H a = some (.lst [.bl x, .bl y, .bl z])) (hb : H b = some (.lst [.bl x, .bl y, .bl z])) (k : Q (.bl true) H) : rEqD K (.ref a) (.ref b) H Q := by
  refine ⟨.list [.bool x, .bool y, .bool z], .list [.bool x, .bool y, .bool z], .lst (SqL.of ha) (.cons (.bl _) (.cons (.bl _) (.cons (.bl _) .nil))), .lst (SqL.of hb) (.cons (.bl _) (.cons (.bl _) (.cons (.bl _) .nil))), by rfl, by rfl, ?_⟩
  rw [show PyData.eqv (.list [.bool x, .bool y, .bool z]) (.list [.bool x, .bool y, .bool z]) = true by cases x <;> cases y <;> cases z <;> decide +kernel]
  exact k
theorem x2_all {K : PySem.W.Frag} {Wo : WX} {D : Ends} {l : List HdA} {τ : L2.St} {H1 : Hp} {a d C : Addr} {f1 f2 : Str} {x y : V} (ha : H1 a = none) (hd : H1 d = none) (hda : d ≠ a)
    (k : ∀ H', Same H1 H' → H' d = some (.xd [(f2, y), (f1, x)]) → wAll K Wo D l (.ref C) (some d) τ H') :
    ∃ (d' : Addr), (upd (upd (upd (upd H1 a (exo a C none)) d (exd d [(f1, x)])) a (exo a C (some d))) d (exd d [(f2, y), (f1, x)])) a = some (exo a C (some d')) ∧ ∃ (fs : List (Str × V)), (upd (upd (upd (upd H1 a (exo a C none)) d (exd d [(f1, x)])) a (exo a C (some d))) d (exd d [(f2, y), (f1, x)])) d' = some (exd d' fs) ∧ H1 d' = none ∧ wAll K Wo D l (.ref C) (some d') τ (upd (del (upd (upd (upd (upd H1 a (exo a C none)) d (exd d [(f1, x)])) a (exo a C (some d))) d (exd d [(f2, y), (f1, x)])) a) d' (.xd fs)) :=
  x2_made (Q := fun c o H' => wAll K Wo D l c o τ H') ha hd hda k
theorem x3_all {K : PySem.W.Frag} {Wo : WX} {D : Ends} {l : List HdA} {τ : L2.St} {H1 : Hp} {a d C : Addr} {f1 f2 f3 : Str} {x y z : V} (ha : H1 a = none) (hd : H1 d = none) (hda : d ≠ a)
    (k : ∀ H', Same H1 H' → H' d = some (.xd [(f3, z), (f2, y), (f1, x)]) → wAll K Wo D l (.ref C) (some d) τ H') :
    ∃ (d' : Addr), (upd (upd (upd (upd (upd H1 a (exo a C none)) d (exd d [(f1, x)])) a (exo a C (some d))) d (exd d [(f2, y), (f1, x)])) d (exd d [(f3, z), (f2, y), (f1, x)])) a = some (exo a C (some d')) ∧ ∃ (fs : List (Str × V)), (upd (upd (upd (upd (upd H1 a (exo a C none)) d (exd d [(f1, x)])) a (exo a C (some d))) d (exd d [(f2, y), (f1, x)])) d (exd d [(f3, z), (f2, y), (f1, x)])) d' = some (exd d' fs) ∧ H1 d' = none ∧ wAll K Wo D l (.ref C) (some d') τ (upd (del (upd (upd (upd (upd (upd H1 a (exo a C none)) d (exd d [(f1, x)])) a (exo a C (some d))) d (exd d [(f2, y), (f1, x)])) d (exd d [(f3, z), (f2, y), (f1, x)])) a) d' (.xd fs)) :=
  x3_made (Q := fun c o H' => wAll K Wo D l c o τ H') ha hd hda k
end L2
end

section
/-! Lists or tuples: for, comprehensions, stars; the least common multiple. -/
namespace L2
open PySem PySem.Spec PyProof.Rows LamX
/-- a list or a tuple at a -/
def Sq (K : PySem.W.Frag) (H : Hp) (a : Addr) (xs : List V) : Prop := SqL K H a xs ∨ SqT K H a xs
theorem Same.sqT {K : PySem.W.Frag} {H H' : Hp} {a : Addr} {xs : List V} (e : Same H H') (h : SqT K H a xs) : SqT K H' a xs := by
  rcases h with (h | ⟨o, h⟩) | h
  · exact .inl (.inl (e _ _ h))
  · exact .inl (.inr ⟨o, e _ _ h⟩)
  · exact .inr h
theorem Sq.same {K : PySem.W.Frag} {H H' : Hp} {a : Addr} {xs : List V} (h : Sq K H a xs) (e : Same H H') : Sq K H' a xs := h.elim (fun h => .inl (e.seq h)) (fun h => .inr (e.sqT h))
section
variable {X : Cx} {tg : Expr}
def iSeq (K : PySem.W.Frag) (tl : TE) : TI := fun σ H R => tl σ H fun x H1 => ∃ a, x = .ref a ∧ (((∃ xs, SqL K H1 a xs) ∧ R (Itl K a) H1) ∨ ((∃ xs, SqT K H1 a xs) ∧ R (Itt K a) H1))
theorem pi_seq {l : Expr} {tl : TE} (hl : PE X l tl) : PI X tg l (iSeq X.K tl) := by
  refine ⟨fun pins s σ H R I h => ?_⟩
  refine thn (hl.run pins s σ H _ I h) fun v s1 ⟨x, H1, I1, r1, q1⟩ => ?_
  obtain ⟨a, e, ⟨⟨xs, hq⟩, q⟩ | ⟨⟨xs, hq⟩, q⟩⟩ := q1
  · subst e
    cases r1
    obtain ⟨its, rv, p, hz⟩ := I1.list hq
    refine wpAny_pyIter_list p.isList ?_
    refine ⟨s1.heap.objs.size, [s1.heap.objs.size], _, _, H1, rfl, I1.kept (t' := s1.toks) fun b o e => Heap.get?_push_of_some _ e, turn_list a _, ⟨_, Heap.get?_push_size _ rfl, rfl, rfl⟩, fun b hb => ?_, q⟩
    have e : b = s1.heap.objs.size := by simpa using hb
    subst e
    exact I1.fpOk (Nat.le_refl _) (I1.hok.fresh (Nat.le_refl _))
  · subst e
    cases r1
    obtain ⟨its, rv, p, hz⟩ := I1.tuple hq
    refine wpAny_pyIter_tuple (show s1.heap.IsTuple a its.toArray from p) ?_
    refine ⟨s1.heap.objs.size, [s1.heap.objs.size], _, _, H1, rfl, I1.kept (t' := s1.toks) fun b o e => Heap.get?_push_of_some _ e, turn_tuple a _, ⟨_, Heap.get?_push_size _ rfl, rfl, rfl⟩, fun b hb => ?_, q⟩
    have e : b = s1.heap.objs.size := by simpa using hb
    subst e
    exact I1.fpOk (Nat.le_refl _) (I1.hok.fresh (Nat.le_refl _))
/-! ### stars -/
def tStar (K : PySem.W.Frag) (te : TE) (tr : TA) : TA := fun σ H Q => te σ H fun x H1 => ∃ a xs, x = .ref a ∧ Sq K H1 a xs ∧ tr σ H1 fun ys H2 => Q (xs ++ ys) H2
theorem vals_app : ∀ {xs ys : List V} {us ws : List Value}, Vals xs us → Vals ys ws → Vals (xs ++ ys) (us ++ ws)
  | _, _, _, _, .nil, h => h
  | _, _, _, _, .cons r h, k => .cons r (vals_app h k)
theorem pa_star {e : Expr} {es : List Expr} {te : TE} {t : TA} {p : Pos} (ha : PE X e te) (hr : PA X es t) (he : starEach (.Starred e p :: es) X.env = (true, eval e X.env) :: starEach es X.env := by rfl) : PA X (.Starred e p :: es) (tStar X.K te t) := by
  refine ⟨fun pos pins s σ H Q I h => PySem.W.items_star (thn (ha.run pins s σ H _ I h) fun u s1 hh => ?_) he⟩
  obtain ⟨x, H1, I1, r1, a, xs, rfl, hs, q⟩ := hh
  obtain rfl : u = Value.ref a := r1
  have go : ∀ (o : Obj) (T : String) (its : List Value) (n : Nat), (T = "list" ∨ T = "tuple") → s1.heap.get? a = some o → o.cls = .type T → o.data = .seq its.toArray n → its.length ≤ sizeLine → Vals xs its →
      PySem.W.StarOf (model X.prog X.w) X.A X.xe (.ref a) (fun here s₂ => wpAny (model X.prog X.w) X.A (spliced (backTo pos (starEach es X.env))) (fun vs s₃ => AP X pins σ Q (here ++ vs) s₃) X.xe s₂) s1 := by
    intro o T its n hT ho hc hd hz rv
    have hT' : s1.TypeIs (.ref a) T := ⟨o, ho, hc⟩
    have z : wpAny (model X.prog X.w) X.A (collect (.ref a)) (fun here s₂ => wpAny (model X.prog X.w) X.A (spliced (backTo pos (starEach es X.env))) (fun vs s₃ => AP X pins σ Q (here ++ vs) s₃) X.xe s₂) X.xe s1 := by
      refine wpAny_collect_seq a hT ho hc hd (fun h' hk => ?_) (by simpa using hz)
      have I2 : Inv X pins σ H1 { s1 with heap := h' } := I1.kept (t' := s1.toks) hk
      refine thn (hr.run pos pins _ σ H1 _ I2 q) fun ws s3 hw => ?_
      obtain ⟨ys, H2, I3, r3, q3⟩ := hw
      exact ⟨xs ++ ys, H2, I3, vals_app (by simpa using rv) r3, q3⟩
    unfold PySem.W.StarOf notIterableAtAll
    rcases hT with rfl | rfl
    · exact wpAny_bind (wpAny_specialOf hT' PySem.F.slot_list_iter.lookup (wpAny_pure ⟨rfl, z⟩))
    · exact wpAny_bind (wpAny_specialOf hT' PySem.F.slot_tuple_iter.lookup (wpAny_pure ⟨rfl, z⟩))
  rcases hs with hs | hs
  · obtain ⟨its, rv, p, hz⟩ := I1.list hs
    obtain ⟨o, ho, hc, n, hd⟩ := p.isList
    exact go o "list" its n (.inl rfl) ho hc hd (by rw [← Paired.length rv]; exact hz) rv
  · obtain ⟨its, rv, p, hz⟩ := I1.tuple hs
    obtain ⟨o, ho, hc, n, hd⟩ := (show s1.heap.IsTuple a its.toArray from p)
    exact go o "tuple" its n (.inr rfl) ho hc hd (by rw [← Paired.length rv]; exact hz) rv
theorem pe_fldE {K : PySem.W.Frag} {e : Expr} {ta : TE} {f : Str} {pos : Pos} (hK : X.K = K) (he : PE X e ta) (hb : attributeBase e f X.env (eval e X.env) = eval e X.env) : PE X (.Attribute e f pos) (tFld K ta f) := by
  subst hK
  exact pe_fld he hb
/-! ### the least common multiple -/
def rLcm : List V → Hp → VK → Prop := fun vs H Q => ∃ a b : Int, vs = [.int a, .int b] ∧ a.natAbs < 2 ^ 9000 ∧ b.natAbs < 2 ^ 9000 ∧ Q (.int ((Nat.lcm a.natAbs b.natAbs : Nat) : Int)) H
theorem cr_lcm : CallR X (.builtin "math.lcm") rLcm := by
  intro pins s σ H vs us Q I r h
  obtain ⟨a, b, rfl, ha, hb, q⟩ := h
  obtain ⟨t, u, rfl⟩ := Vals.int2 r
  have h0 : (1 : Nat) < 2 ^ 9000 := Nat.lt_of_lt_of_le (show 1 < 2 ^ 1 by decide) (Nat.pow_le_pow_right (by decide) (by decide))
  have h1 : (max 1 a.natAbs).log2 < 9000 := by
    refine (Nat.log2_lt (by omega)).mpr ?_
    omega
  have h2 : (max a.natAbs b.natAbs).log2 < 9000 := by
    by_cases z : max a.natAbs b.natAbs = 0
    · rw [z, Nat.log2_zero]; decide
    · exact (Nat.log2_lt z).mpr (by omega)
  have e1 : (Nat.lcm 1 a.natAbs) = a.natAbs := Nat.lcm_one_left _
  have sz : ((((Nat.lcm 1 a.natAbs).lcm b.natAbs : Nat) : Int)).natAbs.log2 < bitsLine := by
    rw [e1, Int.natAbs_natCast]
    have le : Nat.lcm a.natAbs b.natAbs ≤ a.natAbs * b.natAbs := Nat.div_le_self _ _
    by_cases z : Nat.lcm a.natAbs b.natAbs = 0
    · rw [z, Nat.log2_zero]; decide
    · have l : (Nat.lcm a.natAbs b.natAbs).log2 < 18000 := (Nat.log2_lt z).mpr (Nat.lt_of_le_of_lt le (by
        have : a.natAbs * b.natAbs < 2 ^ 9000 * 2 ^ 9000 := Nat.mul_lt_mul'' ha hb
        rwa [← Nat.pow_add] at this))
      exact Nat.lt_trans l (by decide)
  refine call_function_meets PySem.W.MGF.kind_lcm PySem.W.MGF.plain_lcm PySem.W.MGF.entry_lcm (PySem.W.MGF.args_lcm _ _) (PySem.W.mg_run_lcm a t b u (by omega) (by omega) sz).meets ?_
  rw [e1]
  exact ⟨.int _, H, I.tok _, ⟨_, rfl⟩, q⟩
end
/-! ### readings -/
section
variable {K : PySem.W.Frag} {a : Addr} {xs : List V}
theorem for_seq {g : TG} {tb : TS} {D : Ends} {σ : L2.St} {H : Hp} (hq : Sq K H a xs) (Pv : Nat → L2.St → Hp → Prop) (h0 : Pv 0 σ H) (hl : ∀ i σ' H', Pv i σ' H' → Same H H')
    (hs : ∀ i x σ H, xs[i]? = some x → Pv i σ H → g x σ H fun σ2 H2 => tb { D with nx := Pv (i + 1), ct := Pv (i + 1), bk := D.nx } σ2 H2) (hd : ∀ σ H, Pv xs.length σ H → D.nx σ H) :
    ((∃ ys, SqL K H a ys) ∧ ∃ W : Nat → Nat → L2.St → Hp → Prop, (∃ m, W 0 m σ H) ∧ ∀ i m σ H, W i m σ H →
      ((Itl K a).stop i H ∧ D.nx σ H) ∨ ((Itl K a).go i H ∧ ∃ N : L2.St → Hp → Prop, (∀ σ' H', N σ' H' → ∃ m', m' < m ∧ W (i + 1) m' σ' H') ∧ ∀ x H', (Itl K a).yld i H x H' → g x σ H' fun σ2 H2 => tb { D with nx := N, ct := N, bk := D.nx } σ2 H2)) ∨
    ((∃ ys, SqT K H a ys) ∧ ∃ W : Nat → Nat → L2.St → Hp → Prop, (∃ m, W 0 m σ H) ∧ ∀ i m σ H, W i m σ H →
      ((Itt K a).stop i H ∧ D.nx σ H) ∨ ((Itt K a).go i H ∧ ∃ N : L2.St → Hp → Prop, (∀ σ' H', N σ' H' → ∃ m', m' < m ∧ W (i + 1) m' σ' H') ∧ ∀ x H', (Itt K a).yld i H x H' → g x σ H' fun σ2 H2 => tb { D with nx := N, ct := N, bk := D.nx } σ2 H2)) := by
  rcases hq with hq | hq
  · exact .inl ⟨⟨_, hq⟩, for_list (xs := xs) Pv h0 (fun i σ' H' _ p => (hl i σ' H' p).seq hq) hs hd⟩
  · exact .inr ⟨⟨_, hq⟩, for_tup (xs := xs) Pv h0 (fun i σ' H' _ p => (hl i σ' H' p).sqT hq) hs hd⟩
theorem lc_seq {g : TG} {tt : TT} {te : TE} {vs : List Nat} {σ : L2.St} {H1 : Hp} {Qd : Addr → Hp → Prop} (hq : Sq K H1 a xs) (Pv : Addr → Nat → Hp → Prop) (h0 : ∀ D, H1 D = none → Pv D 0 (upd H1 D (.lst []))) (hl : ∀ D, H1 D = none → ∀ i H, Pv D i H → Same H1 H)
    (hs : ∀ D, H1 D = none → ∀ i x H, xs[i]? = some x → Pv D i H → g x (wipe σ vs) H fun σ2 H2 => wipe σ2 vs = wipe σ vs ∧ tt σ2 H2 fun b H3 =>
      if b = true then te σ2 H3 fun y H4 => ∃ acc, H4 D = some (.lst acc) ∧ acc.length < sizeLine ∧ Pv D (i + 1) (upd H4 D (.lst (acc ++ [y]))) else Pv D (i + 1) H3) (hd : ∀ D, H1 D = none → ∀ H, Pv D xs.length H → Qd D H) :
    ((∃ ys, SqL K H1 a ys) ∧ ∀ D, H1 D = none → ∃ W : Nat → Nat → Hp → Prop, (∃ m, W 0 m (upd H1 D (.lst []))) ∧ ∀ i m H, W i m H →
      ((Itl K a).stop i H ∧ Qd D H) ∨ ((Itl K a).go i H ∧ ∃ Nx : Hp → Prop, (∀ H', Nx H' → ∃ m', m' < m ∧ W (i + 1) m' H') ∧ ∀ x H', (Itl K a).yld i H x H' → g x (wipe σ vs) H' fun σ2 H2 => wipe σ2 vs = wipe σ vs ∧ tt σ2 H2 fun b H3 =>
        if b = true then te σ2 H3 fun y H4 => ∃ acc, H4 D = some (.lst acc) ∧ acc.length < sizeLine ∧ Nx (upd H4 D (.lst (acc ++ [y]))) else Nx H3)) ∨
    ((∃ ys, SqT K H1 a ys) ∧ ∀ D, H1 D = none → ∃ W : Nat → Nat → Hp → Prop, (∃ m, W 0 m (upd H1 D (.lst []))) ∧ ∀ i m H, W i m H →
      ((Itt K a).stop i H ∧ Qd D H) ∨ ((Itt K a).go i H ∧ ∃ Nx : Hp → Prop, (∀ H', Nx H' → ∃ m', m' < m ∧ W (i + 1) m' H') ∧ ∀ x H', (Itt K a).yld i H x H' → g x (wipe σ vs) H' fun σ2 H2 => wipe σ2 vs = wipe σ vs ∧ tt σ2 H2 fun b H3 =>
        if b = true then te σ2 H3 fun y H4 => ∃ acc, H4 D = some (.lst acc) ∧ acc.length < sizeLine ∧ Nx (upd H4 D (.lst (acc ++ [y]))) else Nx H3)) := by
  rcases hq with hq | hq
  · exact .inl ⟨⟨_, hq⟩, fun D hD => lc_list (xs := xs) (Pv D) (h0 D hD) (fun i H' _ p => (hl D hD i H' p).seq hq) (hs D hD) (hd D hD)⟩
  · exact .inr ⟨⟨_, hq⟩, fun D hD => lc_tup (xs := xs) (Pv D) (h0 D hD) (fun i H' _ p => (hl D hD i H' p).sqT hq) (hs D hD) (hd D hD)⟩
end
end L2
end

section
/-! Rows of whole numbers of a form. -/
namespace HwP
open HwM
inductive Fa2 {α β : Type} (R : α → β → Prop) : List α → List β → Prop
  | nil : Fa2 R [] []
  | cons {a : α} {b : β} {as : List α} {bs : List β} : R a b → Fa2 R as bs → Fa2 R (a :: as) (b :: bs)
theorem Fa2.mono {α β : Type} {R S : α → β → Prop} {as : List α} {bs : List β} (h : Fa2 R as bs) (k : ∀ a b, R a b → S a b) : Fa2 S as bs := by
  induction h with
  | nil => exact .nil
  | cons h _ ih => exact .cons (k _ _ h) ih
theorem Fa2.len {α β : Type} {R : α → β → Prop} {as : List α} {bs : List β} (h : Fa2 R as bs) : as.length = bs.length := by
  induction h with
  | nil => rfl
  | cons _ _ ih => simp [ih]
theorem Fa2.get {α β : Type} {R : α → β → Prop} {as : List α} {bs : List β} (h : Fa2 R as bs) : ∀ {i : Nat} {a : α}, as[i]? = some a → ∃ b, bs[i]? = some b ∧ R a b := by
  induction h with
  | nil => intro i a e; cases e
  | cons h _ ih =>
    intro i a e
    cases i with
    | zero => cases e; exact ⟨_, rfl, h⟩
    | succ i => exact ih e
theorem Fa2.app {α β : Type} {R : α → β → Prop} {as cs : List α} {bs ds : List β} (h : Fa2 R as bs) (k : Fa2 R cs ds) : Fa2 R (as ++ cs) (bs ++ ds) := by
  induction h with
  | nil => exact k
  | cons h _ ih => exact .cons h ih
theorem Fa2.snoc {α β : Type} {R : α → β → Prop} {as : List α} {bs : List β} {a : α} {b : β} (h : Fa2 R as bs) (k : R a b) : Fa2 R (as ++ [a]) (bs ++ [b]) := h.app (.cons k .nil)
theorem take_snoc {α : Type} {l : List α} {i : Nat} {a : α} (h : l[i]? = some a) : l.take (i + 1) = l.take i ++ [a] := by rw [List.take_succ, h]; rfl
/-- the least common bottom -/
def wb (qs : List Rat) : Nat := qs.foldl (fun b q => Nat.lcm b q.den) 1
theorem wb_snoc (qs : List Rat) (q : Rat) : wb (qs ++ [q]) = Nat.lcm (wb qs) q.den := by unfold wb; rw [List.foldl_append]; rfl
theorem fold_bd : ∀ (qs : List Rat) (b k : Nat), b < 2 ^ k → (∀ q ∈ qs, Bd 400 q) → qs.foldl (fun b q => Nat.lcm b q.den) b < 2 ^ (k + 400 * qs.length)
  | [], b, k, h, _ => by simpa using h
  | q :: qs, b, k, h, hq => by
    have l : Nat.lcm b q.den < 2 ^ (k + 400) := Nat.lt_of_le_of_lt (Nat.div_le_self _ _) (mul_lt h (hq q List.mem_cons_self).2)
    have := fold_bd qs _ (k + 400) l fun r hr => hq r (List.mem_cons_of_mem _ hr)
    rw [List.foldl_cons, List.length_cons]
    exact lt_mono this (by omega)
theorem wb_bd {qs : List Rat} (h : ∀ q ∈ qs, Bd 400 q) : wb qs < 2 ^ (1 + 400 * qs.length) := fold_bd qs 1 1 (by decide) h
theorem fold_dvd : ∀ (qs : List Rat) (b : Nat), b ∣ qs.foldl (fun b q => Nat.lcm b q.den) b ∧ ∀ q ∈ qs, q.den ∣ qs.foldl (fun b q => Nat.lcm b q.den) b
  | [], b => ⟨Nat.dvd_refl _, fun _ h => by cases h⟩
  | q :: qs, b => by
    obtain ⟨h1, h2⟩ := fold_dvd qs (Nat.lcm b q.den)
    rw [List.foldl_cons]
    refine ⟨Nat.dvd_trans (Nat.dvd_lcm_left _ _) h1, fun r hr => ?_⟩
    rcases List.mem_cons.mp hr with rfl | hr
    · exact Nat.dvd_trans (Nat.dvd_lcm_right _ _) h1
    · exact h2 r hr
theorem wb_dvd {qs : List Rat} {q : Rat} (h : q ∈ qs) : q.den ∣ wb qs := (fold_dvd qs 1).2 q h
theorem fold_pos : ∀ (qs : List Rat) (b : Nat), 0 < b → 0 < qs.foldl (fun b q => Nat.lcm b q.den) b
  | [], b, h => h
  | q :: qs, b, h => fold_pos qs _ (Nat.lcm_pos h q.den_pos)
theorem wb_pos (qs : List Rat) : 0 < wb qs := fold_pos qs 1 (by decide)
/-- the form's numbers over the least common bottom -/
def ws (qs : List Rat) : List Int := qs.map fun q => q.num * ((wb qs : Int) / (q.den : Int))
def cg (zs : List Int) : Nat := zs.foldl (fun c z => Nat.gcd c z.natAbs) 0
theorem cg_snoc (zs : List Int) (z : Int) : cg (zs ++ [z]) = Nat.gcd (cg zs) z.natAbs := by unfold cg; rw [List.foldl_append]; rfl
def row (qs : List Rat) : List Int := if cg (ws qs) ≤ 1 then ws qs else (ws qs).map fun z => z / (cg (ws qs) : Int)
theorem ws_bd {qs : List Rat} (h : ∀ q ∈ qs, Bd 400 q) (hl : qs.length ≤ 20) : ∀ z ∈ ws qs, z.natAbs < 2 ^ 8800 := by
  intro z hz
  obtain ⟨q, hq, rfl⟩ := List.mem_map.mp hz
  rw [Int.natAbs_mul]
  have b1 := (h q hq).1
  have b2 : ((wb qs : Int) / (q.den : Int)).natAbs < 2 ^ 8001 := by
    have e : ((wb qs : Int) / (q.den : Int)).natAbs = wb qs / q.den := by
      rw [← Int.natCast_ediv, Int.natAbs_natCast]
    rw [e]
    exact Nat.lt_of_le_of_lt (Nat.div_le_self _ _) (lt_mono (wb_bd h) (by omega))
  exact lt_mono (mul_lt b1 b2) (by decide)
theorem gfold_bd : ∀ (zs : List Int) (c n : Nat), c < 2 ^ n → (∀ z ∈ zs, z.natAbs < 2 ^ n) → zs.foldl (fun c z => Nat.gcd c z.natAbs) c < 2 ^ n
  | [], c, n, h, _ => h
  | z :: zs, c, n, h, hz => by
    rw [List.foldl_cons]
    refine gfold_bd zs _ n ?_ fun y hy => hz y (List.mem_cons_of_mem _ hy)
    by_cases e : c = 0
    · rw [e, Nat.gcd_zero_left]; exact hz z List.mem_cons_self
    · exact Nat.lt_of_le_of_lt (Nat.gcd_le_left _ (by omega)) h
theorem cg_bd {zs : List Int} {n : Nat} (h : ∀ z ∈ zs, z.natAbs < 2 ^ n) : cg zs < 2 ^ n := gfold_bd zs 0 n (Nat.two_pow_pos n) h
theorem gfold_dvd : ∀ (zs : List Int) (c : Nat), zs.foldl (fun c z => Nat.gcd c z.natAbs) c ∣ c ∧ ∀ z ∈ zs, zs.foldl (fun c z => Nat.gcd c z.natAbs) c ∣ z.natAbs
  | [], c => ⟨Nat.dvd_refl _, fun _ h => by cases h⟩
  | y :: zs, c => by
    obtain ⟨h1, h2⟩ := gfold_dvd zs (Nat.gcd c y.natAbs)
    rw [List.foldl_cons]
    refine ⟨Nat.dvd_trans h1 (Nat.gcd_dvd_left _ _), fun r hr => ?_⟩
    rcases List.mem_cons.mp hr with rfl | hr
    · exact Nat.dvd_trans h1 (Nat.gcd_dvd_right _ _)
    · exact h2 r hr
theorem cg_dvd {zs : List Int} {z : Int} (h : z ∈ zs) : (cg zs : Int) ∣ z := Int.natAbs_dvd_natAbs.mp (by rw [Int.natAbs_natCast]; exact (gfold_dvd zs 0).2 z h)
theorem quo_bd {qs : List Rat} (h : ∀ q ∈ qs, Bd 400 q) (hl : qs.length ≤ 20) (d : Nat) : ((wb qs : Int) / (d : Int)).natAbs < 2 ^ 8001 := by
  rw [← Int.natCast_ediv, Int.natAbs_natCast]
  exact Nat.lt_of_le_of_lt (Nat.div_le_self _ _) (lt_mono (wb_bd h) (by omega))
end HwP
namespace L2
open PySem PySem.Spec PyProof.Rows
theorem walk_zipT {K : PySem.W.Frag} {a b : Addr} {xs ys : List V} {n : Nat} (hn : n = min xs.length ys.length) : Walk (RZ.ItzT K a b) n (fun H => SqT K H a xs ∧ SqT K H b ys) (YPair (fun i => xs[i]?) (fun i => ys[i]?)) := by
  subst hn
  refine ⟨fun i _ hi q => ?_, fun _ q => ⟨xs, ys, q.1, q.2, by omega⟩, fun i H v H' _ q y => ?_⟩
  · have h1 : i < xs.length := by omega
    have h2 : i < ys.length := by omega
    exact ⟨xs, ys, xs[i], ys[i], q.1, q.2, by simp [h1], by simp [h2]⟩
  · obtain ⟨T, x, z, h1, h2, h3, h4, h5⟩ := y
    exact ⟨T, x, z, h1, h2, h3, h4 xs q.1, h5 ys q.2⟩
end L2
end

section
/-! zip of a tuple and a list; == of tuples of own objects, either way. -/
namespace L2
open PySem PySem.Spec PyProof.Rows
/-- the tuple at a and the list at b as they stand at each turn, the items in new pairs -/
def ItzM (K : PySem.W.Frag) (a b : Addr) : It :=
  ⟨fun i H => ∃ (xs ys : List V) (x y : V), SqT K H a xs ∧ SqL K H b ys ∧ xs[i]? = some x ∧ ys[i]? = some y,
    fun i H v H' => ∃ T x y, v = .ref T ∧ H T = none ∧ H' = upd H T (.tup [x, y]) ∧ (∀ xs, SqT K H a xs → xs[i]? = some x) ∧ ∀ ys, SqL K H b ys → ys[i]? = some y,
    fun i H => ∃ xs ys : List V, SqT K H a xs ∧ SqL K H b ys ∧ i ≤ xs.length ∧ i ≤ ys.length ∧ (i = xs.length ∨ i = ys.length)⟩
theorem sepM {z TI TO i1 i2 a b : Addr} (D : ZipApart z TI TO i1 i2 a b) : ZipSep2 z TI TO i1 i2 [i1, a] [i2, b] where
  TIz := D.TIz
  TOz := D.TOz
  TITO := D.TITO
  TIi1 := D.TIi1
  mem1 := List.mem_cons_self
  zf1 := fun h => by
    rcases List.mem_cons.mp h with e | h
    · exact D.i1z e.symm
    · exact D.l1z (List.mem_singleton.mp h).symm
  Tf1 := fun h => by
    rcases List.mem_cons.mp h with e | h
    · exact D.TOi1 e
    · exact D.l1TO (List.mem_singleton.mp h).symm
  TIi2 := D.TIi2
  mem2 := List.mem_cons_self
  zf2 := fun h => by
    rcases List.mem_cons.mp h with e | h
    · exact D.i2z e.symm
    · exact D.l2z (List.mem_singleton.mp h).symm
  Tf2 := fun h => by
    rcases List.mem_cons.mp h with e | h
    · exact D.TOi2 e
    · exact D.l2TO (List.mem_singleton.mp h).symm
  sep1_2 := fun h => by
    rcases List.mem_cons.mp h with e | h
    · exact D.i12 e
    · exact D.l2i1 (List.mem_singleton.mp h).symm
  sep2_1 := fun h => by
    rcases List.mem_cons.mp h with e | h
    · exact D.i12 e.symm
    · exact D.l1i2 (List.mem_singleton.mp h).symm
theorem turn_zipM {P : Program} {w : World} {K : PySem.W.Frag} {elts : List Expr} {kk : Nat} {tpos : Pos} {a b z TI TO i1 i2 : Addr} (D : ZipApart z TI TO i1 i2 a b) :
    Turn P w K (.Tuple elts kk tpos) (ItzM K a b) [z, TI, TO, i1, i2] z (fun i h => IsZip h z TI TO .none ∧ IsPair h TI (.ref i1) (.ref i2) ∧ (∃ x y, IsPair h TO x y) ∧ h.IsTupleIter i1 a i ∧ h.IsListIter i2 b i) where
  mem := by simp
  obj := fun i h st c hc => by
    obtain ⟨hz, hTI, ⟨x, y, hTO⟩, ⟨o1, e1, _, d1⟩, ⟨o2, e2, _, d2⟩⟩ := st
    have e' : c = z ∨ c = TI ∨ c = TO ∨ c = i1 ∨ c = i2 := by simpa using hc
    rcases e' with q | q | q | q | q
    · rw [q]; exact ⟨_, hz, fun v q => nomatch q⟩
    · rw [q]; exact ⟨_, hTI, fun v q => nomatch q⟩
    · rw [q]; exact ⟨_, hTO, fun v q => nomatch q⟩
    · rw [q]; exact ⟨o1, e1, fun v q => by rw [d1] at q; cases q⟩
    · rw [q]; exact ⟨o2, e2, fun v q => by rw [d2] at q; cases q⟩
  keep := fun i h h' st k => by
    obtain ⟨hz, hTI, ⟨x, y, hTO⟩, h1, h2⟩ := st
    exact ⟨k z (by simp) _ hz, k TI (by simp) _ hTI, ⟨x, y, k TO (by simp) _ hTO⟩, h1.at fun o q => k i1 (by simp) o q, h2.at fun o q => k i2 (by simp) o q⟩
  item := by
    intro X hP hw hK hc i pins s σ H E I hf st hg
    subst hP hw hK
    obtain ⟨hz, hTI, ⟨x0, y0, hTO⟩, h1, h2⟩ := st
    obtain ⟨xs, ys, x, y, hqx, hqy, hx, hy⟩ := hg
    obtain ⟨its, rv, p, _⟩ := I.tuple hqx
    obtain ⟨its2, rv2, p2, _⟩ := I.list hqy
    obtain ⟨u, hu, ru⟩ := rv.get hx
    obtain ⟨u2, hu2, ru2⟩ := rv2.get hy
    have hzl : z < s.heap.objs.size := Heap.lt_size hz
    have hd : X.A.in1.handled = none := I.ok.hd hc
    have l1 : i < its.toArray.size := by
      rcases Nat.lt_or_ge i its.length with h | h
      · simpa using h
      · rw [List.getElem?_eq_none h] at hu; cases hu
    have l2 : i < its2.toArray.size := by
      rcases Nat.lt_or_ge i its2.length with h | h
      · simpa using h
      · rw [List.getElem?_eq_none h] at hu2; cases hu2
    refine wpAny_pyNext_zipD2_item (sepM D) (Draws.tuple hd i1 a D.l1i1 its.toArray) (Draws.list hd i2 b D.l2i2 its2.toArray) hz hTI hTO ⟨h1, p⟩ ⟨h2, p2.isList⟩ l1 l2 fun x1 x2 h' tk y1 y2 z' TO' st1 st2 hT hsz hk => ?_
    obtain ⟨h1', _⟩ := st1
    obtain ⟨h2', _⟩ := st2
    obtain rfl : u = x1 := by
      have : its[i]? = some x1 := by simpa using y1
      rw [hu] at this; exact Option.some.inj this
    obtain rfl : u2 = x2 := by
      have : its2[i]? = some x2 := by simpa using y2
      rw [hu2] at this; exact Option.some.inj this
    refine ⟨_, rfl, wpAny_letOwnedTupleGo_zip (s := { s with heap := h', toks := tk }) z' fun h'' z'' sb => ?_⟩
    have hT2 : h''.get? s.heap.objs.size = some { cls := .type "tuple", data := .seq #[u, u2] } := (sb.2 _ (Nat.ne_of_gt hzl)).trans hT
    have new : ObjOk X.prog X.w (upd H s.heap.objs.size (.tup [x, y])) h'' s.heap.objs.size (.tup [x, y]) :=
      ⟨by show 2 ≤ sizeLine; decide, [u, u2], .cons ru (.cons ru2 .nil), ⟨_, hT2, rfl, _, rfl⟩⟩
    have I1 : Inv X pins σ (upd H s.heap.objs.size (.tup [x, y])) { s with heap := h'', toks := tk } :=
      I.turnedNew (t' := tk) (ch := [z, TI, TO, i1, i2]) (fun c o hb q => (sb.2 c (fun q' => hb (by simp [q']))).trans (hk c o (fun q' => hb (by simp [q'])) (fun q' => hb (by simp [q'])) (fun q' => hb (by simp [q'])) (fun q' => hb (by simp [q'])) q)) hf (Nat.le_refl _) new
    refine ⟨.ref s.heap.objs.size, _, I1, rfl, ⟨_, x, y, rfl, I.hok.fresh (Nat.le_refl _), rfl, fun l hl => by rw [I.tuple_inj hl hqx]; exact hx, fun l hl => by rw [I.list_inj hl hqy]; exact hy⟩, ⟨z'', ?_, ⟨u, u2, ?_⟩, ?_, ?_⟩, fun c hcm => ?_⟩
    · exact (sb.2 _ D.TIz).trans (hk _ _ D.TIz D.TITO D.TIi1 D.TIi2 hTI)
    · exact (sb.2 _ D.TOz).trans TO'
    · exact h1'.at fun o q => (sb.2 _ D.i1z).trans q
    · exact h2'.at fun o q => (sb.2 _ D.i2z).trans q
    · have hlt : c < s.heap.objs.size := by
        have e' : c = z ∨ c = TI ∨ c = TO ∨ c = i1 ∨ c = i2 := by simpa using hcm
        rcases e' with q | q | q | q | q
        · rw [q]; exact hzl
        · rw [q]; exact Heap.lt_size hTI
        · rw [q]; exact Heap.lt_size hTO
        · rw [q]; obtain ⟨_, e1, _⟩ := h1; exact Heap.lt_size e1
        · rw [q]; obtain ⟨_, e2, _⟩ := h2; exact Heap.lt_size e2
      rw [upd_ne (Nat.ne_of_lt hlt)]
      exact (hf c hcm).1
  done := by
    intro X hP hw hK hc i pins s σ H E I hf st hg
    subst hP hw hK
    obtain ⟨hz, hTI, ⟨x0, y0, hTO⟩, h1, h2⟩ := st
    obtain ⟨xs, ys, hqx, hqy, hi1, hi2, hend⟩ := hg
    obtain ⟨its, rv, p, _⟩ := I.tuple hqx
    obtain ⟨its2, rv2, p2, _⟩ := I.list hqy
    have l1 := rv.length
    have l2 := rv2.length
    have hd : X.A.in1.handled = none := I.ok.hd hc
    exact wpAny_pyNext_zipD2_end (sepM D) (Draws.tuple hd i1 a D.l1i1 its.toArray) (Draws.list hd i2 b D.l2i2 its2.toArray) hz hTI hTO ⟨h1, p⟩ ⟨h2, p2.isList⟩ (by simp; omega) (by simp; omega) (by simp; omega) fun h' tk hk => ⟨rfl, I.turnedL (t' := tk) (ch := [z, TI, TO, i1, i2]) (fun c o hb q =>
      hk c o (fun q' => hb (by simp [q'])) (fun q' => hb (by simp [q'])) (fun q' => hb (by simp [q'])) (fun q' => hb (by simp [q'])) q) hf⟩
  self := fun A i s Q E st h => wpAny_pyIter_zip st.1 h
def iZipM (K : PySem.W.Frag) (ta : TA) : TI := fun σ H R => ta σ H fun vs H1 => ∃ a b xs ys, vs = [.ref a, .ref b] ∧ SqT K H1 a xs ∧ ((SqL K H1 b ys ∧ R (ItzM K a b) H1) ∨ (SqT K H1 b ys ∧ R (RZ.ItzT K a b) H1))
theorem pi_zipM {X : Cx} {e e2 : Expr} {ta : TA} {p pos tpos : Pos} {elts : List Expr} {kk : Nat} (hg : Gl X "zip") (hm : X.mg "zip" = none) (ha : PA X [e, e2] ta)
    (hs : starEach [e, e2] X.env = (false, eval e X.env) :: starEach [e2] X.env := by rfl) (hpl : (backTo pos (starEach [e2] X.env)).any (·.1) = false := by rfl) :
    PI X (.Tuple elts kk tpos) (.Call (.Name "zip" p) [e, e2] [] pos) (iZipM X.K ta) := by
  refine ⟨fun pins s σ H R I h => ?_⟩
  refine Call_ (ld_blt I hg hm PyProof.Rows.boot_zip (PyProof.Rows.callWith_type1 (thn (ha.run pos pins s σ H _ I h) fun us s1 ⟨vs, H1, I1, r1, q1⟩ => ?_) hs hpl))
  obtain ⟨a, b, xs, ys, ex, hqx, q1⟩ := q1
  subst ex
  cases r1 with
  | cons r rr =>
    cases rr with
    | cons r' rr =>
      cases rr
      cases r
      cases r'
      have fresh5 : ∀ c, c ∈ [s1.heap.objs.size + 4, s1.heap.objs.size + 2, s1.heap.objs.size + 3, s1.heap.objs.size, s1.heap.objs.size + 1] → FpOk X pins H1 c := fun c hcm => by
        have e' : c = s1.heap.objs.size + 4 ∨ c = s1.heap.objs.size + 2 ∨ c = s1.heap.objs.size + 3 ∨ c = s1.heap.objs.size ∨ c = s1.heap.objs.size + 1 := by simpa using hcm
        have hle : s1.heap.objs.size ≤ c := by
          rcases e' with z | z | z | z | z
          · rw [z]; exact Nat.le_add_right _ _
          · rw [z]; exact Nat.le_add_right _ _
          · rw [z]; exact Nat.le_add_right _ _
          · rw [z]; exact Nat.le_refl _
          · rw [z]; exact Nat.le_add_right _ _
        exact I1.fpOk hle (I1.hok.fresh hle)
      obtain ⟨its, rv, p1, _⟩ := I1.tuple hqx
      obtain ⟨o1, ho1, _⟩ := id p1
      rcases q1 with ⟨hqy, q⟩ | ⟨hqy, q⟩
      · obtain ⟨its2, rv2, p2, _⟩ := I1.list hqy
        refine zip_begins2 (begins_tuple a its.toArray) (begins_list b its2.toArray) p1 p2.isList fun h' hz hTI hTO g1 g2 hsz hk => wpAny_pyIter_zip hz ?_
        have I2 : Inv X pins σ H1 { s1 with heap := h' } := I1.kept (t' := s1.toks) hk
        exact ⟨s1.heap.objs.size + 4, [s1.heap.objs.size + 4, s1.heap.objs.size + 2, s1.heap.objs.size + 3, s1.heap.objs.size, s1.heap.objs.size + 1], _, _, H1, rfl, I2, turn_zipM (PySem.W.ktu_apart s1.heap.objs.size a b (Heap.lt_size ho1) p2.lt), ⟨hz, hTI, ⟨_, _, hTO⟩, ⟨_, g1, rfl, rfl⟩, ⟨_, g2, rfl, rfl⟩⟩, fresh5, q⟩
      · obtain ⟨its2, rv2, p2, _⟩ := I1.tuple hqy
        obtain ⟨o2, ho2, _⟩ := id p2
        refine RZ.call_zipT (show s1.heap.IsTuple a its.toArray from p1) (show s1.heap.IsTuple b its2.toArray from p2) fun h' hz hTI hTO h1 h2 hsz hk => wpAny_pyIter_zip hz ?_
        have I2 : Inv X pins σ H1 { s1 with heap := h' } := I1.kept (t' := s1.toks) hk
        exact ⟨s1.heap.objs.size + 4, [s1.heap.objs.size + 4, s1.heap.objs.size + 2, s1.heap.objs.size + 3, s1.heap.objs.size, s1.heap.objs.size + 1], _, _, H1, rfl, I2, RZ.turn_zipT (PySem.W.ktu_apart s1.heap.objs.size a b (Heap.lt_size ho1) (Heap.lt_size ho2)), ⟨hz, hTI, ⟨_, _, hTO⟩, h1, h2⟩, fresh5, q⟩
theorem walk_zipM {K : PySem.W.Frag} {a b : Addr} {xs ys : List V} {n : Nat} (hn : n = min xs.length ys.length) : Walk (ItzM K a b) n (fun H => SqT K H a xs ∧ SqL K H b ys) (YPair (fun i => xs[i]?) (fun i => ys[i]?)) := by
  subst hn
  refine ⟨fun i _ hi q => ?_, fun _ q => ⟨xs, ys, q.1, q.2, by omega⟩, fun i H v H' _ q y => ?_⟩
  · have h1 : i < xs.length := by omega
    have h2 : i < ys.length := by omega
    exact ⟨xs, ys, xs[i], ys[i], q.1, q.2, by simp [h1], by simp [h2]⟩
  · obtain ⟨T, x, z, h1, h2, h3, h4, h5⟩ := y
    exact ⟨T, x, z, h1, h2, h3, h4 xs q.1, h5 ys q.2⟩
/-- a loop over zip of a tuple and a list or tuple -/
theorem for_zipM {K : PySem.W.Frag} {a b : Addr} {xs ys : List V} {g : TG} {tb : TS} {D : Ends} {σ : L2.St} {H : Hp} (hq : SqT K H a xs) (hq2 : Sq K H b ys) {n : Nat} (hn : n = min xs.length ys.length) (Pv : Nat → L2.St → Hp → Prop) (h0 : Pv 0 σ H) (hl : ∀ i σ' H', Pv i σ' H' → Same H H')
    (hs : ∀ (i : Nat) (x y : V) (T : Addr) (σ : L2.St) (H : Hp), xs[i]? = some x → ys[i]? = some y → Pv i σ H → H T = none → g (.ref T) σ (upd H T (.tup [x, y])) fun σ2 H2 => tb { D with nx := Pv (i + 1), ct := Pv (i + 1), bk := D.nx } σ2 H2) (hd : ∀ σ H, Pv n σ H → D.nx σ H) :
    (SqL K H b ys ∧ ∃ W : Nat → Nat → L2.St → Hp → Prop, (∃ m, W 0 m σ H) ∧ ∀ i m σ H, W i m σ H →
      ((ItzM K a b).stop i H ∧ D.nx σ H) ∨ ((ItzM K a b).go i H ∧ ∃ N : L2.St → Hp → Prop, (∀ σ' H', N σ' H' → ∃ m', m' < m ∧ W (i + 1) m' σ' H') ∧ ∀ v H', (ItzM K a b).yld i H v H' → g v σ H' fun σ2 H2 => tb { D with nx := N, ct := N, bk := D.nx } σ2 H2)) ∨
    (SqT K H b ys ∧ ∃ W : Nat → Nat → L2.St → Hp → Prop, (∃ m, W 0 m σ H) ∧ ∀ i m σ H, W i m σ H →
      ((RZ.ItzT K a b).stop i H ∧ D.nx σ H) ∨ ((RZ.ItzT K a b).go i H ∧ ∃ N : L2.St → Hp → Prop, (∀ σ' H', N σ' H' → ∃ m', m' < m ∧ W (i + 1) m' σ' H') ∧ ∀ v H', (RZ.ItzT K a b).yld i H v H' → g v σ H' fun σ2 H2 => tb { D with nx := N, ct := N, bk := D.nx } σ2 H2)) := by
  rcases hq2 with hq2 | hq2
  · refine .inl ⟨hq2, for_it (walk_zipM hn) Pv h0 (fun i σ' H' _ p => ⟨(hl i σ' H' p).sqT hq, (hl i σ' H' p).seq hq2⟩) (fun i v σ' H1 H2 hi p y => ?_) hd⟩
    obtain ⟨T, x, z, rfl, hT, rfl, hx, hz⟩ := y
    exact hs i x z T σ' H1 hx hz p hT
  · refine .inr ⟨hq2, for_it (walk_zipT hn) Pv h0 (fun i σ' H' _ p => ⟨(hl i σ' H' p).sqT hq, (hl i σ' H' p).sqT hq2⟩) (fun i v σ' H1 H2 hi p y => ?_) hd⟩
    obtain ⟨T, x, z, rfl, hT, rfl, hx, hz⟩ := y
    exact hs i x z T σ' H1 hx hz p hT
end L2
end

section
/-! == of tuples of own objects, either way. -/
namespace GQ
open PySem PySem.SeqAt
open AutoSeq1 (wpAny_loadPart')
open MeetsSeq MeetsSeq2 MeetsSeq3 SeqRoads2
section
variable {prog : Program} {w : World} {A : Around} {R : Result → Shared → Prop}
/-- == of two tuples: item by item as e says, J kept by each comparison -/
theorem tuple_eqB {l b : Addr} {as bs : Array Value} {n n2 : Nat} {dd dd2 : Option Addr} {sl sl2 : Array (Option Value)} (e : Nat → Bool) (J : Shared → Prop)
    (each : ∀ i (h1 : i < as.size) (h2 : i < bs.size) s, J s → wpAny (model prog w) A.in1 (eqBool as[i] bs[i]) (fun r s' => r = e i ∧ J s') (fun e s' => R (.error e) s') s)
    (fin : ∀ s, J s → R (.ok (.ret (.bool ((List.range (min as.size bs.size)).all e && as.size == bs.size)))) s) {s : Shared}
    (ha : s.heap.get? l = some { cls := .type "tuple", dict := dd, data := .seq as n, slots := sl }) (hb : s.heap.get? b = some { cls := .type "tuple", dict := dd2, data := .seq bs n2, slots := sl2 }) (h : J s) :
    wpAny (model prog w) A.in1 (Builtin.«tuple.__eq__» ⟨[.ref l, .ref b], []⟩) (FinOf prog w A R) (fun e s' => R (.error e) s') s := by
  have f2 := AutoSeq1.sub_tuple_tuple
  have hZ : (as.toList.zip bs.toList).length = min as.size bs.size := by simp
  have h0 := h
  obtain ⟨hp, g, d, tk, os⟩ := s
  wp_walk using wpAny_loadPart' ha, wpAny_loadPart' hb, wpAny_forIn_list _ (fun rest b s' => b.1 = none ∧ J s' ∧ ∃ i, rest = (as.toList.zip bs.toList).drop i ∧
    ((List.range (min as.size bs.size)).drop i).all e = (List.range (min as.size bs.size)).all e) _
  case turn =>
    rintro ⟨y, x⟩ rest b s' ⟨hb', hJ, i, hz, hal⟩
    have hlt : i < (as.toList.zip bs.toList).length := by
      rcases Nat.lt_or_ge i (as.toList.zip bs.toList).length with h' | h'
      · exact h'
      · rw [List.drop_of_length_le h'] at hz; cases hz
    have hm : i < min as.size bs.size := by rw [← hZ]; exact hlt
    have h1 : i < as.size := by omega
    have h2 : i < bs.size := by omega
    rw [List.drop_eq_getElem_cons hlt] at hz
    obtain ⟨hyx, hrest⟩ := List.cons.inj hz
    obtain rfl : y = as[i] := by have := congrArg Prod.fst hyx; simpa using this
    obtain rfl : x = bs[i] := by have := congrArg Prod.snd hyx; simpa using this
    have hd : (List.range (min as.size bs.size)).drop i = i :: (List.range (min as.size bs.size)).drop (i + 1) := by simp [List.drop_eq_getElem_cons, hm]
    rw [hd, List.all_cons] at hal
    refine wpAny_bind (wpAny_mono (each i h1 h2 s' hJ) (fun r s2 q2 => ?_) fun _ _ x => x)
    obtain ⟨rfl, q2⟩ := q2
    cases hy : e i with
    | true =>
      rw [hy, Bool.true_and] at hal
      wp_walk
      exact ⟨rfl, q2, i + 1, hrest, hal⟩
    | false =>
      rw [hy, Bool.false_and] at hal
      have q3 := fin s2 q2
      rw [← hal, Bool.false_and] at q3
      wp_walk
      simpa using q3
  case fin =>
    rintro ⟨b1, b2⟩ s' ⟨hb', hJ, i, hz, hal⟩
    simp only at hb'
    subst hb'
    have hR := fin s' hJ
    have hge : min as.size bs.size ≤ i := by
      rcases Nat.lt_or_ge i (as.toList.zip bs.toList).length with h' | h'
      · rw [List.drop_eq_getElem_cons h'] at hz; cases hz
      · rw [← hZ]; exact h'
    rw [List.drop_of_length_le (by simpa using hge)] at hal
    rw [← hal] at hR
    wp_walk
    simpa [Builtin.Tuple.tupleCompareSizes] using hR
  case h =>
    exact ⟨rfl, h0, 0, rfl, rfl⟩
end
section
variable {prog : Program} {w : World} {A : Around} {E : Value → Shared → Prop} {s : Shared}
theorem rc_tupB {l b : Addr} {as bs : Array Value} {Q : Value → Shared → Prop} (hu : A.units < cLine) (e : Nat → Bool) (J : Shared → Prop) (hl : s.heap.IsTuple l as) (hb : s.heap.IsTuple b bs)
    (each : ∀ i (h1 : i < as.size) (h2 : i < bs.size) s, J s → wpAny (model prog w) A.in1 (eqBool as[i] bs[i]) (fun r s' => r = e i ∧ J s') E s)
    (fin : ∀ s, J s → Q (.bool ((List.range (min as.size bs.size)).all e && as.size == bs.size)) s) (h : J s) : wpAny (model prog w) A (richCompare .Eq (.ref l) (.ref b)) Q E s := by
  obtain ⟨⟨c1, d1, t1, s1⟩, ho, hc, n, hd⟩ := id hl
  obtain ⟨⟨c2, d2, t2, s2⟩, ho2, hc2, n2, hd2⟩ := id hb
  simp only at hc hd hc2 hd2
  subst hc hd hc2 hd2
  refine wpAny_richCompare_same_room (op := .Eq) ⟨_, ho, rfl⟩ ⟨_, ho2, rfl⟩ F.slot_tuple_eq (call_here F.slot_tuple_eq ⟨_, ho, rfl⟩ F.entry_tuple_eq (F.args_tuple_eq_2 _ _) ?_) hu
  exact tuple_eqB (R := wants (fun v s' => v ≠ .notImplemented ∧ Q v s') E) e J each (fun s' q => ⟨(fun x => nomatch x), fin s' q⟩) ho ho2 h
end
end GQ
namespace L2
open PySem PySem.Spec PyProof.Rows
/-- what two values' == gives, by the abstract heap -/
abbrev EqvB := V → V → Hp → Bool → Prop
def MonB (D : EqvB) : Prop := ∀ x y H H' b, Ext H H' → D x y H b → D x y H' b
def EqB (X : Cx) (n : Nat) (D : EqvB) : Prop :=
  ∀ (A : Around) (pins : List (Addr × Obj)) (s : Shared) (σ : St) (H : Hp) (x y : V) (u v : Value) (b : Bool), Sub X n A → Inv X pins σ H s → RelV x u → RelV y v → D x y H b →
    wpAny (model X.prog X.w) A (eqBool u v) (fun r s' => r = b ∧ LoopI X pins σ H s') X.xe s
def RcB (X : Cx) (n : Nat) (D : EqvB) : Prop :=
  ∀ (A : Around) (pins : List (Addr × Obj)) (s : Shared) (σ : St) (H : Hp) (x y : V) (u v : Value) (b : Bool), Sub X n A → Inv X pins σ H s → RelV x u → RelV y v → D x y H b →
    wpAny (model X.prog X.w) A (richCompare .Eq u v) (fun r s' => r = .bool b ∧ LoopI X pins σ H s') X.xe s
section
variable {X : Cx} {n : Nat} {D : EqvB}
/-- tuples item by item -/
def DTupB (K : PySem.W.Frag) (D : EqvB) : EqvB := fun x y H b => ∃ a c xs ys e, x = .ref a ∧ y = .ref c ∧ SqT K H a xs ∧ SqT K H c ys ∧ (∀ (i : Nat) u v, xs[i]? = some u → ys[i]? = some v → D u v H (e i)) ∧ b = ((List.range (min xs.length ys.length)).all e && xs.length == ys.length)
theorem rcB_tup (hD : MonB D) (h : EqB X n D) : RcB X (n + 1) (DTupB X.K D) := by
  intro A pins s σ H x y u v b sb I rx ry d
  obtain ⟨a, c, xs, ys, e, rfl, rfl, ha, hc, p, rfl⟩ := d
  cases rx
  cases ry
  obtain ⟨its, r, e1, z⟩ := I.tuple ha
  obtain ⟨its2, r2, e2, z2⟩ := I.tuple hc
  have q1 : its.toArray.size = xs.length := by rw [List.size_toArray, ← r.length]
  have q2 : its2.toArray.size = ys.length := by rw [List.size_toArray, ← r2.length]
  refine GQ.rc_tupB sb.room.units0 e (LoopI X pins σ H) e1 e2 (fun i h1 h2 s' q => ?_) (fun s' q => ⟨by rw [q1, q2], q⟩) ⟨H, I, Ext.rfl'⟩
  obtain ⟨H1, I1, x1⟩ := q
  have k1 : i < xs.length := by rw [← q1]; exact h1
  have k2 : i < ys.length := by rw [← q2]; exact h2
  obtain ⟨u, hu, ru⟩ := r.get (List.getElem?_eq_getElem k1)
  obtain ⟨v, hv, rv⟩ := r2.get (List.getElem?_eq_getElem k2)
  have g1 : u = its.toArray[i] := by
    have l1 : i < its.length := by simpa using h1
    rw [List.getElem?_eq_getElem l1] at hu
    simpa using (Option.some.inj hu).symm
  have g2 : v = its2.toArray[i] := by
    have l2 : i < its2.length := by simpa using h2
    rw [List.getElem?_eq_getElem l2] at hv
    simpa using (Option.some.inj hv).symm
  rw [← g1, ← g2]
  refine wpAny_mono (h A.in1 pins s' σ H1 _ _ u v (e i) sb.in1 I1 ru rv (hD _ _ _ _ _ x1 (p i _ _ (List.getElem?_eq_getElem k1) (List.getElem?_eq_getElem k2)))) (fun r s2 q => ?_) fun _ _ x => x
  obtain ⟨hr, H2, I2, x2⟩ := q
  exact ⟨hr, H2, I2, x1.trans x2⟩
/-- instances of the class at C by the text's own ==, whose promise is sp -/
theorem rcB_own {CX : CXT} {C f : Addr} {fd : FuncData} {ps : List Str} {E : XK} {sp : Sp} (F : FnOk X.prog X.w X.K X.mg X.base CX n f fd ps sp)
    (hs : PySem.W.findIn X.K (.ref C) "__eq__" = some (some (.ref f))) (hf : PySem.W.isFn X.K (.ref f) = true) (hb : Binds X.K fd ps []) (hx : Passes CX X E)
    (hD : ∀ x y H b, D x y H b → ∃ a c dx dy fs gs, x = .ref a ∧ y = .ref c ∧ H a = some (.ins C dx fs) ∧ H c = some (.ins C dy gs) ∧ ∀ Q : VK, (∀ H', Ext H H' → Q (.bl b) H') → sp [.ref a, .ref c] H Q E) : RcB X n D := by
  intro A pins s σ H x y u v b sb I rx ry d
  obtain ⟨a, c, dx, dy, fs, gs, rfl, rfl, ha, hc, hsp⟩ := hD _ _ _ _ d
  cases rx
  cases ry
  obtain ⟨mA, J, _⟩ := ins_get I.hok ha
  obtain ⟨mB, J', _⟩ := ins_get I.hok hc
  obtain ⟨od, J, _⟩ := J.look
  obtain ⟨od', J', _⟩ := J'.look
  obtain ⟨m, hF⟩ := I.fr
  refine PySem.W.cmp_K (op := .Eq) (tb := .ref C) sb.room.units0 hF I.ok.mod.kin J J'.type (by simp [PySem.W.notFirst]) hs hf ?_
  have sp1 := hsp (fun v H' => v = .bl b ∧ Ext H H') fun H' e => ⟨rfl, e⟩
  have en := I.env0
  have e0 : Env0 X.prog X.w X.K X.mg X.base A X.stack s H := ⟨by rw [sb.fr]; exact en.frames, en.mod, en.bs, en.bsz, en.funs, en.frf, en.hok, en.bare⟩
  have hl := F.len _ _ _ _ sp1
  have r2 : Vals [V.ref a, V.ref c] [Value.ref a, Value.ref c] := .cons rfl (.cons rfl .nil)
  have bnd := hb s [.ref a, .ref c] I.kIn (by simpa using hl)
  refine wpAny_call (codeAny_mono (F.run A X.stack s H ⟨[.ref a, .ref c], []⟩ [.ref a, .ref c] [.ref a, .ref c] _ E sb.room e0 (by simpa using bnd) r2 sp1) fun r s' hq => ?_)
  cases r with
  | error e => exact hx pins σ H s e s' I hq
  | ok fl =>
    cases fl with
    | ret w =>
      obtain ⟨z, H', I', rz, ez, ex⟩ := I.after hq
      subst ez
      cases rz
      exact ⟨rfl, H', I', ex⟩
    | next => exact False.elim hq
    | brk => exact False.elim hq
    | cont => exact False.elim hq
/-- within a sequence: the same object is equal to itself -/
theorem RcB.eqB (h : RcB X n D) (hr : ∀ x y H b, D x y H b → ∃ a c, x = .ref a ∧ y = .ref c ∧ (a = c → b = true)) : EqB X n D := by
  intro A pins s σ H x y u v b sb I rx ry d
  obtain ⟨a, c, rfl, rfl, same⟩ := hr _ _ _ _ d
  cases rx
  cases ry
  by_cases hab : a = c
  · obtain rfl := same hab
    subst hab
    exact SeqAt.EqAt.same (A := A) (s := s) (.ref a) X.prog X.w X.xe _ ⟨rfl, H, I, Ext.rfl'⟩
  · refine GQ.eqBool_refG hab (wpAny_mono (h A pins s σ H (.ref a) (.ref c) _ _ b sb I rfl rfl d) (fun r s' q => ?_) fun _ _ x => x)
    exact ⟨b, q.1, rfl, q.2⟩
def rEqB (D : EqvB) : R2 := fun x y H Q => ∃ b, D x y H b ∧ ∀ H', Ext H H' → Q (.bl b) H'
theorem op_eqB (h : RcB X n D) (hr : Room n X.A) : OpR X (compareOp .Eq) (rEqB D) := by
  intro pins s σ H x y v u Q I rx ry hq
  obtain ⟨b, d, q⟩ := hq
  show wpAny (model X.prog X.w) X.A (richCompare .Eq v u) (EP X pins σ Q) X.xe s
  refine wpAny_mono (h X.A pins s σ H x y v u b ⟨hr, rfl⟩ I rx ry d) (fun r s' z => ?_) fun _ _ x => x
  obtain ⟨rfl, H', I', e⟩ := z
  exact ⟨.bl b, H', I', rfl, q H' e⟩
end
end L2
end

section
/-! Lambdas as values: made, kept in lists, handed to a def that calls them, also out of a comprehension. -/
namespace L2
open PySem PySem.Spec PyProof.Rows LamX
/-- a lambda's text -/
structure LamD where
  params : Arguments
  body : Expr
  scope : Scope
def LamO (f : Addr) (q : Str) (L : LamD) (cl : List (Str × Addr)) (c' : Addr) : HO := .ext fun h => ∃ pm ctv, h.get? f = some (PySem.W.kla_obj "<lambda>" q L.params L.body L.scope cl pm c' ctv)
/-- at f stands this lambda, made in the frame of Y -/
def LamK (Y : Cx) (L : LamD) (f : Addr) (H : Hp) : Prop := ∃ c', H f = some (LamO f (Y.env.qual ++ "<lambda>") L (cloFrom Y.env.cells L.scope.names []) c') ∧ H c' = some (CodeO c' (Y.env.qual ++ "<lambda>"))
theorem lamO_ne {f : Addr} {q : Str} {L : LamD} {cl : List (Str × Addr)} {c' : Addr} (ps : Array Value) : LamO f q L cl c' ≠ .tbl ps := fun z => by unfold LamO at z; cases z
theorem LamK.extN {Y : Cx} {L : LamD} {f : Addr} {H H' : Hp} (h : LamK Y L f H) (e : ExtN H H') : LamK Y L f H' := by
  obtain ⟨c', h1, h2⟩ := h
  exact ⟨c', e _ _ h1 lamO_ne, e _ _ h2 codeO_ne⟩
theorem LamK.same {Y : Cx} {L : LamD} {f : Addr} {H H' : Hp} (h : LamK Y L f H) (e : ∀ b o, H b = some o → H' b = some o) : LamK Y L f H' := h.extN (ExtN.of e)
section
variable {X : Cx} {pins : List (Addr × Obj)} {σ : L2.St} {H : Hp} {s : Shared}
/-- a lambda is made; the heap knows it from then on -/
theorem lam_make3 {T : List (Addr × Str)} {c P : Addr} {params : Arguments} {body : Expr} {scope : Scope} {pos : Pos} {E : Value → Shared → Prop} {Q : Value → Shared → Prop} (I : Inv X pins σ H s) (TB : TabB X.base X.mg c P) (hcode : X.env.code = .ref c)
    (hm : (P, X.env.qual ++ "<lambda>") ∈ T) (hu : ∀ p ∈ T, p.1 = P → p.2 = X.env.qual ++ "<lambda>") (hT : Tabs T H) (hdef : defaultsOf params X.env = ([], [])) (hfree : ∀ y ∈ scope.names, y.2 = .free → ∃ c, X.env.cells.lookup y.1 = some c)
    (h : ∀ (f : Addr) (H1 : Hp) (s' : Shared), Inv X pins σ H1 s' → ExtN H H1 → Tabs T H1 → LamK X ⟨params, body, scope⟩ f H1 → Q (.ref f) s') :
    wpAny (model X.prog X.w) X.A (eval (.Lambda params body scope pos) X.env) Q E s := by
  obtain ⟨ps, hP, ht, ha⟩ := hT _ hm
  refine PySem.W.kla_eval hdef ?_
  have bP : s.heap.BuiltinsAt X.mg P := TB.bm.keeps I.bk
  have hP' : s.heap.get? P = some { cls := .none, data := .fields ps } := I.hok P _ hP
  have lay : ∀ {H1 : Hp} {h' : Heap} {tk : Nat} {c' : Addr} {pm ctv : Value}, Inv X pins σ H1 { s with heap := h', toks := tk } → ExtN H H1 → Tabs T H1 → H1 c' = some (CodeO c' (X.env.qual ++ "<lambda>")) →
      Q (.ref h'.objs.size) { s with heap := h'.push (PySem.W.kla_obj "<lambda>" (X.env.qual ++ "<lambda>") params body scope (cloFrom X.env.cells scope.names []) pm c' ctv), toks := tk } := by
    intro H1 h' tk c' pm ctv I1 eN T1 hc
    have n1 : H1 h'.objs.size = none := I1.hok.fresh (Nat.le_refl _)
    have at_ : (h'.push (PySem.W.kla_obj "<lambda>" (X.env.qual ++ "<lambda>") params body scope (cloFrom X.env.cells scope.names []) pm c' ctv)).get? h'.objs.size = some (PySem.W.kla_obj "<lambda>" (X.env.qual ++ "<lambda>") params body scope (cloFrom X.env.cells scope.names []) pm c' ctv) := Heap.get?_push_size _ rfl
    have I2 := I1.laid (t' := tk) (a := h'.objs.size) (o := LamO h'.objs.size (X.env.qual ++ "<lambda>") ⟨params, body, scope⟩ (cloFrom X.env.cells scope.names []) c') (h' := h'.push (PySem.W.kla_obj "<lambda>" (X.env.qual ++ "<lambda>") params body scope (cloFrom X.env.cells scope.names []) pm c' ctv))
      (fun b o e => Heap.get?_push_of_some _ e) (Nat.le_refl _) ⟨⟨pm, ctv, at_⟩, ⟨_, at_⟩, fun h1 h2 ⟨p, t, z⟩ st => ⟨p, t, st _ z⟩⟩
    have sm : ∀ b o, H1 b = some o → upd H1 h'.objs.size (LamO h'.objs.size (X.env.qual ++ "<lambda>") ⟨params, body, scope⟩ (cloFrom X.env.cells scope.names []) c') b = some o := fun b o e => by rw [upd_ne (ne_of_none e n1)]; exact e
    exact h _ _ _ I2 (eN.trans (ExtN.of sm)) (T1.ext sm) ⟨c', upd_same, sm _ _ hc⟩
  cases hc : codeAmong pos ps.toList with
  | none =>
    refine PySem.W.kla_makeFunction (mg := X.mg) (c := c) (P := P) (ps := ps) (closure_ok hfree) I.ok.glob (I.mod.glob.keeps I.bk) hcode (TB.code.keeps I.bk) hP' ht hc TB.gP bP fun c' ctv h' tk hx hge hlt hrec htb => ?_
    obtain ⟨c2, oc, vs, t, e2, hoc, hd, hv⟩ := hrec
    cases e2
    have nC : H c' = none := I.hok.fresh hge
    have I1 := inv_table (t' := tk) (more := #[rawInt pos.line, rawInt pos.col, .ref c']) (h' := h') I hP hx htb hge ⟨oc, vs, t, hoc, hd, hv⟩
    have hE : ExtN H (upd (upd H P (.tbl (ps ++ #[rawInt pos.line, rawInt pos.col, .ref c']))) c' (CodeO c' (X.env.qual ++ "<lambda>"))) := fun b o e n => by
      rw [upd_ne (ne_of_none e nC), upd_ne (fun z => n ps (Option.some.inj (e.symm.trans (by rw [z]; exact hP))))]
      exact e
    have eL : (ps ++ #[rawInt pos.line, rawInt pos.col, .ref c']).toList = ps.toList ++ [rawInt pos.line, rawInt pos.col, .ref c'] := by simp
    refine lay I1 hE (fun p hp => ?_) upd_same
    by_cases hb : p.1 = P
    · rw [hu p hp hb, hb]
      refine ⟨_, by rw [upd_ne (ne_of_none hP nC), upd_same], by rw [eL]; exact PySem.TriplesOk_snoc _ _ _ _ ht, fun p' cv hcv => ?_⟩
      rw [eL] at hcv
      rcases among_app _ ht hcv with z | z
      · obtain ⟨c0, e1, e2⟩ := ha p' cv z
        exact ⟨c0, e1, hE _ _ e2 codeO_ne⟩
      · exact ⟨c', z, upd_same⟩
    · obtain ⟨ps', a1, a2, a3⟩ := hT p hp
      refine ⟨ps', by rw [upd_ne (ne_of_none a1 nC), upd_ne hb]; exact a1, a2, fun p' cv hcv => ?_⟩
      obtain ⟨c0, e1, e2⟩ := a3 p' cv hcv
      exact ⟨c0, e1, hE _ _ e2 codeO_ne⟩
  | some cv =>
    obtain ⟨c', e, hco⟩ := ha pos cv hc
    subst e
    refine PySem.W.kla_makeFunctionHit (mg := X.mg) (c := c) (P := P) (ps := ps) (closure_ok hfree) I.ok.glob (I.mod.glob.keeps I.bk) hcode (TB.code.keeps I.bk) hP' ht hc bP fun ctv h' tk hx hsz => ?_
    exact lay (I.kept (t' := tk) hx) (ExtN.refl H) hT hco
end
def tLamV (Y : Cx) (T : List (Addr × Str)) (L : LamD) : TE := fun σ H Q => Tabs T H ∧ ∀ f H1, ExtN H H1 → Tabs T H1 → LamK Y L f H1 → Q (.ref f) H1
theorem pe_lamV {X : Cx} {T : List (Addr × Str)} {c P : Addr} {params : Arguments} {body : Expr} {scope : Scope} {lpos : Pos} (TB : TabB X.base X.mg c P) (hcode : X.env.code = .ref c) (hmT : (P, X.env.qual ++ "<lambda>") ∈ T) (hu : ∀ p ∈ T, p.1 = P → p.2 = X.env.qual ++ "<lambda>")
    (L : LamS X.env.scope scope) (hdef : defaultsOf params X.env = ([], [])) : PE X (.Lambda params body scope lpos) (tLamV X T ⟨params, body, scope⟩) :=
  ⟨fun pins s σ H Q I h => lam_make3 I TB hcode hmT hu h.1 hdef (L.has I.ok) fun f H1 s' I1 eN T1 hk => ⟨.ref f, H1, I1, rfl, h.2 f H1 eN T1 hk⟩⟩
/-! ### its body's frame -/
/-- the cells of Y's frame hold what the slots say -/
structure CellsY (Y : Cx) (σ : L2.St) (H : Hp) (h : Heap) : Prop where
  val : ∀ (i : Nat) (y : Str) (v : V), Y.N[i]? = some y → σ[i]? = some (some v) → (Y.env.scope.names.lookup y = some .cell ∨ Y.env.scope.names.lookup y = some .free) → ∃ c u, Y.env.cells.lookup y = some c ∧ L2.RelV v u ∧ h.IsCell c (some u)
  cell : ∀ y c, Y.env.cells.lookup y = some c → (∃ v, h.IsCell c v) ∧ H c = none
  len : σ.length = Y.N.length
theorem cellsY_of {X : Cx} {pins : List (Addr × Obj)} {σ : L2.St} {H : Hp} {s : Shared} (I : Inv X pins σ H s) : CellsY X σ H s.heap := by
  refine ⟨fun i y v h1 h2 hk => ?_, fun y c e => ⟨I.cell y c e, I.freeC y c e⟩, I.len⟩
  obtain ⟨m, hn, hl⟩ := I.loc
  have vis : Vis X.env.scope y := hk.elim (fun k => .inr (.inl k)) fun k => .inr (.inr k)
  obtain ⟨u, r, q⟩ := hl i y v h1 h2 vis
  rcases q with ⟨k, _⟩ | ⟨_, c, e, z⟩
  · have k : X.env.scope.names.lookup y = some .local := k
    rcases hk with k2 | k2 <;> rw [k] at k2 <;> cases k2
  · exact ⟨c, u, e, r, z⟩
theorem CellsY.un {Y : Cx} {σ : L2.St} {H H' : Hp} {h h' : Heap} {fs ex : List Addr} (C : CellsY Y σ H h) (u : Un fs ex H H' h h') (hex : ∀ y c, Y.env.cells.lookup y = some c → c ∉ ex) : CellsY Y σ H' h' := by
  have keep : ∀ {y c} {v : Option Value}, Y.env.cells.lookup y = some c → h.IsCell c v → h'.IsCell c v := fun {y c v} e ⟨o, ho, hd⟩ => by
    obtain ⟨sl, q⟩ := u.any ho (C.cell y c e).2 (hex y c e)
    exact ⟨_, q, hd⟩
  refine ⟨fun i y v h1 h2 hk => ?_, fun y c e => ?_, C.len⟩
  · obtain ⟨c, w, e, r, z⟩ := C.val i y v h1 h2 hk
    exact ⟨c, w, e, r, keep e z⟩
  · obtain ⟨⟨v, z⟩, n⟩ := C.cell y c e
    obtain ⟨o, ho, _⟩ := id z
    exact ⟨⟨v, keep e z⟩, u.free c o ho n (hex y c e)⟩
theorem lam_startC {Y : Cx} {σ : L2.St} {HZ : Hp} {s1 : Shared} {A : Around} {outer : List Env} {E : XK} {scope : Scope} {f c' : Addr} {h₁ : Heap} {tk : Nat} (ok : Y.Ok) (L : LamS Y.env.scope scope) (C : CellsY Y σ HZ s1.heap) (e0 : Env0 Y.prog Y.w Y.K Y.mg Y.base A outer s1 HZ) (hd : A.handled = none)
    (hns : h₁.Ns s1.heap.objs.size fun y => ([] : List (Str × Value)).reverse.lookup y) (kp : ∀ b o, s1.heap.get? b = some o → h₁.get? b = some o) :
    Inv (lamCx Y A outer s1 HZ E scope f c') [] σ HZ { s1 with heap := h₁, toks := tk } := by
  have hfree := L.has ok
  have cm : ∀ {y c}, (cloFrom Y.env.cells scope.names []).lookup y = some c → Y.env.cells.lookup y = some c := fun {y c} e => by
    rcases cloFrom_mem (PySem.mem_of_lookup e) with hm | ⟨h1, h2⟩
    · cases hm
    · obtain ⟨c1, hc⟩ := hfree _ h1 rfl
      have hc : Y.env.cells.lookup y = some c1 := hc
      obtain rfl : c = c1 := by rw [h2, hc] <;> rfl
      exact hc
  have look : ∀ {y}, scope.names.lookup y = some .free → ∃ c, (cloFrom Y.env.cells scope.names []).lookup y = some c := fun {y} hl =>
    mem_lookup (cloFrom_has (cells := Y.env.cells) (acc := []) (show (y, NameKind.free) ∈ scope.names from PySem.mem_of_lookup hl))
  have up : ∀ {c : Addr} {v : Option Value}, s1.heap.IsCell c v → h₁.IsCell c v := fun {c v} ⟨o, ho, hd⟩ => ⟨o, kp _ _ ho, hd⟩
  have noA : ∀ b : Addr, b ∉ (lamCx Y A outer s1 HZ E scope f c').ex := fun b z => absurd (show b ∈ ([] : List Addr) from z) (by simp)
  refine ⟨⟨e0.mod, L.kind, rfl, rfl, Nat.le_refl _, fun y z c e1 e2 => ok.inj y z c (cm e1) (cm e2), fun y hy => ?_, fun y c z _ => ?_, fun _ => hd, Around.frames_deeper e0.frames, .inr ⟨rfl, rfl⟩, fun b z => absurd z (noA b), e0.bs, e0.bsz, fun b _ _ => noA b,
      fun b z => absurd z (noA b), e0.funs, e0.frf⟩,
    rfl, e0.bare, Un.kept kp, ⟨_, hns, fun i y v e1 e2 e3 => ?_⟩, fun y c e => ?_, e0.hok.fresh (Nat.le_refl _), fun y c e => ?_, fun q hq => absurd (show q ∈ ([] : List (Addr × Obj)) ++ [] from hq) (by simp), e0.hok.kept kp, C.len⟩
  · have hy : scope.names.lookup y = some .cell ∨ scope.names.lookup y = some .free := hy
    rcases hy with hy | hy
    · exact absurd rfl (L.own _ (PySem.mem_of_lookup hy)).2
    · exact look hy
  · have z : false = true := z
    cases z
  · have e3 : Vis scope y := e3
    rcases e3 with k | k | k
    · exact absurd rfl (L.own _ (PySem.mem_of_lookup k)).1
    · exact absurd rfl (L.own _ (PySem.mem_of_lookup k)).2
    · obtain ⟨c, w, e, r, z⟩ := C.val i y v e1 e2 (L.free _ (PySem.mem_of_lookup k) rfl)
      obtain ⟨c2, h2⟩ := look k
      have c1 := cm h2
      rw [e] at c1
      cases c1
      exact ⟨w, r, .inr ⟨.inr k, c, h2, up z⟩⟩
  · obtain ⟨⟨v, z⟩, _⟩ := C.cell y c (cm e)
    exact ⟨v, up z⟩
  · exact (C.cell y c (cm e)).2
/-- what is read of a lambda's body -/
structure LamOK (Y : Cx) (k : Nat) (L : LamD) (t : XK → TE) : Prop where
  sc : LamS Y.env.scope L.scope
  bind : ∀ (q : Str) (cl : List (Str × Addr)) (pm cv ctv : Value), bindArgs (PySem.W.kla_fn "<lambda>" q L.params L.body L.scope cl pm cv ctv) ⟨[], []⟩ = pure []
  body : ∀ (A : Around) (outer : List Env) (s : Shared) (H : Hp) (E : XK) (f c' : Addr), Room k (A.deeper (lamEnv Y L.scope s.heap.objs.size f c')) → PE (lamCx Y A outer s H E L.scope f c') L.body (t E)
/-- a() in the def that got the lambda -/
theorem pe_actV {Y : Cx} {A : Around} {stack : List Env} {s : Shared} {H : Hp} {σ : L2.St} {CXg : CXT} {Eg : XK} {Ng : List Str} {qg : Str} {sg : Scope} {g f : Addr} {cdg : Value} {L : LamD} {k i : Nat} {a : Str} {pn : List (Addr × Obj)} {xe : Value → Shared → Prop} {W : WX} {E : XK} {t : XK → TE} {p1 p2 : Pos}
    (ok : Y.Ok) (C : CellsY Y σ H s.heap) (LK : LamOK Y k L t)
    (tk : Takes ((cxOf CXg Y.prog Y.w Y.K Y.mg Y.base Ng qg sg g cdg A stack s H Eg).tr pn xe) W) (hW : ∀ cls d σ' H', E cls d H' → W cls d σ' H') (hr : Room (k + 1) (A.deeper (envOfC qg sg s.heap.objs.size g cdg)))
    (hN : Ng[i]? = some a) (hv : Vis sg a) (hd : (a == ("__debug__" : Str)) = false := by decide) (hcd : (a == ("__classdict__" : Str)) = false := by decide) :
    PE ((cxOf CXg Y.prog Y.w Y.K Y.mg Y.base Ng qg sg g cdg A stack s H Eg).tr pn xe) (.Call (.Name a p1) [] [] p2) (fun σZ HZ Q => σZ[i]? = some (some (.ref f)) ∧ LamK Y L f HZ ∧ t E σ HZ Q) := by
  refine ⟨fun pinsZ sZ σZ HZ Q IZ h => ?_⟩
  obtain ⟨hs, hK, ht⟩ := h
  refine wpAny_Call_Name_kw (thn ((pe_var (pos := p1) (i := i) hN hv hd hcd).run pinsZ sZ σZ HZ (fun v H1 => v = .ref f ∧ H1 = HZ) IZ ⟨.ref f, hs, rfl, rfl⟩) fun u s1 ⟨v, H1, I1, r1, q1⟩ => ?_)
  obtain ⟨rfl, rfl⟩ := q1
  obtain rfl : u = Value.ref f := r1
  obtain ⟨c', hf, hc⟩ := hK
  obtain ⟨⟨pm, ctv, of1⟩, _, _⟩ := I1.hok f _ hf
  obtain ⟨⟨oc, vs, tt, hoc, hdc, hvc⟩, _, _⟩ := I1.hok c' _ hc
  refine PySem.W.callWith_F0 ⟨_, _, _, _, of1⟩ ?_
  have C1 : CellsY Y σ H1 s1.heap := C.un (I1.base : Un (frs stack) [] H H1 s.heap s1.heap) fun y c _ z => nomatch z
  have rc : codeAny (model Y.prog Y.w) (A.deeper (envOfC qg sg s.heap.objs.size g cdg)) (.call (.ref f) ⟨[], []⟩) (CR (L2.CX Y.prog Y.w) (envOfC qg sg s.heap.objs.size g cdg :: stack) Y.prog Y.w H1 s1 Q E) s1 := by
    refine PySem.W.kla_callFunE hr.depth of1 rfl LK.sc.co LK.sc.gen rfl ⟨c', oc, vs, tt, rfl, hoc, hdc, hvc⟩ ?_
    rw [LK.bind]
    refine wpAny_pure (wpAny_newFunctionEnv (fun y hy => (LK.sc.own y hy).2) (fun y hy => absurd hy (by simp)) (fun h₁ hns hsb => ⟨I1.nolimit.fresh _ hsb, ?_⟩) LK.sc.kind)
    show codeAny _ _ (.expr L.body (lamEnv Y L.scope s1.heap.objs.size f c')) _ _
    have kp : ∀ b o, s1.heap.get? b = some o → h₁.get? b = some o := fun b o e => hsb.extBut b o (Nat.ne_of_lt (Heap.lt_size e)) (Heap.get?_push_of_some _ e)
    have J : Inv (lamCx Y (A.deeper (envOfC qg sg s.heap.objs.size g cdg)) (envOfC qg sg s.heap.objs.size g cdg :: stack) s1 H1 E L.scope f c') [] σ H1 { s1 with heap := h₁, toks := s1.toks + ([] : List (Str × Value)).length } :=
      lam_startC ok LK.sc C1 I1.env0 hr.hd hns kp
    refine PySem.W.kla_codeExpr (wpAny_mono ((LK.body _ _ s1 H1 E f c' (hr.deeper _)).run [] _ _ H1 Q J ht) (fun v s' hq => ?_) fun e s' hq => hq)
    obtain ⟨w', H', J', rv, q⟩ := hq
    exact ⟨w', H', J'.os, J'.bare, J'.base, J'.hok, rv, q⟩
  have hx : Passes (L2.CX Y.prog Y.w) ((cxOf CXg Y.prog Y.w Y.K Y.mg Y.base Ng qg sg g cdg A stack s H Eg).tr pn xe) E := passes_call tk hW
  refine wpAny_call (codeAny_mono rc fun r s' hq => ?_)
  cases r with
  | error e => exact hx pinsZ σZ H1 s1 e s' I1 hq
  | ok fl =>
    cases fl with
    | ret u => exact I1.after hq
    | next => exact False.elim hq
    | brk => exact False.elim hq
    | cont => exact False.elim hq
/-- the def that calls what it got as its first argument -/
def GivesV (P : Program) (w : World) (K : PySem.W.Frag) (mg : Str → Option Value) (base : Heap) (A : Around) (stack : List Env) (Ng : List Str) (x : Str) (sg : Scope) (g : Addr) (cdg : Value) (bg : List Stmt) (a : Str) (TT : (XK → Hp → VK → Prop) → Hp → VK → Prop) : Prop :=
  ∀ (f : Addr) (Kn : Hp → Prop) (s : Shared) (H : Hp) (Q : VK) (tl : XK → Hp → VK → Prop), (∀ H H' : Hp, (∀ b o, H b = some o → H' b = some o) → Kn H → Kn H') →
    (∀ (W : WX) (pn : List (Addr × Obj)) (xe : Value → Shared → Prop) (E : XK) (p1 p2 : Pos), Takes ((cxOf C8.CX0 P w K mg base Ng x sg g cdg A stack s H C8.E0).tr pn xe) W → (∀ cls d σ' H', E cls d H' → W cls d σ' H') →
      PE ((cxOf C8.CX0 P w K mg base Ng x sg g cdg A stack s H C8.E0).tr pn xe) (.Call (.Name a p1) [] [] p2) (fun σZ HZ Q => σZ[0]? = some (some (.ref f)) ∧ Kn HZ ∧ tl E HZ Q)) →
    Kn H → TT tl H Q →
    ∃ t, PSs (cxOf C8.CX0 P w K mg base Ng x sg g cdg A stack s H C8.E0).nox bg t ∧ t { nx := fun _ H' => Q .non H', rt := Q } (L2.start Ng [.ref f]) H
def tRefV (Y : Cx) (k : Nat) (σY : L2.St → L2.St) (TT : (XK → Hp → VK → Prop) → Hp → VK → Prop) (ta : TA) : TE := fun σ H Q => ta σ H fun vs H1 => ∃ f L t, vs = [.ref f] ∧ LamK Y L f H1 ∧ LamOK Y k L t ∧ TT (fun E H' Q' => t E (σY σ) H' Q') H1 Q
theorem pe_refV {X Y : Cx} {x a : Str} {g : Addr} {k : Nat} {pg : Arguments} {bg : List Stmt} {sg : Scope} {dV kV doc pm cdv ct oc : Value} {an od : Option Addr} {osl : Array (Option Value)} {Ng : List Str} {TT : (XK → Hp → VK → Prop) → Hp → VK → Prop} {e : Expr} {ta : TA} {p pos : Pos}
    (hX : X.prog = Y.prog ∧ X.w = Y.w ∧ X.K = Y.K ∧ X.mg = Y.mg ∧ X.base = Y.base) (σY : L2.St → L2.St) (hC : ∀ pins s σ H, Inv X pins σ H s → Y.Ok ∧ CellsY Y (σY σ) H s.heap)
    (hg : Gl X x) (hm : X.mg x = some (.ref g)) (hk : PySem.W.keepIn X.K (.ref g) = true) (lk : X.K.lookup g = some ⟨oc, od, .func (PySem.W.fnOf x x pg bg sg dV kV doc pm an cdv ct), osl⟩) (hcg : PySem.W.codeIn X.K cdv x = true)
    (hb : L2.Binds X.K (PySem.W.fnOf x x pg bg sg dV kV doc pm an cdv ct) [a] []) (Sg : FnScope Ng [a] sg) (hNg : Ng[0]? = some a) (hva : Vis sg a) (hG : GivesV X.prog X.w X.K X.mg X.base X.A X.stack Ng x sg g cdv bg a TT) (hr : Room (k + 2) X.A) (ha : PA X [e] ta)
    (hdb : (x == ("__debug__" : Str)) = false := by decide) (hd : (a == ("__debug__" : Str)) = false := by decide) (hcd : (a == ("__classdict__" : Str)) = false := by decide)
    (he : starEach [e] X.env = (false, eval e X.env) :: starEach [] X.env := by rfl) (hpl : (backTo pos (starEach [] X.env)).any (·.1) = false := by rfl) :
    PE X (.Call (.Name x p) [e] [] pos) (tRefV Y k σY TT ta) := by
  obtain ⟨XP, Xw, XK', Xmg, Xb, XA, XN, Xs0, XH0, Xenv, Xout, Xst, Xex, Xfn, Xcalm, Xpn, Xxe⟩ := X
  obtain ⟨rfl, rfl, rfl, rfl, rfl⟩ := hX
  refine ⟨fun pins s σ H Q I h => ?_⟩
  refine wpAny_Call_Name_kw (ld_glob I hg hm ?_ hdb)
  refine PySem.W.callWith_K (h₀ := Y.base) I.ok.mod.kin hk (thn (ha.run pos pins s σ H _ I h) fun us s1 hh => ?_) he hpl
  obtain ⟨vs, H1, I1, r, f, L, t, rfl, hK, LK, hT⟩ := hh
  refine ⟨I1.kIn, ?_⟩
  obtain ⟨okY, C⟩ := hC _ _ _ _ I1
  show wpAny _ _ (call (.ref g) us) _ _ _
  have lens : us.length = 1 := by rw [← r.length]; rfl
  have rc : codeAny (model Y.prog Y.w) XA (.call (.ref g) ⟨us, []⟩) (CR C8.CX0 Xst Y.prog Y.w H1 s1 Q C8.E0) s1 := by
    refine run_ofS (N := Ng) (ps := [a]) (us := us) (vs := [.ref f]) lk hcg Sg hr I1.env0 (by have := hb s1 us I1.kIn (by simpa using lens); simpa using this) r rfl fun hr' => ?_
    obtain ⟨t', ht', hq'⟩ := hG f (LamK Y L f) s1 H1 Q (fun E H' Q' => t E (σY σ) H' Q') (fun H H' e h => h.same e) (fun W pn xe E p1 p2 tk hW => pe_actV (i := 0) okY C LK tk hW hr' hNg hva hd hcd) hK hT
    exact ⟨t', ht'.nox, hq'⟩
  refine wpAny_call (codeAny_mono rc fun r s2 hq => ?_)
  cases r with
  | error e => exact (show False from hq).elim
  | ok fl =>
    cases fl with
    | ret u => exact I1.after hq
    | next => exact False.elim hq
    | brk => exact False.elim hq
    | cont => exact False.elim hq
/-! ### a comprehension whose element is told of the frame around it -/
theorem pe_lcI {X : Cx} {elt tg iter : Expr} {scope : Scope} {own : List (Str × Nat)} {pos : Pos} {wi : TI} {g : TG} {te : L2.St → TE} (hc : X.calm = true) (hN : X.N.Nodup) (hi : PI X tg iter wi) (ok : BlkOk X.N X.env.scope scope own)
    (hg : ∀ (s : Shared) (H : Hp) (C : Addr) (cl : List (Str × Addr)) (fp : List Addr), PG (X.blk s H scope (compEnvC scope cl C X.env) fp) tg g)
    (he : ∀ (pins : List (Addr × Obj)) (σ : L2.St) (s : Shared) (H : Hp) (C : Addr) (cl : List (Str × Addr)) (fp : List Addr), Inv X pins σ H s → (∀ b ∈ fp, FpOk X pins H b) → PE (X.blk s H scope (compEnvC scope cl C X.env) fp) elt (te σ)) (hs : ∀ x, foldedSetIterable iter X.env x = pure x := by intro _; rfl) :
    PE X (.ListComp elt [⟨tg, iter, [], 0⟩] scope pos) (fun σ H Q => tLc wi g tYes (te σ) (own.map (·.2)) σ H Q) := by
  refine ⟨fun pins s σ H Q I h => ?_⟩
  rw [eval_ListComp]
  have hfree : ∀ y ∈ scope.names, y.2 = .free → ∃ c, X.env.cells.lookup y.1 = some c := fun y hy e => (ok.free y hy e).elim (fun k => I.ok.has _ (.inl k)) fun k => I.ok.has _ (.inr k)
  refine wpAny_comprehension_free (use := none) rfl hs (closure_ok hfree) ok.kind (fun y hy e => by rw [ok.uniq y hy, e]) (thn (hi.run pins s σ H _ I h) fun xv s1 hx => thn hx fun itv s2 h2 => ?_)
  obtain ⟨it, fp, tn, J, H2, rfl, I2, T, st2, f2, q⟩ := h2
  refine wpAny_newObj_type (newEnv_comp ?_) (by show 0 ≤ sizeLine; decide)
  generalize hD : s2.heap.objs.size = D
  have hDn : H2 D = none := I2.hok.fresh (Nat.le_of_eq hD)
  obtain ⟨W, ⟨m0, w0⟩, turn⟩ := q D hDn
  generalize hs3 : ({ s2 with heap := s2.heap.push { cls := .type "list", data := .seq ([] : List Value).toArray } } : Shared) = s3
  have h3 : s3.heap = s2.heap.push { cls := .type "list", data := .seq ([] : List Value).toArray } := by rw [← hs3]
  have I3 : Inv X pins σ (upd H2 D (.lst [])) s3 := by
    rw [← hs3]
    refine I2.laid (t' := s2.toks) (fun b o e => Heap.get?_push_of_some _ e) (Nat.le_of_eq hD) ⟨Nat.zero_le _, [], 0, .nil, ?_⟩
    rw [← hD]
    exact Heap.get?_push_size _ rfl
  have f3 : ∀ b ∈ fp, FpOk X pins (upd H2 D (.lst [])) b ∧ b < s3.heap.objs.size := fun b hb => by
    obtain ⟨o, e, _⟩ := T.obj _ _ st2 b hb
    have lt := Heap.lt_size e
    refine ⟨⟨?_, (f2 b hb).2⟩, by rw [h3, Heap.size_push]; exact Nat.lt_succ_of_lt lt⟩
    rw [upd_ne (by rw [← hD]; exact Nat.ne_of_lt lt)]
    exact (f2 b hb).1
  have st3 : tn 0 s3.heap := T.keep _ _ _ st2 fun b _ o e => by rw [h3]; exact Heap.get?_push_of_some _ e
  have I4 := block_start I3 ok hN f3
  have pg := hg s3 (upd H2 D (.lst [])) s3.heap.objs.size (cellsFrom (s3.heap.objs.size + 1) scope.names (cloFrom X.env.cells scope.names [])) fp
  have pe := he pins σ s3 (upd H2 D (.lst [])) s3.heap.objs.size (cellsFrom (s3.heap.objs.size + 1) scope.names (cloFrom X.env.cells scope.names [])) fp I3 fun b hb => (f3 b hb).1
  have nfp : ∀ b ∈ fp, (upd H2 D (.lst [])) b = none := fun b hb => (f3 b hb).1.1
  show codeAny _ _ (.compStart (.ListComp elt [⟨tg, iter, [], 0⟩] scope pos) 0 (.ref it) (.ref D) (compEnvC scope (cellsFrom (s3.heap.objs.size + 1) scope.names (cloFrom X.env.cells scope.names [])) s3.heap.objs.size X.env)) (compPost (model X.prog X.w) X.A X.xe none _ (.ref D) s3.heap.objs.size) _
  generalize hce : compEnvC scope (cellsFrom (s3.heap.objs.size + 1) scope.names (cloFrom X.env.cells scope.names [])) s3.heap.objs.size X.env = ce at I4 pg pe ⊢
  have cL : ce.locals = s3.heap.objs.size := by subst hce; rfl
  generalize hH3 : upd H2 D (.lst []) = H3 at I3 I4 pg pe w0 nfp f3
  generalize hs4 : ({ s3 with heap := pushCells (s3.heap.push { cls := .type "dict", data := .dict #[] }) scope.names } : Shared) = s4 at I4 ⊢
  have st4 : tn 0 s4.heap := T.keep _ _ _ st3 fun b _ o e => by rw [← hs4]; exact pushCells_keeps _ _ _ _ (Heap.get?_push_of_some _ e)
  have ours : ∀ {σ' : L2.St} {H' : Hp} {s' : Shared}, Inv (X.blk s3 H3 scope ce fp) [] σ' H' s' → (∀ b ∈ fp, H' b = none) → ∀ b ∈ fp, FpOk (X.blk s3 H3 scope ce fp) [] H' b := fun I' hn b hb =>
    ⟨hn b hb, (I'.ok.exf b hb).1, I'.ok.exfs b hb, .inl hb, fun x c e => (I'.ok.exf b hb).2 x c e, fun p hp => absurd (show p ∈ ([] : List (Addr × Obj)) ++ [] from hp) (by simp)⟩
  have loop : codeAny (model X.prog X.w) X.A (.compLoop (.ListComp elt [⟨tg, iter, [], 0⟩] scope pos) 0 (.ref it) (.ref D) ce) (compPost (model X.prog X.w) X.A X.xe none (EP X pins σ Q) (.ref D) s3.heap.objs.size) s4 := by
    refine compLoop_any (fun n s' => ∃ i H', Inv (X.blk s3 H3 scope ce fp) [] (wipe σ (own.map (·.2))) H' s' ∧ tn i s'.heap ∧ (∀ b ∈ fp, H' b = none) ∧ W i n H') ?_ m0 ⟨0, H3, I4, st4, nfp, w0⟩
    rintro n s5 ⟨i, H5, I5, st5, n5, w5⟩
    rcases turn i n H5 w5 with ⟨stop, qq⟩ | ⟨go, Nx, hNx, step⟩
    · refine thnF (T.done (X.blk s3 H3 scope ce fp) rfl rfl rfl hc i [] s5 _ H5 (fun _ _ => False) I5 (ours I5 n5) st5 stop) fun r s6 ⟨hr, I6⟩ => ?_
      subst hr
      have I7 : Inv X pins σ H5 s6 := I3.call' (ch := fp) I6.os I6.base I6.hok I6.bare fun b hb => ⟨(f3 b hb).1.2.2.2.1, (f3 b hb).1.2.1, (f3 b hb).1.2.2.2.2.1, (f3 b hb).1.2.2.2.2.2⟩
      have nC : H5 s3.heap.objs.size = none := by
        have z : H5 ce.locals = none := I6.free
        rw [cL] at z
        exact z
      obtain ⟨m, hn, _⟩ := I6.loc
      have hn : s6.heap.Ns ce.locals m := hn
      rw [cL] at hn
      refine ⟨m, hn, fun h'' sb => ?_⟩
      obtain ⟨f0, f1, f2', f3', f4, f5⟩ := I3.fpOk (Nat.le_refl _) nC
      exact ⟨.ref D, H5, I7.turned (t' := s6.toks) (fun b o hb e => (sb.2 b hb).trans e) f0 f1 f3' f4 f5, rfl, qq⟩
    · refine thnF (T.item (X.blk s3 H3 scope ce fp) rfl rfl rfl hc i [] s5 _ H5 (fun _ _ => False) I5 (ours I5 n5) st5 go) fun r s6 ⟨u, hr, h6⟩ => ?_
      subst hr
      refine thnF h6 fun _ s7 ⟨x, H7, I7, r7, y7, st7, n7⟩ => ?_
      have I7' := I7.pinned (ours I7 n7) (T.obj _ _ st7)
      refine thnF (pg.run _ s7 _ H7 x u _ I7' r7 (step x H7 y7)) fun _ s8 ⟨σ8, H8, I8, hw8, q8⟩ => ?_
      refine thnF ((pts_nil (X := X.blk s3 H3 scope ce fp)).run _ s8 σ8 H8 _ I8 q8) fun b s9 ⟨H9, I9, q9⟩ => ?_
      have fin : ∀ {s' : Shared} {H' : Hp}, Inv (X.blk s3 H3 scope ce fp) ([] ++ pinsAt fp s7.heap) σ8 H' s' → Nx H' → ∃ m, m < n ∧ ∃ i H', Inv (X.blk s3 H3 scope ce fp) [] (wipe σ (own.map (·.2))) H' s' ∧ tn i s'.heap ∧ (∀ b ∈ fp, H' b = none) ∧ W i m H' := by
        intro s' H' I' nx
        obtain ⟨m', hm, w'⟩ := hNx H' nx
        have pin' : ∀ b ∈ fp, ∀ o, s7.heap.get? b = some o → s'.heap.get? b = some o ∧ H' b = none := fun b hb o e =>
          let z := I'.pin (b, o) (List.mem_append_right _ (List.mem_append_right _ (mem_pinsAt hb e)))
          ⟨z.1, z.2.1⟩
        refine ⟨m', hm, i + 1, H', (I'.unpinned (pins := [])).weak (by rw [← hw8, wipe_length]) (fun j v e => ?_), T.keep _ _ _ st7 fun b hb o e => (pin' b hb o e).1, fun b hb => ?_, w'⟩
        · rw [← hw8] at e
          exact (wipe_some e).1
        · obtain ⟨o, e, _⟩ := T.obj _ _ st7 b hb
          exact (pin' b hb o e).2
      cases b with
      | false =>
        simp only [Bool.false_eq_true, if_false] at q9 ⊢
        exact fin I9 q9
      | true =>
        simp only [if_true] at q9 ⊢
        refine thnF (pe.run _ s9 σ8 H9 _ I9 q9) fun z s10 ⟨yv, H10, I10, r10, acc, hD10, hz10, nx⟩ => ?_
        exact app_ok (X := X.blk s3 H3 scope ce fp) I10 hD10 hz10 r10 fun s11 I11 => fin I11 nx
  exact codeAny_compStart_list loop (T.self X.A 0 _ _ _ st4 loop)
/-- what a block knows of the cells around it -/
theorem cells_blk {Y : Cx} {pins : List (Addr × Obj)} {σ : L2.St} {s : Shared} {H : Hp} {scope : Scope} {ce : Env} {fp : List Addr} (IY : Inv Y pins σ H s) (hf : ∀ b ∈ fp, FpOk Y pins H b) :
    ∀ (pins' : List (Addr × Obj)) (s' : Shared) (σ' : L2.St) (H' : Hp), Inv (Y.blk s H scope ce fp) pins' σ' H' s' → Y.Ok ∧ CellsY Y σ H' s'.heap := fun pins' s' σ' H' I' =>
  ⟨IY.ok, (cellsY_of IY).un (I'.base : Un (frs Y.stack) fp H H' s.heap s'.heap) fun y c e m => (hf c m).2.2.2.2.1 y c e rfl⟩
end L2
end

section
/-! (v,) * n for any n from 0 on. -/
namespace L2
open PySem PySem.Spec PyProof.Rows
theorem mul_tup1 (l : Addr) (v : Value) (n : Nat) (dd : Option Addr) (sl : Array (Option Value)) (u : Tok) :
    Meets (Builtin.«tuple.__mul__» ⟨[.ref l, .int 1 u], []⟩) (fun _ R s => s.heap.get? l = some { cls := .type "tuple", dict := dd, data := .seq #[v] n, slots := sl } ∧ R (.ok (.ret (Value.ref l))) s) :=
  .of_wp fun prog w A R s h => by
    obtain ⟨hp, g, d, tk, os⟩ := s
    obtain ⟨hl, h⟩ := h
    have f1 := AutoSeq1.idx_int
    wp_walk using wpAny_loadPart' hl
    repeat (first
      | (refine wpAny_ite_false (by decide) ?_; wp_walk using wpAny_loadPart' hl)
      | (refine wpAny_ite_true (by decide) ?_; wp_walk using wpAny_loadPart' hl))
    exact ⟨_, rfl, h⟩
theorem mul_tup0 (l : Addr) (v : Value) (n : Nat) (dd : Option Addr) (sl : Array (Option Value)) (u : Tok) :
    Meets (Builtin.«tuple.__mul__» ⟨[.ref l, .int 0 u], []⟩) (fun _ R s => s.heap.get? l = some { cls := .type "tuple", dict := dd, data := .seq #[v] n, slots := sl } ∧ R (.ok (.ret (Value.ref s.heap.objs.size))) { s with heap := s.heap.push { cls := Value.type "tuple", data := Data.seq #[] }, toks := s.toks }) :=
  .of_wp fun prog w A R s h => by
    obtain ⟨hp, g, d, tk, os⟩ := s
    obtain ⟨hl, h⟩ := h
    have f1 := AutoSeq1.idx_int
    wp_walk using wpAny_loadPart' hl
    repeat (first
      | (refine wpAny_ite_false (by decide) ?_; wp_walk using wpAny_loadPart' hl)
      | (refine wpAny_ite_true (by decide) ?_; wp_walk using wpAny_loadPart' hl))
    exact ⟨_, rfl, h⟩
/-- (v,) * n -/
def rRep1 : R2 := fun x y H Q => ∃ l v, ∃ n : Nat, x = .ref l ∧ y = .int n ∧ H l = some (.tup [v]) ∧ n ≤ 1000 ∧ ∀ p H', (∀ b o, H b = some o → H' b = some o) → H' p = some (.tup (List.replicate n v)) → Q (.ref p) H'
theorem op_rep1 {X : Cx} : OpR X (binaryOp .Mult) rRep1 := by
  intro pins s σ H x y v u Q I rx ry h
  obtain ⟨l, w, n, rfl, rfl, hl, hn, q⟩ := h
  have one : ∀ {p : Addr} {o : HO}, H p = none → ∀ b u, H b = some u → upd H p o b = some u := fun {p o} hp b u e => by rw [upd_ne (ne_of_none e hp)]; exact e
  by_cases h2 : 2 ≤ n
  · refine op_repT pins s σ H _ _ v u Q I rx ry ⟨l, n, [w], rfl, rfl, SqT.of hl, by simp, by omega, by omega, by simp, fun p hp => q p _ (one hp) ?_⟩
    rw [upd_same, Int.toNat_natCast]
    have e : ∀ n : Nat, (List.replicate n [w]).flatten = List.replicate n w := fun n => by
      induction n with
      | zero => rfl
      | succ n ih => rw [List.replicate_succ, List.flatten_cons, ih, List.replicate_succ]; rfl
    rw [e]
  · cases rx
    obtain ⟨t, rfl⟩ := ry
    obtain ⟨its, r, ⟨⟨cls, dd, data, sl⟩, ho, hc, m, hd⟩, hs⟩ := I.tuple (SqT.of hl)
    simp only at hc hd
    subst hc hd
    cases r with
    | @cons _ w' _ its' rw' rr =>
      cases rr
      rcases (show n = 0 ∨ n = 1 by omega) with rfl | rfl
      · refine wpAny_binaryOp_repeat_ref (T := "tuple") (U := "int") (by decide) ⟨_, ho, rfl⟩ (fun s' => typeIs_int s' 0 t) noFill_tuple_mul F.fills_int_mul F.slot_int_rmul repeat_tuple F.slot_int_index.lookup
          (call_meets F.slot_int_rmul (typeIs_int s 0 t) F.entry_int_rmul (F.args_int_rmul_2 _ _) (int_rmul_tuple 0 t l _ m dd sl)
            ⟨ho, rfl, ⟨_, ho, rfl⟩, call_meets F.slot_tuple_mul ⟨_, ho, rfl⟩ F.entry_tuple_mul (F.args_tuple_mul_2 _ _) (mul_tup0 l w' m dd sl t) ⟨ho, ?_⟩⟩)
        refine ⟨.ref s.heap.objs.size, _, I.laid (t' := s.toks) (o := .tup []) (fun b ob q => Heap.get?_push_of_some _ q) (Nat.le_refl _) ⟨Nat.zero_le _, [], .nil, IsTup.new _ _⟩, rfl, q _ _ (one (I.hok.fresh (Nat.le_refl _))) upd_same⟩
      · refine wpAny_binaryOp_repeat_ref (T := "tuple") (U := "int") (by decide) ⟨_, ho, rfl⟩ (fun s' => typeIs_int s' 1 t) noFill_tuple_mul F.fills_int_mul F.slot_int_rmul repeat_tuple F.slot_int_index.lookup
          (call_meets F.slot_int_rmul (typeIs_int s 1 t) F.entry_int_rmul (F.args_int_rmul_2 _ _) (int_rmul_tuple 1 t l _ m dd sl)
            ⟨ho, rfl, ⟨_, ho, rfl⟩, call_meets F.slot_tuple_mul ⟨_, ho, rfl⟩ F.entry_tuple_mul (F.args_tuple_mul_2 _ _) (mul_tup1 l w' m dd sl t) ⟨ho, ?_⟩⟩)
        exact ⟨.ref l, H, I, rfl, q _ _ (fun _ _ z => z) hl⟩
end L2
end

section
/-! equal data -/
namespace L2
open PySem PySem.Spec PyProof.Rows
theorem eq_same {K : PySem.W.Frag} {H : Hp} {x y : V} {d : PyData} {Q : VK} (h1 : Dp K H x d) (h2 : Dp K H y d) (sh : SeqAt.shaped d = true) (k : Q (.bl true) H) : rEqD K x y H Q :=
  ⟨d, d, h1, h2, sh, sh, by rw [PySem.SeqAt.eqv_refl d (SeqAt.canLay_of_shaped sh)]; exact k⟩
theorem ne_same {K : PySem.W.Frag} {H : Hp} {x y : V} {d : PyData} {Q : VK} (h1 : Dp K H x d) (h2 : Dp K H y d) (sh : SeqAt.shaped d = true) (k : Q (.bl false) H) : rNeD K x y H Q :=
  ⟨d, d, h1, h2, sh, sh, by rw [PySem.SeqAt.eqv_refl d (SeqAt.canLay_of_shaped sh)]; exact k⟩
theorem dp_ints {K : PySem.W.Frag} {H : Hp} : ∀ zs : List Int, DpAll K H (zs.map V.int) (zs.map PyData.int)
  | [] => .nil
  | z :: zs => .cons (.int z) (dp_ints zs)
theorem shaped_ints (zs : List Int) : SeqAt.shaped (.tuple (zs.map PyData.int)) = true := by
  have h1 : PyData.canLayAll0 (zs.map PyData.int) = true := by
    induction zs with
    | nil => rfl
    | cons z zs ih => simp [PyData.canLayAll0, PyData.canLay0, ih]
  have h2 : ∀ zs : List Int, PyData.depthAll (zs.map PyData.int) ≤ 1 := fun zs => by
    induction zs with
    | nil => simp [PyData.depthAll]
    | cons z zs ih => simp [PyData.depthAll, PyData.depth]; omega
  unfold SeqAt.shaped
  have h3 := h2 zs
  simp [PyData.canLay0, PyData.depth, h1]
  omega
end L2
end

section
/-! a op b of two own classes, b's class no subclass of a's. -/
namespace Hw
open PySem PySem.W PySem.Calls PyProof.Rows
section
variable {prog : Program} {w : World} {A : Around} {E : Value → Shared → Prop} {s : Shared} {K : Frag} {x y C D L f f2 : Addr} {h₀ : Heap} {m : Str → Option Value} {ox oy : Obj} {od ody : Option Obj}
theorem bin_two {op : Operator} {Q : Value → Shared → Prop} (F : Fr h₀ L s.heap m) (X₀ : K.In h₀) (I : InstAt s.heap x ox C od) (J : InstAt s.heap y oy D ody) (hne : C ≠ D) (hc : selfFirst K C = true) (hd : selfFirst K D = true)
    (hs : findIn K (.ref C) (PySem.dunder op.info.2) = some (some (.ref f))) (hf : isFn K (.ref f) = true) (hr : findIn K (.ref C) (dunderR op.info.2) = some none)
    (hs2 : findIn K (.ref D) (PySem.dunder op.info.2) = some (some (.ref f2))) (hr2 : findIn K (.ref D) (dunderR op.info.2) = some none) (hsub : subIn K (.ref D) (.ref C) = some false)
    (h : wpAny (model prog w) A (call (.ref f) [.ref x, .ref y]) (PySem.W.CmpBack Q) E s) : wpAny (model prog w) A (binaryOp op (.ref x) (.ref y)) Q E s := by
  have X := X₀.keeps F.keep
  obtain ⟨cd, rest, hcd, hm⟩ := ksp_first hc
  obtain ⟨cd2, rest2, hcd2, hm2⟩ := ksp_first hd
  rcases hi : op.info with ⟨sym, nm'⟩
  rw [hi] at hs hr hs2 hr2
  dsimp only at hs hr hs2 hr2
  have one := ksp_try X I hs hf h
  obtain ⟨hh, g, d, tt, os⟩ := s
  have L1 : Looks (model prog w) hh (typeOf (.ref x)) (.ref C) := I.type
  have L2 : Looks (model prog w) hh (typeOf (.ref y)) (.ref D) := J.type
  have L3 : Looks (model prog w) hh (fillsNumberSlot (.ref C) nm') true := fills_K X hcd hm hs
  have L4 : Looks (model prog w) hh (fillsNumberSlot (.ref D) nm') true := fills_K X hcd2 hm2 hs2
  have L5 : Looks (model prog w) hh (isSubtype (.ref D) (.ref C)) false := looks_subIn X hsub
  have L6 : Looks (model prog w) hh (numberSlotInPython (.ref C) nm') true := ksp_inPy X hs hr (.inl rfl)
  have L7 : Looks (model prog w) hh (numberSlotInPython (.ref D) nm') true := ksp_inPy X hs2 hr2 (.inl rfl)
  have heq : (Value.ref C == Value.ref D) = false := Bool.eq_false_iff.mpr fun q => hne (by cases beq_iff_eq.mp q; rfl)
  simp only [binaryOp, hi]
  refine wpAny_holding (wpAny_bind ?_)
  unfold binaryOp1
  refine wpAny_bind (L1.at (wpAny_bind (L2.at (wpAny_bind (L3.at ?_)))))
  simp only [heq, Bool.false_eq_true, if_false]
  repeat ((fail_if_success (with_reducible show wpAny _ _ (tryMethod _ _ _) _ _ _)); lk)
  refine wpAny_mono one (fun r s' hr' => ?_) fun _ _ e => e
  obtain ⟨v, rfl, hq⟩ := hr'
  repeat ((fail_if_success (with_reducible show wpAny _ _ (tryMethod _ _ _) _ _ _)); lk)
  exact hq
end
end Hw
namespace L2
open PySem PySem.Spec PyProof.Rows
def rOwn2 (C D : Addr) (sp : Sp) (E : XK) : R2 := fun x y H Q => Inst H C x ∧ ((∃ i, y = .int i) ∨ Inst H D y) ∧ sp [x, y] H Q E
theorem op_o2 {X : Cx} {C D : Addr} {j k k2 : Nat} {sp sp2 : Sp} {E : XK} {op : Operator} (c : Of X.prog X.w X.K X.mg X.base C op k sp) (c2 : Of X.prog X.w X.K X.mg X.base D op k2 sp2) (sub : PySem.W.subIn X.K (.ref D) (.ref C) = some false) (hne : C ≠ D) (hr : Room j X.A) (hk : k ≤ j) (hx : Passes (L2.CX X.prog X.w) X E) :
    OpR X (binaryOp op) (rOwn2 C D sp E) := by
  obtain ⟨f, fd, ps, fo, ro, h1, h2, h3, h4, h5, h6⟩ := c.ex
  obtain ⟨f2, _, _, _, _, g1, _⟩ := c2.ex
  intro pins s σ H x y u v Q I rx ry h
  obtain ⟨⟨a, dx, fs, ex, ha⟩, hy, hs⟩ := h
  subst ex
  obtain rfl : u = Value.ref a := rx
  obtain ⟨mA, O, _⟩ := ins_get I.hok ha
  obtain ⟨od, J, _⟩ := O.look
  obtain ⟨m, fr⟩ := I.fr
  have run : wpAny (model X.prog X.w) X.A (call (.ref f) [Value.ref a, v]) (PySem.W.CmpBack (EP X pins σ Q)) X.xe s :=
    wpAny_mono (run_fn (vs := [.ref a, y]) (us := [.ref a, v]) h3 (hr.mono hk) h2 .nil hx I (.cons rfl (.cons ry .nil)) (by simpa using hs)) (fun _ _ z => cmpBack_of z) fun _ _ z => z
  rcases hy with ⟨i, rfl⟩ | ⟨b, dy, gs, rfl, hb'⟩
  · obtain ⟨t, rfl⟩ := (show ∃ t, v = Value.int i t from ry)
    exact PySem.W.ksp_binT fr I.ok.mod.kin J rfl h1.first h1.at_ h1.fn h1.refl (.inl rfl) h4 h5 h6 run
  · obtain rfl : v = Value.ref b := ry
    obtain ⟨mB, O2, _⟩ := ins_get I.hok hb'
    obtain ⟨od2, J2, _⟩ := O2.look
    exact Hw.bin_two fr I.ok.mod.kin J J2 hne h1.first g1.first h1.at_ h1.fn h1.refl g1.at_ g1.refl sub run
end L2
end

section
/-! What refuses; lambdas in a row. -/
namespace L2
open PySem PySem.Spec PyProof.Rows LamX
/-- a datum that repr shows -/
structure RepOK (K : PySem.W.Frag) (H : Hp) (x : V) (d : PyData) : Prop where
  dp : Dp K H x d
  sh : d.showable = true
  nd : d.hasDict = false
  de : d.depth ≤ 60
  le : d.shown.length ≤ sizeLine
  ok : PyData.strOk d.shown = true
theorem RepOK.run {K : PySem.W.Frag} {H : Hp} {x : V} {d : PyData} {Q : VK} (h : RepOK K H x d) (k : Q (.str d.shown) H) : rRepr K [x] H Q := ⟨x, d, rfl, h.dp, h.sh, h.nd, h.de, h.le, k⟩
theorem RepOK.nat {K : PySem.W.Frag} {H : Hp} {j : Nat} (h : j < 13) : RepOK K H (.int (j : Int)) (.int (j : Int)) := by
  have a : ∀ j : Fin 13, (PyData.int (j.val : Int)).showable = true ∧ (PyData.int (j.val : Int)).shown.length ≤ 100 ∧ PyData.strOk (PyData.int (j.val : Int)).shown = true := by decide +kernel
  obtain ⟨a1, a2, a3⟩ := a ⟨j, h⟩
  have a2 : (PyData.int (j : Int)).shown.length ≤ 100 := a2
  exact ⟨.int _, a1, rfl, by simp [PyData.depth], line_le (by omega), a3⟩
theorem RepOK.m1 {K : PySem.W.Frag} {H : Hp} : RepOK K H (.int (-1)) (.int (-1)) := ⟨.int _, by decide +kernel, by decide +kernel, by decide +kernel, line_le (by decide +kernel), by decide +kernel⟩
theorem RepOK.m2 {K : PySem.W.Frag} {H : Hp} : RepOK K H (.int (-2)) (.int (-2)) := ⟨.int _, by decide +kernel, by decide +kernel, by decide +kernel, line_le (by decide +kernel), by decide +kernel⟩
theorem RepOK.non {K : PySem.W.Frag} {H : Hp} : RepOK K H .non .none := ⟨.non, by decide +kernel, by decide +kernel, by decide +kernel, line_le (by decide +kernel), by decide +kernel⟩
theorem RepOK.bl {K : PySem.W.Frag} {H : Hp} (b : Bool) : RepOK K H (.bl b) (.bool b) := by cases b <;> exact ⟨.bl _, by decide +kernel, by decide +kernel, by decide +kernel, line_le (by decide +kernel), by decide +kernel⟩
theorem RepOK.s1 {K : PySem.W.Frag} {H : Hp} : RepOK K H (.str "1") (.str "1") := ⟨.str _, by decide +kernel, by decide +kernel, by decide +kernel, line_le (by decide +kernel), by decide +kernel⟩
theorem RepOK.s0 {K : PySem.W.Frag} {H : Hp} : RepOK K H (.str "0") (.str "0") := ⟨.str _, by decide +kernel, by decide +kernel, by decide +kernel, line_le (by decide +kernel), by decide +kernel⟩
theorem RepOK.sx {K : PySem.W.Frag} {H : Hp} : RepOK K H (.str "x") (.str "x") := ⟨.str _, by decide +kernel, by decide +kernel, by decide +kernel, line_le (by decide +kernel), by decide +kernel⟩
theorem RepOK.li {K : PySem.W.Frag} {H : Hp} {a : Addr} (h : H a = some (.lst [.int 1])) : RepOK K H (.ref a) (.list [.int 1]) := ⟨.lst (SqL.of h) (.cons (.int _) .nil), by decide +kernel, by decide +kernel, by decide +kernel, line_le (by decide +kernel), by decide +kernel⟩
/-- tuples of texts -/
def strT (zs : List Str) : PyData := .tuple (zs.map .str)
theorem dp_strs {K : PySem.W.Frag} {H : Hp} : ∀ zs : List Str, DpAll K H (zs.map V.str) (zs.map PyData.str)
  | [] => .nil
  | z :: zs => .cons (.str z) (dp_strs zs)
theorem dp_strT {K : PySem.W.Frag} {H : Hp} {a : Addr} {zs : List Str} (h : H a = some (.tup (zs.map V.str))) : Dp K H (.ref a) (strT zs) := .tup (SqT.of h) (dp_strs zs)
theorem lay_strs {zs : List Str} (h : zs.all PyData.strOk = true) : PyData.canLayAll0 (zs.map PyData.str) = true := by
  induction zs with
  | nil => rfl
  | cons z zs ih =>
    rw [List.all_cons, Bool.and_eq_true] at h
    simp [PyData.canLayAll0, PyData.canLay0, ih h.2, h.1]
theorem dep_strs (zs : List Str) : PyData.depthAll (zs.map PyData.str) ≤ 1 := by
  induction zs with
  | nil => simp [PyData.depthAll]
  | cons z zs ih => simp [PyData.depthAll, PyData.depth]; omega
theorem shaped_strT {zs : List Str} (h : zs.all PyData.strOk = true) : SeqAt.shaped (strT zs) = true := by
  have h1 := lay_strs h
  have h2 := dep_strs zs
  unfold SeqAt.shaped strT
  simp [PyData.canLay0, PyData.depth, h1]
  omega
theorem shaped_lstT {zs : List (List Str)} (h : (zs.all fun z => z.all PyData.strOk) = true) : SeqAt.shaped (.list (zs.map strT)) = true := by
  have h1 : PyData.canLayAll0 (zs.map strT) = true := by
    induction zs with
    | nil => rfl
    | cons z zs ih =>
      rw [List.all_cons, Bool.and_eq_true] at h
      simp [PyData.canLayAll0, PyData.canLay0, ih h.2, strT, lay_strs h.1]
  have h2 : PyData.depthAll (zs.map strT) ≤ 2 := by
    clear h1 h
    induction zs with
    | nil => simp [PyData.depthAll]
    | cons z zs ih =>
      have := dep_strs z
      simp [PyData.depthAll, PyData.depth, strT] at ih ⊢
      omega
  unfold SeqAt.shaped
  simp [PyData.canLay0, PyData.depth, h1]
  omega
/-- a call that refuses: the exception's name and fields, as a tuple -/
def TRef (K : PySem.W.Frag) (CB CG : Addr) : (XK → Hp → VK → Prop) → Hp → VK → Prop := fun tl H Q => ∀ (H0 : Hp) (Q0 : VK), Same H H0 →
  tl (fun cls d H' => (cls = .ref CB ∧ ∃ dd wh x dt, d = some dd ∧ H' dd = some (.xd [("number", x), ("what", .str wh)]) ∧ RepOK K H' x dt ∧ ∀ H'' a, Same H' H'' → H'' a = some (.tup [.str "number", .str wh, .str dt.shown]) → Q (.ref a) H'') ∨
    (cls = .ref CG ∧ ∃ dd wh, d = some dd ∧ H' dd = some (.xd [("what", .str wh)]) ∧ ∀ H'' a, Same H' H'' → H'' a = some (.tup [.str "given", .str wh]) → Q (.ref a) H'')) H0 Q0
section
theorem pe_refF {X Y : Cx} {x a : Str} {g : Addr} {k : Nat} {pg : Arguments} {bg : List Stmt} {sg : Scope} {fdg : FuncData} {Ng : List Str} {TT : (XK → Hp → VK → Prop) → Hp → VK → Prop} {e : Expr} {ta : TA} {p pos : Pos} {σY : L2.St → L2.St}
    (F : FunD X.K x x pg bg sg [] [] g fdg) (bB : Binds X.K fdg [a] []) (hg : Gl X x) (hm : X.mg x = some (.ref g)) (Sg : FnScope Ng [a] sg) (hNg : Ng[0]? = some a) (hva : Vis sg a)
    (hG : ∀ cdg : Value, GivesV X.prog X.w X.K X.mg X.base X.A X.stack Ng x sg g cdg bg a TT) (hr : Room (k + 2) X.A) (hC : ∀ pins s σ H, Inv X pins σ H s → Y.Ok ∧ CellsY Y (σY σ) H s.heap) (hX : X.prog = Y.prog ∧ X.w = Y.w ∧ X.K = Y.K ∧ X.mg = Y.mg ∧ X.base = Y.base) (ha : PA X [e] ta)
    (hdb : (x == ("__debug__" : Str)) = false := by decide) (hd : (a == ("__debug__" : Str)) = false := by decide) (hcd : (a == ("__classdict__" : Str)) = false := by decide)
    (he : starEach [e] X.env = (false, eval e X.env) :: starEach [] X.env := by rfl) (hpl : (backTo pos (starEach [] X.env)).any (·.1) = false := by rfl) :
    PE X (.Call (.Name x p) [e] [] pos) (tRefV Y k σY TT ta) := by
  obtain ⟨oc, od, dV, kV, doc, pm, an, cdv, ct, osl, rfl, lk, hcg, _, _⟩ := F.ex
  exact pe_refV hX σY hC hg hm F.kp lk hcg bB Sg hNg hva (hG cdv) hr ha hdb hd hcd he hpl
end
theorem tref_in {K : PySem.W.Frag} {CB CG : Addr} {tl : XK → Hp → VK → Prop} {H : Hp} {Q : VK} (zs : List Str)
    (h : ∀ (H0 : Hp) (Q0 : VK) (E : XK), Same H H0 → (∀ (wh : Str) (x : V) (dt : PyData), zs = [("number" : Str), wh, dt.shown] → (∀ H', Same H0 H' → RepOK K H' x dt) → ∀ H' d, Same H0 H' → H' d = some (.xd [("number", x), ("what", .str wh)]) → E (.ref CB) (some d) H') →
      (∀ wh : Str, zs = [("given" : Str), wh] → ∀ H' d, Same H0 H' → H' d = some (.xd [("what", .str wh)]) → E (.ref CG) (some d) H') → tl E H0 Q0)
    (k : ∀ H' a, Same H H' → H' a = some (.tup (zs.map .str)) → Q (.ref a) H') : TRef K CB CG tl H Q := by
  intro H0 Q0 s0
  refine h H0 Q0 _ s0 ?_ ?_
  · rintro wh x dt rfl rep H' d s' hd
    exact .inl ⟨rfl, d, wh, x, dt, rfl, hd, rep H' s', fun H'' a s'' ha => k _ a (s0.trans (s'.trans s'')) ha⟩
  · rintro wh rfl H' d s' hd
    exact .inr ⟨rfl, d, wh, rfl, hd, fun H'' a s'' ha => k _ a (s0.trans (s'.trans s'')) ha⟩
/-- lambdas made one behind the other -/
inductive LamsK (Y : Cx) (H : Hp) : List LamD → List V → Prop
  | nil : LamsK Y H [] []
  | cons {L : LamD} {Ls : List LamD} {f : Addr} {fs : List V} (h : LamK Y L f H) (r : LamsK Y H Ls fs) : LamsK Y H (L :: Ls) (.ref f :: fs)
theorem LamsK.extN {Y : Cx} {H H' : Hp} {Ls : List LamD} {fs : List V} (h : LamsK Y H Ls fs) (e : ExtN H H') : LamsK Y H' Ls fs := by
  induction h with
  | nil => exact .nil
  | cons h _ ih => exact .cons (h.extN e) ih
theorem LamsK.len {Y : Cx} {H : Hp} {Ls : List LamD} {fs : List V} (h : LamsK Y H Ls fs) : fs.length = Ls.length := by
  induction h with
  | nil => rfl
  | cons h _ ih => rw [List.length_cons, List.length_cons, ih]
theorem LamsK.get {Y : Cx} {H : Hp} {Ls : List LamD} {fs : List V} (h : LamsK Y H Ls fs) : ∀ {i : Nat} {v : V}, fs[i]? = some v → ∃ L f, Ls[i]? = some L ∧ v = .ref f ∧ LamK Y L f H := by
  induction h with
  | nil => intro i v e; cases e
  | cons h _ ih =>
    intro i v e
    cases i with
    | zero => cases e; exact ⟨_, _, rfl, rfl, h⟩
    | succ i => exact ih e
def tLams (Y : Cx) (T : List (Addr × Str)) : List LamD → TA
  | [] => tNil
  | L :: Ls => tCons (tLamV Y T L) (tLams Y T Ls)
theorem lams_run {Y : Cx} {T : List (Addr × Str)} {σ : L2.St} : ∀ {Ls : List LamD} {H : Hp} {Q : List V → Hp → Prop}, Tabs T H → (∀ fs H1, ExtN H H1 → Tabs T H1 → LamsK Y H1 Ls fs → Q fs H1) → tLams Y T Ls σ H Q
  | [], H, Q, t, k => k [] H (ExtN.refl H) t .nil
  | L :: Ls, H, Q, t, k => ⟨t, fun f H1 e1 t1 h1 => lams_run t1 fun fs H2 e2 t2 h2 => k _ H2 (e1.trans e2) t2 (.cons (h1.extN e2) h2)⟩
end L2
end

section
/-! enumerate of a tuple or a list. -/
namespace PySem
theorem hw_meets_enum {v : Value} {o : Obj} {H : Heap → Prop} (B : Begins v o H) : Meets (Builtin.«enumerate.__new__» ⟨[.type "enumerate", v], []⟩) (fun _ R s => H s.heap ∧ R (.ok (.ret (.ref (s.heap.push o).objs.size))) { s with heap := (s.heap.push o).push { cls := .type "enumerate", data := .fields #[.none, .bool false, .ref s.heap.objs.size, rawInt 0, .none, .none] } }) :=
  .of_wp fun prog w A R s h => by
    obtain ⟨hp, g, d, tk, os⟩ := s
    obtain ⟨h1, h⟩ := h
    have hsub := sub_enumerate
    have q1 : ∀ {A' : Around} {E Q : Value → Shared → Prop}, Q (.ref hp.objs.size) ⟨hp.push o, g, d, tk, os⟩ → wpAny (model prog w) A' (pyIter v) Q E ⟨hp, g, d, tk, os⟩ := fun q => B.iter prog w _ _ ⟨hp, g, d, tk, os⟩ _ h1 q
    wp_walk using q1
    apply wpAny_stack_any; intro st; apply wpAny_pure
    split
    · rename_i c _ _ _ _ _
      cases (c == Value.type "enumerate") <;> (wp_walk using q1; exact ⟨_, rfl, h⟩)
    · wp_walk using q1; exact ⟨_, rfl, h⟩
theorem hw_call_enum {prog : Program} {w : World} {A : Around} {E : Value → Shared → Prop} {s : Shared} {v : Value} {o : Obj} {H : Heap → Prop} {Q : Value → Shared → Prop} (B : Begins v o H) (h1 : H s.heap)
    (h : ∀ h', IsEnum h' (s.heap.objs.size + 1) s.heap.objs.size 0 .none → h'.get? s.heap.objs.size = some o → (∀ b o, s.heap.get? b = some o → h'.get? b = some o) → Q (.ref (s.heap.objs.size + 1)) { s with heap := h' }) :
    wpAny (model prog w) A (call (.type "enumerate") [v]) Q E s := by
  apply callType_new F.called_enumerate (by decide) (F.typeCall_enumerate_1 _) (F.newCall_enumerate_1 _) (fun obj => F.args_object_init_2 obj _) F.entry_enumerate_new (hw_meets_enum B)
  have hz : (s.heap.push o).objs.size = s.heap.objs.size + 1 := Heap.size_push ..
  refine ⟨h1, ?_⟩
  show _ ∧ _
  rw [hz]
  generalize hg : (s.heap.push o).push { cls := .type "enumerate", data := .fields #[.none, .bool false, .ref s.heap.objs.size, rawInt 0, .none, .none] } = g
  have he : IsEnum g (s.heap.objs.size + 1) s.heap.objs.size 0 .none := by
    have e := Heap.get?_push_size (s.heap.push o) (o := { cls := .type "enumerate", data := .fields #[.none, .bool false, .ref s.heap.objs.size, rawInt 0, .none, .none] }) rfl
    rw [hz, hg] at e
    exact e
  refine ⟨⟨_, he, rfl⟩, h g he ?_ fun b o' x => ?_⟩
  · rw [← hg]; exact Heap.get?_push_of_some _ (Heap.get?_push_size _ B.free)
  · rw [← hg]; exact Heap.get?_push_of_some _ (Heap.get?_push_of_some _ x)
end PySem
namespace L2
open PySem PySem.Spec PyProof.Rows
/-- the tuple at a, each item in a new pair with its number -/
def IteT (K : PySem.W.Frag) (a : Addr) : It :=
  ⟨fun i H => ∃ (xs : List V) (x : V), SqT K H a xs ∧ xs[i]? = some x, fun i H v H' => ∃ T x, v = .ref T ∧ H T = none ∧ H' = upd H T (.tup [.int (i : Nat), x]) ∧ ∀ xs, SqT K H a xs → xs[i]? = some x, fun i H => ∃ xs : List V, SqT K H a xs ∧ i = xs.length⟩
theorem turn_enumT {P : Program} {w : World} {K : PySem.W.Frag} {elts : List Expr} {kk : Nat} {tpos : Pos} {a e it : Addr} (hla : a ≠ it) (hea : a ≠ e) :
    Turn P w K (.Tuple elts kk tpos) (IteT K a) [e, it] e (fun i h => (∃ old, IsEnum h e it ((i : Nat) : Int) old) ∧ h.IsTupleIter it a i ∧ e ≠ it) where
  mem := by simp
  obj := fun i h st b hb => by
    obtain ⟨⟨old, he⟩, ⟨o, ho, _, hd⟩, _⟩ := st
    rcases (show b = e ∨ b = it by simpa using hb) with z | z <;> rw [z]
    · exact ⟨_, he, fun v q => nomatch q⟩
    · exact ⟨o, ho, fun v q => by rw [hd] at q; cases q⟩
  keep := fun i h h' st k => ⟨st.1.elim fun old he => ⟨old, k e (by simp) _ he⟩, st.2.1.at fun o q => k it (by simp) o q, st.2.2⟩
  item := by
    intro X hP hw hK hc i pins s σ H E I hf st hg
    subst hP hw hK
    obtain ⟨⟨old, he⟩, hit, hne⟩ := st
    obtain ⟨xs, x, hq, hx⟩ := hg
    obtain ⟨its, rv, p, _⟩ := I.tuple hq
    obtain ⟨u, hu, ru⟩ := rv.get hx
    have lt : i < its.toArray.size := by
      rcases Nat.lt_or_ge i its.length with h | h
      · simpa using h
      · rw [List.getElem?_eq_none h] at hu; cases hu
    have hel : e < s.heap.objs.size := Heap.lt_size he
    have hil : it < s.heap.objs.size := by obtain ⟨_, q, _⟩ := hit; exact Heap.lt_size q
    have hd : X.A.in1.handled = none := I.ok.hd hc
    refine wpAny_pyNext_enum_itemD (Draws.tuple hd it a hla its.toArray) he ⟨hit, p⟩ lt hne (fun m => (show e = it ∨ e = a by simpa using m).elim hne fun z => hea z.symm) fun x1 h' tk y1 ho st' hT hsz hk => ?_
    obtain rfl : u = x1 := by
      have : its[i]? = some x1 := by simpa using y1
      rw [hu] at this
      exact Option.some.inj this
    refine ⟨_, rfl, wpAny_letOwnedTupleGo_enum (s := { s with heap := h', toks := tk + 1 }) ho fun h'' he' sb => ?_⟩
    have hT2 : h''.get? s.heap.objs.size = some { cls := .type "tuple", data := .seq #[.int i tk, u] } := (sb.2 _ (Nat.ne_of_gt hel)).trans hT
    have new : ObjOk X.prog X.w (upd H s.heap.objs.size (.tup [.int (i : Nat), x])) h'' s.heap.objs.size (.tup [.int (i : Nat), x]) := ⟨by show 2 ≤ sizeLine; decide, [.int i tk, u], .cons ⟨_, rfl⟩ (.cons ru .nil), ⟨_, hT2, rfl, _, rfl⟩⟩
    have I1 : Inv X pins σ (upd H s.heap.objs.size (.tup [.int (i : Nat), x])) { s with heap := h'', toks := tk + 1 } := I.turnedNew (ch := [e, it]) (fun b ob hb q => (sb.2 b (fun z => hb (by simp [z]))).trans (hk b ob (fun z => hb (by simp [z])) (fun z => hb (by simp [z])) q)) hf (Nat.le_refl _) new
    refine ⟨.ref s.heap.objs.size, _, I1, rfl, ⟨_, x, rfl, I.hok.fresh (Nat.le_refl _), rfl, fun ys hy => by rw [I.tuple_inj hy hq]; exact hx⟩, ⟨⟨u, ?_⟩, st'.1.at fun o q => (sb.2 it (Ne.symm hne)).trans q, hne⟩, fun b hb => ?_⟩
    · rw [show ((i + 1 : Nat) : Int) = (i : Int) + 1 by omega]
      exact he'
    · have hb' : b < s.heap.objs.size := by
        rcases (show b = e ∨ b = it by simpa using hb) with z | z <;> rw [z]
        · exact hel
        · exact hil
      rw [upd_ne (Nat.ne_of_lt hb')]
      exact (hf b hb).1
  done := by
    intro X hP hw hK hc i pins s σ H E I hf st hg
    subst hP hw hK
    obtain ⟨⟨old, he⟩, hit, hne⟩ := st
    obtain ⟨xs, hq, rfl⟩ := hg
    obtain ⟨its, rv, p, _⟩ := I.tuple hq
    obtain ⟨f0, f1, f2, f3, f4, f5⟩ := hf it (by simp)
    have hl : xs.length = its.toArray.size := by rw [rv.length]; simp
    rw [hl] at he hit
    have hd : X.A.in1.handled = none := I.ok.hd hc
    exact wpAny_pyNext_enum_endD (Draws.tuple hd it a hla its.toArray) he ⟨hit, p⟩ fun h' eb => ⟨rfl, I.turned (t' := s.toks) (fun b o hb q => eb b o hb q) f0 f1 f3 f4 f5⟩
  self := fun A i s Q E st h => st.1.elim fun _ he => wpAny_pyIter_enum he h
def iEnumS (K : PySem.W.Frag) (ta : TA) : TI := fun σ H R => ta σ H fun vs H1 => ∃ a xs, vs = [.ref a] ∧ ((SqL K H1 a xs ∧ R (Ite K a) H1) ∨ (SqT K H1 a xs ∧ R (IteT K a) H1))
theorem pi_enumS {X : Cx} {e : Expr} {ta : TA} {p pos tpos : Pos} {elts : List Expr} {kk : Nat} (hg : Gl X "enumerate") (hm : X.mg "enumerate" = none) (ha : PA X [e] ta) (hs : starEach [e] X.env = [(false, eval e X.env)] := by rfl) : PI X (.Tuple elts kk tpos) (.Call (.Name "enumerate" p) [e] [] pos) (iEnumS X.K ta) := by
  refine ⟨fun pins s σ H R I h => Call_ (ld_blt I hg hm boot_enumerate (PyProof.Rows.callWith_type1 (thn (ha.run pos pins s σ H _ I h) fun us s1 ⟨vs, H1, I1, r1, q1⟩ => ?_) hs rfl))⟩
  obtain ⟨a, xs, rfl, q1⟩ := q1
  cases r1 with
  | cons r rr =>
    cases rr
    cases r
    have fr : ∀ b ∈ [s1.heap.objs.size + 1, s1.heap.objs.size], FpOk X pins H1 b := fun b hb => by
      have hle : s1.heap.objs.size ≤ b := by
        rcases (show b = s1.heap.objs.size + 1 ∨ b = s1.heap.objs.size by simpa using hb) with z | z <;> omega
      exact I1.fpOk hle (I1.hok.fresh hle)
    rcases q1 with ⟨hq, q⟩ | ⟨hq, q⟩
    · obtain ⟨its, rv, p', _⟩ := I1.list hq
      refine hw_call_enum (begins_list a its.toArray) p'.isList fun h' he hit hk => wpAny_pyIter_enum he ?_
      exact ⟨s1.heap.objs.size + 1, [s1.heap.objs.size + 1, s1.heap.objs.size], _, _, H1, rfl, I1.kept (t' := s1.toks) hk, turn_enum a (s1.heap.objs.size + 1) s1.heap.objs.size, ⟨⟨.none, he⟩, ⟨_, hit, rfl, rfl⟩, Nat.succ_ne_self _⟩, fr, q⟩
    · obtain ⟨its, rv, p', _⟩ := I1.tuple hq
      obtain ⟨o1, ho1, _⟩ := id p'
      refine hw_call_enum (begins_tuple a its.toArray) p' fun h' he hit hk => wpAny_pyIter_enum he ?_
      exact ⟨s1.heap.objs.size + 1, [s1.heap.objs.size + 1, s1.heap.objs.size], _, _, H1, rfl, I1.kept (t' := s1.toks) hk, turn_enumT (Nat.ne_of_lt (Heap.lt_size ho1)) (Nat.ne_of_lt (Nat.lt_succ_of_lt (Heap.lt_size ho1))), ⟨⟨.none, he⟩, ⟨_, hit, rfl, rfl⟩, Nat.succ_ne_self _⟩, fr, q⟩
theorem walk_enumT {K : PySem.W.Frag} {a : Addr} {xs : List V} : Walk (IteT K a) xs.length (fun H => SqT K H a xs) (YPair (fun i => some (.int (i : Nat))) (fun i => xs[i]?)) :=
  ⟨fun i _ hi q => ⟨xs, xs[i], q, by simp [hi]⟩, fun _ q => ⟨xs, q, rfl⟩, fun i H v H' _ q y => by
    obtain ⟨T, x, h1, h2, h3, h4⟩ := y
    exact ⟨T, .int (i : Nat), x, h1, h2, h3, rfl, h4 xs q⟩⟩
/-- a loop over enumerate of a list or tuple -/
theorem for_enumS {K : PySem.W.Frag} {a : Addr} {xs : List V} {g : TG} {tb : TS} {D : Ends} {σ : L2.St} {H : Hp} (hq : Sq K H a xs) (Pv : Nat → L2.St → Hp → Prop) (h0 : Pv 0 σ H) (hl : ∀ i σ' H', Pv i σ' H' → Same H H')
    (hs : ∀ (i : Nat) (x : V) (T : Addr) (σ : L2.St) (H : Hp), xs[i]? = some x → Pv i σ H → H T = none → g (.ref T) σ (upd H T (.tup [.int (i : Int), x])) fun σ2 H2 => tb { D with nx := Pv (i + 1), ct := Pv (i + 1), bk := D.nx } σ2 H2) (hd : ∀ σ H, Pv xs.length σ H → D.nx σ H) :
    (SqL K H a xs ∧ ∃ W : Nat → Nat → L2.St → Hp → Prop, (∃ m, W 0 m σ H) ∧ ∀ i m σ H, W i m σ H →
      ((Ite K a).stop i H ∧ D.nx σ H) ∨ ((Ite K a).go i H ∧ ∃ N : L2.St → Hp → Prop, (∀ σ' H', N σ' H' → ∃ m', m' < m ∧ W (i + 1) m' σ' H') ∧ ∀ v H', (Ite K a).yld i H v H' → g v σ H' fun σ2 H2 => tb { D with nx := N, ct := N, bk := D.nx } σ2 H2)) ∨
    (SqT K H a xs ∧ ∃ W : Nat → Nat → L2.St → Hp → Prop, (∃ m, W 0 m σ H) ∧ ∀ i m σ H, W i m σ H →
      ((IteT K a).stop i H ∧ D.nx σ H) ∨ ((IteT K a).go i H ∧ ∃ N : L2.St → Hp → Prop, (∀ σ' H', N σ' H' → ∃ m', m' < m ∧ W (i + 1) m' σ' H') ∧ ∀ v H', (IteT K a).yld i H v H' → g v σ H' fun σ2 H2 => tb { D with nx := N, ct := N, bk := D.nx } σ2 H2)) := by
  rcases hq with hq | hq
  · refine .inl ⟨hq, for_it walk_enum Pv h0 (fun i σ' H' _ p => (hl i σ' H' p).seq hq) (fun i v σ' H1 H2 hi p y => ?_) hd⟩
    obtain ⟨T, z, x, rfl, hT, rfl, hz, hx⟩ := y
    cases hz
    exact hs i x T σ' H1 hx p hT
  · refine .inr ⟨hq, for_it walk_enumT Pv h0 (fun i σ' H' _ p => (hl i σ' H' p).sqT hq) (fun i v σ' H1 H2 hi p y => ?_) hd⟩
    obtain ⟨T, z, x, rfl, hT, rfl, hz, hx⟩ := y
    cases hz
    exact hs i x T σ' H1 hx p hT
end L2
end

section
namespace L2
open PySem PySem.Spec PyProof.Rows LamX
def DBl : EqvB := fun x y _ b => ∃ c d, x = .bl c ∧ y = .bl d ∧ b = decide (c = d)
theorem eqB_bl {X : Cx} {n : Nat} : EqB X n DBl := by
  intro A pins s σ H x y u v b sb I rx ry h
  obtain ⟨c, d, rfl, rfl, rfl⟩ := h
  cases rx
  cases ry
  refine PySem.SeqAt.eqBoolOverData X.prog X.w A X.xe s _ _ (.bool c) (.bool d) _ _ _ (Reads.bool c) (Reads.bool d) (by rfl) (by rfl) ?_ ⟨?_, H, I, Ext.rfl'⟩
  · have h := sb.room.un
    simp [PyData.depth]
    omega
  · cases c <;> cases d <;> decide +kernel
theorem EqB.or {X : Cx} {n : Nat} {D1 D2 : EqvB} (h1 : EqB X n D1) (h2 : EqB X n D2) : EqB X n (fun x y H b => D1 x y H b ∨ D2 x y H b) := fun A pins s σ H x y u v b sb I rx ry h => h.elim (fun h => h1 A pins s σ H x y u v b sb I rx ry h) fun h => h2 A pins s σ H x y u v b sb I rx ry h
theorem MonB.or {D1 D2 : EqvB} (h1 : MonB D1) (h2 : MonB D2) : MonB (fun x y H b => D1 x y H b ∨ D2 x y H b) := fun x y H H' b e h => h.elim (fun h => .inl (h1 x y H H' b e h)) fun h => .inr (h2 x y H H' b e h)
theorem monB_bl : MonB DBl := fun _ _ _ _ _ _ h => h
end L2
end

section
/-! list(zip(a, b)) of two tuples. -/
namespace PySem
open PySem.W
section
variable {prog : Program} {w : World} {A : Around} {E : Value → Shared → Prop} {s : Shared} {z TI TO i1 i2 T : Addr} {fp1 fp2 : List Addr} {n1 n2 i : Nat} {P1 P2 : Nat → Value → Prop} {St1 St2 : Nat → Heap → Prop} {f : Bool} {oT : Obj}
/-- a turn of a zip whose last pair is kept by somebody else -/
theorem hw_zipHeld_item {Q : Value → Shared → Prop} (S : ZipSep2 z TI TO i1 i2 fp1 fp2) (D1 : Draws prog w A i1 fp1 n1 P1 St1) (D2 : Draws prog w A i2 fp2 n2 P2 St2)
    (hz : IsZipHeld s.heap z TI TO T f) (hT : s.heap.get? T = some oT) (hTI : IsTupOf2 s.heap TI (.ref i1) (.ref i2)) (g1 : St1 i s.heap) (g2 : St2 i s.heap) (l1 : i < n1) (l2 : i < n2)
    (k : ∀ x1 x2 h' tk, P1 i x1 → P2 i x2 → IsZipHeld h' z TI TO T true → St1 (i + 1) h' → St2 (i + 1) h' → IsTupOf2 h' s.heap.objs.size x1 x2 → h'.objs.size = s.heap.objs.size + 1 →
      (∀ c o, c ≠ z → c ≠ i1 → c ≠ i2 → s.heap.get? c = some o → h'.get? c = some o) → Q (.ref s.heap.objs.size) { s with heap := h', toks := tk }) :
    wpAny (model prog w) A (Builtin.«zip.__next__» ⟨[.ref z], []⟩) (fun fin t => ∃ v, fin = .done (.ret v) ∧ Q v t) E s := by
  obtain ⟨hp, gg, dd, tk0, os⟩ := s
  show wpAny _ _ (field (.ref z) 2 >>= _) _ _ _
  apply wpAny_bind; apply wpAny_field hz rfl (x := Value.bool false) rfl
  show wpAny _ _ (field (.ref z) 3 >>= _) _ _ _
  apply wpAny_bind; apply wpAny_field hz rfl (x := Value.ref TI) rfl
  apply wpAny_bind; apply wpAny_seqItems hTI rfl
  show wpAny _ _ (Builtin.SmallTypes.ownedTupleIsFree (.ref z) >>= _) _ _ _
  refine wpAny_bind (wpAny_tupleHeld_zip hz hT fun a0 z0 b0 => ?_)
  replace b0 : Heap.SameBut z hp a0 := b0
  simp only [Bool.false_eq_true, if_false]
  apply wpAny_bind
  rw [← Array.forIn_toList]
  simp only [List.forIn_cons, List.forIn_nil]
  apply wpAny_bind; apply wpAny_bind; apply wpAny_holding
  show wpAny _ _ (Builtin.SmallTypes.nextOf (.ref i1) >>= _) _ _ ⟨a0, gg, dd, tk0, os⟩
  refine wpAny_bind (D1.item i _ _ _ l1 (D1.over g1 b0 S.zf1) fun x1 a1 tk1 p1 d1 b1 => wpAny_pure (wpAny_pure ?_))
  replace b1 : Heap.SameBut i1 a0 a1 := b1
  apply wpAny_bind; apply wpAny_bind; apply wpAny_holding
  show wpAny _ _ (Builtin.SmallTypes.nextOf (.ref i2) >>= _) _ _ ⟨a1, gg, dd, tk1, os⟩
  refine wpAny_bind (D2.item i _ _ _ l2 (D2.over (D2.over g2 b0 S.zf2) b1 S.sep1_2) fun x2 a2 tk2 p2 d2 b2 => wpAny_pure (wpAny_pure (wpAny_pure ?_)))
  replace b2 : Heap.SameBut i2 a1 a2 := b2
  show wpAny _ _ (newTuple [x1, x2] >>= _) _ _ ⟨a2, gg, dd, tk2, os⟩
  refine wpAny_bind (wpAny_newTuple ?_)
  have hsz : a2.objs.size = hp.objs.size := by rw [b2.1, b1.1, b0.1]
  have z2 : IsZipHeld a2 z TI TO T true := b2.extBut _ _ S.zi2 (b1.extBut _ _ S.zi1 z0)
  have up : ∀ c o, c ≠ z → c ≠ i1 → c ≠ i2 → hp.get? c = some o → a2.get? c = some o := fun c o c1 c2 c3 e => b2.extBut _ _ c3 (b1.extBut _ _ c2 (b0.extBut _ _ c1 e))
  have e1 : St1 (i + 1) a2 := D1.over d1 b2 S.sep2_1
  refine wpAny_pure ⟨_, rfl, ?_⟩
  show Q (.ref a2.objs.size) _
  have hp3 : IsTupOf2 (a2.push { cls := .type "tuple", data := .seq #[x1, x2] }) a2.objs.size x1 x2 := Heap.get?_push_size _ rfl
  have hz4 : (a2.push { cls := .type "tuple", data := .seq #[x1, x2] }).objs.size = a2.objs.size + 1 := Heap.size_push ..
  rw [hsz] at hp3 hz4 ⊢
  exact k x1 x2 _ tk2 p1 p2 (Heap.get?_push_of_some _ z2) (D1.frame _ _ _ e1 fun b _ o e => Heap.get?_push_of_some _ e) (D2.frame _ _ _ d2 fun b _ o e => Heap.get?_push_of_some _ e) hp3 hz4 fun c o c1 c2 c3 e => Heap.get?_push_of_some _ (up c o c1 c2 c3 e)
theorem hw_zipHeld_next {Q : Option Value → Shared → Prop} (S : ZipSep2 z TI TO i1 i2 fp1 fp2) (D1 : Draws prog w A.in1 i1 fp1 n1 P1 St1) (D2 : Draws prog w A.in1 i2 fp2 n2 P2 St2)
    (hz : IsZipHeld s.heap z TI TO T f) (hT : s.heap.get? T = some oT) (hTI : IsTupOf2 s.heap TI (.ref i1) (.ref i2)) (g1 : St1 i s.heap) (g2 : St2 i s.heap) (l1 : i < n1) (l2 : i < n2)
    (k : ∀ x1 x2 h' tk, P1 i x1 → P2 i x2 → IsZipHeld h' z TI TO T true → St1 (i + 1) h' → St2 (i + 1) h' → IsTupOf2 h' s.heap.objs.size x1 x2 → h'.objs.size = s.heap.objs.size + 1 →
      (∀ c o, c ≠ z → c ≠ i1 → c ≠ i2 → s.heap.get? c = some o → h'.get? c = some o) → Q (some (.ref s.heap.objs.size)) { s with heap := h', toks := tk }) :
    wpAny (model prog w) A (pyNext (.ref z)) Q E s := by
  have ty : s.TypeIs (.ref z) "zip" := ⟨_, hz, rfl⟩
  unfold pyNext
  exact wpAny_bind (wpAny_attempt (wpAny_callSpecial?_slot (name := Str.ofString "__next__") ty F.slot_zip_next (wpAny_call_entry F.slot_zip_next ty F.entry_zip_next
      (hw_zipHeld_item S D1 D2 hz hT hTI g1 g2 l1 l2 fun x1 x2 h' tk q1 q2 q3 q4 q5 q6 q7 q8 => wpAny_pure (k x1 x2 h' tk q1 q2 q3 q4 q5 q6 q7 q8)) (F.args_zip_next_1 _))))
/-- .. and its end -/
theorem hw_zipHeld_over {Q : Fin → Shared → Prop} (S : ZipSep2 z TI TO i1 i2 fp1 fp2) (D1 : Draws prog w A i1 fp1 n1 P1 St1) (D2 : Draws prog w A i2 fp2 n2 P2 St2)
    (hz : IsZipHeld s.heap z TI TO T f) (hT : s.heap.get? T = some oT) (hTI : IsTupOf2 s.heap TI (.ref i1) (.ref i2)) (g1 : St1 n1 s.heap)
    (k : ∀ h' e, (∀ c o, c ≠ z → c ≠ i1 → c ≠ i2 → s.heap.get? c = some o → h'.get? c = some o) → (∃ o, h'.get? e = some o ∧ o.cls = .type "StopIteration") → E (.ref e) { s with heap := h' }) :
    wpAny (model prog w) A (Builtin.«zip.__next__» ⟨[.ref z], []⟩) Q E s := by
  show wpAny _ _ (field (.ref z) 2 >>= _) _ _ _
  apply wpAny_bind; apply wpAny_field hz rfl (x := Value.bool false) rfl
  show wpAny _ _ (field (.ref z) 3 >>= _) _ _ _
  apply wpAny_bind; apply wpAny_field hz rfl (x := Value.ref TI) rfl
  apply wpAny_bind; apply wpAny_seqItems hTI rfl
  show wpAny _ _ (Builtin.SmallTypes.ownedTupleIsFree (.ref z) >>= _) _ _ _
  refine wpAny_bind (wpAny_tupleHeld_zip hz hT fun a0 z0 b0 => ?_)
  simp only [Bool.false_eq_true, if_false]
  apply wpAny_bind
  rw [← Array.forIn_toList]
  simp only [List.forIn_cons, List.forIn_nil]
  apply wpAny_bind; apply wpAny_bind; apply wpAny_holding
  show wpAny _ _ (Builtin.SmallTypes.nextOf (.ref i1) >>= _) _ _ _
  exact wpAny_bind (D1.done _ _ _ (D1.over g1 b0 S.zf1) fun a1 e b1 he => k a1 e (fun c o c1 c2 _ x => b1 _ _ c2 (b0.extBut _ _ c1 x)) he)
theorem hw_zipHeld_end {Q : Option Value → Shared → Prop} (S : ZipSep2 z TI TO i1 i2 fp1 fp2) (D1 : Draws prog w A.in1 i1 fp1 n1 P1 St1) (D2 : Draws prog w A.in1 i2 fp2 n2 P2 St2)
    (hz : IsZipHeld s.heap z TI TO T f) (hT : s.heap.get? T = some oT) (hTI : IsTupOf2 s.heap TI (.ref i1) (.ref i2)) (g1 : St1 n1 s.heap)
    (k : ∀ h', (∀ c o, c ≠ z → c ≠ i1 → c ≠ i2 → s.heap.get? c = some o → h'.get? c = some o) → Q none { s with heap := h' }) : wpAny (model prog w) A (pyNext (.ref z)) Q E s := by
  have ty : s.TypeIs (.ref z) "zip" := ⟨_, hz, rfl⟩
  unfold pyNext
  refine wpAny_bind (wpAny_attempt (wpAny_callSpecial?_slot (name := Str.ofString "__next__") ty F.slot_zip_next (wpAny_call_entry F.slot_zip_next ty F.entry_zip_next (hw_zipHeld_over S D1 D2 hz hT hTI g1 fun h' e q1 q2 => ?_) (F.args_zip_next_1 _))))
  obtain ⟨o, ho, hc⟩ := q2
  exact wpAny_bind (wpAny_isInstance (T := "StopIteration") (b := true) ⟨o, ho, hc⟩ isSubtype_stop (wpAny_pure (k _ q1)))
theorem hw_zip_no_len : typeLookup (.type "zip") "__len__" = pure none := by rw [typeLookup_type, builtinLookup_eq_fast]; kernel_rfl
theorem hw_zip_no_hint : typeLookup (.type "zip") "__length_hint__" = pure none := by rw [typeLookup_type, builtinLookup_eq_fast]; kernel_rfl
end
end PySem
namespace L2
open PySem PySem.W PySem.Spec PyProof.Rows
/-- the pairs of two rows lie at ts -/
def PairsAt (H : Hp) (ts : List Addr) (xs ys : List V) : Prop := ∀ (i : Nat) (t : Addr), ts[i]? = some t → ∃ x y, xs[i]? = some x ∧ ys[i]? = some y ∧ H t = some (.tup [x, y])
/-- how a zip of two tuples stands that fills a list -/
structure ZipAt (X : Cx) (pins : List (Addr × Obj)) (H : Hp) (s : Shared) (a b z TI TO i1 i2 : Addr) (i : Nat) : Prop where
  ti : IsPair s.heap TI (.ref i1) (.ref i2)
  it1 : s.heap.IsTupleIter i1 a i
  it2 : s.heap.IsTupleIter i2 b i
  at0 : (IsZip s.heap z TI TO .none ∧ ∃ u v, IsPair s.heap TO u v) ∨ ∃ T f us, IsZipHeld s.heap z TI TO T f ∧ H T = some (.tup us)
  fp : ∀ c ∈ [z, TI, TO, i1, i2], FpOk X pins H c
  lt : TO < s.heap.objs.size
theorem only5 {z TI TO i1 i2 c : Addr} {P : Prop} (hc : c ∉ [z, TI, TO, i1, i2]) (k : c ≠ z → c ≠ TO → c ≠ i1 → c ≠ i2 → P) : P :=
  k (fun x => hc (by simp [x])) (fun x => hc (by simp [x])) (fun x => hc (by simp [x])) fun x => hc (by simp [x])
section
variable {X : Cx} {pins : List (Addr × Obj)} {σ : St}
theorem lz_loop {a b q z TI TO i1 i2 : Addr} {xs ys : List V} {H0 : Hp} {A1 : Around} {Rs : Result → Shared → Prop} (D : ZipApart z TI TO i1 i2 a b) (hl : xs.length = ys.length) (hh : A1.in1.in1.handled = none) (h0 : H0 q = none)
    (ha0 : SqT X.K H0 a xs) (hb0 : SqT X.K H0 b ys)
    (fin : ∀ H' s' ts, Inv X pins σ H' s' → Same H0 H' → H' q = some (.lst (ts.map V.ref)) → ts.length = xs.length → PairsAt H' ts xs ys → Rs (.ok (.ret .none)) s') :
    ∀ (m : Nat) (H : Hp) (s : Shared) (ts : List Addr), xs.length - ts.length = m → ts.length ≤ xs.length → Inv X pins σ H s → Same H0 H → H q = some (.lst (ts.map V.ref)) → PairsAt H ts xs ys →
      ZipAt X pins H s a b z TI TO i1 i2 ts.length → codeAny (model X.prog X.w) A1 (.builtin "list.extend.loop" ⟨[.ref q, .ref z, .none], []⟩) Rs s := by
  intro m
  have S := sepM D
  induction m with
  | zero =>
    intro H s ts hm hle I sm hq hp Z
    have en : ts.length = xs.length := by omega
    refine codeAny_builtin PySem.F.entry_extend_loop ?_
    rw [Around.under_plainId PySem.F.plain_extend_loop _]
    show wpAny _ A1.in1 (pyNext (.ref z) >>= _) _ _ s
    obtain ⟨its, rv, p, _⟩ := I.tuple (sm.sqT ha0)
    obtain ⟨jts, rw2, p2, _⟩ := I.tuple (sm.sqT hb0)
    have e1 := rv.length
    have e2 := rw2.length
    have up : ∀ {h' : Heap} {tk : Nat}, (∀ c o, c ≠ z → c ≠ TO → c ≠ i1 → c ≠ i2 → s.heap.get? c = some o → h'.get? c = some o) → Inv X pins σ H { s with heap := h', toks := tk } := fun k =>
      I.turnedL (ch := [z, TI, TO, i1, i2]) (fun c o hc e => only5 hc fun c1 c2 c3 c4 => k c o c1 c2 c3 c4 e) Z.fp
    have st1 : s.heap.IsTupleIter i1 a its.toArray.size ∧ s.heap.IsTuple a its.toArray := ⟨by rw [show its.toArray.size = ts.length by rw [List.size_toArray]; omega]; exact Z.it1, p⟩
    have st2 : s.heap.IsTupleIter i2 b its.toArray.size ∧ s.heap.IsTuple b jts.toArray := ⟨by rw [show its.toArray.size = ts.length by rw [List.size_toArray]; omega]; exact Z.it2, p2⟩
    rcases Z.at0 with ⟨hz, u, v, hTO⟩ | ⟨T, f, us, hz, hT⟩
    · refine wpAny_bind (PySem.wpAny_pyNext_zipD2_end S (Draws.tuple hh i1 a D.l1i1 its.toArray) (Draws.tuple hh i2 b D.l2i2 jts.toArray) hz Z.ti hTO st1 st2 (Nat.le_refl _) (by simp; omega) (.inl rfl) fun h' tk k => ?_)
      exact wpAny_pure (fin H _ ts (up k) sm hq en hp)
    · obtain ⟨_, tts, _, oT, hoT, _⟩ := I.hok T _ hT
      refine wpAny_bind (PySem.hw_zipHeld_end S (Draws.tuple hh i1 a D.l1i1 its.toArray) (Draws.tuple hh i2 b D.l2i2 jts.toArray) hz hoT Z.ti st1 fun h' k => ?_)
      exact wpAny_pure (fin H _ ts (up (tk := s.toks) fun c o c1 _ c3 c4 e => k c o c1 c3 c4 e) sm hq en hp)
  | succ m ih =>
    intro H s ts hm hle I sm hq hp Z
    have lt1 : ts.length < xs.length := by omega
    refine codeAny_builtin PySem.F.entry_extend_loop ?_
    rw [Around.under_plainId PySem.F.plain_extend_loop _]
    show wpAny _ A1.in1 (pyNext (.ref z) >>= _) _ _ s
    obtain ⟨its, rv, p, hsl⟩ := I.tuple (sm.sqT ha0)
    obtain ⟨jts, rw2, p2, _⟩ := I.tuple (sm.sqT hb0)
    have e1 := rv.length
    have e2 := rw2.length
    have hx : xs[ts.length]? = some xs[ts.length] := List.getElem?_eq_getElem lt1
    have lt2 : ts.length < ys.length := by omega
    have hy : ys[ts.length]? = some ys[ts.length] := List.getElem?_eq_getElem lt2
    obtain ⟨u, hu, ru⟩ := rv.get hx
    obtain ⟨u2, hu2, ru2⟩ := rw2.get hy
    have st1 : s.heap.IsTupleIter i1 a ts.length ∧ s.heap.IsTuple a its.toArray := ⟨Z.it1, p⟩
    have st2 : s.heap.IsTupleIter i2 b ts.length ∧ s.heap.IsTuple b jts.toArray := ⟨Z.it2, p2⟩
    have fr : H s.heap.objs.size = none := I.hok.fresh (Nat.le_refl _)
    have go : ∀ (h' : Heap) (tk : Nat) (v1 v2 : Value), its.toArray[ts.length]? = some v1 → jts.toArray[ts.length]? = some v2 → (∃ T f, IsZipHeld h' z TI TO T f ∧ (T = s.heap.objs.size ∨ ∃ us, H T = some (.tup us))) →
        h'.IsTupleIter i1 a (ts.length + 1) → h'.IsTupleIter i2 b (ts.length + 1) → IsPair h' s.heap.objs.size v1 v2 → h'.objs.size = s.heap.objs.size + 1 →
        (∀ c o, c ≠ z → c ≠ TO → c ≠ i1 → c ≠ i2 → s.heap.get? c = some o → h'.get? c = some o) →
        wpAny (model X.prog X.w) A1.in1 (updateSeq q (·.push (.ref s.heap.objs.size)) >>= fun _ => pure (Fin.again (.builtin "list.extend.loop" ⟨[.ref q, .ref z, .none], []⟩)))
          (fun fn s' => match fn with | .done f => Rs (.ok f) s' | .again c' => c'.quiet = true ∧ codeAny (model X.prog X.w) A1 c' Rs s') (fun e s' => Rs (.error e) s') { s with heap := h', toks := tk } := by
      intro h' tk v1 v2 y1 y2 hz' t1 t2 hN hsz k
      obtain rfl : u = v1 := by
        have e : its[ts.length]? = some v1 := by simpa using y1
        rw [hu] at e; exact Option.some.inj e
      obtain rfl : u2 = v2 := by
        have e : jts[ts.length]? = some v2 := by simpa using y2
        rw [hu2] at e; exact Option.some.inj e
      have I1 : Inv X pins σ (upd H s.heap.objs.size (.tup [xs[ts.length], ys[ts.length]])) { s with heap := h', toks := tk } :=
        I.turnedNew (ch := [z, TI, TO, i1, i2]) (fun c o hc e => only5 hc fun c1 c2 c3 c4 => k c o c1 c2 c3 c4 e) Z.fp (Nat.le_refl _) ⟨by show 2 ≤ sizeLine; decide, [u, u2], .cons ru (.cons ru2 .nil), ⟨_, hN, rfl, _, rfl⟩⟩
      have qN : q ≠ s.heap.objs.size := fun e => by rw [e, fr] at hq; cases hq
      have hq1 : upd H s.heap.objs.size (.tup [xs[ts.length], ys[ts.length]]) q = some (.lst (ts.map V.ref)) := by rw [upd_ne qN]; exact hq
      obtain ⟨zl, qts, n, r3, hl3, e3⟩ := I1.lstM hq1
      rw [List.length_map] at hl3 zl
      refine wpAny_bind (wpAny_updateSeq e3 rfl (wpAny_pure ⟨plainId_quiet PySem.F.plain_extend_loop _, ?_⟩) (by rw [List.size_toArray]; omega) (by show (qts.toArray.push _).size ≤ sizeLine + 1; rw [Array.size_push, List.size_toArray]; omega))
      have I2 := I1.lset (f := (·.push (Value.ref s.heap.objs.size))) (its' := qts ++ [Value.ref s.heap.objs.size]) (ys := (ts ++ [s.heap.objs.size]).map V.ref) (t' := tk) hq1 e3 (by simp) (by rw [List.map_append]; exact r3.append (.cons rfl .nil)) (by simp; omega)
      have inH : ∀ c ∈ [z, TI, TO, i1, i2], c ≠ q := fun c hc e => by
        have := (Z.fp c hc).1
        rw [e, hq] at this; cases this
      have ltN : ∀ c ∈ [z, TI, TO, i1, i2], c ≠ s.heap.objs.size := fun c hc => by
        have e' : c = z ∨ c = TI ∨ c = TO ∨ c = i1 ∨ c = i2 := by simpa using hc
        refine Nat.ne_of_lt ?_
        rcases e' with r | r | r | r | r
        · rw [r]
          rcases Z.at0 with ⟨hz, _⟩ | ⟨T, f, us, hz, hT⟩
          · exact Heap.lt_size hz
          · exact Heap.lt_size hz
        · rw [r]; exact Heap.lt_size Z.ti
        · rw [r]; exact Z.lt
        · rw [r]; obtain ⟨_, x, _⟩ := Z.it1; exact Heap.lt_size x
        · rw [r]; obtain ⟨_, x, _⟩ := Z.it2; exact Heap.lt_size x
      have low : ∀ {c : Addr} {o : Obj}, c ≠ q → h'.get? c = some o → (h'.update q (Obj.mapSeq (·.push (Value.ref s.heap.objs.size)))).get? c = some o := fun {c o} hc e => (Heap.get?_update_other _ _ (Ne.symm hc)).trans e
      refine ih _ _ (ts ++ [s.heap.objs.size]) (by simp; omega) (by simp; omega) I2 (fun c o e => ?_) upd_same (fun i t ht => ?_) ⟨?_, ?_, ?_, .inr ?_, fun c hc => ⟨?_, (Z.fp c hc).2⟩, ?_⟩
      · rw [upd_ne (ne_of_none e h0), upd_ne (ne_of_none (sm _ _ e) fr)]; exact sm _ _ e
      · have ki : ∀ {c : Addr} {o : HO}, H c = some o → c ≠ q → upd (upd H s.heap.objs.size (.tup [xs[ts.length], ys[ts.length]])) q (.lst ((ts ++ [s.heap.objs.size]).map V.ref)) c = some o := fun {c o} e hc => by rw [upd_ne hc, upd_ne (fun x => by rw [x, fr] at e; cases e)]; exact e
        rcases Nat.lt_or_ge i ts.length with hi | hi
        · rw [List.getElem?_append_left hi] at ht
          obtain ⟨x, y, f1, f2, f3⟩ := hp i t ht
          exact ⟨x, y, f1, f2, ki f3 fun e => by rw [e, hq] at f3; cases f3⟩
        · rw [List.getElem?_append_right hi] at ht
          have i0 : i = ts.length := by
            rcases Nat.lt_or_ge (i - ts.length) 1 with h | h
            · omega
            · rw [List.getElem?_eq_none (by simpa using h)] at ht; cases ht
          subst i0
          simp at ht
          subst ht
          exact ⟨_, _, hx, hy, by rw [upd_ne (Ne.symm qN)]; exact upd_same⟩
      · exact low (inH TI (by simp)) (k _ _ D.TIz D.TITO D.TIi1 D.TIi2 Z.ti)
      · rw [show (ts ++ [s.heap.objs.size]).length = ts.length + 1 by simp]; exact t1.at fun o e => low (inH i1 (by simp)) e
      · rw [show (ts ++ [s.heap.objs.size]).length = ts.length + 1 by simp]; exact t2.at fun o e => low (inH i2 (by simp)) e
      · obtain ⟨T, f, hzz, hT⟩ := hz'
        rcases hT with rfl | ⟨us, hT⟩
        · exact ⟨_, f, [xs[ts.length], ys[ts.length]], low (inH z (by simp)) hzz, by rw [upd_ne (Ne.symm qN)]; exact upd_same⟩
        · exact ⟨T, f, us, low (inH z (by simp)) hzz, by rw [upd_ne (fun e => by rw [e, hq] at hT; cases hT), upd_ne (fun e => by rw [e, fr] at hT; cases hT)]; exact hT⟩
      · rw [upd_ne (inH c hc), upd_ne (ltN c hc)]; exact (Z.fp c hc).1
      · show TO < (h'.update q _).objs.size; rw [Heap.size_update, hsz]; exact Nat.lt_succ_of_lt Z.lt
    rcases Z.at0 with ⟨hz, u', v', hTO⟩ | ⟨T, f, us, hz, hT⟩
    · refine wpAny_bind (PySem.wpAny_pyNext_zipD2_item S (Draws.tuple hh i1 a D.l1i1 its.toArray) (Draws.tuple hh i2 b D.l2i2 jts.toArray) hz Z.ti hTO st1 st2 (by simp; omega) (by simp; omega) fun v1 v2 h' tk w1 w2 z' TO' d1 d2 hN hsz k => ?_)
      exact go h' tk v1 v2 w1 w2 ⟨_, false, z', .inl rfl⟩ d1.1 d2.1 hN hsz k
    · obtain ⟨_, tts, _, oT, hoT, _⟩ := I.hok T _ hT
      refine wpAny_bind (PySem.hw_zipHeld_next S (Draws.tuple hh i1 a D.l1i1 its.toArray) (Draws.tuple hh i2 b D.l2i2 jts.toArray) hz hoT Z.ti st1 st2 (by simp; omega) (by simp; omega) fun v1 v2 h' tk w1 w2 z' d1 d2 hN hsz k => ?_)
      exact go h' tk v1 v2 w1 w2 ⟨T, true, z', .inr ⟨us, hT⟩⟩ d1.1 d2.1 hN hsz fun c o c1 _ c3 c4 e => k c o c1 c3 c4 e
end
end L2
end

section
namespace L2
open PySem PySem.W PySem.Spec PyProof.Rows
/-- list(zip(..)) of two tuples of one length -/
def tListZip (K : PySem.W.Frag) (ta : TA) : TE := fun σ H Q => ta σ H fun vs H1 => ∃ a b xs ys, vs = [.ref a, .ref b] ∧ SqT K H1 a xs ∧ SqT K H1 b ys ∧ xs.length = ys.length ∧
  ∀ l ts H', Same H1 H' → H' l = some (.lst (ts.map V.ref)) → ts.length = xs.length → PairsAt H' ts xs ys → Q (.ref l) H'
theorem pe_listZip {X : Cx} {e e2 : Expr} {ta : TA} {p p2 qq pos : Pos} (hg : Gl X "list") (hm : X.mg "list" = none) (hg2 : Gl X "zip") (hm2 : X.mg "zip" = none) (ha : PA X [e, e2] ta) (hc : X.calm = true := by rfl)
    (hs : starEach [e, e2] X.env = (false, eval e X.env) :: starEach [e2] X.env := by rfl) (hpl : (backTo qq (starEach [e2] X.env)).any (·.1) = false := by rfl)
    (na : starEach [.Call (.Name "zip" p2) [e, e2] [] qq] X.env = (false, eval (.Call (.Name "zip" p2) [e, e2] [] qq) X.env) :: starEach [] X.env := by rfl) :
    PE X (.Call (.Name "list" p) [.Call (.Name "zip" p2) [e, e2] [] qq] [] pos) (tListZip X.K ta) := by
  refine ⟨fun pins s σ H Q I h => ?_⟩
  refine Call_ (ld_blt I hg hm PyProof.Rows.boot_list ?_)
  refine PyProof.Rows.callWith_type1 (PyProof.Rows.args_cons ?_ na) na rfl
  refine Call_ (ld_blt I hg2 hm2 PyProof.Rows.boot_zip (PyProof.Rows.callWith_type1 (thn (ha.run qq pins s σ H _ I h) fun us s1 ⟨vs, H1, I1, r1, q1⟩ => ?_) hs hpl))
  obtain ⟨a, b, xs, ys, ex, ha1, hb1, hl, q1⟩ := q1
  subst ex
  cases r1 with
  | cons r rr =>
    cases rr with
    | cons r' rr =>
      cases rr; cases r; cases r'
      obtain ⟨its, rv, pa, _⟩ := I1.tuple ha1
      obtain ⟨jts, rw2, pb, _⟩ := I1.tuple hb1
      obtain ⟨oa, hoa, _⟩ := id pa
      obtain ⟨ob, hob, _⟩ := id pb
      refine RZ.call_zipT (show s1.heap.IsTuple a its.toArray from pa) (show s1.heap.IsTuple b jts.toArray from pb) fun h' hz hTI hTO h1 h2 hsz hk => PyProof.Rows.args_nil ?_
      have D := PySem.W.ktu_apart s1.heap.objs.size a b (Heap.lt_size hoa) (Heap.lt_size hob)
      have I2 : Inv X pins σ H1 { s1 with heap := h' } := I1.kept (t' := s1.toks) hk
      have q0 : H1 h'.objs.size = none := I2.hok.fresh (Nat.le_refl _)
      refine callType_codes (Q₁ := fun obj t => obj = .ref h'.objs.size ∧ t = { s1 with heap := h'.push { cls := .type "list", data := .seq #[] } }) PySem.F.called_list (PySem.F.typeCall_list_1 _) PySem.F.entry_list_init
        (code_list_new _ ⟨rfl, rfl⟩) fun obj t ht => ?_
      obtain ⟨rfl, rfl⟩ := ht
      have hS : (h'.push { cls := .type "list", data := .seq #[] }).get? h'.objs.size = some { cls := .type "list", data := .seq #[] } := Heap.get?_push_size _ rfl
      refine ⟨⟨_, hS, rfl⟩, PySem.F.args_list_init_2 _ _, ?_⟩
      have I3 : Inv X pins σ (upd H1 h'.objs.size (.lst [])) { s1 with heap := h'.push { cls := .type "list", data := .seq #[] } } := I2.lnew (its := []) (t' := s1.toks) .nil (Nat.zero_le _)
      show wpAny _ _ (do let old ← Builtin.List.listItems (.ref h'.objs.size); Builtin.List.listUpdate (.ref h'.objs.size) (fun _ => #[]); letGo old.toList.reverse; Builtin.List.listExtendWith (.ref h'.objs.size) (.ref (s1.heap.objs.size + 4)) .none) _ _ _
      refine wpAny_bind ?_
      unfold Builtin.List.listItems
      refine wpAny_bind (wpAny_seqItems hS rfl (wpAny_pure ?_))
      show wpAny _ _ (updateSeq h'.objs.size (fun _ => #[]) >>= fun _ => letGo (#[] : Array Value).toList.reverse >>= fun _ => Builtin.List.listExtendWith (.ref h'.objs.size) (.ref (s1.heap.objs.size + 4)) .none) _ _ _
      refine wpAny_bind (wpAny_updateSeq hS rfl ?_)
      have I4 := I3.lset (f := fun _ => #[]) (its := []) (its' := []) (ys := []) (t' := s1.toks) upd_same hS rfl .nil (Nat.zero_le _)
      rw [upd_upd] at I4
      refine wpAny_bind (wpAny_letGo ?_)
      have hS2 := Heap.get?_update_self (Obj.mapSeq (fun _ => (#[] : Array Value))) hS rfl
      have zq : s1.heap.objs.size + 4 < h'.objs.size := Heap.lt_size hz
      have nq : ∀ {c : Addr}, c < h'.objs.size → h'.objs.size ≠ c := fun h => Nat.ne_of_gt h
      have low : ∀ {c : Addr} {o : Obj}, h'.get? c = some o → ((h'.push { cls := .type "list", data := .seq #[] }).update h'.objs.size (Obj.mapSeq (fun _ => (#[] : Array Value)))).get? c = some o := fun {c o} x =>
        (Heap.get?_update_other _ _ (nq (Heap.lt_size x))).trans (Heap.get?_push_of_some _ x)
      have hz2 := low hz
      unfold Builtin.List.listExtendWith
      refine wpAny_bind (wpAny_typeOf (T := "zip") ⟨_, hz2, rfl⟩ ?_)
      have b1 : Builtin.List.listSameRef (.ref h'.objs.size) (.ref (s1.heap.objs.size + 4)) = false := by simp [Builtin.List.listSameRef, show h'.objs.size ≠ s1.heap.objs.size + 4 from Nat.ne_of_gt zq]
      have b2 : (Value.type "zip" == Value.type "list") = false := by decide
      have b3 : (Value.type "zip" == Value.type "tuple") = false := by decide
      simp only [b1, b2, b3, Bool.or_false, Bool.false_eq_true, if_false]
      refine wpAny_bind (wpAny_pyIter_zip hz2 (wpAny_bind (wpAny_holding ?_)))
      unfold Builtin.List.listLengthHint
      refine wpAny_bind (wpAny_specialOf (T := "zip") ⟨_, hz2, rfl⟩ PySem.hw_zip_no_len ?_)
      show wpAny _ _ (specialOf (Value.ref (s1.heap.objs.size + 4)) (Str.ofString "__length_hint__") >>= _) _ _ _
      refine wpAny_bind (wpAny_specialOf (T := "zip") ⟨_, hz2, rfl⟩ PySem.hw_zip_no_hint (wpAny_pure ?_))
      show wpAny _ _ (rule "list.extend.makes-room" >>= fun _ => Builtin.List.listTouch (.ref h'.objs.size) >>= fun _ => again (.builtin "list.extend.loop" ⟨[.ref h'.objs.size, .ref (s1.heap.objs.size + 4), .none], []⟩)) _ _ _
      refine wpAny_bind (wpAny_rule (wpAny_bind ?_))
      show wpAny _ _ (updateSeq h'.objs.size (·.push .none) >>= fun _ => updateSeq h'.objs.size (·.pop)) _ _ _
      refine wpAny_bind (wpAny_updateSeq hS2 rfl ?_)
      have I5 := I4.lset (f := (·.push Value.none)) (its := []) (its' := [Value.none]) (ys := [.non]) (t' := s1.toks) upd_same hS2 (by rfl) (.cons rfl .nil) (by rw [List.length_singleton, sizeLine_eq]; decide)
      have hS3 := Heap.get?_update_self (Obj.mapSeq (·.push Value.none)) hS2 rfl
      refine wpAny_updateSeq hS3 rfl ?_ (by show 1 ≤ sizeLine; rw [sizeLine_eq]; decide) (by show 0 ≤ sizeLine + 1; exact Nat.zero_le _)
      have I6 := I5.lset (f := (·.pop)) (its := [Value.none]) (its' := []) (ys := []) (t' := s1.toks) upd_same hS3 (by rfl) .nil (Nat.zero_le _)
      rw [upd_upd, upd_upd] at I6
      have low3 : ∀ {c : Addr} {o : Obj}, h'.get? c = some o → ((((h'.push { cls := .type "list", data := .seq #[] }).update h'.objs.size (Obj.mapSeq (fun _ => (#[] : Array Value)))).update h'.objs.size (Obj.mapSeq (·.push Value.none))).update h'.objs.size (Obj.mapSeq (·.pop))).get? c = some o := fun {c o} x =>
        (Heap.get?_update_other _ _ (nq (Heap.lt_size x))).trans ((Heap.get?_update_other _ _ (nq (Heap.lt_size x))).trans (low x))
      refine wpAny_pure ⟨plainId_quiet PySem.F.plain_extend_loop _, ?_⟩
      refine lz_loop (A1 := X.A.in1) (Rs := wants (fun r t => r = .none ∧ EP X pins σ Q (.ref h'.objs.size) t) X.xe) (H0 := H1) (xs := xs) (ys := ys) (pins := pins) (σ := σ) D hl (show X.A.in1.handled = none from I2.ok.hd hc) q0 ha1 hb1 (fun H' s' ts J sm hq e k => ⟨rfl, .ref h'.objs.size, H', J, rfl, q1 _ ts H' sm hq e k⟩) xs.length _ _ [] (by simp) (Nat.zero_le _) I6 (fun c o x => by rw [upd_ne (ne_of_none x q0)]; exact x) upd_same (fun i t x => by simp at x) ⟨low3 hTI, h1.at fun o x => low3 x, h2.at fun o x => low3 x, .inl ⟨low3 hz, _, _, low3 hTO⟩, fun c hc2 => ?_, ?_⟩
      · have e' : c = s1.heap.objs.size + 4 ∨ c = s1.heap.objs.size + 2 ∨ c = s1.heap.objs.size + 3 ∨ c = s1.heap.objs.size ∨ c = s1.heap.objs.size + 1 := by simpa using hc2
        have ge : s1.heap.objs.size ≤ c := by
          rcases e' with x | x | x | x | x
          · rw [x]; exact Nat.le_add_right _ _
          · rw [x]; exact Nat.le_add_right _ _
          · rw [x]; exact Nat.le_add_right _ _
          · rw [x]; exact Nat.le_refl _
          · rw [x]; exact Nat.le_add_right _ _
        have lc : c < h'.objs.size := by
          rcases e' with x | x | x | x | x
          · rw [x]; exact zq
          · rw [x]; exact Heap.lt_size hTI
          · rw [x]; exact Heap.lt_size hTO
          · rw [x]; obtain ⟨_, y, _⟩ := h1; exact Heap.lt_size y
          · rw [x]; obtain ⟨_, y, _⟩ := h2; exact Heap.lt_size y
        have f0 := I1.fpOk (H' := H1) ge (I1.hok.fresh ge)
        refine ⟨?_, f0.2⟩
        rw [upd_ne (Nat.ne_of_lt lc)]
        exact f0.1
      · simp only [Heap.size_update, Heap.size_push]; exact Nat.lt_succ_of_lt (Heap.lt_size hTO)
end L2
end

section
namespace HwL
open PySem PySem.Spec PyProof.Rows L2 LamX HwP
def top (i : Nat) : Stmt := PySem.Challenge.pw_hingeworks_k07_places_and_what_belongs.main.body.getD i (.Pass ⟨0, 0, 0, 0⟩)
abbrev s_L_pen : Stmt := top 27
abbrev s_L_draw : Stmt := top 28
abbrev s_L_pick : Stmt := top 29
abbrev s_BadNumberD_initD : Stmt := inClass (top 4) 0
abbrev s_RatioD_initD : Stmt := inClass (top 10) 0
abbrev s_is_integer : Stmt := top 11
abbrev s_is_ratio : Stmt := top 12
abbrev s_as_ratio : Stmt := top 13
abbrev s_RatioD_addD : Stmt := inClass (top 10) 2
abbrev s_RatioD_subD : Stmt := inClass (top 10) 3
abbrev s_RatioD_mulD : Stmt := inClass (top 10) 4
abbrev s_RatioD_negD : Stmt := inClass (top 10) 5
abbrev s_RatioD_eqD : Stmt := inClass (top 10) 1
abbrev s_Ratio_compared : Stmt := inClass (top 10) 7
abbrev s_as_ratios : Stmt := top 14
abbrev s_least_whole : Stmt := top 16
abbrev s_PlaneD_initD : Stmt := inClass (top 18) 0
abbrev s_check_sizes : Stmt := top 20
abbrev s_check_size : Stmt := top 19
abbrev s_PlaneD_addD : Stmt := inClass (top 18) 2
abbrev s_PlaneD_subD : Stmt := inClass (top 18) 3
abbrev s_PlaneD_negD : Stmt := inClass (top 18) 5
abbrev s_PlaneD_mulD : Stmt := inClass (top 18) 4
abbrev s_PlaneD_eqD : Stmt := inClass (top 18) 1
abbrev s_BadGivenD_initD : Stmt := inClass (top 5) 0
abbrev s_check_point : Stmt := top 21
abbrev s_mixed_ratio : Stmt := top 15
abbrev s_Plane_at : Stmt := inClass (top 18) 6
abbrev s_L_gcd : Stmt := top 30
abbrev s_L_q : Stmt := top 31
abbrev s_L_plus : Stmt := top 32
abbrev s_L_minus : Stmt := top 33
abbrev s_L_times : Stmt := top 34
abbrev s_L_form_less : Stmt := top 36
abbrev s_L_form_times : Stmt := top 35
abbrev s_L_at : Stmt := top 37
abbrev s_L_truth : Stmt := top 39
abbrev s_L_minus_form : Stmt := top 44
abbrev s_L_number_form : Stmt := top 43
abbrev s_L_as_plane : Stmt := top 45
abbrev s_L_little : Stmt := top 40
abbrev s_L_little_not : Stmt := top 41
abbrev s_L_drawn_form : Stmt := top 42
abbrev s_L_refused : Stmt := top 38
abbrev s_is_row : Stmt := top 24
abbrev s_row_holds : Stmt := top 25
abbrev s_BadPlaceD_initD : Stmt := inClass (top 6) 0
abbrev s_PlaceD_initD : Stmt := inClass (top 23) 0
abbrev s_Place_holds : Stmt := inClass (top 23) 2
abbrev s_Place_closed_holds : Stmt := inClass (top 23) 3
abbrev s_Place_with_rows : Stmt := inClass (top 23) 4
abbrev s_PlaceD_eqD : Stmt := inClass (top 23) 1
abbrev s_L_holds : Stmt := top 47
abbrev s_L_closed : Stmt := top 48
abbrev s_L_as_place : Stmt := top 46
abbrev s_L_random_rows : Stmt := top 49
abbrev s_L_mixed_rows : Stmt := top 50
abbrev s_L_tight_rows : Stmt := top 51
abbrev s_L_drawn_rows : Stmt := top 52
abbrev s_L_place_right : Stmt := top 53
abbrev s_L_points : Stmt := top 54
abbrev s_L_belongs_right : Stmt := top 55
abbrev s_L_bent : Stmt := top 56
abbrev s_L_refusals_right : Stmt := top 57
abbrev s_law : Stmt := top 58
def ratB (K : PySem.W.Frag) (C : Addr) : Bool := PySem.W.plainGet K C Str.empty && (He.eqO (PySem.W.findIn K (.ref C) "__class__") (some (some (.builtin "object.__class__"))) && (He.eqO (PySem.W.specialIn K (.builtin "object.__class__") "__get__") (some (some (.builtin "getset_descriptor.__get__"))) && (decide (PySem.W.takesIn K (.builtin "object.__class__") = some true) && (decide (PySem.W.mroIn K C (.type "object") = some true) &&
  ((["int", "bool"].all fun n => decide (PySem.W.kitOne K (.ref C) (.type n) = some false)) && ((["int", "bool", "str", "NoneType", "tuple", "list"].all fun n => decide (PySem.W.kitOne K (.type n) (.ref C) = some false)) && (["int", "bool", "str", "NoneType", "tuple", "list"].all fun n => PySem.W.notFirst K C (.type n))))))))
def plaIB (K : PySem.W.Frag) (C : Addr) : Bool := He.eqO (PySem.W.findIn K (.ref C) "__class__") (some (some (.builtin "object.__class__"))) && (He.eqO (PySem.W.specialIn K (.builtin "object.__class__") "__get__") (some (some (.builtin "getset_descriptor.__get__"))) && (decide (PySem.W.takesIn K (.builtin "object.__class__") = some true) && (decide (PySem.W.mroIn K C (.type "object") = some true) &&
  (decide (PySem.W.kitOne K (.type "tuple") (.ref C) = some false) && (decide (PySem.W.kitOne K (.type "int") (.ref C) = some false) && (PySem.W.notFirst K C (.type "tuple") && PySem.W.notFirst K C (.type "int")))))))
def plcIB (K : PySem.W.Frag) (C : Addr) : Bool := He.eqO (PySem.W.findIn K (.ref C) "__class__") (some (some (.builtin "object.__class__"))) && (He.eqO (PySem.W.specialIn K (.builtin "object.__class__") "__get__") (some (some (.builtin "getset_descriptor.__get__"))) && (decide (PySem.W.takesIn K (.builtin "object.__class__") = some true) && decide (PySem.W.mroIn K C (.type "object") = some true)))
def fnL : List He.DefD := [⟨("_law_pen", none), "_law_pen", "_law_pen", defArgs s_L_pen, defBody s_L_pen, defScope s_L_pen, [], []⟩,
  ⟨("_law_draw", none), "_law_draw", "_law_draw", defArgs s_L_draw, defBody s_L_draw, defScope s_L_draw, [], []⟩,
  ⟨("_law_pick", none), "_law_pick", "_law_pick", defArgs s_L_pick, defBody s_L_pick, defScope s_L_pick, [], []⟩,
  ⟨("BadNumber", some "__init__"), "__init__", "BadNumber.__init__", defArgs s_BadNumberD_initD, defBody s_BadNumberD_initD, defScope s_BadNumberD_initD, [], []⟩,
  ⟨("Ratio", some "__init__"), "__init__", "Ratio.__init__", defArgs s_RatioD_initD, defBody s_RatioD_initD, defScope s_RatioD_initD, [.int 1], []⟩,
  ⟨("is_integer", none), "is_integer", "is_integer", defArgs s_is_integer, defBody s_is_integer, defScope s_is_integer, [], []⟩,
  ⟨("is_ratio", none), "is_ratio", "is_ratio", defArgs s_is_ratio, defBody s_is_ratio, defScope s_is_ratio, [], []⟩,
  ⟨("as_ratio", none), "as_ratio", "as_ratio", defArgs s_as_ratio, defBody s_as_ratio, defScope s_as_ratio, [], []⟩,
  ⟨("Ratio", some "__add__"), "__add__", "Ratio.__add__", defArgs s_RatioD_addD, defBody s_RatioD_addD, defScope s_RatioD_addD, [], []⟩,
  ⟨("Ratio", some "__sub__"), "__sub__", "Ratio.__sub__", defArgs s_RatioD_subD, defBody s_RatioD_subD, defScope s_RatioD_subD, [], []⟩,
  ⟨("Ratio", some "__mul__"), "__mul__", "Ratio.__mul__", defArgs s_RatioD_mulD, defBody s_RatioD_mulD, defScope s_RatioD_mulD, [], []⟩,
  ⟨("Ratio", some "__neg__"), "__neg__", "Ratio.__neg__", defArgs s_RatioD_negD, defBody s_RatioD_negD, defScope s_RatioD_negD, [], []⟩,
  ⟨("Ratio", some "__eq__"), "__eq__", "Ratio.__eq__", defArgs s_RatioD_eqD, defBody s_RatioD_eqD, defScope s_RatioD_eqD, [], []⟩,
  ⟨("Ratio", some "compared"), "compared", "Ratio.compared", defArgs s_Ratio_compared, defBody s_Ratio_compared, defScope s_Ratio_compared, [], []⟩,
  ⟨("as_ratios", none), "as_ratios", "as_ratios", defArgs s_as_ratios, defBody s_as_ratios, defScope s_as_ratios, [], []⟩,
  ⟨("least_whole", none), "least_whole", "least_whole", defArgs s_least_whole, defBody s_least_whole, defScope s_least_whole, [], []⟩,
  ⟨("Plane", some "__init__"), "__init__", "Plane.__init__", defArgs s_PlaneD_initD, defBody s_PlaneD_initD, defScope s_PlaneD_initD, [], []⟩,
  ⟨("check_sizes", none), "check_sizes", "check_sizes", defArgs s_check_sizes, defBody s_check_sizes, defScope s_check_sizes, [], []⟩,
  ⟨("check_size", none), "check_size", "check_size", defArgs s_check_size, defBody s_check_size, defScope s_check_size, [], []⟩,
  ⟨("Plane", some "__add__"), "__add__", "Plane.__add__", defArgs s_PlaneD_addD, defBody s_PlaneD_addD, defScope s_PlaneD_addD, [], []⟩,
  ⟨("Plane", some "__sub__"), "__sub__", "Plane.__sub__", defArgs s_PlaneD_subD, defBody s_PlaneD_subD, defScope s_PlaneD_subD, [], []⟩,
  ⟨("Plane", some "__neg__"), "__neg__", "Plane.__neg__", defArgs s_PlaneD_negD, defBody s_PlaneD_negD, defScope s_PlaneD_negD, [], []⟩,
  ⟨("Plane", some "__mul__"), "__mul__", "Plane.__mul__", defArgs s_PlaneD_mulD, defBody s_PlaneD_mulD, defScope s_PlaneD_mulD, [], []⟩,
  ⟨("Plane", some "__eq__"), "__eq__", "Plane.__eq__", defArgs s_PlaneD_eqD, defBody s_PlaneD_eqD, defScope s_PlaneD_eqD, [], []⟩,
  ⟨("BadGiven", some "__init__"), "__init__", "BadGiven.__init__", defArgs s_BadGivenD_initD, defBody s_BadGivenD_initD, defScope s_BadGivenD_initD, [], []⟩,
  ⟨("check_point", none), "check_point", "check_point", defArgs s_check_point, defBody s_check_point, defScope s_check_point, [], []⟩,
  ⟨("mixed_ratio", none), "mixed_ratio", "mixed_ratio", defArgs s_mixed_ratio, defBody s_mixed_ratio, defScope s_mixed_ratio, [], []⟩,
  ⟨("Plane", some "at"), "at", "Plane.at", defArgs s_Plane_at, defBody s_Plane_at, defScope s_Plane_at, [], []⟩,
  ⟨("_law_gcd", none), "_law_gcd", "_law_gcd", defArgs s_L_gcd, defBody s_L_gcd, defScope s_L_gcd, [], []⟩,
  ⟨("_law_q", none), "_law_q", "_law_q", defArgs s_L_q, defBody s_L_q, defScope s_L_q, [], []⟩,
  ⟨("_law_plus", none), "_law_plus", "_law_plus", defArgs s_L_plus, defBody s_L_plus, defScope s_L_plus, [], []⟩,
  ⟨("_law_minus", none), "_law_minus", "_law_minus", defArgs s_L_minus, defBody s_L_minus, defScope s_L_minus, [], []⟩,
  ⟨("_law_times", none), "_law_times", "_law_times", defArgs s_L_times, defBody s_L_times, defScope s_L_times, [], []⟩,
  ⟨("_law_form_less", none), "_law_form_less", "_law_form_less", defArgs s_L_form_less, defBody s_L_form_less, defScope s_L_form_less, [], []⟩,
  ⟨("_law_form_times", none), "_law_form_times", "_law_form_times", defArgs s_L_form_times, defBody s_L_form_times, defScope s_L_form_times, [], []⟩,
  ⟨("_law_at", none), "_law_at", "_law_at", defArgs s_L_at, defBody s_L_at, defScope s_L_at, [], []⟩,
  ⟨("_law_truth", none), "_law_truth", "_law_truth", defArgs s_L_truth, defBody s_L_truth, defScope s_L_truth, [], []⟩,
  ⟨("_law_minus_form", none), "_law_minus_form", "_law_minus_form", defArgs s_L_minus_form, defBody s_L_minus_form, defScope s_L_minus_form, [], []⟩,
  ⟨("_law_number_form", none), "_law_number_form", "_law_number_form", defArgs s_L_number_form, defBody s_L_number_form, defScope s_L_number_form, [], []⟩,
  ⟨("_law_as_plane", none), "_law_as_plane", "_law_as_plane", defArgs s_L_as_plane, defBody s_L_as_plane, defScope s_L_as_plane, [], []⟩,
  ⟨("_law_little", none), "_law_little", "_law_little", defArgs s_L_little, defBody s_L_little, defScope s_L_little, [], []⟩,
  ⟨("_law_little_not", none), "_law_little_not", "_law_little_not", defArgs s_L_little_not, defBody s_L_little_not, defScope s_L_little_not, [], []⟩,
  ⟨("_law_drawn_form", none), "_law_drawn_form", "_law_drawn_form", defArgs s_L_drawn_form, defBody s_L_drawn_form, defScope s_L_drawn_form, [], []⟩,
  ⟨("is_row", none), "is_row", "is_row", defArgs s_is_row, defBody s_is_row, defScope s_is_row, [], []⟩,
  ⟨("row_holds", none), "row_holds", "row_holds", defArgs s_row_holds, defBody s_row_holds, defScope s_row_holds, [], []⟩,
  ⟨("BadPlace", some "__init__"), "__init__", "BadPlace.__init__", defArgs s_BadPlaceD_initD, defBody s_BadPlaceD_initD, defScope s_BadPlaceD_initD, [], []⟩,
  ⟨("Place", some "__init__"), "__init__", "Place.__init__", defArgs s_PlaceD_initD, defBody s_PlaceD_initD, defScope s_PlaceD_initD, [], []⟩,
  ⟨("Place", some "holds"), "holds", "Place.holds", defArgs s_Place_holds, defBody s_Place_holds, defScope s_Place_holds, [], []⟩,
  ⟨("Place", some "closed_holds"), "closed_holds", "Place.closed_holds", defArgs s_Place_closed_holds, defBody s_Place_closed_holds, defScope s_Place_closed_holds, [], []⟩,
  ⟨("Place", some "with_rows"), "with_rows", "Place.with_rows", defArgs s_Place_with_rows, defBody s_Place_with_rows, defScope s_Place_with_rows, [], []⟩,
  ⟨("Place", some "__eq__"), "__eq__", "Place.__eq__", defArgs s_PlaceD_eqD, defBody s_PlaceD_eqD, defScope s_PlaceD_eqD, [], []⟩,
  ⟨("_law_holds", none), "_law_holds", "_law_holds", defArgs s_L_holds, defBody s_L_holds, defScope s_L_holds, [], []⟩,
  ⟨("_law_closed", none), "_law_closed", "_law_closed", defArgs s_L_closed, defBody s_L_closed, defScope s_L_closed, [], []⟩,
  ⟨("_law_as_place", none), "_law_as_place", "_law_as_place", defArgs s_L_as_place, defBody s_L_as_place, defScope s_L_as_place, [], []⟩,
  ⟨("_law_random_rows", none), "_law_random_rows", "_law_random_rows", defArgs s_L_random_rows, defBody s_L_random_rows, defScope s_L_random_rows, [], []⟩,
  ⟨("_law_mixed_rows", none), "_law_mixed_rows", "_law_mixed_rows", defArgs s_L_mixed_rows, defBody s_L_mixed_rows, defScope s_L_mixed_rows, [], []⟩,
  ⟨("_law_tight_rows", none), "_law_tight_rows", "_law_tight_rows", defArgs s_L_tight_rows, defBody s_L_tight_rows, defScope s_L_tight_rows, [], []⟩,
  ⟨("_law_drawn_rows", none), "_law_drawn_rows", "_law_drawn_rows", defArgs s_L_drawn_rows, defBody s_L_drawn_rows, defScope s_L_drawn_rows, [], []⟩,
  ⟨("_law_place_right", none), "_law_place_right", "_law_place_right", defArgs s_L_place_right, defBody s_L_place_right, defScope s_L_place_right, [], []⟩,
  ⟨("_law_points", none), "_law_points", "_law_points", defArgs s_L_points, defBody s_L_points, defScope s_L_points, [], []⟩,
  ⟨("_law_belongs_right", none), "_law_belongs_right", "_law_belongs_right", defArgs s_L_belongs_right, defBody s_L_belongs_right, defScope s_L_belongs_right, [], []⟩,
  ⟨("_law_bent", none), "_law_bent", "_law_bent", defArgs s_L_bent, defBody s_L_bent, defScope s_L_bent, [], []⟩,
  ⟨("_law_refusals_right", none), "_law_refusals_right", "_law_refusals_right", defArgs s_L_refusals_right, defBody s_L_refusals_right, defScope s_L_refusals_right, [], []⟩,
  ⟨("law", none), "law", "law", defArgs s_law, defBody s_law, defScope s_law, [], []⟩,
  ⟨("_law_refused", none), "_law_refused", "_law_refused", defArgs s_L_refused, defBody s_L_refused, defScope s_L_refused, [], []⟩]
def faL : List He.Fa := [.glo "_law_pen", .glo "_law_draw", .glo "_law_pick", .glo "is_integer", .glo "is_ratio", .glo "as_ratio", .glo "as_ratios", .glo "least_whole", .glo "check_sizes", .glo "check_size", .glo "check_point", .glo "mixed_ratio", .glo "_law_gcd", .glo "_law_q", .glo "_law_plus", .glo "_law_minus", .glo "_law_times", .glo "_law_form_less", .glo "_law_form_times", .glo "_law_at", .glo "_law_truth", .glo "_law_minus_form", .glo "_law_number_form", .glo "_law_as_plane", .glo "_law_little", .glo "_law_little_not", .glo "_law_drawn_form", .glo "is_row", .glo "row_holds", .glo "_law_holds", .glo "_law_closed", .glo "_law_as_place", .glo "_law_random_rows", .glo "_law_mixed_rows", .glo "_law_tight_rows", .glo "_law_drawn_rows", .glo "_law_place_right", .glo "_law_points", .glo "_law_belongs_right", .glo "_law_bent", .glo "_law_refusals_right", .glo "law", .glo "_law_refused", .glo "BadNumber", .glo "Ratio", .glo "Plane", .glo "BadGiven", .glo "BadPlace", .glo "Place", .free "list", .free "int", .free "len", .free "isinstance", .free "bool", .free "tuple", .free "all", .free "zip", .free "range", .free "abs", .free "enumerate", .free "repr", .free "max", .cls "Ratio", .noat "Ratio" "top", .noat "Ratio" "bottom", .noat "BadNumber" "what", .noat "BadNumber" "number", .noat "BadGiven" "what", .noat "BadPlace" "row", .cls "Plane", .noat "Plane" "fixed", .noat "Plane" "slopes", .noat "Plane" "size", .noat "Plane" "is_number", .noat "Plane" "row", .cls "Place", .noat "Place" "rows", .noat "Place" "size", .glo "EmptyPlace", .glo "TooLarge", .mkr "Ratio", .meth "Ratio" "compared", .mkr "Plane", .meth "Plane" "at", .mkr "Place", .meth "Place" "holds", .meth "Place" "closed_holds", .meth "Place" "with_rows"]
def exL (K : PySem.W.Frag) : Bool := [HwH.bfunB K "gcd" "math.gcd", HwH.bfunB K "lcm" "math.lcm", ratB K (He.ga K "Ratio"), HwH.oexB K (He.ga K "BadNumber"), HwH.oexB K (He.ga K "BadGiven"), HwH.oexB K (He.ga K "BadPlace"), decide (PySem.W.exmOne K (.ref (He.ga K "BadGiven")) (.ref (He.ga K "BadNumber")) = some false), decide (PySem.W.exmOne K (.ref (He.ga K "BadPlace")) (.ref (He.ga K "BadNumber")) = some false), decide (PySem.W.exmOne K (.ref (He.ga K "BadPlace")) (.ref (He.ga K "BadGiven")) = some false), decide (PySem.W.kitOne K (.type "bool") (.ref (He.ga K "Plane")) = some false), decide (PySem.W.kitOne K (.type "list") (.ref (He.ga K "Place")) = some false), decide (PySem.W.notFirst K (He.ga K "Place") (.type "list") = true), plaIB K (He.ga K "Plane"), plcIB K (He.ga K "Place"), HwH.xrB K (He.ga K "BadNumber") "what" "number", HwH.xrB K (He.ga K "BadGiven") "what" "what", HwH.xrB K (He.ga K "BadPlace") "row" "row", HwH.xrB K (He.ga K "TooLarge") "what" "many", HwH.xrB K (He.ga K "TooLarge") "limit" "limit", HwH.iniB K (He.ga K "BadNumber"), HwH.opB K (He.ga K "Ratio") .Add, HwH.opB K (He.ga K "Ratio") .Sub, HwH.opB K (He.ga K "Ratio") .Mult, HwH.spcB K (He.ga K "Ratio") "__neg__", HwH.spcB K (He.ga K "Ratio") "__eq__", HwH.opB K (He.ga K "Plane") .Add, HwH.opB K (He.ga K "Plane") .Sub, HwH.spcB K (He.ga K "Plane") "__neg__", HwH.opB K (He.ga K "Plane") .Mult, HwH.spcB K (He.ga K "Plane") "__eq__", HwH.iniB K (He.ga K "BadGiven"), HwH.iniB K (He.ga K "BadPlace"), HwH.spcB K (He.ga K "Place") "__eq__"].all id
def tfL : List He.Defn := [("_law_refusals_right", none)]
abbrev RR0 : PySem.W.OpenRow := PySem.W.OpenLaw.row PySem.Challenge.rw_hingeworks_k07_places_and_what_belongs
abbrev hk : PySem.W.Hook := He.hookX 5 faL fnL [] tfL exL
def ob (s : PySem.W.SharedT) : He.AlX := He.obsX 5 faL fnL [] tfL exL (HandSHeadRun.getT s)
theorem ob_eq (s : PySem.W.SharedT) : ob s = hk.obs s.abs := He.obsX_eq (HandSHeadRun.getT_eq s)
def names : List PySem.Str := (["_wall", "__name__", "HingeError", "BadNumber", "BadGiven", "BadPlace", "TooLarge", "EmptyPlace", "Ratio", "is_integer", "is_ratio", "as_ratio", "as_ratios", "mixed_ratio", "least_whole", "Plane", "check_size", "check_sizes", "check_point", "Place", "is_row", "row_holds", "_law_pen", "_law_draw"] : List PySem.Str) ++ (["_law_pick", "_law_gcd", "_law_q", "_law_plus", "_law_minus", "_law_times", "_law_form_times", "_law_form_less", "_law_at", "_law_refused", "_law_truth", "_law_little", "_law_little_not", "_law_drawn_form", "_law_number_form", "_law_minus_form", "_law_as_plane", "_law_as_place", "_law_holds", "_law_closed", "_law_random_rows", "_law_mixed_rows", "_law_tight_rows", "_law_drawn_rows"] : List PySem.Str) ++ (["_law_place_right", "_law_points", "_law_belongs_right", "_law_bent", "_law_refusals_right"] : List PySem.Str)
theorem run (w : World) : HandSHeadRun.RunEqI RR0 (PySem.W.view RR0.prog [0, 58]) hk ob 6000 names w := by
  unfold HandSHeadRun.RunEqI
  kernel_rfl
variable {P : Program} {w : World} {K : PySem.W.Frag} {mg : Str → Option Value} {base : Heap}


end HwL
end

section
namespace HwL
open PySem PySem.Spec PyProof.Rows L2 LamX HwP
variable {P : Program} {w : World} {K : PySem.W.Frag} {mg : Str → Option Value} {base : Heap}

/-! ### the pen -/
def penK (l : Addr) (i d c f : Int) : List (Key × V) := [(.inr "cells", .ref l), (.inr "at", .int i), (.inr "digits", .int d), (.inr "count", .int c), (.inr "fold", .int f)]
/-- a pen stands at p, drawn from at most c times -/
def PenAt (H : Hp) (p l : Addr) (c : Int) : Prop := ∃ (cs : List Int) (i d n f : Int), H p = some (.dK (penK l i d n f)) ∧ H l = some (.lst (cs.map V.int)) ∧ 0 ≤ i ∧ 0 ≤ d ∧ 0 ≤ n ∧ n ≤ c ∧ 0 ≤ f ∧ f < 2147483587
/-- all but p is as it was -/
def Ext (p : Addr) (H H' : Hp) : Prop := ∀ b o, b ≠ p → H b = some o → H' b = some o
theorem Ext.refl {p : Addr} {H : Hp} : Ext p H H := fun _ _ _ h => h
theorem Ext.trans {p : Addr} {H H1 H2 : Hp} (a : Ext p H H1) (b : Ext p H1 H2) : Ext p H H2 := fun c o n h => b c o n (a c o n h)
theorem Ext.of {p : Addr} {H H1 : Hp} (a : Same H H1) : Ext p H H1 := fun c o _ h => a c o h
theorem Ext.new {p q : Addr} {H H1 : Hp} {o : HO} (a : Ext p H H1) (h : H1 q = none) : Ext p H (upd H1 q o) := a.trans (.of (same_new h))
theorem PenAt.mono {H : Hp} {p l : Addr} {c d : Int} (h : PenAt H p l c) (e : c ≤ d) : PenAt H p l d := by
  obtain ⟨cs, i, dg, n, f, h1, h2, h3, h4, h5, h6, h7⟩ := h
  exact ⟨cs, i, dg, n, f, h1, h2, h3, h4, h5, by omega, h7⟩
theorem PenAt.same {H H' : Hp} {p l : Addr} {c : Int} (h : PenAt H p l c) (e : Same H H') : PenAt H' p l c := by
  obtain ⟨cs, i, dg, n, f, h1, h2, h3⟩ := h
  exact ⟨cs, i, dg, n, f, e _ _ h1, e _ _ h2, h3⟩
theorem PenAt.some {H : Hp} {p l : Addr} {c : Int} (h : PenAt H p l c) : ∃ o, H p = some o := by
  obtain ⟨cs, i, dg, n, f, h1, _⟩ := h
  exact ⟨_, h1⟩
theorem PenAt.put {H : Hp} {p l : Addr} {c : Int} (h : PenAt H p l c) {q : Addr} (n1 : q ≠ p) (n2 : q ≠ l) (o : HO) : PenAt (upd H q o) p l c := by
  obtain ⟨cs, i, dg, n, f, h1, h2, h3⟩ := h
  exact ⟨cs, i, dg, n, f, by rw [upd_ne n1.symm]; exact h1, by rw [upd_ne n2.symm]; exact h2, h3⟩
theorem PenAt.ne2 {H : Hp} {p q l : Addr} {c : Int} (h : PenAt H p l c) (n : H q = none) : q ≠ l := by
  obtain ⟨cs, i, dg, m, f, h1, h2, _⟩ := h
  exact fun z => by rw [z, h2] at n; cases n
theorem PenAt.ne {H : Hp} {p q l : Addr} {c : Int} (h : PenAt H p l c) (n : H q = none) : q ≠ p := by
  obtain ⟨o, e⟩ := h.some
  exact fun z => by rw [z, e] at n; cases n
theorem penK_put_count (l : Addr) (i d n f x : Int) : putK (penK l i d n f) (.inr "count") (.int x) = penK l i d x f := by
  unfold penK putK
  simp (decide := true)
theorem penK_put_at (l : Addr) (i d n f x : Int) : putK (penK l i d n f) (.inr "at") (.int x) = penK l x d n f := by
  unfold penK putK
  simp (decide := true)
theorem penK_put_digits (l : Addr) (i d n f x : Int) : putK (penK l i d n f) (.inr "digits") (.int x) = penK l i x n f := by
  unfold penK putK
  simp (decide := true)
theorem penK_put_fold (l : Addr) (i d n f x : Int) : putK (penK l i d n f) (.inr "fold") (.int x) = penK l i d n x := by
  unfold penK putK
  simp (decide := true)
section
variable {H : Hp} {p l : Addr} {i d n f x : Int} (h : H p = some (.dK (penK l i d n f)))
include h
theorem dg_cells : DGet H p (.str "cells") (some (.ref l)) := .inl ⟨_, .inr "cells", .inl h, rfl, by unfold penK valV; simp (decide := true)⟩
theorem dg_at : DGet H p (.str "at") (some (.int i)) := .inl ⟨_, .inr "at", .inl h, rfl, by unfold penK valV; simp (decide := true)⟩
theorem dg_digits : DGet H p (.str "digits") (some (.int d)) := .inl ⟨_, .inr "digits", .inl h, rfl, by unfold penK valV; simp (decide := true)⟩
theorem dg_count : DGet H p (.str "count") (some (.int n)) := .inl ⟨_, .inr "count", .inl h, rfl, by unfold penK valV; simp (decide := true)⟩
theorem dg_fold : DGet H p (.str "fold") (some (.int f)) := .inl ⟨_, .inr "fold", .inl h, rfl, by unfold penK valV; simp (decide := true)⟩
theorem dp_count : DPut H p (.str "count") (.int x) (upd H p (.dK (penK l i d x f))) := .inl ⟨_, .inr "count", h, rfl, by show 5 < sizeLine; decide, by rw [penK_put_count]⟩
theorem dp_at : DPut H p (.str "at") (.int x) (upd H p (.dK (penK l x d n f))) := .inl ⟨_, .inr "at", h, rfl, by show 5 < sizeLine; decide, by rw [penK_put_at]⟩
theorem dp_digits : DPut H p (.str "digits") (.int x) (upd H p (.dK (penK l i x n f))) := .inl ⟨_, .inr "digits", h, rfl, by show 5 < sizeLine; decide, by rw [penK_put_digits]⟩
theorem dp_fold : DPut H p (.str "fold") (.int x) (upd H p (.dK (penK l i d n x))) := .inl ⟨_, .inr "fold", h, rfl, by show 5 < sizeLine; decide, by rw [penK_put_fold]⟩
end
def spPen (K : PySem.W.Frag) : Sp := fun vs H Q _ => ∃ (a : Addr) (ns : List Int), vs = [.ref a] ∧ SqL K H a (ns.map V.int) ∧ ns.length ≤ 63 ∧
  ∀ H' p l, Same H H' → H p = none → PenAt H' p l 0 → Q (.ref p) H'
abbrev N_L_pen : List Str := ["_law_script", "_law_fold", "_law_cell"]
theorem sc_L_pen : FnScope N_L_pen ["_law_script"] (defScope s_L_pen) := ⟨rfl, rfl, rfl, by decide +kernel, rfl, by decide +kernel, by decide +kernel⟩
theorem st_L_pen {v0 : V} : L2.start N_L_pen [v0] = [some v0, none, none] := rfl
theorem ok_L_pen {f : Addr} {fd : FuncData} (F : FD K s_L_pen "_law_pen" "_law_pen" f fd) (z_list : mg "list" = none) (z_int : mg "int" = none) : FnOk P w K mg base (L2.CX P w) 1 f fd ["_law_script"] (spPen K) := by
  have nd := sc_L_pen.nd
  refine F.ok0 sc_L_pen (fun vs H Q E h => ?_) (fun cdv A outer s H vs Q E hr h => ?_)
  · obtain ⟨a, ns, rfl, _⟩ := h
    rfl
  · obtain ⟨a, ns, rfl, hS, hlen, k⟩ := h
    refine ⟨_, (pss_cons (ps_set (i := 1) nd rfl (Or.inl rfl) pe_int)
        (pss_cons (ps_for PassesOwn.never rfl (pi_list (pv 0)) (pg_name (i := 2) nd rfl (Or.inl rfl)) (pss_one (ps_set (i := 1) nd rfl (Or.inl rfl) (pe_op op_mod (pe_callTy call_int1 (by rfl) z_int (by decide +kernel) (pa_cons (pe_op op_add (pe_op op_mulW (pv 1) pe_int) (pv 2)) pa_nil)) pe_int))))
        (pss_one (ps_ret (pe_disp (pps_cons pe_str (pe_callTy call_list_of (by rfl) z_list (by decide +kernel) (pa_cons (pv 0) pa_nil)) (pps_cons pe_str pe_int (pps_cons pe_str pe_int (pps_cons pe_str pe_int (pps_cons pe_str (pv 1) pps_nil))))) (by rfl) (by rfl) (fun z => by cases z) (by decide)))))), ?_⟩
    refine ⟨_, rfl, a, rfl, ⟨_, hS⟩, for_list (K := K) (a := a) (xs := ns.map V.int) (fun i σ H' => ∃ (z : Int) (v : Option V), H' = H ∧ σ = [some (.ref a), some (.int z), v] ∧ 0 ≤ z ∧ z < 1000000007)
      ⟨0, none, rfl, rfl, by decide, by decide⟩ (fun i σ H' _ ⟨_, _, e, _⟩ => by rw [e]; exact hS) ?_ ?_⟩
    · rintro i y σ H' hi ⟨z, v, rfl, rfl, z0, z1⟩
      obtain ⟨u, rfl⟩ : ∃ u, y = V.int u := by
        rw [List.getElem?_map] at hi
        cases e : ns[i]? with
        | none =>
          rw [e] at hi
          cases hi
        | some u =>
          rw [e] at hi
          exact ⟨u, (Option.some.inj hi).symm⟩
      simp only [tVar, rIxTH, rIxLH, gTupH, line_le, HO.tup.injEq, HO.lst.injEq, List.length_cons, List.length_nil, at0, at1, rU, tOst, tTest, rIxL, rIxT, C8.tCut, cxOf_K, tC, tOp, tUn, tSeq, tAsg, tNext, tRet, tRetN, tDrop, tIfS, tNever, gName, gNil, gCons, gTup, gSub, tPar, rI, rI0, rU, rEq, rNe, tB, tAnd, tOr, tNot, tAndV, tOrV, tNotV, tIf, tTup, tLst, tNil, tCons, tCB, tCall, tMeth, tMake, tFld, sFld, tDGet, sDPut, tDisp, tPairs, tBreak, tCont, scal_ii, scal_bb, scal_ss, List.getElem?_cons_zero, List.getElem?_cons_succ, List.set_cons_zero, List.set_cons_succ, Option.some.injEq, exists_eq_left', exists_eq_left, exists_and_left, V.int.injEq, V.bl.injEq, V.ref.injEq, V.str.injEq, List.cons.injEq, and_true, true_and, Bool.true_eq, List.nil_append, List.append_nil, List.cons_append, exists_eq', and_self, reduceCtorEq, false_or, or_false, false_and, exists_false, exists_const, and_assoc, if_true, Bool.false_eq_true, if_false, Nat.reduceAdd, Nat.reduceLeDiff, Nat.zero_add, Nat.le_refl, forall_const, st_L_pen]
      refine ⟨wide_mul (a := 40) (b := 40) (by omega) (by decide) (by decide) (by decide) (by decide), by decide, by omega, by omega⟩
    · rintro σ H' ⟨z, v, rfl, rfl, z0, z1⟩
      simp only [tVar, rIxTH, rIxLH, gTupH, line_le, HO.tup.injEq, HO.lst.injEq, List.length_cons, List.length_nil, at0, at1, rU, tOst, tTest, rIxL, rIxT, C8.tCut, cxOf_K, tC, tOp, tUn, tSeq, tAsg, tNext, tRet, tRetN, tDrop, tIfS, tNever, gName, gNil, gCons, gTup, gSub, tPar, rI, rI0, rU, rEq, rNe, tB, tAnd, tOr, tNot, tAndV, tOrV, tNotV, tIf, tTup, tLst, tNil, tCons, tCB, tCall, tMeth, tMake, tFld, sFld, tDGet, sDPut, tDisp, tPairs, tBreak, tCont, scal_ii, scal_bb, scal_ss, List.getElem?_cons_zero, List.getElem?_cons_succ, List.set_cons_zero, List.set_cons_succ, Option.some.injEq, exists_eq_left', exists_eq_left, exists_and_left, V.int.injEq, V.bl.injEq, V.ref.injEq, V.str.injEq, List.cons.injEq, and_true, true_and, Bool.true_eq, List.nil_append, List.append_nil, List.cons_append, exists_eq', and_self, reduceCtorEq, false_or, or_false, false_and, exists_false, exists_const, and_assoc, if_true, Bool.false_eq_true, if_false, Nat.reduceAdd, Nat.reduceLeDiff, Nat.zero_add, Nat.le_refl, forall_const, st_L_pen]
      intro p hp
      refine ⟨ns.map V.int, .inl (seqL_same (same_new hp) hS), fun l hl => ⟨?_, penK l 0 0 0 z, rfl, by show 5 ≤ 15; decide, ?_⟩⟩
      · have npl : p ≠ l := fun e => by rw [e, upd_same] at hl; cases hl
        rw [upd_ne npl, upd_same]
      · have npl : p ≠ l := fun e => by rw [e, upd_same] at hl; cases hl
        have e : mergeK [] (penK l 0 0 0 z) = penK l 0 0 0 z := by unfold penK mergeK putK; simp (decide := true)
        rw [e]
        have hl0 : H' l = none := by rw [upd_ne npl.symm] at hl; exact hl
        refine k _ p l (fun b o e => ?_) hp ⟨ns, 0, 0, 0, z, upd_same, by rw [upd_ne npl.symm, upd_same], by omega, by omega, by omega, by omega, z0, by omega⟩
        rw [upd_ne (ne_of_none e hp), upd_ne (ne_of_none e hl0), upd_ne (ne_of_none e hp)]
        exact e
/-- one digit -/
def spDraw : Sp := fun vs H Q _ => ∃ (p l : Addr) (c m : Int), vs = [.ref p, .int m] ∧ PenAt H p l c ∧ c < 1000000000000 ∧ 0 < m ∧ m.natAbs < 2 ^ 9000 ∧
  ∀ H' r, Ext p H H' → PenAt H' p l (c + 1) → 0 ≤ r → r < m → Q (.int r) H'
abbrev N_L_draw : List Str := ["_law_pen_here", "_law_many", "_law_cell", "_law_digit", "_law_mixed"]
theorem sc_L_draw : FnScope N_L_draw ["_law_pen_here", "_law_many"] (defScope s_L_draw) := ⟨rfl, rfl, rfl, by decide +kernel, rfl, by decide +kernel, by decide +kernel⟩
theorem st_L_draw {v0 v1 : V} : L2.start N_L_draw [v0, v1] = [some v0, some v1, none, none, none] := rfl
theorem ok_L_draw {f : Addr} {fd : FuncData} (F : FD K s_L_draw "_law_draw" "_law_draw" f fd) (z_int : mg "int" = none) (z_len : mg "len" = none) : FnOk P w K mg base (L2.CX P w) 1 f fd ["_law_pen_here", "_law_many"] (spDraw) := by
  have nd := sc_L_draw.nd
  refine F.ok0 sc_L_draw (fun vs H Q E h => ?_) (fun cdv A outer s H vs Q E hr h => ?_)
  · obtain ⟨p, l, c, m, rfl, _⟩ := h
    rfl
  · obtain ⟨p, l, c, m, rfl, ⟨cs, i, d, n, f, hp, hl, hi, hd, hn, hnc, hf, hf2⟩, hc, hm, hm2, k⟩ := h
    have nlp : l ≠ p := fun e => by rw [e, hp] at hl; cases hl
    refine ⟨_, (pss_cons (ps_dput (hu_of hr) (pv 0) pe_str (pe_op op_add (pe_dget (hu_of hr) (pv 0) pe_str (fun _ _ => rfl)) pe_int) rfl)
        (C8.pss_cut (ps_if (PW.pt (pw_and (pt_cmpR op_eq (pe_dget (hu_of hr) (pv 0) pe_str (fun _ _ => rfl)) pe_int (nomark _)) (pw_and1 (pt_cmpR op_lt (pe_dget (hu_of hr) (pv 0) pe_str (fun _ _ => rfl)) (pe_callB call_len_seq (by rfl) z_len (by decide +kernel) (pa_cons (pe_dget (hu_of hr) (pv 0) pe_str (fun _ _ => rfl)) pa_nil)) (nomark _))))) (pss_cons (ps_set (i := 2) nd rfl (Or.inl rfl) (pe_ix ix_list (pe_dget (hu_of hr) (pv 0) pe_str (fun _ _ => rfl)) (pe_dget (hu_of hr) (pv 0) pe_str (fun _ _ => rfl)) (fun _ _ => rfl)))
        (pss_cons (ps_dput (hu_of hr) (pv 0) pe_str (pe_op op_add (pe_dget (hu_of hr) (pv 0) pe_str (fun _ _ => rfl)) pe_int) rfl)
        (pss_one (ps_if (pt_cmpR op_ge (pv 2) (pe_op op_pow pe_int pe_int) (nomark _)) (pss_one (ps_dput (hu_of hr) (pv 0) pe_str (pe_op op_sub (pv 2) (pe_op op_pow pe_int pe_int)) rfl)) (pss_one (ps_dput (hu_of hr) (pv 0) pe_str (pe_op op_mod (pe_callTy call_int1 (by rfl) z_int (by decide +kernel) (pa_cons (pe_op op_add (pe_op op_mulW (pe_dget (hu_of hr) (pv 0) pe_str (fun _ _ => rfl)) pe_int) (pv 2)) pa_nil)) pe_int) rfl)))))) pss_nil)
        (pss_cons (ps_if (pt_cmpR op_gt (pe_dget (hu_of hr) (pv 0) pe_str (fun _ _ => rfl)) pe_int (nomark _)) (pss_cons (ps_set (i := 3) nd rfl (Or.inl rfl) (pe_op op_mod (pe_callTy call_int1 (by rfl) z_int (by decide +kernel) (pa_cons (pe_dget (hu_of hr) (pv 0) pe_str (fun _ _ => rfl)) pa_nil)) (pv 1)))
        (pss_cons (ps_dput (hu_of hr) (pv 0) pe_str (pe_op op_fdivW (pe_dget (hu_of hr) (pv 0) pe_str (fun _ _ => rfl)) (pv 1)) rfl)
        (pss_one (ps_ret (pv 3))))) pss_nil)
        (pss_cons (ps_set (i := 4) nd rfl (Or.inl rfl) (pe_op op_add (pe_op op_add (pe_dget (hu_of hr) (pv 0) pe_str (fun _ _ => rfl)) (pe_op op_mulW (pe_dget (hu_of hr) (pv 0) pe_str (fun _ _ => rfl)) pe_int)) pe_int))
        (pss_one (ps_ret (pe_op op_mod (pe_op op_fdivW (pe_callTy call_int1 (by rfl) z_int (by decide +kernel) (pa_cons (pe_op op_mod (pe_op op_pow (pv 4) pe_int) pe_int) pa_nil)) pe_int) (pv 1)))))))), ?_⟩
    simp only [tVar, rIxTH, rIxLH, gTupH, line_le, HO.tup.injEq, HO.lst.injEq, List.length_cons, List.length_nil, at0, at1, rU, tOst, tTest, rIxL, rIxT, C8.tCut, cxOf_K, tC, tOp, tUn, tSeq, tAsg, tNext, tRet, tRetN, tDrop, tIfS, tNever, gName, gNil, gCons, gTup, gSub, tPar, rI, rI0, rU, rEq, rNe, tB, tAnd, tOr, tNot, tAndV, tOrV, tNotV, tIf, tTup, tLst, tNil, tCons, tCB, tCall, tMeth, tMake, tFld, sFld, tDGet, sDPut, tDisp, tPairs, tBreak, tCont, scal_ii, scal_bb, scal_ss, List.getElem?_cons_zero, List.getElem?_cons_succ, List.set_cons_zero, List.set_cons_succ, Option.some.injEq, exists_eq_left', exists_eq_left, exists_and_left, V.int.injEq, V.bl.injEq, V.ref.injEq, V.str.injEq, List.cons.injEq, and_true, true_and, Bool.true_eq, List.nil_append, List.append_nil, List.cons_append, exists_eq', and_self, reduceCtorEq, false_or, or_false, false_and, exists_false, exists_const, and_assoc, if_true, Bool.false_eq_true, if_false, Nat.reduceAdd, Nat.reduceLeDiff, Nat.zero_add, Nat.le_refl, forall_const, st_L_draw]
    refine ⟨_, dg_count hp, n, rfl, _, dp_count hp, fun σ' H' => ∃ (d' i' f' : Int) (v2 v3 v4 : Option V), σ' = [some (.ref p), some (.int m), v2, v3, v4] ∧ H' p = some (.dK (penK l i' d' (n + 1) f')) ∧ Ext p H H' ∧ 0 ≤ i' ∧ 0 ≤ d' ∧ 0 ≤ f' ∧ f' < 2147483587, ?_, ?_⟩
    · have hp1 : upd H p (.dK (penK l i d (n + 1) f)) p = some (.dK (penK l i d (n + 1) f)) := upd_same
      have hE : Ext p H (upd H p (.dK (penK l i d (n + 1) f))) := fun b o nb e => by rw [upd_ne nb]; exact e
      generalize upd H p (.dK (penK l i d (n + 1) f)) = H1 at hp1 hE
      have hl1 := hE _ _ nlp hl
      refine ⟨_, dg_digits hp1, rfl, ?_⟩
      have same : ∃ (d' i' f' : Int) (v2 v3 v4 : Option V), [some (V.ref p), some (V.int m), none, none, none] = [some (V.ref p), some (V.int m), v2, v3, v4] ∧ H1 p = some (.dK (penK l i' d' (n + 1) f')) ∧ Ext p H H1 ∧ 0 ≤ i' ∧ 0 ≤ d' ∧ 0 ≤ f' ∧ f' < 2147483587 :=
        ⟨d, i, f, none, none, none, rfl, hp1, hE, hi, hd, hf, hf2⟩
      refine ite2 (fun _ => ?_) (fun _ => same)
      refine ⟨_, dg_at hp1, _, dg_cells hp1, l, rfl, cs.map V.int, .inl (SqL.of hl1), i, rfl, ?_⟩
      refine ite2 (fun hlt => ?_) (fun _ => same)
      have hlt2 : i < ((cs.map V.int).length : Int) := of_decide_eq_true hlt
      obtain ⟨u, hu⟩ : ∃ u, cs[i.toNat]? = some u := ⟨_, List.getElem?_eq_getElem (by rw [List.length_map] at hlt2; omega)⟩
      refine ⟨_, dg_cells hp1, _, dg_at hp1, l, rfl, cs.map V.int, i, rfl, SqL.of hl1, .int u, at_of (j := i.toNat) (by omega) (by rw [List.getElem?_map, hu]; rfl), ?_⟩
      refine ⟨_, dg_at hp1, i, rfl, _, dp_at hp1, ?_⟩
      have hp2 : upd H1 p (.dK (penK l (i + 1) d (n + 1) f)) p = some (.dK (penK l (i + 1) d (n + 1) f)) := upd_same
      have hE2 : Ext p H (upd H1 p (.dK (penK l (i + 1) d (n + 1) f))) := fun b o nb e => by rw [upd_ne nb]; exact hE b o nb e
      generalize upd H1 p (.dK (penK l (i + 1) d (n + 1) f)) = H2 at hp2 hE2
      refine ⟨⟨by decide, by decide, by decide⟩, u, rfl, ?_⟩
      refine ite2 (fun hge => ?_) (fun _ => ?_)
      · have hge2 := of_decide_eq_true hge
        refine ⟨⟨by decide, by decide, by decide⟩, u, rfl, _, dp_digits hp2, ?_⟩
        refine ⟨u - 10 ^ (18 : Int).toNat, i + 1, f, _, _, _, rfl, upd_same, fun b o nb e => by rw [upd_ne nb]; exact hE2 b o nb e, by omega, by omega, hf, hf2⟩
      · refine ⟨_, dg_fold hp2, f, rfl, wide_mul (a := 40) (b := 40) (by omega) (by decide) (by decide) (by decide) (by decide), u, rfl, by decide, _, dp_fold hp2, ?_⟩
        refine ⟨d, i + 1, _, _, _, _, rfl, upd_same, fun b o nb e => by rw [upd_ne nb]; exact hE2 b o nb e, by omega, hd, by omega, by omega⟩
    · rintro σ' H' ⟨d', i', f', v2, v3, v4, rfl, hp', hE, hi', hd', hf', hf2'⟩
      have hl' := hE _ _ nlp hl
      simp only [tVar, rIxTH, rIxLH, gTupH, line_le, HO.tup.injEq, HO.lst.injEq, List.length_cons, List.length_nil, at0, at1, rU, tOst, tTest, rIxL, rIxT, C8.tCut, cxOf_K, tC, tOp, tUn, tSeq, tAsg, tNext, tRet, tRetN, tDrop, tIfS, tNever, gName, gNil, gCons, gTup, gSub, tPar, rI, rI0, rU, rEq, rNe, tB, tAnd, tOr, tNot, tAndV, tOrV, tNotV, tIf, tTup, tLst, tNil, tCons, tCB, tCall, tMeth, tMake, tFld, sFld, tDGet, sDPut, tDisp, tPairs, tBreak, tCont, scal_ii, scal_bb, scal_ss, List.getElem?_cons_zero, List.getElem?_cons_succ, List.set_cons_zero, List.set_cons_succ, Option.some.injEq, exists_eq_left', exists_eq_left, exists_and_left, V.int.injEq, V.bl.injEq, V.ref.injEq, V.str.injEq, List.cons.injEq, and_true, true_and, Bool.true_eq, List.nil_append, List.append_nil, List.cons_append, exists_eq', and_self, reduceCtorEq, false_or, or_false, false_and, exists_false, exists_const, and_assoc, if_true, Bool.false_eq_true, if_false, Nat.reduceAdd, Nat.reduceLeDiff, Nat.zero_add, Nat.le_refl, forall_const, st_L_draw]
      refine ⟨_, dg_digits hp', d', rfl, ?_⟩
      refine ite2 (fun hpos => ?_) (fun hneg => ?_)
      · have hpos2 := of_decide_eq_true hpos
        refine ⟨_, dg_digits hp', .inl ⟨d', rfl, hm, ?_⟩⟩
        refine ⟨_, dg_digits hp', d', rfl, ⟨hm, HwM.log2_lt (by decide) hm2⟩, _, dp_digits hp', ?_⟩
        refine k _ _ (fun b o nb e => by rw [upd_ne nb]; exact hE b o nb e) ⟨cs, i', d' / m, n + 1, f', upd_same, by rw [upd_ne nlp]; exact hl', hi', Int.ediv_nonneg hd' (by omega), by omega, by omega, hf', hf2'⟩ (Int.emod_nonneg _ (by omega)) (Int.emod_lt_of_pos _ hm)
      · refine ⟨_, dg_fold hp', _, dg_count hp', n + 1, rfl, wide_mul (a := 60) (b := 40) (by omega) (by decide) (by decide) (by decide) (by decide), f', rfl, ⟨by decide, by decide, by omega⟩, by decide, ?_⟩
        refine ⟨⟨by decide, by decide⟩, hm, ?_⟩
        refine k _ _ hE ⟨cs, i', d', n + 1, f', hp', hl', hi', hd', by omega, by omega, hf', hf2'⟩ (Int.emod_nonneg _ (by omega)) (Int.emod_lt_of_pos _ hm)

def spPick : Sp := fun vs H Q _ => ∃ (p l a : Addr) (c : Int) (xs : List V), vs = [.ref p, .ref a] ∧ PenAt H p l c ∧ c < 100000000 ∧ H a = some (.lst xs) ∧ 0 < xs.length ∧ xs.length ≤ 1000 ∧ ∀ (H' : Hp) (i : Nat) (v : V), Ext p H H' → PenAt H' p l (c + 1) → xs[i]? = some v → Q v H'
abbrev N_L_pick : List Str := ["_law_pen_here", "_law_some"]
theorem sc_L_pick : FnScope N_L_pick ["_law_pen_here", "_law_some"] (defScope s_L_pick) := ⟨rfl, rfl, rfl, by decide +kernel, rfl, by decide +kernel, by decide +kernel⟩
theorem st_L_pick {v0 v1 : V} : L2.start N_L_pick [v0, v1] = [some v0, some v1] := rfl
theorem ok_L_pick {f : Addr} {fd : FuncData} (F : FD K s_L_pick "_law_pick" "_law_pick" f fd) (z_len : mg "len" = none) (g_L_draw : Gf P w K mg base "_law_draw" 1 ["_law_pen_here", "_law_many"] (spDraw)) : FnOk P w K mg base (L2.CX P w) 2 f fd ["_law_pen_here", "_law_some"] (spPick) := by
  have nd := sc_L_pick.nd
  refine F.ok0 sc_L_pick (fun vs H Q E h => ?_) (fun cdv A outer s H vs Q E hr h => ?_)
  · obtain ⟨p, l, a, c, xs, rfl, _⟩ := h
    rfl
  · obtain ⟨p, l, a, c, xs, rfl, hp, hc, ha, h0, h1, k⟩ := h
    refine ⟨_, (pss_one (ps_ret (pe_ix ix_listH (pv 1) (pe_g g_L_draw hr (by decide) passL rfl (pa_cons (pv 0) (pa_cons (pe_callB call_len_seq (by rfl) z_len (by decide +kernel) (pa_cons (pv 1) pa_nil)) pa_nil))) (fun _ _ => rfl)))), ?_⟩
    simp only [tVar, rIxTH, rIxLH, gTupH, line_le, HO.tup.injEq, HO.lst.injEq, List.length_cons, List.length_nil, at0, at1, rU, tOst, tTest, rIxL, rIxT, C8.tCut, cxOf_K, tC, tOp, tUn, tSeq, tAsg, tNext, tRet, tRetN, tDrop, tIfS, tNever, gName, gNil, gCons, gTup, gSub, tPar, rI, rI0, rU, rEq, rNe, tB, tAnd, tOr, tNot, tAndV, tOrV, tNotV, tIf, tTup, tLst, tNil, tCons, tCB, tCall, tMeth, tMake, tFld, sFld, tDGet, sDPut, tDisp, tPairs, tBreak, tCont, scal_ii, scal_bb, scal_ss, List.getElem?_cons_zero, List.getElem?_cons_succ, List.set_cons_zero, List.set_cons_succ, Option.some.injEq, exists_eq_left', exists_eq_left, exists_and_left, V.int.injEq, V.bl.injEq, V.ref.injEq, V.str.injEq, List.cons.injEq, and_true, true_and, Bool.true_eq, List.nil_append, List.append_nil, List.cons_append, exists_eq', and_self, reduceCtorEq, false_or, or_false, false_and, exists_false, exists_const, and_assoc, if_true, Bool.false_eq_true, if_false, Nat.reduceAdd, Nat.reduceLeDiff, Nat.zero_add, Nat.le_refl, forall_const, st_L_pick]
    have nap : a ≠ p := fun e => by
      obtain ⟨cs, i, dg, n, f, h1, _⟩ := hp
      rw [e, h1] at ha
      cases ha
    refine ⟨xs, .inl (SqL.of ha), p, l, c, xs.length, rfl, hp, by omega, by omega, ?_, fun H1 r x1 p1 r0 r1 => ?_⟩
    · rw [Int.natAbs_natCast]
      exact Nat.lt_of_le_of_lt h1 (Nat.lt_of_lt_of_le (show 1000 < 2 ^ 10 by decide) (Nat.pow_le_pow_right (by decide) (by decide)))
    · obtain ⟨j, rfl⟩ : ∃ j : Nat, r = (j : Int) := ⟨r.toNat, by omega⟩
      obtain ⟨v, hv⟩ : ∃ v, xs[j]? = some v := ⟨_, List.getElem?_eq_getElem (by omega)⟩
      simp only [tVar, rIxTH, rIxLH, gTupH, line_le, HO.tup.injEq, HO.lst.injEq, List.length_cons, List.length_nil, at0, at1, rU, tOst, tTest, rIxL, rIxT, C8.tCut, cxOf_K, tC, tOp, tUn, tSeq, tAsg, tNext, tRet, tRetN, tDrop, tIfS, tNever, gName, gNil, gCons, gTup, gSub, tPar, rI, rI0, rU, rEq, rNe, tB, tAnd, tOr, tNot, tAndV, tOrV, tNotV, tIf, tTup, tLst, tNil, tCons, tCB, tCall, tMeth, tMake, tFld, sFld, tDGet, sDPut, tDisp, tPairs, tBreak, tCont, scal_ii, scal_bb, scal_ss, List.getElem?_cons_zero, List.getElem?_cons_succ, List.set_cons_zero, List.set_cons_succ, Option.some.injEq, exists_eq_left', exists_eq_left, exists_and_left, V.int.injEq, V.bl.injEq, V.ref.injEq, V.str.injEq, List.cons.injEq, and_true, true_and, Bool.true_eq, List.nil_append, List.append_nil, List.cons_append, exists_eq', and_self, reduceCtorEq, false_or, or_false, false_and, exists_false, exists_const, and_assoc, if_true, Bool.false_eq_true, if_false, Nat.reduceAdd, Nat.reduceLeDiff, Nat.zero_add, Nat.le_refl, forall_const, st_L_pick, x1 _ _ nap ha]
      exact ⟨v, atI_nat hv, k H1 j v x1 p1 hv⟩


end HwL
end

section
namespace HwL
open PySem PySem.Spec PyProof.Rows L2 LamX HwP
variable {P : Program} {w : World} {K : PySem.W.Frag} {mg : Str → Option Value} {base : Heap}

/-! ### kinds of values -/
/-- what the text says of the class Ratio, at C -/
structure RatC (K : PySem.W.Frag) (C : Addr) : Prop where
  cl : Cls K C
  nt : NoAttr K C "top"
  nb : NoAttr K C "bottom"
  ha : PySem.W.findIn K (.ref C) "__class__" = some (some (.builtin "object.__class__"))
  hn : PySem.W.specialIn K (.builtin "object.__class__") "__get__" = some (some (.builtin "getset_descriptor.__get__"))
  htk : PySem.W.takesIn K (.builtin "object.__class__") = some true
  hm : PySem.W.mroIn K C (.type "object") = some true
  kI : PySem.W.kitOne K (.ref C) (.type "int") = some false
  kB : PySem.W.kitOne K (.ref C) (.type "bool") = some false
  ki : PySem.W.kitOne K (.type "int") (.ref C) = some false
  kb : PySem.W.kitOne K (.type "bool") (.ref C) = some false
  ks : PySem.W.kitOne K (.type "str") (.ref C) = some false
  kn : PySem.W.kitOne K (.type "NoneType") (.ref C) = some false
  kt : PySem.W.kitOne K (.type "tuple") (.ref C) = some false
  kl : PySem.W.kitOne K (.type "list") (.ref C) = some false
  ni : PySem.W.notFirst K C (.type "int") = true
  nbo : PySem.W.notFirst K C (.type "bool") = true
  ns : PySem.W.notFirst K C (.type "str") = true
  nn : PySem.W.notFirst K C (.type "NoneType") = true
  ntu : PySem.W.notFirst K C (.type "tuple") = true
  nl : PySem.W.notFirst K C (.type "list") = true
/-- x's kind: its type t; whether it is an integer, a Ratio -/
structure Ty (K : PySem.W.Frag) (C : Addr) (H : Hp) (x : V) (isI isR : Bool) : Prop where
  ex : ∃ (t : Value) (bI bB : Bool), TyX K H x t ∧ PySem.W.kitOne K t (.type "int") = some bI ∧ PySem.W.kitOne K t (.type "bool") = some bB ∧ isI = (bI && !bB) ∧ PySem.W.kitOne K t (.ref C) = some isR ∧ PySem.W.notFirst K C t = true
/-- an object of class Ratio that is q -/
def ratF (q : Rat) : List (Str × V) := [("top", .int q.num), ("bottom", .int (q.den : Int))]
def IsR (C : Addr) (H : Hp) (x : V) (q : Rat) : Prop := ∃ a dx, x = .ref a ∧ H a = some (.ins C dx (ratF q))
/-- q as an object or an integer -/
def AsR (C : Addr) (H : Hp) (x : V) (q : Rat) : Prop := IsR C H x q ∨ ∃ i : Int, x = .int i ∧ q = (i : Rat)
theorem IsR.same {C : Addr} {H H' : Hp} {x : V} {q : Rat} (h : IsR C H x q) (e : Same H H') : IsR C H' x q := by
  obtain ⟨a, dx, h1, h2⟩ := h
  exact ⟨a, dx, h1, e _ _ h2⟩
theorem AsR.same {C : Addr} {H H' : Hp} {x : V} {q : Rat} (h : AsR C H x q) (e : Same H H') : AsR C H' x q := h.elim (fun h => .inl (h.same e)) .inr
theorem IsR.inst {C : Addr} {H : Hp} {x : V} {q : Rat} (h : IsR C H x q) : Inst H C x := by
  obtain ⟨a, dx, h1, h2⟩ := h
  exact ⟨a, dx, _, h1, h2⟩
theorem AsR.arg {C : Addr} {H : Hp} {x : V} {q : Rat} (h : AsR C H x q) : (∃ i, x = .int i) ∨ Inst H C x := by
  rcases h with h | ⟨i, h, _⟩
  · exact .inr h.inst
  · exact .inl ⟨i, h⟩
theorem ratF_top (q : Rat) : (ratF q).lookup ("top" : Str) = some (V.int q.num) := by unfold ratF; simp (decide := true) [List.lookup]
theorem ratF_bottom (q : Rat) : (ratF q).lookup ("bottom" : Str) = some (V.int (q.den : Int)) := by
  have e : (("bottom" : Str) == ("top" : Str)) = false := by decide
  unfold ratF
  simp [List.lookup, e]
theorem ratF_no (q : Rat) {m : Str} (h1 : (m == ("top" : Str)) = false) (h2 : (m == ("bottom" : Str)) = false) : (ratF q).lookup m = none := by unfold ratF; simp [List.lookup, h1, h2]
theorem ratF_put (t b : Int) (q : Rat) (h1 : t = q.num) (h2 : b = (q.den : Int)) : putF "bottom" (.int b) (putF "top" (.int t) []) = ratF q := by
  subst h1 h2
  unfold ratF putF
  simp (decide := true) [putF]
section
variable {K : PySem.W.Frag} {C : Addr} {H : Hp} (R : RatC K C)
include R
theorem ty_rat {x : V} (h : Inst H C x) : Ty K C H x false true := by
  obtain ⟨a, dx, fs, rfl, e⟩ := h
  exact ⟨.ref C, false, false, .base (.ins e R.cl R.ha R.hn R.htk R.hm), R.kI, R.kB, rfl, by unfold PySem.W.kitOne; simp, by unfold PySem.W.notFirst; simp⟩
theorem ty_int (i : Int) : Ty K C H (.int i) true false := ⟨.type "int", true, false, .base (.int i), kit_ty (by decide +kernel), kit_ty (by decide +kernel), rfl, R.ki, R.ni⟩
theorem ty_bl (b : Bool) : Ty K C H (.bl b) false false := ⟨.type "bool", true, true, .base (.bl b), kit_ty (by decide +kernel), kit_ty (by decide +kernel), rfl, R.kb, R.nbo⟩
theorem ty_str (x : Str) : Ty K C H (.str x) false false := ⟨.type "str", false, false, .base (.str x), kit_ty (by decide +kernel), kit_ty (by decide +kernel), rfl, R.ks, R.ns⟩
theorem ty_non : Ty K C H .non false false := ⟨.type "NoneType", false, false, .base .non, kit_ty (by decide +kernel), kit_ty (by decide +kernel), rfl, R.kn, R.nn⟩
theorem ty_tup {a : Addr} {xs : List V} (e : H a = some (.tup xs)) : Ty K C H (.ref a) false false := ⟨.type "tuple", false, false, .base (.tup e), kit_ty (by decide +kernel), kit_ty (by decide +kernel), rfl, R.kt, R.ntu⟩
theorem ty_lst {a : Addr} {xs : List V} (e : H a = some (.lst xs)) : Ty K C H (.ref a) false false := ⟨.type "list", false, false, .base (.lst e), kit_ty (by decide +kernel), kit_ty (by decide +kernel), rfl, R.kl, R.nl⟩
theorem ty_as {x : V} {q : Rat} (h : AsR C H x q) : ∃ i r, Ty K C H x i r ∧ (r || i) = true := by
  rcases h with h | ⟨i, rfl, _⟩
  · exact ⟨_, _, ty_rat R h.inst, rfl⟩
  · exact ⟨_, _, ty_int R i, rfl⟩
end
theorem ratB_ok {K : PySem.W.Frag} {C : Addr} (cl : Cls K C) (nt : NoAttr K C "top") (nb : NoAttr K C "bottom") (h : ratB K C = true) : RatC K C := by
  obtain ⟨_, h⟩ := He.ba h
  obtain ⟨h1, h⟩ := He.ba h
  obtain ⟨h2, h⟩ := He.ba h
  obtain ⟨h3, h⟩ := He.ba h
  obtain ⟨h4, h⟩ := He.ba h
  obtain ⟨h5, h⟩ := He.ba h
  obtain ⟨h6, h7⟩ := He.ba h
  have a5 := List.all_eq_true.mp h5
  have a6 := List.all_eq_true.mp h6
  have a7 := List.all_eq_true.mp h7
  exact ⟨cl, nt, nb, He.eqO_ok h1, He.eqO_ok h2, of_decide_eq_true h3, of_decide_eq_true h4, of_decide_eq_true (a5 _ (by decide)), of_decide_eq_true (a5 _ (by decide)), of_decide_eq_true (a6 _ (by decide)), of_decide_eq_true (a6 _ (by decide)), of_decide_eq_true (a6 _ (by decide)), of_decide_eq_true (a6 _ (by decide)), of_decide_eq_true (a6 _ (by decide)), of_decide_eq_true (a6 _ (by decide)), a7 _ (by decide), a7 _ (by decide), a7 _ (by decide), a7 _ (by decide), a7 _ (by decide), a7 _ (by decide)⟩


end HwL
end

section
namespace HwL
open PySem PySem.Spec PyProof.Rows L2 LamX HwP
variable {P : Program} {w : World} {K : PySem.W.Frag} {mg : Str → Option Value} {base : Heap}

/-! ### the package's errors and ratios -/
abbrev N_BadNumberD_initD : List Str := ["self", "what", "number"]
theorem sc_BadNumberD_initD : FnScope N_BadNumberD_initD ["self", "what", "number"] (defScope s_BadNumberD_initD) := ⟨rfl, rfl, rfl, by decide +kernel, rfl, by decide +kernel, by decide +kernel⟩
theorem st_BadNumberD_initD {v0 v1 v2 : V} : L2.start N_BadNumberD_initD [v0, v1, v2] = [some v0, some v1, some v2] := rfl
theorem ok_BadNumberD_initD {f : Addr} {fd : FuncData} (F : FD K s_BadNumberD_initD "__init__" "BadNumber.__init__" f fd) {C_BadNumber : Addr} (TX : OexC K C_BadNumber) (n1 : PySem.W.findIn K (.ref C_BadNumber) "what" = some none) (n2 : PySem.W.findIn K (.ref C_BadNumber) "number" = some none) : FnOk P w K mg base (L2.CX P w) 1 f fd ["self", "what", "number"] (spX2 C_BadNumber "what" "number") := by
  have nd := sc_BadNumberD_initD.nd
  refine F.ok0 sc_BadNumberD_initD (fun vs H Q E h => ?_) (fun cdv A outer s H vs Q E hr h => ?_)
  · obtain ⟨a, x, y, rfl, _⟩ := h
    rfl
  · obtain ⟨a, x, y, rfl, ha, k⟩ := h
    refine ⟨_, (pss_cons (ps_ost (pv 0) (pv 1))
        (pss_one (ps_ost (pv 0) (pv 2)))), ?_⟩
    simp only [tVar, rIxTH, rIxLH, gTupH, line_le, HO.tup.injEq, HO.lst.injEq, List.length_cons, List.length_nil, at0, at1, rU, tOst, tTest, rIxL, rIxT, C8.tCut, cxOf_K, tC, tOp, tUn, tSeq, tAsg, tNext, tRet, tRetN, tDrop, tIfS, tNever, gName, gNil, gCons, gTup, gSub, tPar, rI, rI0, rU, rEq, rNe, tB, tAnd, tOr, tNot, tAndV, tOrV, tNotV, tIf, tTup, tLst, tNil, tCons, tCB, tCall, tMeth, tMake, tFld, sFld, tDGet, sDPut, tDisp, tPairs, tBreak, tCont, scal_ii, scal_bb, scal_ss, List.getElem?_cons_zero, List.getElem?_cons_succ, List.set_cons_zero, List.set_cons_succ, Option.some.injEq, exists_eq_left', exists_eq_left, exists_and_left, V.int.injEq, V.bl.injEq, V.ref.injEq, V.str.injEq, List.cons.injEq, and_true, true_and, Bool.true_eq, List.nil_append, List.append_nil, List.cons_append, exists_eq', and_self, reduceCtorEq, false_or, or_false, false_and, exists_false, exists_const, and_assoc, if_true, Bool.false_eq_true, if_false, Nat.reduceAdd, Nat.reduceLeDiff, Nat.zero_add, Nat.le_refl, forall_const, st_BadNumberD_initD]
    refine ⟨C_BadNumber, TX, n1, .inl ⟨ha, fun d hd hda => ?_⟩⟩
    refine ⟨C_BadNumber, TX, n2, .inr ⟨d, upd_same, [("what", x)], by rw [upd_ne hda, upd_same], by show 1 ≤ 900; decide, ?_⟩⟩
    exact k d hd hda
/-- what is wished where a bottom is 0 -/
def Bot0 (CB : Addr) (H : Hp) (E : XK) : Prop := ∀ H' d, Same H H' → H' d = some (.xd [("number", .int 0), ("what", .str "bottom")]) → E (.ref CB) (some d) H'
/-- Ratio(t, b): in lowest terms -/
def spInit (C CB : Addr) : Sp := fun vs H Q E => ∃ (p dx : Addr) (t b : Int), vs = [.ref p, .int t, .int b] ∧ H p = some (.ins C dx []) ∧ b.natAbs < 2 ^ 9000 ∧
  (b ≠ 0 → Q .non (upd H p (.ins C dx (ratF (Rat.divInt t b))))) ∧ (b = 0 → Bot0 CB H E)
abbrev N_RatioD_initD : List Str := ["self", "top", "bottom", "common"]
theorem sc_RatioD_initD : FnScope N_RatioD_initD ["self", "top", "bottom"] (defScope s_RatioD_initD) := ⟨rfl, rfl, rfl, by decide +kernel, rfl, by decide +kernel, by decide +kernel⟩
theorem st_RatioD_initD {v0 v1 v2 : V} : L2.start N_RatioD_initD [v0, v1, v2] = [some v0, some v1, some v2, none] := rfl
theorem ok_RatioD_initD {f : Addr} {fd : FuncData} (F : FunD K "__init__" "Ratio.__init__" (defArgs s_RatioD_initD) (defBody s_RatioD_initD) (defScope s_RatioD_initD) [.int 1] [] f fd) {C_Ratio : Addr} (R : RatC K C_Ratio) (m_gcd : mg "gcd" = some (.builtin "math.gcd")) (g_BadNumber : Xf P w K mg base "BadNumber" C_BadNumber 1 (spX2 C_BadNumber "what" "number")) : FnOk P w K mg base (L2.CX P w) 3 f fd ["self", "top", "bottom"] (spInit C_Ratio C_BadNumber) := by
  have nd := sc_RatioD_initD.nd
  refine F.okX sc_RatioD_initD (fun vs H Q E h => ?_) (fun cdv A outer s H vs Q E hr h => ?_)
  · obtain ⟨p, dx, t, b, rfl, _⟩ := h
    rfl
  · obtain ⟨p, dx, t, b, rfl, hp, hb, k, ke⟩ := h
    refine ⟨_, (pss_cons (ps_if (pt_cmpR op_eq (pv 2) pe_int (nomark _)) (pss_one (ps_raiseX g_BadNumber hr (by decide) rfl (takes_of rfl rfl rfl rfl) rfl (pa_cons pe_str (pa_cons pe_int pa_nil)))) pss_nil)
        (pss_cons (ps_set (i := 3) nd rfl (Or.inl rfl) (pe_callBfun cr_gcd rfl m_gcd (pa_cons (pv 1) (pa_cons (pv 2) pa_nil))))
        (C8.pss_cut (ps_if (pt_cmpR op_lt (pv 2) pe_int (nomark _)) (pss_one (ps_set (i := 3) nd rfl (Or.inl rfl) (pe_un un_neg (pv 3)))) pss_nil)
        (pss_cons (ps_fld (pv 0) (pe_op op_fdivX (pv 1) (pv 3)) rfl)
        (pss_one (ps_fld (pv 0) (pe_op op_fdivX (pv 2) (pv 3)) rfl)))))), ?_⟩
    simp only [tVar, rIxTH, rIxLH, gTupH, line_le, HO.tup.injEq, HO.lst.injEq, List.length_cons, List.length_nil, at0, at1, rU, tOst, tTest, rIxL, rIxT, C8.tCut, cxOf_K, tC, tOp, tUn, tSeq, tAsg, tNext, tRet, tRetN, tDrop, tIfS, tNever, gName, gNil, gCons, gTup, gSub, tPar, rI, rI0, rU, rEq, rNe, tB, tAnd, tOr, tNot, tAndV, tOrV, tNotV, tIf, tTup, tLst, tNil, tCons, tCB, tCall, tMeth, tMake, tFld, sFld, tDGet, sDPut, tDisp, tPairs, tBreak, tCont, scal_ii, scal_bb, scal_ss, List.getElem?_cons_zero, List.getElem?_cons_succ, List.set_cons_zero, List.set_cons_succ, Option.some.injEq, exists_eq_left', exists_eq_left, exists_and_left, V.int.injEq, V.bl.injEq, V.ref.injEq, V.str.injEq, List.cons.injEq, and_true, true_and, Bool.true_eq, List.nil_append, List.append_nil, List.cons_append, exists_eq', and_self, reduceCtorEq, false_or, or_false, false_and, exists_false, exists_const, and_assoc, if_true, Bool.false_eq_true, if_false, Nat.reduceAdd, Nat.reduceLeDiff, Nat.zero_add, Nat.le_refl, forall_const, st_RatioD_initD, rGcd, tMkO, CDivX, upd_same]
    refine ite2 (fun hb0 => ?_) (fun hb0 => ?_)
    · have hb1 : b = 0 := by simpa using hb0
      refine fun a ha => ⟨a, _, _, rfl, upd_same, fun d hd hda => ⟨rfl, x2_made ha (by rw [upd_ne hda] at hd; exact hd) hda fun H2 e1 e2 => ke hb1 H2 d e1 e2⟩⟩
    · have hb1 : b ≠ 0 := by simpa using hb0
      refine ⟨fun σ' H' => H' = H ∧ σ' = [some (.ref p), some (.int t), some (.int b), some (.int (if b < 0 then -((Nat.gcd t.natAbs b.natAbs : Nat) : Int) else ((Nat.gcd t.natAbs b.natAbs : Nat) : Int)))], ?_, ?_⟩
      · by_cases hn : b < 0
        · simp only [hn, decide_true, if_true]
          exact ⟨trivial, trivial⟩
        · simp only [hn, decide_false, if_false, Bool.false_eq_true]
          exact ⟨trivial, trivial⟩
      · rintro σ' H' ⟨rfl, rfl⟩
        have l2 := HwM.log2_lt (k := 9000) (by decide) (Nat.lt_of_le_of_lt (HwM.gcd_le (t := t) hb1) hb)
        simp only [tVar, rIxTH, rIxLH, gTupH, line_le, HO.tup.injEq, HO.lst.injEq, List.length_cons, List.length_nil, at0, at1, rU, tOst, tTest, rIxL, rIxT, C8.tCut, cxOf_K, tC, tOp, tUn, tSeq, tAsg, tNext, tRet, tRetN, tDrop, tIfS, tNever, gName, gNil, gCons, gTup, gSub, tPar, rI, rI0, rU, rEq, rNe, tB, tAnd, tOr, tNot, tAndV, tOrV, tNotV, tIf, tTup, tLst, tNil, tCons, tCB, tCall, tMeth, tMake, tFld, sFld, tDGet, sDPut, tDisp, tPairs, tBreak, tCont, scal_ii, scal_bb, scal_ss, List.getElem?_cons_zero, List.getElem?_cons_succ, List.set_cons_zero, List.set_cons_succ, Option.some.injEq, exists_eq_left', exists_eq_left, exists_and_left, V.int.injEq, V.bl.injEq, V.ref.injEq, V.str.injEq, List.cons.injEq, and_true, true_and, Bool.true_eq, List.nil_append, List.append_nil, List.cons_append, exists_eq', and_self, reduceCtorEq, false_or, or_false, false_and, exists_false, exists_const, and_assoc, if_true, Bool.false_eq_true, if_false, Nat.reduceAdd, Nat.reduceLeDiff, Nat.zero_add, Nat.le_refl, forall_const, st_RatioD_initD, CDivX, upd_same]
        refine ⟨HwM.gcd_ne hb1, l2, _, _, _, hp, R.cl, R.nt, by decide, HwM.gcd_ne hb1, l2, _, _, _, rfl, R.cl, R.nb, by show 1 < 1000; decide, ?_⟩
        rw [upd_upd, HwM.num_fdiv hb1, HwM.den_fdiv hb1, ratF_put _ _ (Rat.divInt t b) rfl rfl]
        exact k hb1
theorem made_rat {C CB : Addr} {H : Hp} {t b : Int} {Q : VK} {E : XK} (hb : b.natAbs < 2 ^ 9000) (k : b ≠ 0 → ∀ H' x, Same H H' → IsR C H' x (Rat.divInt t b) → Q x H') (ke : b = 0 → Bot0 CB H E) (x dx : Addr) (hx : H x = none) (hd : H dx = none) (hne : dx ≠ x) :
    spInit C CB [.ref x, .int t, .int b] (upd (upd H dx (.own x)) x (.ins C dx [])) (fun v H2 => v = .non ∧ Q (.ref x) H2) E := by
  have sm : Same H (upd (upd H dx (.own x)) x (.ins C dx [])) := fun c o e => by rw [upd_ne (ne_of_none e hx), upd_ne (ne_of_none e hd)]; exact e
  refine ⟨x, dx, t, b, rfl, upd_same, hb, fun h => ⟨rfl, k h _ _ (fun c o e => ?_) ⟨x, dx, rfl, upd_same⟩⟩, fun h H' d e1 e2 => ke h H' d (sm.trans e1) e2⟩
  rw [upd_ne (ne_of_none e hx)]
  exact sm _ _ e
def spIsInt (K : PySem.W.Frag) (C : Addr) : Sp := fun vs H Q _ => ∃ (x : V) (i r : Bool), vs = [x] ∧ Ty K C H x i r ∧ Q (.bl i) H
abbrev N_is_integer : List Str := ["value"]
theorem sc_is_integer : FnScope N_is_integer ["value"] (defScope s_is_integer) := ⟨rfl, rfl, rfl, by decide +kernel, rfl, by decide +kernel, by decide +kernel⟩
theorem st_is_integer {v0 : V} : L2.start N_is_integer [v0] = [some v0] := rfl
theorem ok_is_integer {f : Addr} {fd : FuncData} (F : FD K s_is_integer "is_integer" "is_integer" f fd) {C_Ratio : Addr} (z_isinstance : mg "isinstance" = none) (z_bool : mg "bool" = none) (z_int : mg "int" = none) : FnOk P w K mg base (L2.CX P w) 1 f fd ["value"] (spIsInt K C_Ratio) := by
  have nd := sc_is_integer.nd
  refine F.ok0 sc_is_integer (fun vs H Q E h => ?_) (fun cdv A outer s H vs Q E hr h => ?_)
  · obtain ⟨x, i, r, rfl, _⟩ := h
    rfl
  · obtain ⟨x, i, r, rfl, hT, k⟩ := h
    obtain ⟨t, bI, bB, ty, e1, e2, rfl, e3, nf⟩ := hT.ex
    refine ⟨_, (pss_one (ps_ret (pe_and (pe_callB (id := "isinstance") (r := rIsi K) (call_isiE rfl) (by rfl) z_isinstance (by decide +kernel) (pa_cons (pv 0) (pa_cons (pe_bltn (v := .ty "int") rfl z_int (by decide +kernel) rfl) pa_nil))) (pe_one (pe_not (pe_callB (id := "isinstance") (r := rIsi K) (call_isiE rfl) (by rfl) z_isinstance (by decide +kernel) (pa_cons (pv 0) (pa_cons (pe_bltn (v := .ty "bool") rfl z_bool (by decide +kernel) rfl) pa_nil)))))))), ?_⟩
    simp only [tVar, rIxTH, rIxLH, gTupH, line_le, HO.tup.injEq, HO.lst.injEq, List.length_cons, List.length_nil, at0, at1, rU, tOst, tTest, rIxL, rIxT, C8.tCut, cxOf_K, tC, tOp, tUn, tSeq, tAsg, tNext, tRet, tRetN, tDrop, tIfS, tNever, gName, gNil, gCons, gTup, gSub, tPar, rI, rI0, rU, rEq, rNe, tB, tAnd, tOr, tNot, tAndV, tOrV, tNotV, tIf, tTup, tLst, tNil, tCons, tCB, tCall, tMeth, tMake, tFld, sFld, tDGet, sDPut, tDisp, tPairs, tBreak, tCont, scal_ii, scal_bb, scal_ss, List.getElem?_cons_zero, List.getElem?_cons_succ, List.set_cons_zero, List.set_cons_succ, Option.some.injEq, exists_eq_left', exists_eq_left, exists_and_left, V.int.injEq, V.bl.injEq, V.ref.injEq, V.str.injEq, List.cons.injEq, and_true, true_and, Bool.true_eq, List.nil_append, List.append_nil, List.cons_append, exists_eq', and_self, reduceCtorEq, false_or, or_false, false_and, exists_false, exists_const, and_assoc, if_true, Bool.false_eq_true, if_false, Nat.reduceAdd, Nat.reduceLeDiff, Nat.zero_add, Nat.le_refl, forall_const, st_is_integer, rIsi]
    refine ⟨t, .type "int", .ty _, ty, bI, e1, ?_⟩
    cases bI with
    | true => exact iteT ⟨t, .type "bool", .ty _, ty, bB, e2, by simpa using k⟩
    | false => exact iteF (by simpa using k)
def spIsRat (K : PySem.W.Frag) (C : Addr) : Sp := fun vs H Q _ => ∃ (x : V) (i r : Bool), vs = [x] ∧ Ty K C H x i r ∧ Q (.bl (r || i)) H
abbrev N_is_ratio : List Str := ["value"]
theorem sc_is_ratio : FnScope N_is_ratio ["value"] (defScope s_is_ratio) := ⟨rfl, rfl, rfl, by decide +kernel, rfl, by decide +kernel, by decide +kernel⟩
theorem st_is_ratio {v0 : V} : L2.start N_is_ratio [v0] = [some v0] := rfl
theorem ok_is_ratio {f : Addr} {fd : FuncData} (F : FD K s_is_ratio "is_ratio" "is_ratio" f fd) {C_Ratio : Addr} (z_isinstance : mg "isinstance" = none) (m_Ratio : mg "Ratio" = some (.ref C_Ratio)) (g_is_integer : Gf P w K mg base "is_integer" 1 ["value"] (spIsInt K C_Ratio)) : FnOk P w K mg base (L2.CX P w) 2 f fd ["value"] (spIsRat K C_Ratio) := by
  have nd := sc_is_ratio.nd
  refine F.ok0 sc_is_ratio (fun vs H Q E h => ?_) (fun cdv A outer s H vs Q E hr h => ?_)
  · obtain ⟨x, i, r, rfl, _⟩ := h
    rfl
  · obtain ⟨x, i, r, rfl, hT, k⟩ := h
    obtain ⟨t, bI, bB, ty, e1, e2, e4, e3, nf⟩ := hT.ex
    refine ⟨_, (pss_one (ps_ret (pe_or (pe_callB (id := "isinstance") (r := rIsi K) (call_isiE rfl) (by rfl) z_isinstance (by decide +kernel) (pa_cons (pv 0) (pa_cons (pe_glob (v := .ref C_Ratio) rfl m_Ratio rfl) pa_nil))) (pe_one (pe_g g_is_integer hr (by decide) passL rfl (pa_cons (pv 0) pa_nil)))))), ?_⟩
    simp only [tVar, rIxTH, rIxLH, gTupH, line_le, HO.tup.injEq, HO.lst.injEq, List.length_cons, List.length_nil, at0, at1, rU, tOst, tTest, rIxL, rIxT, C8.tCut, cxOf_K, tC, tOp, tUn, tSeq, tAsg, tNext, tRet, tRetN, tDrop, tIfS, tNever, gName, gNil, gCons, gTup, gSub, tPar, rI, rI0, rU, rEq, rNe, tB, tAnd, tOr, tNot, tAndV, tOrV, tNotV, tIf, tTup, tLst, tNil, tCons, tCB, tCall, tMeth, tMake, tFld, sFld, tDGet, sDPut, tDisp, tPairs, tBreak, tCont, scal_ii, scal_bb, scal_ss, List.getElem?_cons_zero, List.getElem?_cons_succ, List.set_cons_zero, List.set_cons_succ, Option.some.injEq, exists_eq_left', exists_eq_left, exists_and_left, V.int.injEq, V.bl.injEq, V.ref.injEq, V.str.injEq, List.cons.injEq, and_true, true_and, Bool.true_eq, List.nil_append, List.append_nil, List.cons_append, exists_eq', and_self, reduceCtorEq, false_or, or_false, false_and, exists_false, exists_const, and_assoc, if_true, Bool.false_eq_true, if_false, Nat.reduceAdd, Nat.reduceLeDiff, Nat.zero_add, Nat.le_refl, forall_const, st_is_ratio, rIsi]
    refine ⟨t, .ref C_Ratio, .own _, ty, r, e3, ?_⟩
    cases r with
    | true => exact iteT k
    | false => exact iteF ⟨x, i, false, rfl, hT, k⟩
def spAs (C : Addr) : Sp := fun vs H Q _ => ∃ (x : V) (q : Rat), vs = [x] ∧ AsR C H x q ∧ ∀ H' y, Same H H' → IsR C H' y q → Q y H'
abbrev N_as_ratio : List Str := ["value"]
theorem sc_as_ratio : FnScope N_as_ratio ["value"] (defScope s_as_ratio) := ⟨rfl, rfl, rfl, by decide +kernel, rfl, by decide +kernel, by decide +kernel⟩
theorem st_as_ratio {v0 : V} : L2.start N_as_ratio [v0] = [some v0] := rfl
theorem ok_as_ratio {f : Addr} {fd : FuncData} (F : FD K s_as_ratio "as_ratio" "as_ratio" f fd) {C_Ratio C_BadNumber : Addr} (R : RatC K C_Ratio) (z_isinstance : mg "isinstance" = none) (m_Ratio : mg "Ratio" = some (.ref C_Ratio)) (g_Ratio1 : Kf P w K mg base "Ratio" C_Ratio 3 ["self", "top", "bottom"] [.int 1] (spInit C_Ratio C_BadNumber)) : FnOk P w K mg base (L2.CX P w) 5 f fd ["value"] (spAs C_Ratio) := by
  have nd := sc_as_ratio.nd
  refine F.ok0 sc_as_ratio (fun vs H Q E h => ?_) (fun cdv A outer s H vs Q E hr h => ?_)
  · obtain ⟨x, q, rfl, _⟩ := h
    rfl
  · obtain ⟨x, q, rfl, hx, k⟩ := h
    refine ⟨_, (pss_one (ps_ret (pe_ifExp (pt_val (pe_callB (id := "isinstance") (r := rIsi K) (call_isiE rfl) (by rfl) z_isinstance (by decide +kernel) (pa_cons (pv 0) (pa_cons (pe_glob (v := .ref C_Ratio) rfl m_Ratio rfl) pa_nil)))) (pv 0) (pe_k g_Ratio1 hr (by decide) passL rfl (pa_cons (pv 0) pa_nil))))), ?_⟩
    simp only [tVar, rIxTH, rIxLH, gTupH, line_le, HO.tup.injEq, HO.lst.injEq, List.length_cons, List.length_nil, at0, at1, rU, tOst, tTest, rIxL, rIxT, C8.tCut, cxOf_K, tC, tOp, tUn, tSeq, tAsg, tNext, tRet, tRetN, tDrop, tIfS, tNever, gName, gNil, gCons, gTup, gSub, tPar, rI, rI0, rU, rEq, rNe, tB, tAnd, tOr, tNot, tAndV, tOrV, tNotV, tIf, tTup, tLst, tNil, tCons, tCB, tCall, tMeth, tMake, tFld, sFld, tDGet, sDPut, tDisp, tPairs, tBreak, tCont, scal_ii, scal_bb, scal_ss, List.getElem?_cons_zero, List.getElem?_cons_succ, List.set_cons_zero, List.set_cons_succ, Option.some.injEq, exists_eq_left', exists_eq_left, exists_and_left, V.int.injEq, V.bl.injEq, V.ref.injEq, V.str.injEq, List.cons.injEq, and_true, true_and, Bool.true_eq, List.nil_append, List.append_nil, List.cons_append, exists_eq', and_self, reduceCtorEq, false_or, or_false, false_and, exists_false, exists_const, and_assoc, if_true, Bool.false_eq_true, if_false, Nat.reduceAdd, Nat.reduceLeDiff, Nat.zero_add, Nat.le_refl, forall_const, st_as_ratio, rIsi]
    rcases hx with hx | ⟨i, rfl, rfl⟩
    · obtain ⟨t, bI, bB, ty, e1, e2, e4, e3, nf⟩ := (ty_rat R hx.inst).ex
      exact ⟨t, .ref C_Ratio, .own _, ty, true, e3, iteT (k _ _ (Same.refl _) hx)⟩
    · obtain ⟨t, bI, bB, ty, e1, e2, e4, e3, nf⟩ := (ty_int R (H := H) i).ex
      refine ⟨t, .ref C_Ratio, .own _, ty, false, e3, iteF ?_⟩
      exact made_rat (by decide) (fun _ H' y e1 e2 => k H' y e1 (by rw [HwM.int_eq] at e2; exact e2)) (fun z => by cases z)


end HwL
end

section
namespace HwL
open PySem PySem.Spec PyProof.Rows L2 LamX HwP
variable {P : Program} {w : World} {K : PySem.W.Frag} {mg : Str → Option Value} {base : Heap}

def spBin (C : Addr) (g : Rat → Rat → Rat) : Sp := fun vs H Q _ => ∃ (x y : V) (q r : Rat), vs = [x, y] ∧ IsR C H x q ∧ AsR C H y r ∧ HwM.Bd 4000 q ∧ HwM.Bd 4000 r ∧ ∀ H' z, Same H H' → IsR C H' z (g q r) → Q z H'
theorem cm_nd {q r : Rat} (a : HwM.Bd 4000 q) (b : HwM.Bd 4000 r) : CMulW q.num (r.den : Int) := wide_mul a.1 (by simpa using b.2) (by decide) (by decide) (by decide)
theorem cm_dn {q r : Rat} (a : HwM.Bd 4000 q) (b : HwM.Bd 4000 r) : CMulW (q.den : Int) r.num := wide_mul (by simpa using a.2) b.1 (by decide) (by decide) (by decide)
theorem cm_dd {q r : Rat} (a : HwM.Bd 4000 q) (b : HwM.Bd 4000 r) : CMulW (q.den : Int) (r.den : Int) := wide_mul (by simpa using a.2) (by simpa using b.2) (by decide) (by decide) (by decide)
theorem cm_nn {q r : Rat} (a : HwM.Bd 4000 q) (b : HwM.Bd 4000 r) : CMulW q.num r.num := wide_mul a.1 b.1 (by decide) (by decide) (by decide)
theorem big_dd {q r : Rat} (a : HwM.Bd 4000 q) (b : HwM.Bd 4000 r) : ((q.den : Int) * r.den).natAbs < 2 ^ 9000 := HwM.lt_mono (HwM.den_bd a b) (by decide)
abbrev N_RatioD_addD : List Str := ["self", "other", "term"]
theorem sc_RatioD_addD : FnScope N_RatioD_addD ["self", "other"] (defScope s_RatioD_addD) := ⟨rfl, rfl, rfl, by decide +kernel, rfl, by decide +kernel, by decide +kernel⟩
theorem st_RatioD_addD {v0 v1 : V} : L2.start N_RatioD_addD [v0, v1] = [some v0, some v1, none] := rfl
theorem ok_RatioD_addD {f : Addr} {fd : FuncData} (F : FD K s_RatioD_addD "__add__" "Ratio.__add__" f fd) {C_Ratio C_BadNumber : Addr} (R : RatC K C_Ratio) (g_Ratio : Kf P w K mg base "Ratio" C_Ratio 3 ["self", "top", "bottom"] [] (spInit C_Ratio C_BadNumber)) (g_as_ratio : Gf P w K mg base "as_ratio" 5 ["value"] (spAs C_Ratio)) (g_is_ratio : Gf P w K mg base "is_ratio" 2 ["value"] (spIsRat K C_Ratio)) : FnOk P w K mg base (L2.CX P w) 6 f fd ["self", "other"] (spBin C_Ratio (fun q r => q + r)) := by
  have nd := sc_RatioD_addD.nd
  refine F.ok0 sc_RatioD_addD (fun vs H Q E h => ?_) (fun cdv A outer s H vs Q E hr h => ?_)
  · obtain ⟨x, y, q, r, rfl, _⟩ := h
    rfl
  · obtain ⟨x, y, q, r, rfl, hx, hy, bq, br, k⟩ := h
    obtain ⟨i, b, hT, hir⟩ := ty_as R hy
    refine ⟨_, (pss_cons (ps_if (pt_not (pt_val (pe_g g_is_ratio hr (by decide) passL rfl (pa_cons (pv 1) pa_nil)))) (pss_one (ps_never)) pss_nil)
        (pss_cons (ps_set (i := 2) nd rfl (Or.inl rfl) (pe_g g_as_ratio hr (by decide) passL rfl (pa_cons (pv 1) pa_nil)))
        (pss_one (ps_ret (pe_k g_Ratio hr (by decide) passL rfl (pa_cons (pe_op op_add (pe_op op_mulW (pe_fld (pv 0) rfl) (pe_fld (pv 2) rfl)) (pe_op op_mulW (pe_fld (pv 2) rfl) (pe_fld (pv 0) rfl))) (pa_cons (pe_op op_mulW (pe_fld (pv 0) rfl) (pe_fld (pv 2) rfl)) pa_nil))))))), ?_⟩
    simp only [tVar, rIxTH, rIxLH, gTupH, line_le, HO.tup.injEq, HO.lst.injEq, List.length_cons, List.length_nil, at0, at1, rU, tOst, tTest, rIxL, rIxT, C8.tCut, cxOf_K, tC, tOp, tUn, tSeq, tAsg, tNext, tRet, tRetN, tDrop, tIfS, tNever, gName, gNil, gCons, gTup, gSub, tPar, rI, rI0, rU, rEq, rNe, tB, tAnd, tOr, tNot, tAndV, tOrV, tNotV, tIf, tTup, tLst, tNil, tCons, tCB, tCall, tMeth, tMake, tFld, sFld, tDGet, sDPut, tDisp, tPairs, tBreak, tCont, scal_ii, scal_bb, scal_ss, List.getElem?_cons_zero, List.getElem?_cons_succ, List.set_cons_zero, List.set_cons_succ, Option.some.injEq, exists_eq_left', exists_eq_left, exists_and_left, V.int.injEq, V.bl.injEq, V.ref.injEq, V.str.injEq, List.cons.injEq, and_true, true_and, Bool.true_eq, List.nil_append, List.append_nil, List.cons_append, exists_eq', and_self, reduceCtorEq, false_or, or_false, false_and, exists_false, exists_const, and_assoc, if_true, Bool.false_eq_true, if_false, Nat.reduceAdd, Nat.reduceLeDiff, Nat.zero_add, Nat.le_refl, forall_const, st_RatioD_addD]
    refine ⟨y, i, b, rfl, hT, _, rfl, ?_⟩
    rw [hir]
    refine iteF ?_
    refine ⟨y, r, rfl, hy, fun H1 z s1 hz => ?_⟩
    obtain ⟨a, dx, rfl, ha⟩ := hx.same s1
    obtain ⟨c, dz, rfl, hc⟩ := hz
    simp only [tVar, rIxTH, rIxLH, gTupH, line_le, HO.tup.injEq, HO.lst.injEq, List.length_cons, List.length_nil, at0, at1, rU, tOst, tTest, rIxL, rIxT, C8.tCut, cxOf_K, tC, tOp, tUn, tSeq, tAsg, tNext, tRet, tRetN, tDrop, tIfS, tNever, gName, gNil, gCons, gTup, gSub, tPar, rI, rI0, rU, rEq, rNe, tB, tAnd, tOr, tNot, tAndV, tOrV, tNotV, tIf, tTup, tLst, tNil, tCons, tCB, tCall, tMeth, tMake, tFld, sFld, tDGet, sDPut, tDisp, tPairs, tBreak, tCont, scal_ii, scal_bb, scal_ss, List.getElem?_cons_zero, List.getElem?_cons_succ, List.set_cons_zero, List.set_cons_succ, Option.some.injEq, exists_eq_left', exists_eq_left, exists_and_left, V.int.injEq, V.bl.injEq, V.ref.injEq, V.str.injEq, List.cons.injEq, and_true, true_and, Bool.true_eq, List.nil_append, List.append_nil, List.cons_append, exists_eq', and_self, reduceCtorEq, false_or, or_false, false_and, exists_false, exists_const, and_assoc, if_true, Bool.false_eq_true, if_false, Nat.reduceAdd, Nat.reduceLeDiff, Nat.zero_add, Nat.le_refl, forall_const, st_RatioD_addD, HO.ins.injEq, R.cl, R.nt, R.nb, ratF_top, ratF_bottom, ha, hc, cm_nd bq br, cm_nd br bq, cm_dd bq br, cm_nn bq br]
    exact made_rat (big_dd bq br) (fun _ H2 z e1 e2 => k H2 z (s1.trans e1) (by rw [HwM.add_eq] at e2; exact e2)) (fun z => absurd z (HwM.dens_ne q r))
abbrev N_RatioD_subD : List Str := ["self", "other", "term"]
theorem sc_RatioD_subD : FnScope N_RatioD_subD ["self", "other"] (defScope s_RatioD_subD) := ⟨rfl, rfl, rfl, by decide +kernel, rfl, by decide +kernel, by decide +kernel⟩
theorem st_RatioD_subD {v0 v1 : V} : L2.start N_RatioD_subD [v0, v1] = [some v0, some v1, none] := rfl
theorem ok_RatioD_subD {f : Addr} {fd : FuncData} (F : FD K s_RatioD_subD "__sub__" "Ratio.__sub__" f fd) {C_Ratio C_BadNumber : Addr} (R : RatC K C_Ratio) (g_Ratio : Kf P w K mg base "Ratio" C_Ratio 3 ["self", "top", "bottom"] [] (spInit C_Ratio C_BadNumber)) (g_as_ratio : Gf P w K mg base "as_ratio" 5 ["value"] (spAs C_Ratio)) (g_is_ratio : Gf P w K mg base "is_ratio" 2 ["value"] (spIsRat K C_Ratio)) : FnOk P w K mg base (L2.CX P w) 6 f fd ["self", "other"] (spBin C_Ratio (fun q r => q - r)) := by
  have nd := sc_RatioD_subD.nd
  refine F.ok0 sc_RatioD_subD (fun vs H Q E h => ?_) (fun cdv A outer s H vs Q E hr h => ?_)
  · obtain ⟨x, y, q, r, rfl, _⟩ := h
    rfl
  · obtain ⟨x, y, q, r, rfl, hx, hy, bq, br, k⟩ := h
    obtain ⟨i, b, hT, hir⟩ := ty_as R hy
    refine ⟨_, (pss_cons (ps_if (pt_not (pt_val (pe_g g_is_ratio hr (by decide) passL rfl (pa_cons (pv 1) pa_nil)))) (pss_one (ps_never)) pss_nil)
        (pss_cons (ps_set (i := 2) nd rfl (Or.inl rfl) (pe_g g_as_ratio hr (by decide) passL rfl (pa_cons (pv 1) pa_nil)))
        (pss_one (ps_ret (pe_k g_Ratio hr (by decide) passL rfl (pa_cons (pe_op op_sub (pe_op op_mulW (pe_fld (pv 0) rfl) (pe_fld (pv 2) rfl)) (pe_op op_mulW (pe_fld (pv 2) rfl) (pe_fld (pv 0) rfl))) (pa_cons (pe_op op_mulW (pe_fld (pv 0) rfl) (pe_fld (pv 2) rfl)) pa_nil))))))), ?_⟩
    simp only [tVar, rIxTH, rIxLH, gTupH, line_le, HO.tup.injEq, HO.lst.injEq, List.length_cons, List.length_nil, at0, at1, rU, tOst, tTest, rIxL, rIxT, C8.tCut, cxOf_K, tC, tOp, tUn, tSeq, tAsg, tNext, tRet, tRetN, tDrop, tIfS, tNever, gName, gNil, gCons, gTup, gSub, tPar, rI, rI0, rU, rEq, rNe, tB, tAnd, tOr, tNot, tAndV, tOrV, tNotV, tIf, tTup, tLst, tNil, tCons, tCB, tCall, tMeth, tMake, tFld, sFld, tDGet, sDPut, tDisp, tPairs, tBreak, tCont, scal_ii, scal_bb, scal_ss, List.getElem?_cons_zero, List.getElem?_cons_succ, List.set_cons_zero, List.set_cons_succ, Option.some.injEq, exists_eq_left', exists_eq_left, exists_and_left, V.int.injEq, V.bl.injEq, V.ref.injEq, V.str.injEq, List.cons.injEq, and_true, true_and, Bool.true_eq, List.nil_append, List.append_nil, List.cons_append, exists_eq', and_self, reduceCtorEq, false_or, or_false, false_and, exists_false, exists_const, and_assoc, if_true, Bool.false_eq_true, if_false, Nat.reduceAdd, Nat.reduceLeDiff, Nat.zero_add, Nat.le_refl, forall_const, st_RatioD_subD]
    refine ⟨y, i, b, rfl, hT, _, rfl, ?_⟩
    rw [hir]
    refine iteF ?_
    refine ⟨y, r, rfl, hy, fun H1 z s1 hz => ?_⟩
    obtain ⟨a, dx, rfl, ha⟩ := hx.same s1
    obtain ⟨c, dz, rfl, hc⟩ := hz
    simp only [tVar, rIxTH, rIxLH, gTupH, line_le, HO.tup.injEq, HO.lst.injEq, List.length_cons, List.length_nil, at0, at1, rU, tOst, tTest, rIxL, rIxT, C8.tCut, cxOf_K, tC, tOp, tUn, tSeq, tAsg, tNext, tRet, tRetN, tDrop, tIfS, tNever, gName, gNil, gCons, gTup, gSub, tPar, rI, rI0, rU, rEq, rNe, tB, tAnd, tOr, tNot, tAndV, tOrV, tNotV, tIf, tTup, tLst, tNil, tCons, tCB, tCall, tMeth, tMake, tFld, sFld, tDGet, sDPut, tDisp, tPairs, tBreak, tCont, scal_ii, scal_bb, scal_ss, List.getElem?_cons_zero, List.getElem?_cons_succ, List.set_cons_zero, List.set_cons_succ, Option.some.injEq, exists_eq_left', exists_eq_left, exists_and_left, V.int.injEq, V.bl.injEq, V.ref.injEq, V.str.injEq, List.cons.injEq, and_true, true_and, Bool.true_eq, List.nil_append, List.append_nil, List.cons_append, exists_eq', and_self, reduceCtorEq, false_or, or_false, false_and, exists_false, exists_const, and_assoc, if_true, Bool.false_eq_true, if_false, Nat.reduceAdd, Nat.reduceLeDiff, Nat.zero_add, Nat.le_refl, forall_const, st_RatioD_subD, HO.ins.injEq, R.cl, R.nt, R.nb, ratF_top, ratF_bottom, ha, hc, cm_nd bq br, cm_nd br bq, cm_dd bq br, cm_nn bq br]
    exact made_rat (big_dd bq br) (fun _ H2 z e1 e2 => k H2 z (s1.trans e1) (by rw [HwM.sub_eq] at e2; exact e2)) (fun z => absurd z (HwM.dens_ne q r))
abbrev N_RatioD_mulD : List Str := ["self", "other", "factor"]
theorem sc_RatioD_mulD : FnScope N_RatioD_mulD ["self", "other"] (defScope s_RatioD_mulD) := ⟨rfl, rfl, rfl, by decide +kernel, rfl, by decide +kernel, by decide +kernel⟩
theorem st_RatioD_mulD {v0 v1 : V} : L2.start N_RatioD_mulD [v0, v1] = [some v0, some v1, none] := rfl
theorem ok_RatioD_mulD {f : Addr} {fd : FuncData} (F : FD K s_RatioD_mulD "__mul__" "Ratio.__mul__" f fd) {C_Ratio C_BadNumber : Addr} (R : RatC K C_Ratio) (g_Ratio : Kf P w K mg base "Ratio" C_Ratio 3 ["self", "top", "bottom"] [] (spInit C_Ratio C_BadNumber)) (g_as_ratio : Gf P w K mg base "as_ratio" 5 ["value"] (spAs C_Ratio)) (g_is_ratio : Gf P w K mg base "is_ratio" 2 ["value"] (spIsRat K C_Ratio)) : FnOk P w K mg base (L2.CX P w) 6 f fd ["self", "other"] (spBin C_Ratio (fun q r => q * r)) := by
  have nd := sc_RatioD_mulD.nd
  refine F.ok0 sc_RatioD_mulD (fun vs H Q E h => ?_) (fun cdv A outer s H vs Q E hr h => ?_)
  · obtain ⟨x, y, q, r, rfl, _⟩ := h
    rfl
  · obtain ⟨x, y, q, r, rfl, hx, hy, bq, br, k⟩ := h
    obtain ⟨i, b, hT, hir⟩ := ty_as R hy
    refine ⟨_, (pss_cons (ps_if (pt_not (pt_val (pe_g g_is_ratio hr (by decide) passL rfl (pa_cons (pv 1) pa_nil)))) (pss_one (ps_never)) pss_nil)
        (pss_cons (ps_set (i := 2) nd rfl (Or.inl rfl) (pe_g g_as_ratio hr (by decide) passL rfl (pa_cons (pv 1) pa_nil)))
        (pss_one (ps_ret (pe_k g_Ratio hr (by decide) passL rfl (pa_cons (pe_op op_mulW (pe_fld (pv 0) rfl) (pe_fld (pv 2) rfl)) (pa_cons (pe_op op_mulW (pe_fld (pv 0) rfl) (pe_fld (pv 2) rfl)) pa_nil))))))), ?_⟩
    simp only [tVar, rIxTH, rIxLH, gTupH, line_le, HO.tup.injEq, HO.lst.injEq, List.length_cons, List.length_nil, at0, at1, rU, tOst, tTest, rIxL, rIxT, C8.tCut, cxOf_K, tC, tOp, tUn, tSeq, tAsg, tNext, tRet, tRetN, tDrop, tIfS, tNever, gName, gNil, gCons, gTup, gSub, tPar, rI, rI0, rU, rEq, rNe, tB, tAnd, tOr, tNot, tAndV, tOrV, tNotV, tIf, tTup, tLst, tNil, tCons, tCB, tCall, tMeth, tMake, tFld, sFld, tDGet, sDPut, tDisp, tPairs, tBreak, tCont, scal_ii, scal_bb, scal_ss, List.getElem?_cons_zero, List.getElem?_cons_succ, List.set_cons_zero, List.set_cons_succ, Option.some.injEq, exists_eq_left', exists_eq_left, exists_and_left, V.int.injEq, V.bl.injEq, V.ref.injEq, V.str.injEq, List.cons.injEq, and_true, true_and, Bool.true_eq, List.nil_append, List.append_nil, List.cons_append, exists_eq', and_self, reduceCtorEq, false_or, or_false, false_and, exists_false, exists_const, and_assoc, if_true, Bool.false_eq_true, if_false, Nat.reduceAdd, Nat.reduceLeDiff, Nat.zero_add, Nat.le_refl, forall_const, st_RatioD_mulD]
    refine ⟨y, i, b, rfl, hT, _, rfl, ?_⟩
    rw [hir]
    refine iteF ?_
    refine ⟨y, r, rfl, hy, fun H1 z s1 hz => ?_⟩
    obtain ⟨a, dx, rfl, ha⟩ := hx.same s1
    obtain ⟨c, dz, rfl, hc⟩ := hz
    simp only [tVar, rIxTH, rIxLH, gTupH, line_le, HO.tup.injEq, HO.lst.injEq, List.length_cons, List.length_nil, at0, at1, rU, tOst, tTest, rIxL, rIxT, C8.tCut, cxOf_K, tC, tOp, tUn, tSeq, tAsg, tNext, tRet, tRetN, tDrop, tIfS, tNever, gName, gNil, gCons, gTup, gSub, tPar, rI, rI0, rU, rEq, rNe, tB, tAnd, tOr, tNot, tAndV, tOrV, tNotV, tIf, tTup, tLst, tNil, tCons, tCB, tCall, tMeth, tMake, tFld, sFld, tDGet, sDPut, tDisp, tPairs, tBreak, tCont, scal_ii, scal_bb, scal_ss, List.getElem?_cons_zero, List.getElem?_cons_succ, List.set_cons_zero, List.set_cons_succ, Option.some.injEq, exists_eq_left', exists_eq_left, exists_and_left, V.int.injEq, V.bl.injEq, V.ref.injEq, V.str.injEq, List.cons.injEq, and_true, true_and, Bool.true_eq, List.nil_append, List.append_nil, List.cons_append, exists_eq', and_self, reduceCtorEq, false_or, or_false, false_and, exists_false, exists_const, and_assoc, if_true, Bool.false_eq_true, if_false, Nat.reduceAdd, Nat.reduceLeDiff, Nat.zero_add, Nat.le_refl, forall_const, st_RatioD_mulD, HO.ins.injEq, R.cl, R.nt, R.nb, ratF_top, ratF_bottom, ha, hc, cm_nd bq br, cm_nd br bq, cm_dd bq br, cm_nn bq br]
    exact made_rat (big_dd bq br) (fun _ H2 z e1 e2 => k H2 z (s1.trans e1) (by rw [HwM.mul_eq] at e2; exact e2)) (fun z => absurd z (HwM.dens_ne q r))
def spNeg (C : Addr) : Sp := fun vs H Q _ => ∃ (x : V) (q : Rat), vs = [x] ∧ IsR C H x q ∧ HwM.Bd 4000 q ∧ ∀ H' z, Same H H' → IsR C H' z (-q) → Q z H'
abbrev N_RatioD_negD : List Str := ["self"]
theorem sc_RatioD_negD : FnScope N_RatioD_negD ["self"] (defScope s_RatioD_negD) := ⟨rfl, rfl, rfl, by decide +kernel, rfl, by decide +kernel, by decide +kernel⟩
theorem st_RatioD_negD {v0 : V} : L2.start N_RatioD_negD [v0] = [some v0] := rfl
theorem ok_RatioD_negD {f : Addr} {fd : FuncData} (F : FD K s_RatioD_negD "__neg__" "Ratio.__neg__" f fd) {C_Ratio C_BadNumber : Addr} (R : RatC K C_Ratio) (g_Ratio : Kf P w K mg base "Ratio" C_Ratio 3 ["self", "top", "bottom"] [] (spInit C_Ratio C_BadNumber)) : FnOk P w K mg base (L2.CX P w) 5 f fd ["self"] (spNeg C_Ratio) := by
  have nd := sc_RatioD_negD.nd
  refine F.ok0 sc_RatioD_negD (fun vs H Q E h => ?_) (fun cdv A outer s H vs Q E hr h => ?_)
  · obtain ⟨x, q, rfl, _⟩ := h
    rfl
  · obtain ⟨x, q, rfl, hx, bq, k⟩ := h
    obtain ⟨a, dx, rfl, ha⟩ := hx
    refine ⟨_, (pss_one (ps_ret (pe_k g_Ratio hr (by decide) passL rfl (pa_cons (pe_un un_neg (pe_fld (pv 0) rfl)) (pa_cons (pe_fld (pv 0) rfl) pa_nil))))), ?_⟩
    simp only [tVar, rIxTH, rIxLH, gTupH, line_le, HO.tup.injEq, HO.lst.injEq, List.length_cons, List.length_nil, at0, at1, rU, tOst, tTest, rIxL, rIxT, C8.tCut, cxOf_K, tC, tOp, tUn, tSeq, tAsg, tNext, tRet, tRetN, tDrop, tIfS, tNever, gName, gNil, gCons, gTup, gSub, tPar, rI, rI0, rU, rEq, rNe, tB, tAnd, tOr, tNot, tAndV, tOrV, tNotV, tIf, tTup, tLst, tNil, tCons, tCB, tCall, tMeth, tMake, tFld, sFld, tDGet, sDPut, tDisp, tPairs, tBreak, tCont, scal_ii, scal_bb, scal_ss, List.getElem?_cons_zero, List.getElem?_cons_succ, List.set_cons_zero, List.set_cons_succ, Option.some.injEq, exists_eq_left', exists_eq_left, exists_and_left, V.int.injEq, V.bl.injEq, V.ref.injEq, V.str.injEq, List.cons.injEq, and_true, true_and, Bool.true_eq, List.nil_append, List.append_nil, List.cons_append, exists_eq', and_self, reduceCtorEq, false_or, or_false, false_and, exists_false, exists_const, and_assoc, if_true, Bool.false_eq_true, if_false, Nat.reduceAdd, Nat.reduceLeDiff, Nat.zero_add, Nat.le_refl, forall_const, st_RatioD_negD, HO.ins.injEq, R.cl, R.nt, R.nb, ratF_top, ratF_bottom, ha]
    exact made_rat (HwM.lt_mono (by simpa using bq.2) (by decide)) (fun _ H2 z e1 e2 => k H2 z e1 (by rw [HwM.neg_eq] at e2; exact e2)) (fun z => absurd z (HwM.den_ne q))
/-- == with a value of any kind: whether it is the same number -/
def spEqR (K : PySem.W.Frag) (C : Addr) : Sp := fun vs H Q _ => ∃ (x y : V) (q : Rat), vs = [x, y] ∧ IsR C H x q ∧
  ((∃ r, AsR C H y r ∧ Q (.bl (decide (q = r))) H) ∨ (Ty K C H y false false ∧ Q (.bl false) H))
abbrev N_RatioD_eqD : List Str := ["self", "other"]
theorem sc_RatioD_eqD : FnScope N_RatioD_eqD ["self", "other"] (defScope s_RatioD_eqD) := ⟨rfl, rfl, rfl, by decide +kernel, rfl, by decide +kernel, by decide +kernel⟩
theorem st_RatioD_eqD {v0 v1 : V} : L2.start N_RatioD_eqD [v0, v1] = [some v0, some v1] := rfl
theorem ok_RatioD_eqD {f : Addr} {fd : FuncData} (F : FD K s_RatioD_eqD "__eq__" "Ratio.__eq__" f fd) {C_Ratio : Addr} (R : RatC K C_Ratio) (z_isinstance : mg "isinstance" = none) (m_Ratio : mg "Ratio" = some (.ref C_Ratio)) (g_is_integer : Gf P w K mg base "is_integer" 1 ["value"] (spIsInt K C_Ratio)) : FnOk P w K mg base (L2.CX P w) 2 f fd ["self", "other"] (spEqR K C_Ratio) := by
  have nd := sc_RatioD_eqD.nd
  refine F.ok0 sc_RatioD_eqD (fun vs H Q E h => ?_) (fun cdv A outer s H vs Q E hr h => ?_)
  · obtain ⟨x, y, q, rfl, _⟩ := h
    rfl
  · obtain ⟨x, y, q, rfl, hx, hy⟩ := h
    obtain ⟨a, dx, rfl, ha⟩ := hx
    refine ⟨_, (pss_cons (ps_if (pt_val (pe_g g_is_integer hr (by decide) passL rfl (pa_cons (pv 1) pa_nil))) (pss_one (ps_ret (pe_and (pe_cmpR op_eq (pe_fld (pv 0) rfl) pe_int (nomark _)) (pe_one (pe_cmpR op_eq (pe_fld (pv 0) rfl) (pv 1) (nomark _)))))) pss_nil)
        (pss_one (ps_ret (pe_and (pe_callB (id := "isinstance") (r := rIsi K) (call_isiE rfl) (by rfl) z_isinstance (by decide +kernel) (pa_cons (pv 1) (pa_cons (pe_glob (v := .ref C_Ratio) rfl m_Ratio rfl) pa_nil))) (pe_and (pe_cmpR op_eq (pe_fld (pv 0) rfl) (pe_fld (pv 1) rfl) (nomark _)) (pe_one (pe_cmpR op_eq (pe_fld (pv 0) rfl) (pe_fld (pv 1) rfl) (nomark _)))))))), ?_⟩
    simp only [tVar, rIxTH, rIxLH, gTupH, line_le, HO.tup.injEq, HO.lst.injEq, List.length_cons, List.length_nil, at0, at1, rU, tOst, tTest, rIxL, rIxT, C8.tCut, cxOf_K, tC, tOp, tUn, tSeq, tAsg, tNext, tRet, tRetN, tDrop, tIfS, tNever, gName, gNil, gCons, gTup, gSub, tPar, rI, rI0, rU, rEq, rNe, tB, tAnd, tOr, tNot, tAndV, tOrV, tNotV, tIf, tTup, tLst, tNil, tCons, tCB, tCall, tMeth, tMake, tFld, sFld, tDGet, sDPut, tDisp, tPairs, tBreak, tCont, scal_ii, scal_bb, scal_ss, List.getElem?_cons_zero, List.getElem?_cons_succ, List.set_cons_zero, List.set_cons_succ, Option.some.injEq, exists_eq_left', exists_eq_left, exists_and_left, V.int.injEq, V.bl.injEq, V.ref.injEq, V.str.injEq, List.cons.injEq, and_true, true_and, Bool.true_eq, List.nil_append, List.append_nil, List.cons_append, exists_eq', and_self, reduceCtorEq, false_or, or_false, false_and, exists_false, exists_const, and_assoc, if_true, Bool.false_eq_true, if_false, Nat.reduceAdd, Nat.reduceLeDiff, Nat.zero_add, Nat.le_refl, forall_const, st_RatioD_eqD, HO.ins.injEq, R.cl, R.nt, R.nb, ratF_top, ratF_bottom, ha, rIsi]
    rcases hy with ⟨r, hr1 | ⟨i, rfl, rfl⟩, k⟩ | ⟨hT, k⟩
    · refine ⟨y, false, true, rfl, ty_rat R hr1.inst, _, rfl, iteF ?_⟩
      obtain ⟨b, dy, rfl, hb⟩ := hr1
      obtain ⟨t, bI, bB, ty, e1, e2, e4, e3, nf⟩ := (ty_rat R (⟨b, dy, _, rfl, hb⟩ : Inst H C_Ratio (.ref b))).ex
      refine ⟨t, .ref C_Ratio, .own _, ty, true, e3, iteT ?_⟩
      simp only [tVar, rIxTH, rIxLH, gTupH, line_le, HO.tup.injEq, HO.lst.injEq, List.length_cons, List.length_nil, at0, at1, rU, tOst, tTest, rIxL, rIxT, C8.tCut, cxOf_K, tC, tOp, tUn, tSeq, tAsg, tNext, tRet, tRetN, tDrop, tIfS, tNever, gName, gNil, gCons, gTup, gSub, tPar, rI, rI0, rU, rEq, rNe, tB, tAnd, tOr, tNot, tAndV, tOrV, tNotV, tIf, tTup, tLst, tNil, tCons, tCB, tCall, tMeth, tMake, tFld, sFld, tDGet, sDPut, tDisp, tPairs, tBreak, tCont, scal_ii, scal_bb, scal_ss, List.getElem?_cons_zero, List.getElem?_cons_succ, List.set_cons_zero, List.set_cons_succ, Option.some.injEq, exists_eq_left', exists_eq_left, exists_and_left, V.int.injEq, V.bl.injEq, V.ref.injEq, V.str.injEq, List.cons.injEq, and_true, true_and, Bool.true_eq, List.nil_append, List.append_nil, List.cons_append, exists_eq', and_self, reduceCtorEq, false_or, or_false, false_and, exists_false, exists_const, and_assoc, if_true, Bool.false_eq_true, if_false, Nat.reduceAdd, Nat.reduceLeDiff, Nat.zero_add, Nat.le_refl, forall_const, st_RatioD_eqD, HO.ins.injEq, R.cl, R.nt, R.nb, ratF_top, ratF_bottom, ha, hb]
      refine ite2 (fun h1 => ?_) (fun h1 => ?_)
      · have h1 : q.num = r.num := by simpa using h1
        have e : decide ((q.den : Int) = (r.den : Int)) = decide (q = r) := by
          refine decide_eq_decide.mpr ⟨fun z => Rat.ext h1 (by omega), fun z => by rw [z]⟩
        rw [e]
        exact k
      · have e : decide (q = r) = false := decide_eq_false fun z => h1 (by rw [z]; simp)
        rw [e] at k
        exact k
    · refine ⟨.int i, true, false, rfl, ty_int R i, _, rfl, iteT ?_⟩
      simp only [tVar, rIxTH, rIxLH, gTupH, line_le, HO.tup.injEq, HO.lst.injEq, List.length_cons, List.length_nil, at0, at1, rU, tOst, tTest, rIxL, rIxT, C8.tCut, cxOf_K, tC, tOp, tUn, tSeq, tAsg, tNext, tRet, tRetN, tDrop, tIfS, tNever, gName, gNil, gCons, gTup, gSub, tPar, rI, rI0, rU, rEq, rNe, tB, tAnd, tOr, tNot, tAndV, tOrV, tNotV, tIf, tTup, tLst, tNil, tCons, tCB, tCall, tMeth, tMake, tFld, sFld, tDGet, sDPut, tDisp, tPairs, tBreak, tCont, scal_ii, scal_bb, scal_ss, List.getElem?_cons_zero, List.getElem?_cons_succ, List.set_cons_zero, List.set_cons_succ, Option.some.injEq, exists_eq_left', exists_eq_left, exists_and_left, V.int.injEq, V.bl.injEq, V.ref.injEq, V.str.injEq, List.cons.injEq, and_true, true_and, Bool.true_eq, List.nil_append, List.append_nil, List.cons_append, exists_eq', and_self, reduceCtorEq, false_or, or_false, false_and, exists_false, exists_const, and_assoc, if_true, Bool.false_eq_true, if_false, Nat.reduceAdd, Nat.reduceLeDiff, Nat.zero_add, Nat.le_refl, forall_const, st_RatioD_eqD, HO.ins.injEq, R.cl, R.nt, R.nb, ratF_top, ratF_bottom, ha]
      refine ite2 (fun h1 => ?_) (fun h1 => ?_)
      · have h1 : (q.den : Int) = 1 := by simpa using h1
        have e : decide (q.num = i) = decide (q = (i : Rat)) := by
          refine decide_eq_decide.mpr ⟨fun z => Rat.ext (by simpa using z) (by simp; omega), fun z => by rw [z]; simp⟩
        rw [e]
        exact k
      · have e : decide (q = (i : Rat)) = false := decide_eq_false fun z => h1 (by rw [z]; simp)
        rw [e] at k
        exact k
    · refine ⟨y, false, false, rfl, hT, _, rfl, iteF ?_⟩
      obtain ⟨t, bI, bB, ty, e1, e2, e4, e3, nf⟩ := hT.ex
      exact ⟨t, .ref C_Ratio, .own _, ty, false, e3, iteF k⟩
/-- self divided by other -/
def spOver (C CB : Addr) : Sp := fun vs H Q E => ∃ (x y : V) (q r : Rat), vs = [x, y] ∧ IsR C H x q ∧ AsR C H y r ∧ HwM.Bd 4000 q ∧ HwM.Bd 4000 r ∧ (r ≠ 0 → ∀ H' z, Same H H' → IsR C H' z (q / r) → Q z H') ∧ (r = 0 → Bot0 CB H E)
theorem Bot0.same {CB : Addr} {H H1 : Hp} {E : XK} (h : Bot0 CB H E) (e : Same H H1) : Bot0 CB H1 E := fun H' d e1 e2 => h H' d (e.trans e1) e2
def spCmp (C : Addr) (g : Rat → Rat → V) : Sp := fun vs H Q _ => ∃ (x y : V) (q r : Rat), vs = [x, y] ∧ IsR C H x q ∧ AsR C H y r ∧ HwM.Bd 4000 q ∧ HwM.Bd 4000 r ∧ ∀ H', Same H H' → Q (g q r) H'
abbrev N_Ratio_compared : List Str := ["self", "other", "beside", "gap"]
theorem sc_Ratio_compared : FnScope N_Ratio_compared ["self", "other"] (defScope s_Ratio_compared) := ⟨rfl, rfl, rfl, by decide +kernel, rfl, by decide +kernel, by decide +kernel⟩
theorem st_Ratio_compared {v0 v1 : V} : L2.start N_Ratio_compared [v0, v1] = [some v0, some v1, none, none] := rfl
theorem ok_Ratio_compared {f : Addr} {fd : FuncData} (F : FD K s_Ratio_compared "compared" "Ratio.compared" f fd) {C_Ratio : Addr} (R : RatC K C_Ratio) (g_as_ratio : Gf P w K mg base "as_ratio" 5 ["value"] (spAs C_Ratio)) : FnOk P w K mg base (L2.CX P w) 6 f fd ["self", "other"] (spCmp C_Ratio (fun q r => .int (HwM.cmp q r))) := by
  have nd := sc_Ratio_compared.nd
  refine F.ok0 sc_Ratio_compared (fun vs H Q E h => ?_) (fun cdv A outer s H vs Q E hr h => ?_)
  · obtain ⟨x, y, q, r, rfl, _⟩ := h
    rfl
  · obtain ⟨x, y, q, r, rfl, hx, hy, bq, br, k⟩ := h
    refine ⟨_, (pss_cons (ps_set (i := 2) nd rfl (Or.inl rfl) (pe_g g_as_ratio hr (by decide) passL rfl (pa_cons (pv 1) pa_nil)))
        (pss_cons (ps_set (i := 3) nd rfl (Or.inl rfl) (pe_op op_sub (pe_op op_mulW (pe_fld (pv 0) rfl) (pe_fld (pv 2) rfl)) (pe_op op_mulW (pe_fld (pv 2) rfl) (pe_fld (pv 0) rfl))))
        (pss_cons (ps_if (pt_cmpR op_lt (pv 3) pe_int (nomark _)) (pss_one (ps_ret (pe_un un_neg pe_int))) pss_nil)
        (pss_one (ps_ret (pe_ifExp (pt_cmpR op_gt (pv 3) pe_int (nomark _)) pe_int pe_int)))))), ?_⟩
    simp only [tVar, rIxTH, rIxLH, gTupH, line_le, HO.tup.injEq, HO.lst.injEq, List.length_cons, List.length_nil, at0, at1, rU, tOst, tTest, rIxL, rIxT, C8.tCut, cxOf_K, tC, tOp, tUn, tSeq, tAsg, tNext, tRet, tRetN, tDrop, tIfS, tNever, gName, gNil, gCons, gTup, gSub, tPar, rI, rI0, rU, rEq, rNe, tB, tAnd, tOr, tNot, tAndV, tOrV, tNotV, tIf, tTup, tLst, tNil, tCons, tCB, tCall, tMeth, tMake, tFld, sFld, tDGet, sDPut, tDisp, tPairs, tBreak, tCont, scal_ii, scal_bb, scal_ss, List.getElem?_cons_zero, List.getElem?_cons_succ, List.set_cons_zero, List.set_cons_succ, Option.some.injEq, exists_eq_left', exists_eq_left, exists_and_left, V.int.injEq, V.bl.injEq, V.ref.injEq, V.str.injEq, List.cons.injEq, and_true, true_and, Bool.true_eq, List.nil_append, List.append_nil, List.cons_append, exists_eq', and_self, reduceCtorEq, false_or, or_false, false_and, exists_false, exists_const, and_assoc, if_true, Bool.false_eq_true, if_false, Nat.reduceAdd, Nat.reduceLeDiff, Nat.zero_add, Nat.le_refl, forall_const, st_Ratio_compared]
    refine ⟨y, r, rfl, hy, fun H1 z s1 hz => ?_⟩
    obtain ⟨a, dx, rfl, ha⟩ := hx.same s1
    obtain ⟨c, dz, rfl, hc⟩ := hz
    simp only [tVar, rIxTH, rIxLH, gTupH, line_le, HO.tup.injEq, HO.lst.injEq, List.length_cons, List.length_nil, at0, at1, rU, tOst, tTest, rIxL, rIxT, C8.tCut, cxOf_K, tC, tOp, tUn, tSeq, tAsg, tNext, tRet, tRetN, tDrop, tIfS, tNever, gName, gNil, gCons, gTup, gSub, tPar, rI, rI0, rU, rEq, rNe, tB, tAnd, tOr, tNot, tAndV, tOrV, tNotV, tIf, tTup, tLst, tNil, tCons, tCB, tCall, tMeth, tMake, tFld, sFld, tDGet, sDPut, tDisp, tPairs, tBreak, tCont, scal_ii, scal_bb, scal_ss, List.getElem?_cons_zero, List.getElem?_cons_succ, List.set_cons_zero, List.set_cons_succ, Option.some.injEq, exists_eq_left', exists_eq_left, exists_and_left, V.int.injEq, V.bl.injEq, V.ref.injEq, V.str.injEq, List.cons.injEq, and_true, true_and, Bool.true_eq, List.nil_append, List.append_nil, List.cons_append, exists_eq', and_self, reduceCtorEq, false_or, or_false, false_and, exists_false, exists_const, and_assoc, if_true, Bool.false_eq_true, if_false, Nat.reduceAdd, Nat.reduceLeDiff, Nat.zero_add, Nat.le_refl, forall_const, st_Ratio_compared, HO.ins.injEq, R.cl, R.nt, R.nb, ratF_top, ratF_bottom, ha, hc, cm_nd bq br, cm_nd br bq]
    have k1 := k H1 s1
    unfold HwM.cmp at k1
    refine ite2 (fun h1 => ?_) (fun h1 => ?_)
    · have h1 : q < r := (HwM.gap_neg q r).mp (by simpa using h1)
      simpa [h1] using k1
    · have h1 : ¬ q < r := fun z => h1 (by simpa using (HwM.gap_neg q r).mpr z)
      refine ite2 (fun h2 => ?_) (fun h2 => ?_)
      · have h2 : r < q := (HwM.gap_pos q r).mp (by simpa using h2)
        simpa [h1, h2] using k1
      · have h2 : ¬ r < q := fun z => h2 (by simpa using (HwM.gap_pos q r).mpr z)
        simpa [h1, h2] using k1


end HwL
end

section
namespace HwL
open PySem PySem.Spec PyProof.Rows L2 LamX HwP
variable {P : Program} {w : World} {K : PySem.W.Frag} {mg : Str → Option Value} {base : Heap}

/-! ### rows of ratios -/
theorem IsR.updL {C D : Addr} {H : Hp} {v : V} {q : Rat} {acc : List V} {o : HO} (h : IsR C H v q) (hD : H D = some (.lst acc)) : IsR C (upd H D o) v q := by
  obtain ⟨a, dx, rfl, ha⟩ := h
  exact ⟨a, dx, rfl, by rw [upd_ne (fun z => by rw [z, hD] at ha; cases ha)]; exact ha⟩
theorem same_updL {H H4 : Hp} {D : Addr} {o : HO} (h0 : H D = none) (s : Same H H4) : Same H (upd H4 D o) := fun b u e => by rw [upd_ne (ne_of_none e h0)]; exact s b u e
def AllR (C : Addr) (H : Hp) (xs : List V) (qs : List Rat) : Prop := Fa2 (IsR C H) xs qs
def AllA (C : Addr) (H : Hp) (xs : List V) (qs : List Rat) : Prop := Fa2 (AsR C H) xs qs
theorem AllR.same {C : Addr} {H H' : Hp} {xs : List V} {qs : List Rat} (h : AllR C H xs qs) (e : Same H H') : AllR C H' xs qs := Fa2.mono h fun _ _ z => z.same e
theorem AllA.same {C : Addr} {H H' : Hp} {xs : List V} {qs : List Rat} (h : AllA C H xs qs) (e : Same H H') : AllA C H' xs qs := Fa2.mono h fun _ _ z => z.same e
theorem AllR.updL {C D : Addr} {H : Hp} {xs : List V} {qs : List Rat} {acc : List V} {o : HO} (h : AllR C H xs qs) (hD : H D = some (.lst acc)) : AllR C (upd H D o) xs qs := Fa2.mono h fun _ _ z => z.updL hD
def spAsAll (K : PySem.W.Frag) (C : Addr) : Sp := fun vs H Q _ => ∃ (a : Addr) (xs : List V) (qs : List Rat), vs = [.ref a] ∧ Sq K H a xs ∧ AllA C H xs qs ∧ xs.length ≤ 1000 ∧ ∀ H' t ys, Same H H' → H' t = some (.tup ys) → AllR C H' ys qs → Q (.ref t) H'
abbrev N_as_ratios : List Str := ["values", "value"]
theorem sc_as_ratios : FnScope N_as_ratios ["values"] (defScope s_as_ratios) := ⟨rfl, rfl, rfl, by decide +kernel, rfl, by decide +kernel, by decide +kernel⟩
theorem st_as_ratios {v0 : V} : L2.start N_as_ratios [v0] = [some v0, none] := rfl
theorem ok_as_ratios {f : Addr} {fd : FuncData} (F : FD K s_as_ratios "as_ratios" "as_ratios" f fd) {C_Ratio C_BadNumber : Addr} (R : RatC K C_Ratio) (z_tuple : mg "tuple" = none) (g_as_ratio : Gf P w K mg base "as_ratio" 5 ["value"] (spAs C_Ratio)) : FnOk P w K mg base (L2.CX P w) 6 f fd ["values"] (spAsAll K C_Ratio) := by
  have nd := sc_as_ratios.nd
  refine F.ok0 sc_as_ratios (fun vs H Q E h => ?_) (fun cdv A outer s H vs Q E hr h => ?_)
  · obtain ⟨a, xs, qs, rfl, _⟩ := h
    rfl
  · obtain ⟨a, xs, qs, rfl, hq, hf, hl, k⟩ := h
    have le := Fa2.len hf
    refine ⟨_, (pss_one (ps_ret (pe_callTy call_tuple_of (by rfl) z_tuple (by decide +kernel) (pa_cons (pe_lc (own := [("value", 1)]) rfl nd (pi_seq (pv 0)) (blkOk_by (own := [("value", 1)]) (N := N_as_ratios) (sc := defScope s_as_ratios) (by decide +kernel)) (fun _ _ _ _ _ => (pg_name (i := 1) nd rfl (Or.inl rfl))) (fun _ _ _ _ _ => pts_nil) (fun _ _ _ _ _ => (pe_g g_as_ratio hr (by decide) passL rfl (pa_cons (pv 1) pa_nil)))) pa_nil)))), ?_⟩
    simp only [tVar, rIxTH, rIxLH, gTupH, line_le, HO.tup.injEq, HO.lst.injEq, List.length_cons, List.length_nil, at0, at1, rU, tOst, tTest, rIxL, rIxT, C8.tCut, cxOf_K, tC, tOp, tUn, tSeq, tAsg, tNext, tRet, tRetN, tDrop, tIfS, tNever, gName, gNil, gCons, gTup, gSub, tPar, rI, rI0, rU, rEq, rNe, tB, tAnd, tOr, tNot, tAndV, tOrV, tNotV, tIf, tTup, tLst, tNil, tCons, tCB, tCall, tMeth, tMake, tFld, sFld, tDGet, sDPut, tDisp, tPairs, tBreak, tCont, scal_ii, scal_bb, scal_ss, List.getElem?_cons_zero, List.getElem?_cons_succ, List.set_cons_zero, List.set_cons_succ, Option.some.injEq, exists_eq_left', exists_eq_left, exists_and_left, V.int.injEq, V.bl.injEq, V.ref.injEq, V.str.injEq, List.cons.injEq, and_true, true_and, Bool.true_eq, List.nil_append, List.append_nil, List.cons_append, exists_eq', and_self, reduceCtorEq, false_or, or_false, false_and, exists_false, exists_const, and_assoc, if_true, Bool.false_eq_true, if_false, Nat.reduceAdd, Nat.reduceLeDiff, Nat.zero_add, Nat.le_refl, forall_const, st_as_ratios]
    refine ⟨.ref a, rfl, a, rfl, lc_seq hq (fun D i H' => Same H H' ∧ ∃ ys, H' D = some (.lst ys) ∧ ys.length = i ∧ AllR C_Ratio H' ys (qs.take i)) ?_ (fun D hD i H' h => h.1) ?_ ?_⟩
    · exact fun D hD => ⟨same_new hD, [], upd_same, rfl, .nil⟩
    · rintro D hD i x H1 hi ⟨s1, ys, hy, hl1, ha⟩
      obtain ⟨q, hq1, hx⟩ := Fa2.get hf hi
      simp only [tVar, rIxTH, rIxLH, gTupH, line_le, HO.tup.injEq, HO.lst.injEq, List.length_cons, List.length_nil, at0, at1, rU, tOst, tTest, rIxL, rIxT, C8.tCut, cxOf_K, tC, tOp, tUn, tSeq, tAsg, tNext, tRet, tRetN, tDrop, tIfS, tNever, gName, gNil, gCons, gTup, gSub, tPar, rI, rI0, rU, rEq, rNe, tB, tAnd, tOr, tNot, tAndV, tOrV, tNotV, tIf, tTup, tLst, tNil, tCons, tCB, tCall, tMeth, tMake, tFld, sFld, tDGet, sDPut, tDisp, tPairs, tBreak, tCont, scal_ii, scal_bb, scal_ss, List.getElem?_cons_zero, List.getElem?_cons_succ, List.set_cons_zero, List.set_cons_succ, Option.some.injEq, exists_eq_left', exists_eq_left, exists_and_left, V.int.injEq, V.bl.injEq, V.ref.injEq, V.str.injEq, List.cons.injEq, and_true, true_and, Bool.true_eq, List.nil_append, List.append_nil, List.cons_append, exists_eq', and_self, reduceCtorEq, false_or, or_false, false_and, exists_false, exists_const, and_assoc, if_true, Bool.false_eq_true, if_false, Nat.reduceAdd, Nat.reduceLeDiff, Nat.zero_add, Nat.le_refl, forall_const, st_as_ratios, wipe, List.map_cons, List.map_nil]
      refine ⟨x, q, rfl, hx.same s1, fun H2 y s2 hy2 => ?_⟩
      have hD2 := s2 _ _ hy
      have li : i < xs.length := by
        rcases Nat.lt_or_ge i xs.length with h | h
        · exact h
        · rw [List.getElem?_eq_none h] at hi; cases hi
      refine ⟨ys, hD2, by rw [hl1]; exact line_le (by omega), same_updL hD (s1.trans s2), _, upd_same, by simp [hl1], ?_⟩
      rw [take_snoc hq1]
      exact AllR.updL (Fa2.snoc (ha.same s2) hy2) hD2
    · rintro D hD H1 ⟨s1, ys, hy, hl1, ha⟩
      refine ⟨D, rfl, ys, .inl ⟨SqL.of hy, fun t ht => k _ t ys (s1.trans (same_new ht)) upd_same ?_⟩⟩
      have := ha.same (same_new (o := HO.tup ys) ht)
      rwa [le, List.take_length] at this
def spWhole (K : PySem.W.Frag) (C : Addr) : Sp := fun vs H Q _ => ∃ (a : Addr) (xs : List V) (qs : List Rat), vs = [.ref a] ∧ Sq K H a xs ∧ AllR C H xs qs ∧ (∀ q ∈ qs, HwM.Bd 400 q) ∧ qs.length ≤ 20 ∧ ∀ H' t, Same H H' → H' t = some (.tup ((row qs).map V.int)) → Q (.ref t) H'
abbrev N_least_whole : List Str := ["ratios", "bottom", "ratio", "wholes", "common", "whole"]
theorem sc_least_whole : FnScope N_least_whole ["ratios"] (defScope s_least_whole) := ⟨rfl, rfl, rfl, by decide +kernel, rfl, by decide +kernel, by decide +kernel⟩
theorem st_least_whole {v0 : V} : L2.start N_least_whole [v0] = [some v0, none, none, none, none, none] := rfl
theorem ok_least_whole {f : Addr} {fd : FuncData} (F : FD K s_least_whole "least_whole" "least_whole" f fd) {C_Ratio : Addr} (R : RatC K C_Ratio) (z_tuple : mg "tuple" = none) (m_gcd : mg "gcd" = some (.builtin "math.gcd")) (m_lcm : mg "lcm" = some (.builtin "math.lcm")) : FnOk P w K mg base (L2.CX P w) 1 f fd ["ratios"] (spWhole K C_Ratio) := by
  have nd := sc_least_whole.nd
  refine F.ok0 sc_least_whole (fun vs H Q E h => ?_) (fun cdv A outer s H vs Q E hr h => ?_)
  · obtain ⟨a, xs, qs, rfl, _⟩ := h
    rfl
  · obtain ⟨a, xs, qs, rfl, hq, hf, hb0, hl, k⟩ := h
    have le := Fa2.len hf
    refine ⟨_, (pss_cons (ps_set (i := 1) nd rfl (Or.inr rfl) pe_int)
        (C8.pss_cut (ps_for PassesOwn.never rfl (pi_seq (pv 0)) (pg_name (i := 2) nd rfl (Or.inl rfl)) (pss_one (ps_set (i := 1) nd rfl (Or.inr rfl) (pe_callBfun cr_lcm rfl m_lcm (pa_cons (pv 1) (pa_cons (pe_fld (pv 2) rfl) pa_nil))))))
        (C8.pss_cut (ps_setLc (i := 3) (own := [("ratio", 2)]) rfl nd rfl rfl (sw_true rfl rfl rfl (by decide +kernel)) (pi_seq (pv 0)) (blkOk_by (own := [("ratio", 2)]) (N := N_least_whole) (sc := defScope s_least_whole) (by decide +kernel)) (fun _ _ _ _ _ => (pg_name (i := 2) nd rfl (Or.inl rfl))) (fun _ _ _ _ _ => pts_nil) (fun _ _ _ _ _ => (pe_op op_mulW (pe_fldE (K := K) rfl (pv 2) rfl) (pe_op op_fdivX (pv 1) (pe_fldE (K := K) rfl (pv 2) rfl)))))
        (pss_cons (ps_set (i := 4) nd rfl (Or.inr rfl) pe_int)
        (C8.pss_cut (ps_for PassesOwn.never rfl (pi_list (pv 3)) (pg_name (i := 5) nd rfl (Or.inl rfl)) (pss_one (ps_set (i := 4) nd rfl (Or.inr rfl) (pe_callBfun cr_gcd rfl m_gcd (pa_cons (pv 4) (pa_cons (pv 5) pa_nil))))))
        (pss_cons (ps_if (pt_cmpR op_le (pv 4) pe_int (nomark _)) (pss_one (ps_ret (pe_callTy call_tuple_of (by rfl) z_tuple (by decide +kernel) (pa_cons (pv 3) pa_nil)))) pss_nil)
        (pss_one (ps_ret (pe_callTy call_tuple_of (by rfl) z_tuple (by decide +kernel) (pa_cons (pe_lc (own := [("whole", 5)]) rfl nd (pi_list (pv 3)) (blkOk_by (own := [("whole", 5)]) (N := N_least_whole) (sc := defScope s_least_whole) (by decide +kernel)) (fun _ _ _ _ _ => (pg_name (i := 5) nd rfl (Or.inl rfl))) (fun _ _ _ _ _ => pts_nil) (fun _ _ _ _ _ => (pe_op op_fdivX (pv 5) (pv 4)))) pa_nil)))))))))), ?_⟩
    simp only [tVar, rIxTH, rIxLH, gTupH, line_le, HO.tup.injEq, HO.lst.injEq, List.length_cons, List.length_nil, at0, at1, rU, tOst, tTest, rIxL, rIxT, C8.tCut, cxOf_K, tC, tOp, tUn, tSeq, tAsg, tNext, tRet, tRetN, tDrop, tIfS, tNever, gName, gNil, gCons, gTup, gSub, tPar, rI, rI0, rU, rEq, rNe, tB, tAnd, tOr, tNot, tAndV, tOrV, tNotV, tIf, tTup, tLst, tNil, tCons, tCB, tCall, tMeth, tMake, tFld, sFld, tDGet, sDPut, tDisp, tPairs, tBreak, tCont, scal_ii, scal_bb, scal_ss, List.getElem?_cons_zero, List.getElem?_cons_succ, List.set_cons_zero, List.set_cons_succ, Option.some.injEq, exists_eq_left', exists_eq_left, exists_and_left, V.int.injEq, V.bl.injEq, V.ref.injEq, V.str.injEq, List.cons.injEq, and_true, true_and, Bool.true_eq, List.nil_append, List.append_nil, List.cons_append, exists_eq', and_self, reduceCtorEq, false_or, or_false, false_and, exists_false, exists_const, and_assoc, if_true, Bool.false_eq_true, if_false, Nat.reduceAdd, Nat.reduceLeDiff, Nat.zero_add, Nat.le_refl, forall_const, st_least_whole]
    refine ⟨fun σ' H' => H' = H ∧ ∃ v2, σ' = [some (.ref a), some (.int (wb qs)), v2, none, none, none], ?_, ?_⟩
    · refine ⟨.ref a, rfl, a, rfl, for_seq hq (fun i σ' H' => H' = H ∧ ∃ v2, σ' = [some (.ref a), some (.int (wb (qs.take i))), v2, none, none, none]) ⟨rfl, none, rfl⟩ (fun i σ' H' h => by rw [h.1]; exact Same.refl _) ?_ ?_⟩
      · rintro i x σ H' hi ⟨rfl, v2, rfl⟩
        obtain ⟨q, hq1, hx⟩ := Fa2.get hf hi
        obtain ⟨b, dx, rfl, hb⟩ := hx
        simp only [tVar, rIxTH, rIxLH, gTupH, line_le, HO.tup.injEq, HO.lst.injEq, List.length_cons, List.length_nil, at0, at1, rU, tOst, tTest, rIxL, rIxT, C8.tCut, cxOf_K, tC, tOp, tUn, tSeq, tAsg, tNext, tRet, tRetN, tDrop, tIfS, tNever, gName, gNil, gCons, gTup, gSub, tPar, rI, rI0, rU, rEq, rNe, tB, tAnd, tOr, tNot, tAndV, tOrV, tNotV, tIf, tTup, tLst, tNil, tCons, tCB, tCall, tMeth, tMake, tFld, sFld, tDGet, sDPut, tDisp, tPairs, tBreak, tCont, scal_ii, scal_bb, scal_ss, List.getElem?_cons_zero, List.getElem?_cons_succ, List.set_cons_zero, List.set_cons_succ, Option.some.injEq, exists_eq_left', exists_eq_left, exists_and_left, V.int.injEq, V.bl.injEq, V.ref.injEq, V.str.injEq, List.cons.injEq, and_true, true_and, Bool.true_eq, List.nil_append, List.append_nil, List.cons_append, exists_eq', and_self, reduceCtorEq, false_or, or_false, false_and, exists_false, exists_const, and_assoc, if_true, Bool.false_eq_true, if_false, Nat.reduceAdd, Nat.reduceLeDiff, Nat.zero_add, Nat.le_refl, forall_const, st_least_whole, HO.ins.injEq, R.cl, R.nt, R.nb, ratF_top, ratF_bottom, hb, rLcm]
        have b1 : wb (qs.take i) < 2 ^ 9000 := HwM.lt_mono (wb_bd fun r hr => hb0 r (List.mem_of_mem_take hr)) (by rw [List.length_take]; omega)
        have b2 : q.den < 2 ^ 9000 := HwM.lt_mono (hb0 q (List.mem_of_getElem? hq1)).2 (by decide)
        refine ⟨by simpa using b1, by simpa using b2, ?_⟩
        rw [take_snoc hq1, wb_snoc, Int.natAbs_natCast, Int.natAbs_natCast]
      · rintro σ H' ⟨rfl, v2, rfl⟩
        rw [le, List.take_length]
        exact ⟨rfl, v2, rfl⟩
    rintro σ' H1 ⟨rfl, v2, rfl⟩
    have wl : (ws qs).length = xs.length := by unfold ws; rw [List.length_map, le]
    have hD0 : ∀ {D : Addr} {H2 : Hp} {acc : List V}, H1 D = none → True := fun _ => trivial
    refine ⟨fun σ' H' => Same H1 H' ∧ ∃ v2 l, σ' = [some (.ref a), some (.int (wb qs)), v2, some (.ref l), none, none] ∧ H' l = some (.lst ((ws qs).map V.int)), ?_, ?_⟩
    · refine ⟨.ref a, rfl, a, rfl, lc_seq hq (fun D i H' => Same H1 H' ∧ H' D = some (.lst (((ws qs).take i).map V.int))) (fun D hD => ⟨same_new hD, upd_same⟩) (fun D hD i H' h => h.1) ?_ ?_⟩
      · rintro D hD i x H2 hi ⟨s1, hy⟩
        obtain ⟨q, hq1, hx⟩ := Fa2.get hf hi
        obtain ⟨b, dx, rfl, hb⟩ := hx.same s1
        have li : i < xs.length := by
          rcases Nat.lt_or_ge i xs.length with h | h
          · exact h
          · rw [List.getElem?_eq_none h] at hi; cases hi
        have mq := List.mem_of_getElem? hq1
        have wq : (ws qs)[i]? = some (q.num * ((wb qs : Int) / (q.den : Int))) := by unfold ws; rw [List.getElem?_map, hq1]; rfl
        simp only [tVar, rIxTH, rIxLH, gTupH, line_le, HO.tup.injEq, HO.lst.injEq, List.length_cons, List.length_nil, at0, at1, rU, tOst, tTest, rIxL, rIxT, C8.tCut, cxOf_K, tC, tOp, tUn, tSeq, tAsg, tNext, tRet, tRetN, tDrop, tIfS, tNever, gName, gNil, gCons, gTup, gSub, tPar, rI, rI0, rU, rEq, rNe, tB, tAnd, tOr, tNot, tAndV, tOrV, tNotV, tIf, tTup, tLst, tNil, tCons, tCB, tCall, tMeth, tMake, tFld, sFld, tDGet, sDPut, tDisp, tPairs, tBreak, tCont, scal_ii, scal_bb, scal_ss, List.getElem?_cons_zero, List.getElem?_cons_succ, List.set_cons_zero, List.set_cons_succ, Option.some.injEq, exists_eq_left', exists_eq_left, exists_and_left, V.int.injEq, V.bl.injEq, V.ref.injEq, V.str.injEq, List.cons.injEq, and_true, true_and, Bool.true_eq, List.nil_append, List.append_nil, List.cons_append, exists_eq', and_self, reduceCtorEq, false_or, or_false, false_and, exists_false, exists_const, and_assoc, if_true, Bool.false_eq_true, if_false, Nat.reduceAdd, Nat.reduceLeDiff, Nat.zero_add, Nat.le_refl, forall_const, st_least_whole, wipe, List.map_cons, List.map_nil, CDivX, tYes]
        simp only [tVar, rIxTH, rIxLH, gTupH, line_le, HO.tup.injEq, HO.lst.injEq, List.length_cons, List.length_nil, at0, at1, rU, tOst, tTest, rIxL, rIxT, C8.tCut, cxOf_K, tC, tOp, tUn, tSeq, tAsg, tNext, tRet, tRetN, tDrop, tIfS, tNever, gName, gNil, gCons, gTup, gSub, tPar, rI, rI0, rU, rEq, rNe, tB, tAnd, tOr, tNot, tAndV, tOrV, tNotV, tIf, tTup, tLst, tNil, tCons, tCB, tCall, tMeth, tMake, tFld, sFld, tDGet, sDPut, tDisp, tPairs, tBreak, tCont, scal_ii, scal_bb, scal_ss, List.getElem?_cons_zero, List.getElem?_cons_succ, List.set_cons_zero, List.set_cons_succ, Option.some.injEq, exists_eq_left', exists_eq_left, exists_and_left, V.int.injEq, V.bl.injEq, V.ref.injEq, V.str.injEq, List.cons.injEq, and_true, true_and, Bool.true_eq, List.nil_append, List.append_nil, List.cons_append, exists_eq', and_self, reduceCtorEq, false_or, or_false, false_and, exists_false, exists_const, and_assoc, if_true, Bool.false_eq_true, if_false, Nat.reduceAdd, Nat.reduceLeDiff, Nat.zero_add, Nat.le_refl, forall_const, st_least_whole, HO.ins.injEq, R.cl, R.nt, R.nb, ratF_top, ratF_bottom, hb]
        have d0 := HwM.den_ne q
        have dl : ((q.den : Int)).natAbs.log2 < 9000 := HwM.log2_lt (by decide) (by simpa using HwM.lt_mono (hb0 q mq).2 (show 400 ≤ 9000 by decide))
        have dv : ((wb qs : Int)).fdiv (q.den : Int) = (wb qs : Int) / (q.den : Int) := Int.fdiv_eq_ediv_of_dvd (Int.natCast_dvd_natCast.mpr (wb_dvd mq))
        rw [dv]
        have hD1 : ∀ o : HO, Same H1 (upd H2 D o) := fun o => same_updL hD s1
        refine ⟨d0, dl, wide_mul (hb0 q mq).1 (quo_bd hb0 hl q.den) (by decide) (by decide) (by decide), _, hy, by rw [List.length_map, List.length_take]; exact Nat.lt_of_le_of_lt (show _ ≤ 20 by omega) (by decide), hD1 _, ?_⟩
        rw [upd_same, take_snoc wq, List.map_append]
        rfl
      · rintro D hD H2 ⟨s1, hy⟩
        rw [← wl, List.take_length] at hy
        exact ⟨s1, _, D, rfl, hy⟩
    rintro σ' H2 ⟨s2, v2, l, rfl, hl2⟩
    refine ⟨fun σ' H' => H' = H2 ∧ ∃ v5, σ' = [some (.ref a), some (.int (wb qs)), v2, some (.ref l), some (.int (cg (ws qs))), v5], ?_, ?_⟩
    · refine ⟨.ref l, rfl, l, rfl, ⟨_, SqL.of hl2⟩, for_list (K := K) (a := l) (xs := (ws qs).map V.int) (fun i σ' H' => H' = H2 ∧ ∃ v5, σ' = [some (.ref a), some (.int (wb qs)), v2, some (.ref l), some (.int (cg ((ws qs).take i))), v5]) ⟨rfl, none, rfl⟩ (fun i σ' H' _ h => by rw [h.1]; exact SqL.of hl2) ?_ ?_⟩
      · rintro i x σ H' hi ⟨rfl, v5, rfl⟩
        obtain ⟨z, hz, rfl⟩ : ∃ z, (ws qs)[i]? = some z ∧ x = V.int z := by
          rw [List.getElem?_map] at hi
          cases e : (ws qs)[i]? with
          | none => rw [e] at hi; cases hi
          | some z => rw [e] at hi; exact ⟨z, rfl, (Option.some.inj hi).symm⟩
        simp only [tVar, rIxTH, rIxLH, gTupH, line_le, HO.tup.injEq, HO.lst.injEq, List.length_cons, List.length_nil, at0, at1, rU, tOst, tTest, rIxL, rIxT, C8.tCut, cxOf_K, tC, tOp, tUn, tSeq, tAsg, tNext, tRet, tRetN, tDrop, tIfS, tNever, gName, gNil, gCons, gTup, gSub, tPar, rI, rI0, rU, rEq, rNe, tB, tAnd, tOr, tNot, tAndV, tOrV, tNotV, tIf, tTup, tLst, tNil, tCons, tCB, tCall, tMeth, tMake, tFld, sFld, tDGet, sDPut, tDisp, tPairs, tBreak, tCont, scal_ii, scal_bb, scal_ss, List.getElem?_cons_zero, List.getElem?_cons_succ, List.set_cons_zero, List.set_cons_succ, Option.some.injEq, exists_eq_left', exists_eq_left, exists_and_left, V.int.injEq, V.bl.injEq, V.ref.injEq, V.str.injEq, List.cons.injEq, and_true, true_and, Bool.true_eq, List.nil_append, List.append_nil, List.cons_append, exists_eq', and_self, reduceCtorEq, false_or, or_false, false_and, exists_false, exists_const, and_assoc, if_true, Bool.false_eq_true, if_false, Nat.reduceAdd, Nat.reduceLeDiff, Nat.zero_add, Nat.le_refl, forall_const, st_least_whole, rGcd]
        rw [take_snoc hz, cg_snoc, Int.natAbs_natCast]
      · rintro σ H' ⟨rfl, v5, rfl⟩
        rw [List.length_map, List.take_length]
        exact ⟨rfl, v5, rfl⟩
    rintro σ' H3 ⟨rfl, v5, rfl⟩
    simp only [tVar, rIxTH, rIxLH, gTupH, line_le, HO.tup.injEq, HO.lst.injEq, List.length_cons, List.length_nil, at0, at1, rU, tOst, tTest, rIxL, rIxT, C8.tCut, cxOf_K, tC, tOp, tUn, tSeq, tAsg, tNext, tRet, tRetN, tDrop, tIfS, tNever, gName, gNil, gCons, gTup, gSub, tPar, rI, rI0, rU, rEq, rNe, tB, tAnd, tOr, tNot, tAndV, tOrV, tNotV, tIf, tTup, tLst, tNil, tCons, tCB, tCall, tMeth, tMake, tFld, sFld, tDGet, sDPut, tDisp, tPairs, tBreak, tCont, scal_ii, scal_bb, scal_ss, List.getElem?_cons_zero, List.getElem?_cons_succ, List.set_cons_zero, List.set_cons_succ, Option.some.injEq, exists_eq_left', exists_eq_left, exists_and_left, V.int.injEq, V.bl.injEq, V.ref.injEq, V.str.injEq, List.cons.injEq, and_true, true_and, Bool.true_eq, List.nil_append, List.append_nil, List.cons_append, exists_eq', and_self, reduceCtorEq, false_or, or_false, false_and, exists_false, exists_const, and_assoc, if_true, Bool.false_eq_true, if_false, Nat.reduceAdd, Nat.reduceLeDiff, Nat.zero_add, Nat.le_refl, forall_const, st_least_whole]
    refine ite2 (fun h => ?_) (fun h => ?_)
    · have h1 : cg (ws qs) ≤ 1 := by have := of_decide_eq_true h; omega
      refine ⟨_, .inl ⟨SqL.of hl2, fun t ht => k _ t ?_ ?_⟩⟩
      · exact s2.trans (same_new ht)
      · rw [upd_same]; unfold row; rw [if_pos h1]
    · have h1 : ¬ cg (ws qs) ≤ 1 := fun z => h (decide_eq_true (by omega))
      have hl9 : (cg (ws qs) : Int).natAbs.log2 < 9000 := HwM.log2_lt (by decide) (by rw [Int.natAbs_natCast]; exact HwM.lt_mono (cg_bd (ws_bd hb0 hl)) (by decide))
      refine ⟨.ref l, rfl, l, rfl, ⟨_, SqL.of hl2⟩, fun D hD => lc_list (K := K) (a := l) (xs := (ws qs).map V.int) (fun i H' => Same H3 H' ∧ H' D = some (.lst (((ws qs).take i).map fun z => V.int (z / (cg (ws qs) : Int))))) ⟨same_new hD, upd_same⟩ (fun i H' _ h => (SqL.of (h.1 _ _ hl2))) ?_ ?_⟩
      · rintro i x H4 hi ⟨s4, hy⟩
        obtain ⟨z, hz, rfl⟩ : ∃ z, (ws qs)[i]? = some z ∧ x = V.int z := by
          rw [List.getElem?_map] at hi
          cases e : (ws qs)[i]? with
          | none => rw [e] at hi; cases hi
          | some z => rw [e] at hi; exact ⟨z, rfl, (Option.some.inj hi).symm⟩
        simp only [tVar, rIxTH, rIxLH, gTupH, line_le, HO.tup.injEq, HO.lst.injEq, List.length_cons, List.length_nil, at0, at1, rU, tOst, tTest, rIxL, rIxT, C8.tCut, cxOf_K, tC, tOp, tUn, tSeq, tAsg, tNext, tRet, tRetN, tDrop, tIfS, tNever, gName, gNil, gCons, gTup, gSub, tPar, rI, rI0, rU, rEq, rNe, tB, tAnd, tOr, tNot, tAndV, tOrV, tNotV, tIf, tTup, tLst, tNil, tCons, tCB, tCall, tMeth, tMake, tFld, sFld, tDGet, sDPut, tDisp, tPairs, tBreak, tCont, scal_ii, scal_bb, scal_ss, List.getElem?_cons_zero, List.getElem?_cons_succ, List.set_cons_zero, List.set_cons_succ, Option.some.injEq, exists_eq_left', exists_eq_left, exists_and_left, V.int.injEq, V.bl.injEq, V.ref.injEq, V.str.injEq, List.cons.injEq, and_true, true_and, Bool.true_eq, List.nil_append, List.append_nil, List.cons_append, exists_eq', and_self, reduceCtorEq, false_or, or_false, false_and, exists_false, exists_const, and_assoc, if_true, Bool.false_eq_true, if_false, Nat.reduceAdd, Nat.reduceLeDiff, Nat.zero_add, Nat.le_refl, forall_const, st_least_whole, wipe, List.map_cons, List.map_nil, CDivX, tYes]
        have li : i ≤ 20 := by
          rcases Nat.lt_or_ge i (ws qs).length with h | h
          · rw [wl, le] at h; omega
          · rw [List.getElem?_eq_none h] at hz; cases hz
        refine ⟨by omega, hl9, _, hy, by rw [List.length_map, List.length_take]; exact Nat.lt_of_le_of_lt (show _ ≤ 20 by omega) (by decide), same_updL hD s4, ?_⟩
        rw [upd_same, take_snoc hz, List.map_append, Int.fdiv_eq_ediv_of_dvd (cg_dvd (List.mem_of_getElem? hz))]
        rfl
      · rintro H4 ⟨s4, hy⟩
        rw [List.length_map, List.take_length] at hy
        refine ⟨D, rfl, _, .inl ⟨SqL.of hy, fun t ht => k _ t ((s2.trans s4).trans (same_new ht)) ?_⟩⟩
        rw [upd_same]; unfold row; rw [if_neg h1, List.map_map]; rfl


end HwL
end

section
namespace HwL
open PySem PySem.Spec PyProof.Rows L2 LamX HwP
variable {P : Program} {w : World} {K : PySem.W.Frag} {mg : Str → Option Value} {base : Heap}

/-! ### planes -/
structure PlaC (K : PySem.W.Frag) (C : Addr) : Prop where
  cl : Cls K C
  nf : NoAttr K C "fixed"
  ns : NoAttr K C "slopes"
  nz : NoAttr K C "size"
  nn : NoAttr K C "is_number"
  nr : NoAttr K C "row"
theorem nf_nil (q : Rat) : ([] : List (Str × V)) ≠ ratF q := fun h => by unfold ratF at h; cases h
theorem nf_fix {v : V} {r : List (Str × V)} (q : Rat) : (("fixed" : Str), v) :: r ≠ ratF q := fun h => by
  unfold ratF at h
  have e : ("fixed" : Str) = "top" := congrArg Prod.fst (List.cons.inj h).1
  exact absurd e (by decide)
theorem IsR.neP {C CP p dx : Addr} {H : Hp} {a : Addr} {q : Rat} {fs : List (Str × V)} (h : IsR C H (.ref a) q) (hp : H p = some (.ins CP dx fs)) (ne : ∀ q, fs ≠ ratF q) : a ≠ p := fun z => by
  obtain ⟨b, d, e, ha⟩ := h
  cases e
  rw [z, hp] at ha
  obtain ⟨_, _, e⟩ := HO.ins.inj (Option.some.inj ha)
  exact ne q e
theorem IsR.extP {C CP p dx : Addr} {H H' : Hp} {v : V} {q : Rat} {fs : List (Str × V)} (h : IsR C H v q) (hp : H p = some (.ins CP dx fs)) (ne : ∀ q, fs ≠ ratF q) (e : Ext p H H') : IsR C H' v q := by
  obtain ⟨a, d, rfl, ha⟩ := h
  exact ⟨a, d, rfl, e _ _ (IsR.neP ⟨a, d, rfl, ha⟩ hp ne) ha⟩
theorem IsR.updP {C CP p dx : Addr} {H : Hp} {v : V} {q : Rat} {fs : List (Str × V)} {o : HO} (h : IsR C H v q) (hp : H p = some (.ins CP dx fs)) (ne : ∀ q, fs ≠ ratF q) : IsR C (upd H p o) v q := h.extP hp ne fun b u n e => by rw [upd_ne n]; exact e
theorem AllA.extP {C CP p dx : Addr} {H H' : Hp} {xs : List V} {qs : List Rat} {fs : List (Str × V)} (h : AllA C H xs qs) (hp : H p = some (.ins CP dx fs)) (ne : ∀ q, fs ≠ ratF q) (e : Ext p H H') : AllA C H' xs qs := Fa2.mono h fun _ _ z => z.elim (fun z => .inl (z.extP hp ne e)) .inr
theorem Sq.extP {CP p dx a : Addr} {H H' : Hp} {xs : List V} {fs : List (Str × V)} (h : Sq K H a xs) (hp : H p = some (.ins CP dx fs)) (e : Ext p H H') : Sq K H' a xs := by
  have ne : ∀ {o : HO}, H a = some o → (∀ x y z, o ≠ .ins x y z) → a ≠ p := fun {o} h1 h2 z => by
    rw [z, hp] at h1
    exact h2 _ _ _ (Option.some.inj h1).symm
  rcases h with ((h | ⟨o, h⟩) | h) | ((h | ⟨o, h⟩) | h)
  · exact .inl (.inl (.inl (e _ _ (ne h fun _ _ _ z => by cases z) h)))
  · exact .inl (.inl (.inr ⟨o, e _ _ (ne h fun _ _ _ z => by cases z) h⟩))
  · exact .inl (.inr h)
  · exact .inr (.inl (.inl (e _ _ (ne h fun _ _ _ z => by cases z) h)))
  · exact .inr (.inl (.inr ⟨o, e _ _ (ne h fun _ _ _ z => by cases z) h⟩))
  · exact .inr (.inr h)
theorem AllR.updP {C CP p dx : Addr} {H : Hp} {xs : List V} {qs : List Rat} {fs : List (Str × V)} {o : HO} (h : AllR C H xs qs) (hp : H p = some (.ins CP dx fs)) (ne : ∀ q, fs ≠ ratF q) : AllR C (upd H p o) xs qs := Fa2.mono h fun _ _ z => z.updP hp ne
theorem tup_updP {CP p dx t : Addr} {H : Hp} {ys : List V} {fs : List (Str × V)} {o : HO} (h : H t = some (.tup ys)) (hp : H p = some (.ins CP dx fs)) : upd H p o t = some (.tup ys) := by
  rw [upd_ne (fun z => by rw [z, hp] at h; cases h)]
  exact h
theorem ext_updP {p : Addr} {H H1 : Hp} {o : HO} (h : Ext p H H1) : Ext p H (upd H1 p o) := fun b u n e => by rw [upd_ne n]; exact h b u n e
def plF (v0 : V) (t : Addr) (n : Int) (b : Bool) (r : Addr) : List (Str × V) := [("fixed", v0), ("slopes", .ref t), ("size", .int n), ("is_number", .bl b), ("row", .ref r)]
theorem pf1 {v : V} : putF "fixed" v [] = ([("fixed", v)] : List (Str × V)) := by unfold putF; rfl
theorem pf2 {a v : V} : putF "slopes" v [("fixed", a)] = ([("fixed", a), ("slopes", v)] : List (Str × V)) := by unfold putF; simp (decide := true) [putF]
theorem pf3 {a b v : V} : putF "size" v [("fixed", a), ("slopes", b)] = ([("fixed", a), ("slopes", b), ("size", v)] : List (Str × V)) := by unfold putF; simp (decide := true) [putF]
theorem pf4 {a b c v : V} : putF "is_number" v [("fixed", a), ("slopes", b), ("size", c)] = ([("fixed", a), ("slopes", b), ("size", c), ("is_number", v)] : List (Str × V)) := by unfold putF; simp (decide := true) [putF]
theorem pf5 {a b c d v : V} : putF "row" v [("fixed", a), ("slopes", b), ("size", c), ("is_number", d)] = ([("fixed", a), ("slopes", b), ("size", c), ("is_number", d), ("row", v)] : List (Str × V)) := by unfold putF; simp (decide := true) [putF]
/-- the fields of a plane -/
def IsPF (CR : Addr) (H : Hp) (fs : List (Str × V)) (q : Rat) (qs : List Rat) : Prop := ∃ v0 t ys r, fs = plF v0 t (qs.length : Int) (qs.all fun s => decide (s = 0)) r ∧ IsR CR H v0 q ∧ H t = some (.tup ys) ∧ AllR CR H ys qs ∧ H r = some (.tup ((row (q :: qs)).map V.int))
def Bad2 (CB : Addr) (H : Hp) (E : XK) (w : Str) (x : V) : Prop := ∀ H' d, Same H H' → H' d = some (.xd [("number", x), ("what", .str w)]) → E (.ref CB) (some d) H'
def spPlane (K : PySem.W.Frag) (CR CP CB : Addr) : Sp := fun vs H Q E => ∃ (p dx a : Addr) (x : V) (xs : List V), vs = [.ref p, x, .ref a] ∧ H p = some (.ins CP dx []) ∧ Sq K H a xs ∧ xs.length ≤ 18 ∧
  ((∃ q qs, AsR CR H x q ∧ AllA CR H xs qs ∧ HwM.Bd 400 q ∧ (∀ r ∈ qs, HwM.Bd 400 r) ∧ ∀ H' fs, Ext p H H' → H' p = some (.ins CP dx fs) → IsPF CR H' fs q qs → Q .non H') ∨
   (Ty K CR H x false false ∧ Bad2 CB H E "fixed" x) ∨
   (∃ (i : Nat) (v : V) (q : Rat) (qs : List Rat), AsR CR H x q ∧ xs[i]? = some v ∧ AllA CR H (xs.take i) qs ∧ Ty K CR H v false false ∧ Bad2 CB H E "slope" v))
abbrev N_PlaneD_initD : List Str := ["self", "fixed", "slopes", "slope"]
theorem sc_PlaneD_initD : FnScope N_PlaneD_initD ["self", "fixed", "slopes"] (defScope s_PlaneD_initD) := ⟨rfl, rfl, rfl, by decide +kernel, rfl, by decide +kernel, by decide +kernel⟩
theorem st_PlaneD_initD {v0 v1 v2 : V} : L2.start N_PlaneD_initD [v0, v1, v2] = [some v0, some v1, some v2, none] := rfl
theorem ok_PlaneD_initD {f : Addr} {fd : FuncData} (F : FD K s_PlaneD_initD "__init__" "Plane.__init__" f fd) {C_Ratio C_Plane C_BadNumber : Addr} (R : RatC K C_Ratio) (PC : PlaC K C_Plane) (z_all : mg "all" = none) (z_len : mg "len" = none) (g_least_whole : Gf P w K mg base "least_whole" 1 ["ratios"] (spWhole K C_Ratio)) (g_as_ratios : Gf P w K mg base "as_ratios" 6 ["values"] (spAsAll K C_Ratio)) (g_as_ratio : Gf P w K mg base "as_ratio" 5 ["value"] (spAs C_Ratio)) (g_is_ratio : Gf P w K mg base "is_ratio" 2 ["value"] (spIsRat K C_Ratio)) (g_BadNumber : Xf P w K mg base "BadNumber" C_BadNumber 1 (spX2 C_BadNumber "what" "number")) : FnOk P w K mg base (L2.CX P w) 7 f fd ["self", "fixed", "slopes"] (spPlane K C_Ratio C_Plane C_BadNumber) := by
  have nd := sc_PlaneD_initD.nd
  refine F.okX sc_PlaneD_initD (fun vs H Q E h => ?_) (fun cdv A outer s H vs Q E hr h => ?_)
  · obtain ⟨p, dx, a, x, xs, rfl, _⟩ := h
    rfl
  · obtain ⟨p, dx, a, x, xs, rfl, hp, hq, hl, hc⟩ := h
    refine ⟨_, (C8.pss_cut (ps_if (pt_not (pt_val (pe_g g_is_ratio hr (by decide) passL rfl (pa_cons (pv 1) pa_nil)))) (pss_one (ps_raiseX g_BadNumber hr (by decide) rfl (takes_of rfl rfl rfl rfl) rfl (pa_cons pe_str (pa_cons (pv 1) pa_nil)))) pss_nil)
        (C8.pss_cut (ps_for (passes_of rfl) rfl (pi_seq (pv 2)) (pg_name (i := 3) nd rfl (Or.inl rfl)) (pss_one (ps_if (pt_not (pt_val (pe_g g_is_ratio hr (by decide) passL rfl (pa_cons (pv 3) pa_nil)))) (pss_one (ps_raiseX g_BadNumber hr (by decide) rfl (takes_of rfl rfl rfl rfl) rfl (pa_cons pe_str (pa_cons (pv 3) pa_nil)))) pss_nil)))
        (C8.pss_cut (ps_fld (pv 0) (pe_g g_as_ratio hr (by decide) passL rfl (pa_cons (pv 1) pa_nil)) rfl)
        (C8.pss_cut (ps_fld (pv 0) (pe_g g_as_ratios hr (by decide) passL rfl (pa_cons (pv 2) pa_nil)) rfl)
        (C8.pss_cut (ps_fld (pv 0) (pe_callB call_len_seq (by rfl) z_len (by decide +kernel) (pa_cons (pe_fld (pv 0) rfl) pa_nil)) rfl)
        (C8.pss_cut (ps_fld (pv 0) (pe_callB (id := "all") (cr_all rfl) (by rfl) z_all (by decide +kernel) (pa_cons (pe_lc (own := [("slope", 3)]) rfl nd (pi_tup (pe_fld (pv 0) rfl)) (blkOk_by (own := [("slope", 3)]) (N := N_PlaneD_initD) (sc := defScope s_PlaneD_initD) (by decide +kernel)) (fun _ _ _ _ _ => (pg_name (i := 3) nd rfl (Or.inl rfl))) (fun _ _ _ _ _ => pts_nil) (fun _ _ _ _ _ => (pe_cmpR op_eq (pe_fldE (K := K) rfl (pv 3) rfl) pe_int (nomark _)))) pa_nil)) rfl)
        (pss_one (ps_fld (pv 0) (pe_g g_least_whole hr (by decide) passL rfl (pa_cons (pe_lst (pa_cons (pe_fld (pv 0) rfl) (pa_star (pe_fld (pv 0) rfl) pa_nil))) pa_nil)) rfl)))))))), ?_⟩
    simp only [tVar, rIxTH, rIxLH, gTupH, line_le, HO.tup.injEq, HO.lst.injEq, List.length_cons, List.length_nil, at0, at1, rU, tOst, tTest, rIxL, rIxT, C8.tCut, cxOf_K, tC, tOp, tUn, tSeq, tAsg, tNext, tRet, tRetN, tDrop, tIfS, tNever, gName, gNil, gCons, gTup, gSub, tPar, rI, rI0, rU, rEq, rNe, tB, tAnd, tOr, tNot, tAndV, tOrV, tNotV, tIf, tTup, tLst, tNil, tCons, tCB, tCall, tMeth, tMake, tFld, sFld, tDGet, sDPut, tDisp, tPairs, tBreak, tCont, scal_ii, scal_bb, scal_ss, List.getElem?_cons_zero, List.getElem?_cons_succ, List.set_cons_zero, List.set_cons_succ, Option.some.injEq, exists_eq_left', exists_eq_left, exists_and_left, V.int.injEq, V.bl.injEq, V.ref.injEq, V.str.injEq, List.cons.injEq, and_true, true_and, Bool.true_eq, List.nil_append, List.append_nil, List.cons_append, exists_eq', and_self, reduceCtorEq, false_or, or_false, false_and, exists_false, exists_const, and_assoc, if_true, Bool.false_eq_true, if_false, Nat.reduceAdd, Nat.reduceLeDiff, Nat.zero_add, Nat.le_refl, forall_const, st_PlaneD_initD]
    rcases hc with ⟨q, qs, hx, hf, bq, bs, k⟩ | ⟨hT, ke⟩ | ⟨i, v, q, qs, hx, hi, hf, hT, ke⟩
    · have le := Fa2.len hf
      refine ⟨fun σ' H' => H' = H ∧ σ' = [some (.ref p), some x, some (.ref a), none], ?_, ?_⟩
      · obtain ⟨i, b, hT, hir⟩ := ty_as R hx
        refine ⟨x, i, b, rfl, hT, _, rfl, ?_⟩
        rw [hir]
        exact iteF ⟨rfl, rfl⟩
      rintro σ' H1 ⟨rfl, rfl⟩
      refine ⟨fun σ' H' => H' = H1 ∧ ∃ v, σ' = [some (.ref p), some x, some (.ref a), v], ?_, ?_⟩
      · refine ⟨.ref a, rfl, a, rfl, for_seq hq (fun i σ' H' => H' = H1 ∧ ∃ v, σ' = [some (.ref p), some x, some (.ref a), v]) ⟨rfl, none, rfl⟩ (fun i σ' H' h => by rw [h.1]; exact Same.refl _) ?_ ?_⟩
        · rintro i y σ H' hi ⟨rfl, v, rfl⟩
          obtain ⟨r, hr1, hy⟩ := Fa2.get hf hi
          obtain ⟨ii, b, hT, hir⟩ := ty_as R hy
          simp only [tVar, rIxTH, rIxLH, gTupH, line_le, HO.tup.injEq, HO.lst.injEq, List.length_cons, List.length_nil, at0, at1, rU, tOst, tTest, rIxL, rIxT, C8.tCut, cxOf_K, tC, tOp, tUn, tSeq, tAsg, tNext, tRet, tRetN, tDrop, tIfS, tNever, gName, gNil, gCons, gTup, gSub, tPar, rI, rI0, rU, rEq, rNe, tB, tAnd, tOr, tNot, tAndV, tOrV, tNotV, tIf, tTup, tLst, tNil, tCons, tCB, tCall, tMeth, tMake, tFld, sFld, tDGet, sDPut, tDisp, tPairs, tBreak, tCont, scal_ii, scal_bb, scal_ss, List.getElem?_cons_zero, List.getElem?_cons_succ, List.set_cons_zero, List.set_cons_succ, Option.some.injEq, exists_eq_left', exists_eq_left, exists_and_left, V.int.injEq, V.bl.injEq, V.ref.injEq, V.str.injEq, List.cons.injEq, and_true, true_and, Bool.true_eq, List.nil_append, List.append_nil, List.cons_append, exists_eq', and_self, reduceCtorEq, false_or, or_false, false_and, exists_false, exists_const, and_assoc, if_true, Bool.false_eq_true, if_false, Nat.reduceAdd, Nat.reduceLeDiff, Nat.zero_add, Nat.le_refl, forall_const, st_PlaneD_initD]
          refine ⟨y, ii, b, rfl, hT, _, rfl, ?_⟩
          rw [hir]
          exact iteF rfl
        · rintro σ H' ⟨rfl, v, rfl⟩
          exact ⟨rfl, v, rfl⟩
      rintro σ' H2 ⟨rfl, v, rfl⟩
      refine ⟨fun σ' H' => Ext p H2 H' ∧ σ' = [some (.ref p), some x, some (.ref a), v] ∧ ∃ v0, H' p = some (.ins C_Plane dx [("fixed", v0)]) ∧ IsR C_Ratio H' v0 q, ?_, ?_⟩
      · refine ⟨x, rfl, x, q, rfl, hx, fun H3 y s3 hy => ⟨_, rfl, p, rfl, _, _, _, s3 _ _ hp, PC.cl, PC.nf, by decide, ?_⟩⟩
        rw [pf1]
        exact ⟨ext_updP (.of s3), rfl, y, upd_same, hy.updP (s3 _ _ hp) nf_nil⟩
      rintro σ' H3 ⟨x3, rfl, v0, hp3, h0⟩
      refine ⟨fun σ' H' => Ext p H2 H' ∧ σ' = [some (.ref p), some x, some (.ref a), v] ∧ ∃ t ys, H' p = some (.ins C_Plane dx [("fixed", v0), ("slopes", .ref t)]) ∧ IsR C_Ratio H' v0 q ∧ H' t = some (.tup ys) ∧ AllR C_Ratio H' ys qs, ?_, ?_⟩
      · refine ⟨.ref a, rfl, a, xs, qs, rfl, Sq.extP hq hp x3, hf.extP hp nf_nil x3, by omega, fun H4 t ys s4 ht hy => ⟨_, rfl, p, rfl, _, _, _, s4 _ _ hp3, PC.cl, PC.ns, by simp, ?_⟩⟩
        rw [pf2]
        have hp4 := s4 _ _ hp3
        exact ⟨ext_updP (x3.trans (.of s4)), rfl, t, ys, upd_same, (h0.same s4).updP hp4 nf_fix, tup_updP ht hp4, hy.updP hp4 nf_fix⟩
      rintro σ' H4 ⟨x4, rfl, t, ys, hp4, h4, ht4, hy4⟩
      have ly := Fa2.len hy4
      refine ⟨fun σ' H' => Ext p H2 H' ∧ σ' = [some (.ref p), some x, some (.ref a), v] ∧ H' p = some (.ins C_Plane dx [("fixed", v0), ("slopes", .ref t), ("size", .int (qs.length : Int))]) ∧ IsR C_Ratio H' v0 q ∧ H' t = some (.tup ys) ∧ AllR C_Ratio H' ys qs, ?_, ?_⟩
      · refine ⟨_, rfl, p, rfl, _, _, _, hp4, PC.cl, PC.ns, _, lkB (by decide) lkA, t, rfl, ys, .inr (SqT.of ht4), _, rfl, p, rfl, _, _, _, hp4, PC.cl, PC.nz, by simp, ?_⟩
        rw [pf3, ly]
        exact ⟨ext_updP x4, rfl, upd_same, h4.updP hp4 nf_fix, tup_updP ht4 hp4, hy4.updP hp4 nf_fix⟩
      rintro σ' H5 ⟨x5, rfl, hp5, h5, ht5, hy5⟩
      refine ⟨fun σ' H' => Ext p H2 H' ∧ σ' = [some (.ref p), some x, some (.ref a), v] ∧ H' p = some (.ins C_Plane dx [("fixed", v0), ("slopes", .ref t), ("size", .int (qs.length : Int)), ("is_number", .bl (qs.all fun s => decide (s = 0)))]) ∧ IsR C_Ratio H' v0 q ∧ H' t = some (.tup ys) ∧ AllR C_Ratio H' ys qs, ?_, ?_⟩
      · refine ⟨_, rfl, p, _, dx, _, .ref t, rfl, hp5, PC.cl, PC.ns, lkB (by decide) lkA, t, rfl, ⟨_, SqT.of ht5⟩, fun D hD => lc_tup (K := K) (a := t) (xs := ys) (fun i H' => Same H5 H' ∧ H' D = some (.lst ((qs.take i).map fun r => V.bl (decide (r = 0))))) ⟨same_new hD, upd_same⟩ (fun i H' _ h => SqT.of (h.1 _ _ ht5)) ?_ ?_⟩
        · rintro i y H6 hi ⟨s6, hl6⟩
          obtain ⟨r, hr1, hy⟩ := Fa2.get hy5 hi
          obtain ⟨b, db, rfl, hb⟩ := hy.same s6
          simp only [tVar, rIxTH, rIxLH, gTupH, line_le, HO.tup.injEq, HO.lst.injEq, List.length_cons, List.length_nil, at0, at1, rU, tOst, tTest, rIxL, rIxT, C8.tCut, cxOf_K, tC, tOp, tUn, tSeq, tAsg, tNext, tRet, tRetN, tDrop, tIfS, tNever, gName, gNil, gCons, gTup, gSub, tPar, rI, rI0, rU, rEq, rNe, tB, tAnd, tOr, tNot, tAndV, tOrV, tNotV, tIf, tTup, tLst, tNil, tCons, tCB, tCall, tMeth, tMake, tFld, sFld, tDGet, sDPut, tDisp, tPairs, tBreak, tCont, scal_ii, scal_bb, scal_ss, List.getElem?_cons_zero, List.getElem?_cons_succ, List.set_cons_zero, List.set_cons_succ, Option.some.injEq, exists_eq_left', exists_eq_left, exists_and_left, V.int.injEq, V.bl.injEq, V.ref.injEq, V.str.injEq, List.cons.injEq, and_true, true_and, Bool.true_eq, List.nil_append, List.append_nil, List.cons_append, exists_eq', and_self, reduceCtorEq, false_or, or_false, false_and, exists_false, exists_const, and_assoc, if_true, Bool.false_eq_true, if_false, Nat.reduceAdd, Nat.reduceLeDiff, Nat.zero_add, Nat.le_refl, forall_const, st_PlaneD_initD, wipe, List.map_cons, List.map_nil, tYes]
          simp only [tVar, rIxTH, rIxLH, gTupH, line_le, HO.tup.injEq, HO.lst.injEq, List.length_cons, List.length_nil, at0, at1, rU, tOst, tTest, rIxL, rIxT, C8.tCut, cxOf_K, tC, tOp, tUn, tSeq, tAsg, tNext, tRet, tRetN, tDrop, tIfS, tNever, gName, gNil, gCons, gTup, gSub, tPar, rI, rI0, rU, rEq, rNe, tB, tAnd, tOr, tNot, tAndV, tOrV, tNotV, tIf, tTup, tLst, tNil, tCons, tCB, tCall, tMeth, tMake, tFld, sFld, tDGet, sDPut, tDisp, tPairs, tBreak, tCont, scal_ii, scal_bb, scal_ss, List.getElem?_cons_zero, List.getElem?_cons_succ, List.set_cons_zero, List.set_cons_succ, Option.some.injEq, exists_eq_left', exists_eq_left, exists_and_left, V.int.injEq, V.bl.injEq, V.ref.injEq, V.str.injEq, List.cons.injEq, and_true, true_and, Bool.true_eq, List.nil_append, List.append_nil, List.cons_append, exists_eq', and_self, reduceCtorEq, false_or, or_false, false_and, exists_false, exists_const, and_assoc, if_true, Bool.false_eq_true, if_false, Nat.reduceAdd, Nat.reduceLeDiff, Nat.zero_add, Nat.le_refl, forall_const, st_PlaneD_initD, HO.ins.injEq, R.cl, R.nt, R.nb, ratF_top, ratF_bottom, hb]
          have e0 : decide (r.num = 0) = decide (r = 0) := decide_eq_decide.mpr ⟨fun z => Rat.num_eq_zero.mp z, fun z => by rw [z]; rfl⟩
          rw [e0]
          have li : i < ys.length := by
            rcases Nat.lt_or_ge i ys.length with h | h
            · exact h
            · rw [List.getElem?_eq_none h] at hi; cases hi
          refine ⟨_, hl6, by rw [List.length_map, List.length_take]; exact Nat.lt_of_le_of_lt (show _ ≤ 18 by omega) (by decide), same_updL hD s6, ?_⟩
          rw [upd_same, take_snoc hr1, List.map_append]
          rfl
        · rintro H6 ⟨s6, hl6⟩
          rw [ly, List.take_length] at hl6
          refine ⟨D, qs.map fun r => decide (r = 0), rfl, SqL.of (by rw [List.map_map]; exact hl6), _, rfl, p, rfl, _, _, _, s6 _ _ hp5, PC.cl, PC.nn, by simp, ?_⟩
          have hp6 := s6 _ _ hp5
          rw [pf4, show ((qs.map fun r => decide (r = 0)).all id) = (qs.all fun s => decide (s = 0)) by rw [List.all_map]; rfl]
          exact ⟨ext_updP (x5.trans (.of s6)), rfl, upd_same, (h5.same s6).updP hp6 nf_fix, tup_updP (s6 _ _ ht5) hp6, (hy5.same s6).updP hp6 nf_fix⟩
      rintro σ' H6 ⟨x6, rfl, hp6, h6, ht6, hy6⟩
      refine ⟨_, rfl, p, rfl, _, _, _, hp6, PC.cl, PC.nf, _, lkA, _, rfl, p, _, dx, _, .ref t, rfl, hp6, PC.cl, PC.ns, lkB (by decide) lkA, t, ys, rfl, .inr (SqT.of ht6), line_le (by simp; omega), fun l hl9 => ?_⟩
      have s7 := same_new (o := HO.lst (v0 :: (ys ++ []))) hl9
      refine ⟨l, v0 :: ys, q :: qs, rfl, .inl (SqL.of (by rw [upd_same, List.append_nil])), .cons (h6.same s7) (hy6.same s7), ?_, by simp; omega, fun H7 r s8 hr => ⟨_, rfl, p, rfl, _, _, _, s8 _ _ (s7 _ _ hp6), PC.cl, PC.nr, by simp, ?_⟩⟩
      · intro z hz
        rcases List.mem_cons.mp hz with rfl | hz
        · exact bq
        · exact bs z hz
      have hp7 := s8 _ _ (s7 _ _ hp6)
      rw [pf5]
      refine k _ _ (ext_updP (x6.trans (.of (s7.trans s8)))) upd_same ⟨v0, t, ys, r, rfl, ?_, ?_, ?_, ?_⟩
      · exact ((h6.same s7).same s8).updP hp7 nf_fix
      · exact tup_updP (s8 _ _ (s7 _ _ ht6)) hp7
      · exact ((hy6.same s7).same s8).updP hp7 nf_fix
      · exact tup_updP hr hp7
    · refine ⟨fun _ _ => False, ?_, fun _ _ z => z.elim⟩
      refine ⟨x, false, false, rfl, hT, _, rfl, iteT ?_⟩
      simp only [tVar, rIxTH, rIxLH, gTupH, line_le, HO.tup.injEq, HO.lst.injEq, List.length_cons, List.length_nil, at0, at1, rU, tOst, tTest, rIxL, rIxT, C8.tCut, cxOf_K, tC, tOp, tUn, tSeq, tAsg, tNext, tRet, tRetN, tDrop, tIfS, tNever, gName, gNil, gCons, gTup, gSub, tPar, rI, rI0, rU, rEq, rNe, tB, tAnd, tOr, tNot, tAndV, tOrV, tNotV, tIf, tTup, tLst, tNil, tCons, tCB, tCall, tMeth, tMake, tFld, sFld, tDGet, sDPut, tDisp, tPairs, tBreak, tCont, scal_ii, scal_bb, scal_ss, List.getElem?_cons_zero, List.getElem?_cons_succ, List.set_cons_zero, List.set_cons_succ, Option.some.injEq, exists_eq_left', exists_eq_left, exists_and_left, V.int.injEq, V.bl.injEq, V.ref.injEq, V.str.injEq, List.cons.injEq, and_true, true_and, Bool.true_eq, List.nil_append, List.append_nil, List.cons_append, exists_eq', and_self, reduceCtorEq, false_or, or_false, false_and, exists_false, exists_const, and_assoc, if_true, Bool.false_eq_true, if_false, Nat.reduceAdd, Nat.reduceLeDiff, Nat.zero_add, Nat.le_refl, forall_const, st_PlaneD_initD, tMkO]
      refine fun b hb => ⟨b, _, _, rfl, upd_same, fun d hd hda => ⟨rfl, x2_made hb (by rw [upd_ne hda] at hd; exact hd) hda fun H2 e1 e2 => ke H2 d e1 e2⟩⟩
    · obtain ⟨ii, b, hTx, hir⟩ := ty_as R hx
      have le := Fa2.len hf
      refine ⟨fun σ' H' => H' = H ∧ σ' = [some (.ref p), some x, some (.ref a), none], ?_, ?_⟩
      · refine ⟨x, ii, b, rfl, hTx, _, rfl, ?_⟩
        rw [hir]
        exact iteF ⟨rfl, rfl⟩
      rintro σ' H1 ⟨rfl, rfl⟩
      refine ⟨fun _ _ => False, ?_, fun _ _ z => z.elim⟩
      have li : i < xs.length := by
        rcases Nat.lt_or_ge i xs.length with h | h
        · exact h
        · rw [List.getElem?_eq_none h] at hi; cases hi
      refine ⟨.ref a, rfl, a, rfl, for_seq hq (fun j σ' H' => H' = H1 ∧ j ≤ i ∧ ∃ v, σ' = [some (.ref p), some x, some (.ref a), v]) ⟨rfl, Nat.zero_le _, none, rfl⟩ (fun i σ' H' h => by rw [h.1]; exact Same.refl _) ?_ ?_⟩
      · rintro j y σ H' hj ⟨rfl, lj, v2, rfl⟩
        simp only [tVar, rIxTH, rIxLH, gTupH, line_le, HO.tup.injEq, HO.lst.injEq, List.length_cons, List.length_nil, at0, at1, rU, tOst, tTest, rIxL, rIxT, C8.tCut, cxOf_K, tC, tOp, tUn, tSeq, tAsg, tNext, tRet, tRetN, tDrop, tIfS, tNever, gName, gNil, gCons, gTup, gSub, tPar, rI, rI0, rU, rEq, rNe, tB, tAnd, tOr, tNot, tAndV, tOrV, tNotV, tIf, tTup, tLst, tNil, tCons, tCB, tCall, tMeth, tMake, tFld, sFld, tDGet, sDPut, tDisp, tPairs, tBreak, tCont, scal_ii, scal_bb, scal_ss, List.getElem?_cons_zero, List.getElem?_cons_succ, List.set_cons_zero, List.set_cons_succ, Option.some.injEq, exists_eq_left', exists_eq_left, exists_and_left, V.int.injEq, V.bl.injEq, V.ref.injEq, V.str.injEq, List.cons.injEq, and_true, true_and, Bool.true_eq, List.nil_append, List.append_nil, List.cons_append, exists_eq', and_self, reduceCtorEq, false_or, or_false, false_and, exists_false, exists_const, and_assoc, if_true, Bool.false_eq_true, if_false, Nat.reduceAdd, Nat.reduceLeDiff, Nat.zero_add, Nat.le_refl, forall_const, st_PlaneD_initD]
        rcases Nat.lt_or_ge j i with h | h
        · have hj2 : (xs.take i)[j]? = some y := by rw [List.getElem?_take_of_lt h]; exact hj
          obtain ⟨r, hr1, hy⟩ := Fa2.get hf hj2
          obtain ⟨i3, b3, hT3, hir3⟩ := ty_as R hy
          refine ⟨y, i3, b3, rfl, hT3, _, rfl, ?_⟩
          rw [hir3]
          exact iteF ⟨rfl, h⟩
        · obtain rfl : j = i := by omega
          obtain rfl : y = v := by rw [hi] at hj; exact (Option.some.inj hj).symm
          refine ⟨y, false, false, rfl, hT, _, rfl, iteT ?_⟩
          simp only [tVar, rIxTH, rIxLH, gTupH, line_le, HO.tup.injEq, HO.lst.injEq, List.length_cons, List.length_nil, at0, at1, rU, tOst, tTest, rIxL, rIxT, C8.tCut, cxOf_K, tC, tOp, tUn, tSeq, tAsg, tNext, tRet, tRetN, tDrop, tIfS, tNever, gName, gNil, gCons, gTup, gSub, tPar, rI, rI0, rU, rEq, rNe, tB, tAnd, tOr, tNot, tAndV, tOrV, tNotV, tIf, tTup, tLst, tNil, tCons, tCB, tCall, tMeth, tMake, tFld, sFld, tDGet, sDPut, tDisp, tPairs, tBreak, tCont, scal_ii, scal_bb, scal_ss, List.getElem?_cons_zero, List.getElem?_cons_succ, List.set_cons_zero, List.set_cons_succ, Option.some.injEq, exists_eq_left', exists_eq_left, exists_and_left, V.int.injEq, V.bl.injEq, V.ref.injEq, V.str.injEq, List.cons.injEq, and_true, true_and, Bool.true_eq, List.nil_append, List.append_nil, List.cons_append, exists_eq', and_self, reduceCtorEq, false_or, or_false, false_and, exists_false, exists_const, and_assoc, if_true, Bool.false_eq_true, if_false, Nat.reduceAdd, Nat.reduceLeDiff, Nat.zero_add, Nat.le_refl, forall_const, st_PlaneD_initD, tMkO]
          refine fun b hb => ⟨b, _, _, rfl, upd_same, fun d hd hda => ⟨rfl, x2_made hb (by rw [upd_ne hda] at hd; exact hd) hda fun H2 e1 e2 => ke H2 d e1 e2⟩⟩
      · rintro σ H' ⟨rfl, lj, v2, rfl⟩
        omega


end HwL
end

section
namespace HwL
open PySem PySem.Spec PyProof.Rows L2 LamX HwP
variable {P : Program} {w : World} {K : PySem.W.Frag} {mg : Str → Option Value} {base : Heap}

/-- a plane: q + qs . -/
def IsP (CR CP : Addr) (H : Hp) (x : V) (q : Rat) (qs : List Rat) : Prop := ∃ a dx fs, x = .ref a ∧ H a = some (.ins CP dx fs) ∧ IsPF CR H fs q qs
theorem IsPF.same {CR : Addr} {H H' : Hp} {fs : List (Str × V)} {q : Rat} {qs : List Rat} (h : IsPF CR H fs q qs) (e : Same H H') : IsPF CR H' fs q qs := by
  obtain ⟨v0, t, ys, r, rfl, h1, h2, h3, h4⟩ := h
  exact ⟨v0, t, ys, r, rfl, h1.same e, e _ _ h2, h3.same e, e _ _ h4⟩
theorem IsP.same {CR CP : Addr} {H H' : Hp} {x : V} {q : Rat} {qs : List Rat} (h : IsP CR CP H x q qs) (e : Same H H') : IsP CR CP H' x q qs := by
  obtain ⟨a, dx, fs, rfl, h1, h2⟩ := h
  exact ⟨a, dx, fs, rfl, e _ _ h1, h2.same e⟩
theorem made_plane {CR CP CB a : Addr} {H : Hp} {v : V} {xs : List V} {q : Rat} {qs : List Rat} {Q : VK} {E : XK} (hv : AsR CR H v q) (hl : Sq K H a xs) (hf : AllA CR H xs qs) (le : xs.length ≤ 18) (bq : HwM.Bd 400 q) (bs : ∀ r ∈ qs, HwM.Bd 400 r)
    (k : ∀ H' y, Same H H' → IsP CR CP H' y q qs → Q y H') (x dx : Addr) (hx : H x = none) (hd : H dx = none) (hne : dx ≠ x) :
    spPlane K CR CP CB [.ref x, v, .ref a] (upd (upd H dx (.own x)) x (.ins CP dx [])) (fun v H2 => v = .non ∧ Q (.ref x) H2) E := by
  have sm : Same H (upd (upd H dx (.own x)) x (.ins CP dx [])) := fun c o e => by rw [upd_ne (ne_of_none e hx), upd_ne (ne_of_none e hd)]; exact e
  refine ⟨x, dx, a, v, xs, rfl, upd_same, hl.same sm, le, .inl ⟨q, qs, hv.same sm, hf.same sm, bq, bs, fun H' fs e hp hf => ⟨rfl, k H' _ (fun c o z => ?_) ⟨x, dx, fs, rfl, hp, hf⟩⟩⟩⟩
  exact e _ _ (ne_of_none z hx) (sm _ _ z)
theorem raise_bad2 {CB : Addr} {te : TE} {σ : L2.St} {H : Hp} {E : XK} {w : Str} {x : V} (hte : ∀ Q : VK, Q x H → te σ H Q) (ke : Bad2 CB H E w x) :
    tMkO CB (spX2 CB "what" "number") [] (tCons (tC (.str w)) (tCons te tNil)) σ H fun cls d H' => E cls d H' := by
  refine hte _ ⟨by simp, fun b hb => ⟨b, _, _, rfl, upd_same, fun d hd hda => ⟨rfl, ?_⟩⟩⟩
  obtain ⟨d', e1, fs, e2, e3, e4⟩ := x2_made (C := CB) (f1 := "what") (f2 := "number") (x := .str w) (y := x) (Q := E) hb (by rw [upd_ne hda] at hd; exact hd) hda fun H2 e1 e2 => ke H2 d e1 e2
  exact ⟨d', fs, e1, e2, e3, e4⟩
def spSizes (CR CP CB : Addr) : Sp := fun vs H Q E => ∃ (x y : V) (q r : Rat) (qs rs : List Rat), vs = [x, y] ∧ IsP CR CP H x q qs ∧ IsP CR CP H y r rs ∧ ((qs.length = rs.length ∧ Q .non H) ∨ (qs.length ≠ rs.length ∧ Bad2 CB H E "size" (.int (rs.length : Int))))
abbrev N_check_sizes : List Str := ["one", "other"]
theorem sc_check_sizes : FnScope N_check_sizes ["one", "other"] (defScope s_check_sizes) := ⟨rfl, rfl, rfl, by decide +kernel, rfl, by decide +kernel, by decide +kernel⟩
theorem st_check_sizes {v0 v1 : V} : L2.start N_check_sizes [v0, v1] = [some v0, some v1] := rfl
theorem ok_check_sizes {f : Addr} {fd : FuncData} (F : FD K s_check_sizes "check_sizes" "check_sizes" f fd) {C_Ratio C_Plane C_BadNumber : Addr} (PC : PlaC K C_Plane) (g_BadNumber : Xf P w K mg base "BadNumber" C_BadNumber 1 (spX2 C_BadNumber "what" "number")) : FnOk P w K mg base (L2.CX P w) 3 f fd ["one", "other"] (spSizes C_Ratio C_Plane C_BadNumber) := by
  have nd := sc_check_sizes.nd
  refine F.okX sc_check_sizes (fun vs H Q E h => ?_) (fun cdv A outer s H vs Q E hr h => ?_)
  · obtain ⟨x, y, q, r, qs, rs, rfl, _⟩ := h
    rfl
  · obtain ⟨x, y, q, r, qs, rs, rfl, ⟨a, da, fa, rfl, ha, v0, t, ys, r1, rfl, _⟩, ⟨b, db, fb, rfl, hb, w0, t2, ys2, r2, rfl, _⟩, hc⟩ := h
    have l1 : ∀ {v : V} {t n b r}, List.lookup ("size" : Str) (plF v t n b r) = some (V.int n) := fun {v t n b r} => lkB (by decide) (lkB (by decide) lkA)
    refine ⟨_, (pss_one (ps_if (pt_cmpR op_ne (pe_fld (pv 0) rfl) (pe_fld (pv 1) rfl) (nomark _)) (pss_one (ps_raiseX g_BadNumber hr (by decide) rfl (takes_of rfl rfl rfl rfl) rfl (pa_cons pe_str (pa_cons (pe_fld (pv 1) rfl) pa_nil)))) pss_nil)), ?_⟩
    simp only [tVar, rIxTH, rIxLH, gTupH, line_le, HO.tup.injEq, HO.lst.injEq, List.length_cons, List.length_nil, at0, at1, rU, tOst, tTest, rIxL, rIxT, C8.tCut, cxOf_K, tC, tOp, tUn, tSeq, tAsg, tNext, tRet, tRetN, tDrop, tIfS, tNever, gName, gNil, gCons, gTup, gSub, tPar, rI, rI0, rU, rEq, rNe, tB, tAnd, tOr, tNot, tAndV, tOrV, tNotV, tIf, tTup, tLst, tNil, tCons, tCB, tCall, tMeth, tMake, tFld, sFld, tDGet, sDPut, tDisp, tPairs, tBreak, tCont, scal_ii, scal_bb, scal_ss, List.getElem?_cons_zero, List.getElem?_cons_succ, List.set_cons_zero, List.set_cons_succ, Option.some.injEq, exists_eq_left', exists_eq_left, exists_and_left, V.int.injEq, V.bl.injEq, V.ref.injEq, V.str.injEq, List.cons.injEq, and_true, true_and, Bool.true_eq, List.nil_append, List.append_nil, List.cons_append, exists_eq', and_self, reduceCtorEq, false_or, or_false, false_and, exists_false, exists_const, and_assoc, if_true, Bool.false_eq_true, if_false, Nat.reduceAdd, Nat.reduceLeDiff, Nat.zero_add, Nat.le_refl, forall_const, st_check_sizes, ha, hb, HO.ins.injEq, l1]
    refine ⟨PC.cl, PC.nz, PC.cl, PC.nz, ?_⟩
    rcases hc with ⟨e, k⟩ | ⟨e, ke⟩
    · rw [decide_eq_true (by rw [e]), if_neg (by decide)]
      exact k
    · rw [decide_eq_false (by omega), if_pos (by decide)]
      exact raise_bad2 (fun Q q => ⟨_, rfl, b, _, db, _, _, rfl, hb, PC.cl, PC.nz, l1, q⟩) ke
def spSize (K : PySem.W.Frag) (CR CB : Addr) : Sp := fun vs H Q E => ∃ (x : V) (i r : Bool), vs = [x] ∧ Ty K CR H x i r ∧ ((∃ n : Int, x = .int n ∧ i = true ∧ 0 ≤ n ∧ Q .non H) ∨ (((∃ n : Int, x = .int n ∧ i = true ∧ n < 0) ∨ i = false) ∧ Bad2 CB H E "size" x))
abbrev N_check_size : List Str := ["size"]
theorem sc_check_size : FnScope N_check_size ["size"] (defScope s_check_size) := ⟨rfl, rfl, rfl, by decide +kernel, rfl, by decide +kernel, by decide +kernel⟩
theorem st_check_size {v0 : V} : L2.start N_check_size [v0] = [some v0] := rfl
theorem ok_check_size {f : Addr} {fd : FuncData} (F : FD K s_check_size "check_size" "check_size" f fd) {C_Ratio C_BadNumber : Addr} (g_is_integer : Gf P w K mg base "is_integer" 1 ["value"] (spIsInt K C_Ratio)) (g_BadNumber : Xf P w K mg base "BadNumber" C_BadNumber 1 (spX2 C_BadNumber "what" "number")) : FnOk P w K mg base (L2.CX P w) 3 f fd ["size"] (spSize K C_Ratio C_BadNumber) := by
  have nd := sc_check_size.nd
  refine F.okX sc_check_size (fun vs H Q E h => ?_) (fun cdv A outer s H vs Q E hr h => ?_)
  · obtain ⟨x, i, r, rfl, _⟩ := h
    rfl
  · obtain ⟨x, i, r, rfl, hT, hc⟩ := h
    refine ⟨_, (pss_one (ps_if (PW.pt (pw_or (pt_not (pt_val (pe_g g_is_integer hr (by decide) passL rfl (pa_cons (pv 0) pa_nil)))) (pw_or1 (pt_cmpR op_lt (pv 0) pe_int (nomark _))))) (pss_one (ps_raiseX g_BadNumber hr (by decide) rfl (takes_of rfl rfl rfl rfl) rfl (pa_cons pe_str (pa_cons (pv 0) pa_nil)))) pss_nil)), ?_⟩
    simp only [tVar, rIxTH, rIxLH, gTupH, line_le, HO.tup.injEq, HO.lst.injEq, List.length_cons, List.length_nil, at0, at1, rU, tOst, tTest, rIxL, rIxT, C8.tCut, cxOf_K, tC, tOp, tUn, tSeq, tAsg, tNext, tRet, tRetN, tDrop, tIfS, tNever, gName, gNil, gCons, gTup, gSub, tPar, rI, rI0, rU, rEq, rNe, tB, tAnd, tOr, tNot, tAndV, tOrV, tNotV, tIf, tTup, tLst, tNil, tCons, tCB, tCall, tMeth, tMake, tFld, sFld, tDGet, sDPut, tDisp, tPairs, tBreak, tCont, scal_ii, scal_bb, scal_ss, List.getElem?_cons_zero, List.getElem?_cons_succ, List.set_cons_zero, List.set_cons_succ, Option.some.injEq, exists_eq_left', exists_eq_left, exists_and_left, V.int.injEq, V.bl.injEq, V.ref.injEq, V.str.injEq, List.cons.injEq, and_true, true_and, Bool.true_eq, List.nil_append, List.append_nil, List.cons_append, exists_eq', and_self, reduceCtorEq, false_or, or_false, false_and, exists_false, exists_const, and_assoc, if_true, Bool.false_eq_true, if_false, Nat.reduceAdd, Nat.reduceLeDiff, Nat.zero_add, Nat.le_refl, forall_const, st_check_size]
    refine ⟨x, i, r, rfl, hT, _, rfl, ?_⟩
    rcases hc with ⟨n, rfl, rfl, hn, k⟩ | ⟨⟨n, rfl, rfl, hn⟩ | rfl, ke⟩
    · rw [if_neg (by decide)]
      refine ⟨n, rfl, ?_⟩
      rw [decide_eq_false (by omega), if_neg (by decide)]
      exact k
    · rw [if_neg (by decide)]
      refine ⟨n, rfl, ?_⟩
      rw [decide_eq_true hn, if_pos rfl]
      exact raise_bad2 (fun Q q => ⟨_, rfl, q⟩) ke
    · rw [if_pos (by decide)]
      exact raise_bad2 (fun Q q => ⟨_, rfl, q⟩) ke
def spPlaceC (K : PySem.W.Frag) (CR CB : Addr) : Sp := fun vs H Q E => ∃ (x : V) (n : Int) (i r : Bool), vs = [x, .int n] ∧ Ty K CR H x i r ∧ ((∃ m : Int, x = .int m ∧ i = true ∧ 0 ≤ m ∧ m < n ∧ Q .non H) ∨ (((∃ m : Int, x = .int m ∧ i = true ∧ ¬ (0 ≤ m ∧ m < n)) ∨ i = false) ∧ Bad2 CB H E "place" x))
/-- facts of isinstance for planes -/
structure PlaI (K : PySem.W.Frag) (C : Addr) : Prop where
  ha : PySem.W.findIn K (.ref C) "__class__" = some (some (.builtin "object.__class__"))
  hn : PySem.W.specialIn K (.builtin "object.__class__") "__get__" = some (some (.builtin "getset_descriptor.__get__"))
  htk : PySem.W.takesIn K (.builtin "object.__class__") = some true
  hm : PySem.W.mroIn K C (.type "object") = some true
  kT : PySem.W.kitOne K (.type "tuple") (.ref C) = some false
  kI : PySem.W.kitOne K (.type "int") (.ref C) = some false
  nT : PySem.W.notFirst K C (.type "tuple") = true
  nI : PySem.W.notFirst K C (.type "int") = true
theorem plaIB_ok {K : PySem.W.Frag} {C : Addr} (h : plaIB K C = true) : PlaI K C := by
  obtain ⟨h1, h⟩ := He.ba h
  obtain ⟨h2, h⟩ := He.ba h
  obtain ⟨h3, h⟩ := He.ba h
  obtain ⟨h4, h⟩ := He.ba h
  obtain ⟨h5, h⟩ := He.ba h
  obtain ⟨h6, h⟩ := He.ba h
  obtain ⟨h7, h8⟩ := He.ba h
  exact ⟨He.eqO_ok h1, He.eqO_ok h2, of_decide_eq_true h3, of_decide_eq_true h4, of_decide_eq_true h5, of_decide_eq_true h6, h7, h8⟩
theorem isP_ty {CR CP : Addr} {H : Hp} {x : V} {q : Rat} {qs : List Rat} (PC : PlaC K CP) (PI : PlaI K CP) (h : IsP CR CP H x q qs) : TyX K H x (.ref CP) := by
  obtain ⟨a, dx, fs, rfl, h1, _⟩ := h
  exact .base (.ins h1 PC.cl PI.ha PI.hn PI.htk PI.hm)
theorem own_run {C : Addr} {g : Rat → Rat → Rat} {H : Hp} {x y : V} {q r : Rat} {Q : VK} {E : XK} (hx : IsR C H x q) (hy : AsR C H y r) (bq : HwM.Bd 4000 q) (br : HwM.Bd 4000 r) (k : ∀ H' z, Same H H' → IsR C H' z (g q r) → Q z H') : rOwn C (spBin C g) E x y H Q :=
  ⟨hx.inst, hy.arg, x, y, q, r, rfl, hx, hy, bq, br, k⟩
def zipR (f : Rat → Rat → Rat) (qs rs : List Rat) : List Rat := (qs.zip rs).map fun p => f p.1 p.2
def spPBin (K : PySem.W.Frag) (CR CP CB : Addr) (f : Rat → Rat → Rat) : Sp := fun vs H Q E => ∃ (x y : V) (q r : Rat) (qs rs : List Rat), vs = [x, y] ∧ IsP CR CP H x q qs ∧ IsP CR CP H y r rs ∧ (∀ z ∈ q :: qs, HwM.Bd 190 z) ∧ (∀ z ∈ r :: rs, HwM.Bd 190 z) ∧ qs.length ≤ 18 ∧
  ((qs.length = rs.length ∧ ∀ H' z, Same H H' → IsP CR CP H' z (f q r) (zipR f qs rs) → Q z H') ∨ (qs.length ≠ rs.length ∧ Bad2 CB H E "size" (.int (rs.length : Int))))
abbrev N_PlaneD_addD : List Str := ["self", "other", "one", "two"]
theorem sc_PlaneD_addD : FnScope N_PlaneD_addD ["self", "other"] (defScope s_PlaneD_addD) := ⟨rfl, rfl, rfl, by decide +kernel, rfl, by decide +kernel, by decide +kernel⟩
theorem st_PlaneD_addD {v0 v1 : V} : L2.start N_PlaneD_addD [v0, v1] = [some v0, some v1, none, none] := rfl
theorem ok_PlaneD_addD {f : Addr} {fd : FuncData} (F : FD K s_PlaneD_addD "__add__" "Plane.__add__" f fd) {C_Ratio C_Plane C_BadNumber : Addr} (PC : PlaC K C_Plane) (PI : PlaI K C_Plane) (z_zip : mg "zip" = none) (z_isinstance : mg "isinstance" = none) (m_Plane : mg "Plane" = some (.ref C_Plane)) (g_Plane : Kf P w K mg base "Plane" C_Plane 7 ["self", "fixed", "slopes"] [] (spPlane K C_Ratio C_Plane C_BadNumber)) (g_RatioD_addD : Of P w K mg base C_Ratio .Add 6 (spBin C_Ratio (fun q r => q + r))) (g_check_sizes : Gf P w K mg base "check_sizes" 3 ["one", "other"] (spSizes C_Ratio C_Plane C_BadNumber)) : FnOk P w K mg base (L2.CX P w) 9 f fd ["self", "other"] (spPBin K C_Ratio C_Plane C_BadNumber (fun q r => q + r)) := by
  have nd := sc_PlaneD_addD.nd
  refine F.okX sc_PlaneD_addD (fun vs H Q E h => ?_) (fun cdv A outer s H vs Q E hr h => ?_)
  · obtain ⟨x, y, q, r, qs, rs, rfl, _⟩ := h
    rfl
  · obtain ⟨x, y, q, r, qs, rs, rfl, hx, hy, bq, br, hl, hc⟩ := h
    refine ⟨_, (pss_cons (ps_if (pt_not (pt_val (pe_callB (id := "isinstance") (r := rIsi K) (call_isiE rfl) (by rfl) z_isinstance (by decide +kernel) (pa_cons (pv 1) (pa_cons (pe_glob (v := .ref C_Plane) rfl m_Plane rfl) pa_nil))))) (pss_one (ps_never)) pss_nil)
        (C8.pss_cut (ps_expr (pe_g g_check_sizes hr (by decide) (passX rfl rfl rfl rfl) rfl (pa_cons (pv 0) (pa_cons (pv 1) pa_nil))))
        (pss_one (ps_ret (pe_k g_Plane hr (by decide) passL rfl (pa_cons (pe_op (op_o g_RatioD_addD hr (by decide) passL) (pe_fld (pv 0) rfl) (pe_fld (pv 1) rfl)) (pa_cons (pe_lc (own := [("one", 2), ("two", 3)]) rfl nd (RZ.pi_zipA (by rfl) z_zip (pa_cons (pe_fld (pv 0) rfl) (pa_cons (pe_fld (pv 1) rfl) pa_nil))) (blkOk_by (own := [("one", 2), ("two", 3)]) (N := N_PlaneD_addD) (sc := defScope s_PlaneD_addD) (by decide +kernel)) (fun _ _ _ _ _ => (pg_tupH (n := 2) rfl (pgs_cons (pg_name (i := 2) nd rfl (Or.inl rfl)) (pgs_cons (pg_name (i := 3) nd rfl (Or.inl rfl)) pgs_nil)))) (fun _ _ _ _ _ => pts_nil) (fun _ _ _ _ _ => (pe_op (op_o g_RatioD_addD hr (by decide) passL) (pv 2) (pv 3)))) pa_nil))))))), ?_⟩
    simp only [tVar, rIxTH, rIxLH, gTupH, line_le, HO.tup.injEq, HO.lst.injEq, List.length_cons, List.length_nil, at0, at1, rU, tOst, tTest, rIxL, rIxT, C8.tCut, cxOf_K, tC, tOp, tUn, tSeq, tAsg, tNext, tRet, tRetN, tDrop, tIfS, tNever, gName, gNil, gCons, gTup, gSub, tPar, rI, rI0, rU, rEq, rNe, tB, tAnd, tOr, tNot, tAndV, tOrV, tNotV, tIf, tTup, tLst, tNil, tCons, tCB, tCall, tMeth, tMake, tFld, sFld, tDGet, sDPut, tDisp, tPairs, tBreak, tCont, scal_ii, scal_bb, scal_ss, List.getElem?_cons_zero, List.getElem?_cons_succ, List.set_cons_zero, List.set_cons_succ, Option.some.injEq, exists_eq_left', exists_eq_left, exists_and_left, V.int.injEq, V.bl.injEq, V.ref.injEq, V.str.injEq, List.cons.injEq, and_true, true_and, Bool.true_eq, List.nil_append, List.append_nil, List.cons_append, exists_eq', and_self, reduceCtorEq, false_or, or_false, false_and, exists_false, exists_const, and_assoc, if_true, Bool.false_eq_true, if_false, Nat.reduceAdd, Nat.reduceLeDiff, Nat.zero_add, Nat.le_refl, forall_const, st_PlaneD_addD, rIsi]
    refine ⟨.ref C_Plane, .ref C_Plane, .own _, isP_ty PC PI hy, true, by unfold PySem.W.kitOne; simp, ?_⟩
    rw [if_neg (by decide)]
    rcases hc with ⟨e, k⟩ | ⟨e, ke⟩
    · refine ⟨fun σ' H' => H' = H ∧ σ' = [some x, some y, none, none], ⟨x, y, q, r, qs, rs, rfl, hx, hy, .inl ⟨e, rfl, rfl⟩⟩, ?_⟩
      rintro σ' H1 ⟨rfl, rfl⟩
      obtain ⟨a, da, fa, rfl, ha, v0, t, ys, r1, rfl, ha0, hat, haa, har⟩ := hx
      obtain ⟨b, db, fb, rfl, hb, w0, t2, ys2, r2, rfl, hb0, hbt, hba, hbr⟩ := hy
      refine ⟨_, rfl, a, rfl, _, _, _, ha, PC.cl, PC.nf, _, lkA, _, rfl, b, rfl, _, _, _, hb, PC.cl, PC.nf, _, lkA, ?_⟩
      have m190 : ∀ {z : Rat}, HwM.Bd 190 z → HwM.Bd 4000 z := fun h => h.mono (by decide)
      refine own_run ha0 (.inl hb0) (m190 (bq _ List.mem_cons_self)) (m190 (br _ List.mem_cons_self)) fun H2 z s2 hz => ?_
      have ly := Fa2.len haa
      have ly2 := Fa2.len hba
      have zl : (zipR (fun q r => q + r) qs rs).length = ys.length := by unfold zipR; rw [List.length_map, List.length_zip]; omega
      refine ⟨_, rfl, a, _, da, _, .ref t, rfl, s2 _ _ ha, PC.cl, PC.ns, lkB (by decide) lkA, _, rfl, b, _, db, _, .ref t2, rfl, s2 _ _ hb, PC.cl, PC.ns, lkB (by decide) lkA, t, t2, ys, ys2, rfl, .inr ⟨SqT.of (s2 _ _ hat), SqT.of (s2 _ _ hbt), fun D hD => lc_it (walk_zipT (xs := ys) (ys := ys2) (n := ys.length) (by omega))
        (fun i H' => Same H2 H' ∧ ∃ acc, H' D = some (.lst acc) ∧ acc.length = i ∧ AllR C_Ratio H' acc ((zipR (fun q r => q + r) qs rs).take i)) ⟨same_new hD, [], upd_same, rfl, .nil⟩ (fun i H' _ h => ⟨SqT.of (h.1 _ _ (s2 _ _ hat)), SqT.of (h.1 _ _ (s2 _ _ hbt))⟩) ?_ ?_⟩⟩
      · rintro i v H3 H4 hi ⟨s3, acc, hacc, hl3, hall⟩ ⟨T, x, y, rfl, hT, rfl, hxi, hyi⟩
        obtain ⟨q1, hq1, hx1⟩ := Fa2.get haa hxi
        obtain ⟨r1', hr1, hy1⟩ := Fa2.get hba hyi
        have s4 := same_new (o := HO.tup [x, y]) hT
        simp only [tVar, rIxTH, rIxLH, gTupH, line_le, HO.tup.injEq, HO.lst.injEq, List.length_cons, List.length_nil, at0, at1, rU, tOst, tTest, rIxL, rIxT, C8.tCut, cxOf_K, tC, tOp, tUn, tSeq, tAsg, tNext, tRet, tRetN, tDrop, tIfS, tNever, gName, gNil, gCons, gTup, gSub, tPar, rI, rI0, rU, rEq, rNe, tB, tAnd, tOr, tNot, tAndV, tOrV, tNotV, tIf, tTup, tLst, tNil, tCons, tCB, tCall, tMeth, tMake, tFld, sFld, tDGet, sDPut, tDisp, tPairs, tBreak, tCont, scal_ii, scal_bb, scal_ss, List.getElem?_cons_zero, List.getElem?_cons_succ, List.set_cons_zero, List.set_cons_succ, Option.some.injEq, exists_eq_left', exists_eq_left, exists_and_left, V.int.injEq, V.bl.injEq, V.ref.injEq, V.str.injEq, List.cons.injEq, and_true, true_and, Bool.true_eq, List.nil_append, List.append_nil, List.cons_append, exists_eq', and_self, reduceCtorEq, false_or, or_false, false_and, exists_false, exists_const, and_assoc, if_true, Bool.false_eq_true, if_false, Nat.reduceAdd, Nat.reduceLeDiff, Nat.zero_add, Nat.le_refl, forall_const, st_PlaneD_addD, wipe, List.map_cons, List.map_nil, tYes]
        have sx : Same H1 (upd H3 T (.tup [x, y])) := (s2.trans s3).trans s4
        refine ⟨_, upd_same, rfl, _, _, rfl, _, _, rfl, rfl, own_run (hx1.same sx) (.inl (hy1.same sx)) (m190 (bq _ (List.mem_cons_of_mem _ (List.mem_of_getElem? hq1)))) (m190 (br _ (List.mem_cons_of_mem _ (List.mem_of_getElem? hr1)))) fun H5 w s5 hw => ?_⟩
        have zi : (zipR (fun q r => q + r) qs rs)[i]? = some (q1 + r1') := by unfold zipR; rw [List.getElem?_map, (List.getElem?_zip_eq_some (z := (q1, r1'))).mpr ⟨hq1, hr1⟩]; rfl
        have hD5 := s5 _ _ (s4 _ _ hacc)
        refine ⟨acc, hD5, by rw [hl3]; exact line_le (by omega), same_updL hD ((s3.trans s4).trans s5), _, upd_same, by simp [hl3], ?_⟩
        rw [take_snoc zi]
        exact AllR.updL (Fa2.snoc ((hall.same s4).same s5) hw) hD5
      · rintro H3 ⟨s3, acc, hacc, hl3, hall⟩
        rw [← zl, List.take_length] at hall
        have bz : HwM.Bd 400 (q + r) := (HwM.add_bd (bq _ List.mem_cons_self) (br _ List.mem_cons_self)).mono (by decide)
        refine made_plane (.inl (hz.same s3)) (.inl (SqL.of hacc)) (Fa2.mono hall fun _ _ h => .inl h) (by omega) bz (fun w hw => ?_) (fun H5 w s5 hw => k H5 w ((s2.trans s3).trans s5) hw)
        unfold zipR at hw
        obtain ⟨⟨u, v⟩, hm, rfl⟩ := List.mem_map.mp hw
        exact (HwM.add_bd (bq _ (List.mem_cons_of_mem _ (List.of_mem_zip hm).1)) (br _ (List.mem_cons_of_mem _ (List.of_mem_zip hm).2))).mono (by decide)
    · exact ⟨fun _ _ => False, ⟨x, y, q, r, qs, rs, rfl, hx, hy, .inr ⟨e, ke⟩⟩, fun _ _ z => z.elim⟩
abbrev N_PlaneD_subD : List Str := ["self", "other", "one", "two"]
theorem sc_PlaneD_subD : FnScope N_PlaneD_subD ["self", "other"] (defScope s_PlaneD_subD) := ⟨rfl, rfl, rfl, by decide +kernel, rfl, by decide +kernel, by decide +kernel⟩
theorem st_PlaneD_subD {v0 v1 : V} : L2.start N_PlaneD_subD [v0, v1] = [some v0, some v1, none, none] := rfl
theorem ok_PlaneD_subD {f : Addr} {fd : FuncData} (F : FD K s_PlaneD_subD "__sub__" "Plane.__sub__" f fd) {C_Ratio C_Plane C_BadNumber : Addr} (PC : PlaC K C_Plane) (PI : PlaI K C_Plane) (z_zip : mg "zip" = none) (z_isinstance : mg "isinstance" = none) (m_Plane : mg "Plane" = some (.ref C_Plane)) (g_Plane : Kf P w K mg base "Plane" C_Plane 7 ["self", "fixed", "slopes"] [] (spPlane K C_Ratio C_Plane C_BadNumber)) (g_RatioD_subD : Of P w K mg base C_Ratio .Sub 6 (spBin C_Ratio (fun q r => q - r))) (g_check_sizes : Gf P w K mg base "check_sizes" 3 ["one", "other"] (spSizes C_Ratio C_Plane C_BadNumber)) : FnOk P w K mg base (L2.CX P w) 9 f fd ["self", "other"] (spPBin K C_Ratio C_Plane C_BadNumber (fun q r => q - r)) := by
  have nd := sc_PlaneD_subD.nd
  refine F.okX sc_PlaneD_subD (fun vs H Q E h => ?_) (fun cdv A outer s H vs Q E hr h => ?_)
  · obtain ⟨x, y, q, r, qs, rs, rfl, _⟩ := h
    rfl
  · obtain ⟨x, y, q, r, qs, rs, rfl, hx, hy, bq, br, hl, hc⟩ := h
    refine ⟨_, (pss_cons (ps_if (pt_not (pt_val (pe_callB (id := "isinstance") (r := rIsi K) (call_isiE rfl) (by rfl) z_isinstance (by decide +kernel) (pa_cons (pv 1) (pa_cons (pe_glob (v := .ref C_Plane) rfl m_Plane rfl) pa_nil))))) (pss_one (ps_never)) pss_nil)
        (C8.pss_cut (ps_expr (pe_g g_check_sizes hr (by decide) (passX rfl rfl rfl rfl) rfl (pa_cons (pv 0) (pa_cons (pv 1) pa_nil))))
        (pss_one (ps_ret (pe_k g_Plane hr (by decide) passL rfl (pa_cons (pe_op (op_o g_RatioD_subD hr (by decide) passL) (pe_fld (pv 0) rfl) (pe_fld (pv 1) rfl)) (pa_cons (pe_lc (own := [("one", 2), ("two", 3)]) rfl nd (RZ.pi_zipA (by rfl) z_zip (pa_cons (pe_fld (pv 0) rfl) (pa_cons (pe_fld (pv 1) rfl) pa_nil))) (blkOk_by (own := [("one", 2), ("two", 3)]) (N := N_PlaneD_subD) (sc := defScope s_PlaneD_subD) (by decide +kernel)) (fun _ _ _ _ _ => (pg_tupH (n := 2) rfl (pgs_cons (pg_name (i := 2) nd rfl (Or.inl rfl)) (pgs_cons (pg_name (i := 3) nd rfl (Or.inl rfl)) pgs_nil)))) (fun _ _ _ _ _ => pts_nil) (fun _ _ _ _ _ => (pe_op (op_o g_RatioD_subD hr (by decide) passL) (pv 2) (pv 3)))) pa_nil))))))), ?_⟩
    simp only [tVar, rIxTH, rIxLH, gTupH, line_le, HO.tup.injEq, HO.lst.injEq, List.length_cons, List.length_nil, at0, at1, rU, tOst, tTest, rIxL, rIxT, C8.tCut, cxOf_K, tC, tOp, tUn, tSeq, tAsg, tNext, tRet, tRetN, tDrop, tIfS, tNever, gName, gNil, gCons, gTup, gSub, tPar, rI, rI0, rU, rEq, rNe, tB, tAnd, tOr, tNot, tAndV, tOrV, tNotV, tIf, tTup, tLst, tNil, tCons, tCB, tCall, tMeth, tMake, tFld, sFld, tDGet, sDPut, tDisp, tPairs, tBreak, tCont, scal_ii, scal_bb, scal_ss, List.getElem?_cons_zero, List.getElem?_cons_succ, List.set_cons_zero, List.set_cons_succ, Option.some.injEq, exists_eq_left', exists_eq_left, exists_and_left, V.int.injEq, V.bl.injEq, V.ref.injEq, V.str.injEq, List.cons.injEq, and_true, true_and, Bool.true_eq, List.nil_append, List.append_nil, List.cons_append, exists_eq', and_self, reduceCtorEq, false_or, or_false, false_and, exists_false, exists_const, and_assoc, if_true, Bool.false_eq_true, if_false, Nat.reduceAdd, Nat.reduceLeDiff, Nat.zero_add, Nat.le_refl, forall_const, st_PlaneD_subD, rIsi]
    refine ⟨.ref C_Plane, .ref C_Plane, .own _, isP_ty PC PI hy, true, by unfold PySem.W.kitOne; simp, ?_⟩
    rw [if_neg (by decide)]
    rcases hc with ⟨e, k⟩ | ⟨e, ke⟩
    · refine ⟨fun σ' H' => H' = H ∧ σ' = [some x, some y, none, none], ⟨x, y, q, r, qs, rs, rfl, hx, hy, .inl ⟨e, rfl, rfl⟩⟩, ?_⟩
      rintro σ' H1 ⟨rfl, rfl⟩
      obtain ⟨a, da, fa, rfl, ha, v0, t, ys, r1, rfl, ha0, hat, haa, har⟩ := hx
      obtain ⟨b, db, fb, rfl, hb, w0, t2, ys2, r2, rfl, hb0, hbt, hba, hbr⟩ := hy
      refine ⟨_, rfl, a, rfl, _, _, _, ha, PC.cl, PC.nf, _, lkA, _, rfl, b, rfl, _, _, _, hb, PC.cl, PC.nf, _, lkA, ?_⟩
      have m190 : ∀ {z : Rat}, HwM.Bd 190 z → HwM.Bd 4000 z := fun h => h.mono (by decide)
      refine own_run ha0 (.inl hb0) (m190 (bq _ List.mem_cons_self)) (m190 (br _ List.mem_cons_self)) fun H2 z s2 hz => ?_
      have ly := Fa2.len haa
      have ly2 := Fa2.len hba
      have zl : (zipR (fun q r => q - r) qs rs).length = ys.length := by unfold zipR; rw [List.length_map, List.length_zip]; omega
      refine ⟨_, rfl, a, _, da, _, .ref t, rfl, s2 _ _ ha, PC.cl, PC.ns, lkB (by decide) lkA, _, rfl, b, _, db, _, .ref t2, rfl, s2 _ _ hb, PC.cl, PC.ns, lkB (by decide) lkA, t, t2, ys, ys2, rfl, .inr ⟨SqT.of (s2 _ _ hat), SqT.of (s2 _ _ hbt), fun D hD => lc_it (walk_zipT (xs := ys) (ys := ys2) (n := ys.length) (by omega))
        (fun i H' => Same H2 H' ∧ ∃ acc, H' D = some (.lst acc) ∧ acc.length = i ∧ AllR C_Ratio H' acc ((zipR (fun q r => q - r) qs rs).take i)) ⟨same_new hD, [], upd_same, rfl, .nil⟩ (fun i H' _ h => ⟨SqT.of (h.1 _ _ (s2 _ _ hat)), SqT.of (h.1 _ _ (s2 _ _ hbt))⟩) ?_ ?_⟩⟩
      · rintro i v H3 H4 hi ⟨s3, acc, hacc, hl3, hall⟩ ⟨T, x, y, rfl, hT, rfl, hxi, hyi⟩
        obtain ⟨q1, hq1, hx1⟩ := Fa2.get haa hxi
        obtain ⟨r1', hr1, hy1⟩ := Fa2.get hba hyi
        have s4 := same_new (o := HO.tup [x, y]) hT
        simp only [tVar, rIxTH, rIxLH, gTupH, line_le, HO.tup.injEq, HO.lst.injEq, List.length_cons, List.length_nil, at0, at1, rU, tOst, tTest, rIxL, rIxT, C8.tCut, cxOf_K, tC, tOp, tUn, tSeq, tAsg, tNext, tRet, tRetN, tDrop, tIfS, tNever, gName, gNil, gCons, gTup, gSub, tPar, rI, rI0, rU, rEq, rNe, tB, tAnd, tOr, tNot, tAndV, tOrV, tNotV, tIf, tTup, tLst, tNil, tCons, tCB, tCall, tMeth, tMake, tFld, sFld, tDGet, sDPut, tDisp, tPairs, tBreak, tCont, scal_ii, scal_bb, scal_ss, List.getElem?_cons_zero, List.getElem?_cons_succ, List.set_cons_zero, List.set_cons_succ, Option.some.injEq, exists_eq_left', exists_eq_left, exists_and_left, V.int.injEq, V.bl.injEq, V.ref.injEq, V.str.injEq, List.cons.injEq, and_true, true_and, Bool.true_eq, List.nil_append, List.append_nil, List.cons_append, exists_eq', and_self, reduceCtorEq, false_or, or_false, false_and, exists_false, exists_const, and_assoc, if_true, Bool.false_eq_true, if_false, Nat.reduceAdd, Nat.reduceLeDiff, Nat.zero_add, Nat.le_refl, forall_const, st_PlaneD_subD, wipe, List.map_cons, List.map_nil, tYes]
        have sx : Same H1 (upd H3 T (.tup [x, y])) := (s2.trans s3).trans s4
        refine ⟨_, upd_same, rfl, _, _, rfl, _, _, rfl, rfl, own_run (hx1.same sx) (.inl (hy1.same sx)) (m190 (bq _ (List.mem_cons_of_mem _ (List.mem_of_getElem? hq1)))) (m190 (br _ (List.mem_cons_of_mem _ (List.mem_of_getElem? hr1)))) fun H5 w s5 hw => ?_⟩
        have zi : (zipR (fun q r => q - r) qs rs)[i]? = some (q1 - r1') := by unfold zipR; rw [List.getElem?_map, (List.getElem?_zip_eq_some (z := (q1, r1'))).mpr ⟨hq1, hr1⟩]; rfl
        have hD5 := s5 _ _ (s4 _ _ hacc)
        refine ⟨acc, hD5, by rw [hl3]; exact line_le (by omega), same_updL hD ((s3.trans s4).trans s5), _, upd_same, by simp [hl3], ?_⟩
        rw [take_snoc zi]
        exact AllR.updL (Fa2.snoc ((hall.same s4).same s5) hw) hD5
      · rintro H3 ⟨s3, acc, hacc, hl3, hall⟩
        rw [← zl, List.take_length] at hall
        have bz : HwM.Bd 400 (q - r) := (HwM.sub_bd (bq _ List.mem_cons_self) (br _ List.mem_cons_self)).mono (by decide)
        refine made_plane (.inl (hz.same s3)) (.inl (SqL.of hacc)) (Fa2.mono hall fun _ _ h => .inl h) (by omega) bz (fun w hw => ?_) (fun H5 w s5 hw => k H5 w ((s2.trans s3).trans s5) hw)
        unfold zipR at hw
        obtain ⟨⟨u, v⟩, hm, rfl⟩ := List.mem_map.mp hw
        exact (HwM.sub_bd (bq _ (List.mem_cons_of_mem _ (List.of_mem_zip hm).1)) (br _ (List.mem_cons_of_mem _ (List.of_mem_zip hm).2))).mono (by decide)
    · exact ⟨fun _ _ => False, ⟨x, y, q, r, qs, rs, rfl, hx, hy, .inr ⟨e, ke⟩⟩, fun _ _ z => z.elim⟩
def spPNeg (CR CP : Addr) : Sp := fun vs H Q _ => ∃ (x : V) (q : Rat) (qs : List Rat), vs = [x] ∧ IsP CR CP H x q qs ∧ (∀ z ∈ q :: qs, HwM.Bd 400 z) ∧ qs.length ≤ 18 ∧ ∀ H' z, Same H H' → IsP CR CP H' z (-q) (qs.map fun s => -s) → Q z H'
theorem neg_run {C : Addr} {H : Hp} {x : V} {q : Rat} {Q : VK} {E : XK} (hx : IsR C H x q) (bq : HwM.Bd 4000 q) (k : ∀ H' z, Same H H' → IsR C H' z (-q) → Q z H') : rOwn1 C (spNeg C) E x H Q := by
  first
    | exact ⟨hx.inst, x, q, rfl, hx, bq, k⟩
    | exact ⟨x, q, rfl, hx, bq, k⟩
abbrev N_PlaneD_negD : List Str := ["self", "slope"]
theorem sc_PlaneD_negD : FnScope N_PlaneD_negD ["self"] (defScope s_PlaneD_negD) := ⟨rfl, rfl, rfl, by decide +kernel, rfl, by decide +kernel, by decide +kernel⟩
theorem st_PlaneD_negD {v0 : V} : L2.start N_PlaneD_negD [v0] = [some v0, none] := rfl
theorem ok_PlaneD_negD {f : Addr} {fd : FuncData} (F : FD K s_PlaneD_negD "__neg__" "Plane.__neg__" f fd) {C_Ratio C_Plane C_BadNumber : Addr} (PC : PlaC K C_Plane) (g_Plane : Kf P w K mg base "Plane" C_Plane 7 ["self", "fixed", "slopes"] [] (spPlane K C_Ratio C_Plane C_BadNumber)) (g_RatioD_negD : Nf P w K mg base C_Ratio 5 (spNeg C_Ratio)) : FnOk P w K mg base (L2.CX P w) 9 f fd ["self"] (spPNeg C_Ratio C_Plane) := by
  have nd := sc_PlaneD_negD.nd
  refine F.ok0 sc_PlaneD_negD (fun vs H Q E h => ?_) (fun cdv A outer s H vs Q E hr h => ?_)
  · obtain ⟨x, q, qs, rfl, _⟩ := h
    rfl
  · obtain ⟨x, q, qs, rfl, hx, bq, hl, k⟩ := h
    refine ⟨_, (pss_one (ps_ret (pe_k g_Plane hr (by decide) passL rfl (pa_cons (pe_un (un_o g_RatioD_negD hr (by decide) passL) (pe_fld (pv 0) rfl)) (pa_cons (pe_lc (own := [("slope", 1)]) rfl nd (pi_tup (pe_fld (pv 0) rfl)) (blkOk_by (own := [("slope", 1)]) (N := N_PlaneD_negD) (sc := defScope s_PlaneD_negD) (by decide +kernel)) (fun _ _ _ _ _ => (pg_name (i := 1) nd rfl (Or.inl rfl))) (fun _ _ _ _ _ => pts_nil) (fun _ _ _ _ _ => (pe_un (un_o g_RatioD_negD hr (by decide) passL) (pv 1)))) pa_nil))))), ?_⟩
    obtain ⟨a, da, fa, rfl, ha, v0, t, ys, r1, rfl, ha0, hat, haa, har⟩ := hx
    have ly := Fa2.len haa
    have m400 : ∀ {z : Rat}, HwM.Bd 400 z → HwM.Bd 4000 z := fun h => h.mono (by decide)
    simp only [tVar, rIxTH, rIxLH, gTupH, line_le, HO.tup.injEq, HO.lst.injEq, List.length_cons, List.length_nil, at0, at1, rU, tOst, tTest, rIxL, rIxT, C8.tCut, cxOf_K, tC, tOp, tUn, tSeq, tAsg, tNext, tRet, tRetN, tDrop, tIfS, tNever, gName, gNil, gCons, gTup, gSub, tPar, rI, rI0, rU, rEq, rNe, tB, tAnd, tOr, tNot, tAndV, tOrV, tNotV, tIf, tTup, tLst, tNil, tCons, tCB, tCall, tMeth, tMake, tFld, sFld, tDGet, sDPut, tDisp, tPairs, tBreak, tCont, scal_ii, scal_bb, scal_ss, List.getElem?_cons_zero, List.getElem?_cons_succ, List.set_cons_zero, List.set_cons_succ, Option.some.injEq, exists_eq_left', exists_eq_left, exists_and_left, V.int.injEq, V.bl.injEq, V.ref.injEq, V.str.injEq, List.cons.injEq, and_true, true_and, Bool.true_eq, List.nil_append, List.append_nil, List.cons_append, exists_eq', and_self, reduceCtorEq, false_or, or_false, false_and, exists_false, exists_const, and_assoc, if_true, Bool.false_eq_true, if_false, Nat.reduceAdd, Nat.reduceLeDiff, Nat.zero_add, Nat.le_refl, forall_const, st_PlaneD_negD]
    refine ⟨_, _, _, ha, PC.cl, PC.nf, _, lkA, neg_run ha0 (m400 (bq _ List.mem_cons_self)) fun H2 z s2 hz => ?_⟩
    refine ⟨.ref a, rfl, a, _, da, _, .ref t, rfl, s2 _ _ ha, PC.cl, PC.ns, lkB (by decide) lkA, t, rfl, ⟨_, SqT.of (s2 _ _ hat)⟩, fun D hD => lc_tup (K := K) (a := t) (xs := ys) (fun i H' => Same H2 H' ∧ ∃ acc, H' D = some (.lst acc) ∧ acc.length = i ∧ AllR C_Ratio H' acc ((qs.map fun s => -s).take i)) ⟨same_new hD, [], upd_same, rfl, .nil⟩ (fun i H' _ h => SqT.of (h.1 _ _ (s2 _ _ hat))) ?_ ?_⟩
    · rintro i y H3 hi ⟨s3, acc, hacc, hl3, hall⟩
      obtain ⟨q1, hq1, hx1⟩ := Fa2.get haa hi
      simp only [tVar, rIxTH, rIxLH, gTupH, line_le, HO.tup.injEq, HO.lst.injEq, List.length_cons, List.length_nil, at0, at1, rU, tOst, tTest, rIxL, rIxT, C8.tCut, cxOf_K, tC, tOp, tUn, tSeq, tAsg, tNext, tRet, tRetN, tDrop, tIfS, tNever, gName, gNil, gCons, gTup, gSub, tPar, rI, rI0, rU, rEq, rNe, tB, tAnd, tOr, tNot, tAndV, tOrV, tNotV, tIf, tTup, tLst, tNil, tCons, tCB, tCall, tMeth, tMake, tFld, sFld, tDGet, sDPut, tDisp, tPairs, tBreak, tCont, scal_ii, scal_bb, scal_ss, List.getElem?_cons_zero, List.getElem?_cons_succ, List.set_cons_zero, List.set_cons_succ, Option.some.injEq, exists_eq_left', exists_eq_left, exists_and_left, V.int.injEq, V.bl.injEq, V.ref.injEq, V.str.injEq, List.cons.injEq, and_true, true_and, Bool.true_eq, List.nil_append, List.append_nil, List.cons_append, exists_eq', and_self, reduceCtorEq, false_or, or_false, false_and, exists_false, exists_const, and_assoc, if_true, Bool.false_eq_true, if_false, Nat.reduceAdd, Nat.reduceLeDiff, Nat.zero_add, Nat.le_refl, forall_const, st_PlaneD_negD, wipe, List.map_cons, List.map_nil, tYes]
      have li : i < ys.length := by
        rcases Nat.lt_or_ge i ys.length with h | h
        · exact h
        · rw [List.getElem?_eq_none h] at hi; cases hi
      refine neg_run (hx1.same (s2.trans s3)) (m400 (bq _ (List.mem_cons_of_mem _ (List.mem_of_getElem? hq1)))) fun H5 w s5 hw => ?_
      have hD5 := s5 _ _ hacc
      have zi : (qs.map fun s => -s)[i]? = some (-q1) := by rw [List.getElem?_map, hq1]; rfl
      refine ⟨acc, hD5, by rw [hl3]; exact line_le (by omega), same_updL hD (s3.trans s5), _, upd_same, by simp [hl3], ?_⟩
      rw [take_snoc zi]
      exact AllR.updL (Fa2.snoc (hall.same s5) hw) hD5
    · rintro H3 ⟨s3, acc, hacc, hl3, hall⟩
      rw [show ys.length = (qs.map fun s => -s).length by rw [List.length_map, ly], List.take_length] at hall
      refine made_plane (.inl (hz.same s3)) (.inl (SqL.of hacc)) (Fa2.mono hall fun _ _ h => .inl h) (by omega) (HwM.neg_bd (bq _ List.mem_cons_self)) (fun w hw => ?_) (fun H5 w s5 hw => k H5 w ((s2.trans s3).trans s5) hw)
      obtain ⟨u, hm, rfl⟩ := List.mem_map.mp hw
      exact HwM.neg_bd (bq _ (List.mem_cons_of_mem _ hm))
def spPMul (CR CP : Addr) : Sp := fun vs H Q _ => ∃ (x y : V) (q r : Rat) (qs : List Rat), vs = [x, y] ∧ IsP CR CP H x q qs ∧ AsR CR H y r ∧ (∀ z ∈ q :: qs, HwM.Bd 190 z) ∧ HwM.Bd 190 r ∧ qs.length ≤ 18 ∧ ∀ H' z, Same H H' → IsP CR CP H' z (q * r) (qs.map fun s => s * r) → Q z H'
abbrev N_PlaneD_mulD : List Str := ["self", "other", "slope"]
theorem sc_PlaneD_mulD : FnScope N_PlaneD_mulD ["self", "other"] (defScope s_PlaneD_mulD) := ⟨rfl, rfl, rfl, by decide +kernel, rfl, by decide +kernel, by decide +kernel⟩
theorem st_PlaneD_mulD {v0 v1 : V} : L2.start N_PlaneD_mulD [v0, v1] = [some v0, some v1, none] := rfl
theorem ok_PlaneD_mulD {f : Addr} {fd : FuncData} (F : FD K s_PlaneD_mulD "__mul__" "Plane.__mul__" f fd) {C_Ratio C_Plane C_BadNumber : Addr} (R : RatC K C_Ratio) (PC : PlaC K C_Plane) (g_Plane : Kf P w K mg base "Plane" C_Plane 7 ["self", "fixed", "slopes"] [] (spPlane K C_Ratio C_Plane C_BadNumber)) (g_RatioD_mulD : Of P w K mg base C_Ratio .Mult 6 (spBin C_Ratio (fun q r => q * r))) (g_is_ratio : Gf P w K mg base "is_ratio" 2 ["value"] (spIsRat K C_Ratio)) : FnOk P w K mg base (L2.CX P w) 9 f fd ["self", "other"] (spPMul C_Ratio C_Plane) := by
  have nd := sc_PlaneD_mulD.nd
  refine F.ok0 sc_PlaneD_mulD (fun vs H Q E h => ?_) (fun cdv A outer s H vs Q E hr h => ?_)
  · obtain ⟨x, y, q, r, qs, rfl, _⟩ := h
    rfl
  · obtain ⟨x, yo, q, r, qs, rfl, hx, hy, bq, br, hl, k⟩ := h
    refine ⟨_, (pss_cons (ps_if (pt_not (pt_val (pe_g g_is_ratio hr (by decide) passL rfl (pa_cons (pv 1) pa_nil)))) (pss_one (ps_never)) pss_nil)
        (pss_one (ps_ret (pe_k g_Plane hr (by decide) passL rfl (pa_cons (pe_op (op_o g_RatioD_mulD hr (by decide) passL) (pe_fld (pv 0) rfl) (pv 1)) (pa_cons (pe_lc (own := [("slope", 2)]) rfl nd (pi_tup (pe_fld (pv 0) rfl)) (blkOk_by (own := [("slope", 2)]) (N := N_PlaneD_mulD) (sc := defScope s_PlaneD_mulD) (by decide +kernel)) (fun _ _ _ _ _ => (pg_name (i := 2) nd rfl (Or.inl rfl))) (fun _ _ _ _ _ => pts_nil) (fun _ _ _ _ _ => (pe_op (op_o g_RatioD_mulD hr (by decide) passL) (pv 2) (pv 1)))) pa_nil)))))), ?_⟩
    obtain ⟨a, da, fa, rfl, ha, v0, t, ys, r1, rfl, ha0, hat, haa, har⟩ := hx
    have ly := Fa2.len haa
    have m400 : ∀ {z : Rat}, HwM.Bd 190 z → HwM.Bd 4000 z := fun h => h.mono (by decide)
    obtain ⟨ii, bb, hT, hir⟩ := ty_as R hy
    simp only [tVar, rIxTH, rIxLH, gTupH, line_le, HO.tup.injEq, HO.lst.injEq, List.length_cons, List.length_nil, at0, at1, rU, tOst, tTest, rIxL, rIxT, C8.tCut, cxOf_K, tC, tOp, tUn, tSeq, tAsg, tNext, tRet, tRetN, tDrop, tIfS, tNever, gName, gNil, gCons, gTup, gSub, tPar, rI, rI0, rU, rEq, rNe, tB, tAnd, tOr, tNot, tAndV, tOrV, tNotV, tIf, tTup, tLst, tNil, tCons, tCB, tCall, tMeth, tMake, tFld, sFld, tDGet, sDPut, tDisp, tPairs, tBreak, tCont, scal_ii, scal_bb, scal_ss, List.getElem?_cons_zero, List.getElem?_cons_succ, List.set_cons_zero, List.set_cons_succ, Option.some.injEq, exists_eq_left', exists_eq_left, exists_and_left, V.int.injEq, V.bl.injEq, V.ref.injEq, V.str.injEq, List.cons.injEq, and_true, true_and, Bool.true_eq, List.nil_append, List.append_nil, List.cons_append, exists_eq', and_self, reduceCtorEq, false_or, or_false, false_and, exists_false, exists_const, and_assoc, if_true, Bool.false_eq_true, if_false, Nat.reduceAdd, Nat.reduceLeDiff, Nat.zero_add, Nat.le_refl, forall_const, st_PlaneD_mulD]
    refine ⟨yo, ii, bb, rfl, hT, _, rfl, ?_⟩
    rw [hir]
    refine iteF ?_
    refine ⟨_, _, _, ha, PC.cl, PC.nf, _, lkA, own_run ha0 hy (m400 (bq _ List.mem_cons_self)) (m400 br) fun H2 z s2 hz => ?_⟩
    refine ⟨.ref a, rfl, a, _, da, _, .ref t, rfl, s2 _ _ ha, PC.cl, PC.ns, lkB (by decide) lkA, t, rfl, ⟨_, SqT.of (s2 _ _ hat)⟩, fun D hD => lc_tup (K := K) (a := t) (xs := ys) (fun i H' => Same H2 H' ∧ ∃ acc, H' D = some (.lst acc) ∧ acc.length = i ∧ AllR C_Ratio H' acc ((qs.map fun s => s * r).take i)) ⟨same_new hD, [], upd_same, rfl, .nil⟩ (fun i H' _ h => SqT.of (h.1 _ _ (s2 _ _ hat))) ?_ ?_⟩
    · rintro i y H3 hi ⟨s3, acc, hacc, hl3, hall⟩
      obtain ⟨q1, hq1, hx1⟩ := Fa2.get haa hi
      simp only [tVar, rIxTH, rIxLH, gTupH, line_le, HO.tup.injEq, HO.lst.injEq, List.length_cons, List.length_nil, at0, at1, rU, tOst, tTest, rIxL, rIxT, C8.tCut, cxOf_K, tC, tOp, tUn, tSeq, tAsg, tNext, tRet, tRetN, tDrop, tIfS, tNever, gName, gNil, gCons, gTup, gSub, tPar, rI, rI0, rU, rEq, rNe, tB, tAnd, tOr, tNot, tAndV, tOrV, tNotV, tIf, tTup, tLst, tNil, tCons, tCB, tCall, tMeth, tMake, tFld, sFld, tDGet, sDPut, tDisp, tPairs, tBreak, tCont, scal_ii, scal_bb, scal_ss, List.getElem?_cons_zero, List.getElem?_cons_succ, List.set_cons_zero, List.set_cons_succ, Option.some.injEq, exists_eq_left', exists_eq_left, exists_and_left, V.int.injEq, V.bl.injEq, V.ref.injEq, V.str.injEq, List.cons.injEq, and_true, true_and, Bool.true_eq, List.nil_append, List.append_nil, List.cons_append, exists_eq', and_self, reduceCtorEq, false_or, or_false, false_and, exists_false, exists_const, and_assoc, if_true, Bool.false_eq_true, if_false, Nat.reduceAdd, Nat.reduceLeDiff, Nat.zero_add, Nat.le_refl, forall_const, st_PlaneD_mulD, wipe, List.map_cons, List.map_nil, tYes]
      have li : i < ys.length := by
        rcases Nat.lt_or_ge i ys.length with h | h
        · exact h
        · rw [List.getElem?_eq_none h] at hi; cases hi
      refine own_run (hx1.same (s2.trans s3)) (hy.same (s2.trans s3)) (m400 (bq _ (List.mem_cons_of_mem _ (List.mem_of_getElem? hq1)))) (m400 br) fun H5 w s5 hw => ?_
      have hD5 := s5 _ _ hacc
      have zi : (qs.map fun s => s * r)[i]? = some (q1 * r) := by rw [List.getElem?_map, hq1]; rfl
      refine ⟨acc, hD5, by rw [hl3]; exact line_le (by omega), same_updL hD (s3.trans s5), _, upd_same, by simp [hl3], ?_⟩
      rw [take_snoc zi]
      exact AllR.updL (Fa2.snoc (hall.same s5) hw) hD5
    · rintro H3 ⟨s3, acc, hacc, hl3, hall⟩
      rw [show ys.length = (qs.map fun s => s * r).length by rw [List.length_map, ly], List.take_length] at hall
      refine made_plane (.inl (hz.same s3)) (.inl (SqL.of hacc)) (Fa2.mono hall fun _ _ h => .inl h) (by omega) ((HwM.mul_bd (by decide) (bq _ List.mem_cons_self) br).mono (by decide)) (fun w hw => ?_) (fun H5 w s5 hw => k H5 w ((s2.trans s3).trans s5) hw)
      obtain ⟨u, hm, rfl⟩ := List.mem_map.mp hw
      exact (HwM.mul_bd (by decide) (bq _ (List.mem_cons_of_mem _ hm)) br).mono (by decide)


end HwL
end

section
namespace HwL
open PySem PySem.Spec PyProof.Rows L2 LamX HwP
variable {P : Program} {w : World} {K : PySem.W.Frag} {mg : Str → Option Value} {base : Heap}

theorem flat_zero (n : Nat) : (List.replicate n [V.int 0]).flatten = List.replicate n (V.int 0) := by
  induction n with
  | zero => rfl
  | succ n ih => rw [List.replicate_succ, List.flatten_cons, ih, List.replicate_succ]; rfl
theorem fa_rep {α β : Type} {R : α → β → Prop} {a : α} {b : β} (h : R a b) : ∀ n : Nat, Fa2 R (List.replicate n a) (List.replicate n b)
  | 0 => .nil
  | n + 1 => by rw [List.replicate_succ, List.replicate_succ]; exact .cons h (fa_rep h n)
theorem bad_fixed {CR CP CB a : Addr} {H : Hp} {v : V} {xs : List V} {Q : VK} {E : XK} (hv : ∀ {H' : Hp}, Same H H' → Ty K CR H' v false false) (hl : Sq K H a xs) (le : xs.length ≤ 18) (ke : Bad2 CB H E "fixed" v) (x dx : Addr) (hx : H x = none) (hd : H dx = none) (hne : dx ≠ x) :
    spPlane K CR CP CB [.ref x, v, .ref a] (upd (upd H dx (.own x)) x (.ins CP dx [])) (fun v H2 => v = .non ∧ Q (.ref x) H2) E := by
  have sm : Same H (upd (upd H dx (.own x)) x (.ins CP dx [])) := fun c o e => by rw [upd_ne (ne_of_none e hx), upd_ne (ne_of_none e hd)]; exact e
  exact ⟨x, dx, a, v, xs, rfl, upd_same, hl.same sm, le, .inr (.inl ⟨hv sm, fun H' d e1 e2 => ke H' d (sm.trans e1) e2⟩)⟩
def spNumP (K : PySem.W.Frag) (CR CP CB : Addr) : Sp := fun vs H Q E => ∃ (x y : V) (i r : Bool), vs = [x, y] ∧ Ty K CR H y i r ∧
  ((∃ (q : Rat) (n : Nat), y = .int n ∧ i = true ∧ n ≤ 18 ∧ AsR CR H x q ∧ HwM.Bd 400 q ∧ ∀ H' z, Same H H' → IsP CR CP H' z q (List.replicate n 0) → Q z H') ∨
   (∃ n : Nat, y = .int n ∧ i = true ∧ n ≤ 18 ∧ Ty K CR H x false false ∧ (∀ {H' : Hp}, Same H H' → Ty K CR H' x false false) ∧ Bad2 CB H E "fixed" x) ∨
   (((∃ n : Int, y = .int n ∧ i = true ∧ n < 0) ∨ i = false) ∧ Bad2 CB H E "size" y))
theorem fa_map {α β γ : Type} {R : α → β → Prop} {f : γ → α} {g : γ → β} : ∀ {l : List γ}, (∀ j ∈ l, R (f j) (g j)) → Fa2 R (l.map f) (l.map g)
  | [], _ => .nil
  | j :: l, h => .cons (h j List.mem_cons_self) (fa_map fun i hi => h i (List.mem_cons_of_mem _ hi))
def unitR (n m : Nat) : List Rat := (List.range n).map fun j => if j = m then 1 else 0
def spLetP (K : PySem.W.Frag) (CR CP CB : Addr) : Sp := fun vs H Q E => ∃ (x y : V) (i r i2 r2 : Bool), vs = [x, y] ∧ Ty K CR H x i r ∧ Ty K CR H y i2 r2 ∧
  ((∃ m n : Nat, x = .int m ∧ y = .int n ∧ i = true ∧ i2 = true ∧ m < n ∧ n ≤ 18 ∧ ∀ H' z, Same H H' → IsP CR CP H' z 0 (unitR n m) → Q z H') ∨
   (∃ n : Nat, y = .int n ∧ i2 = true ∧ n ≤ 18 ∧ ((∃ m : Int, x = .int m ∧ i = true ∧ ¬ (0 ≤ m ∧ m < n)) ∨ i = false) ∧ Bad2 CB H E "place" x) ∨
   (((∃ n : Int, y = .int n ∧ i2 = true ∧ n < 0) ∨ i2 = false) ∧ Bad2 CB H E "size" y))


end HwL
end

section
namespace HwL
open PySem PySem.Spec PyProof.Rows L2 LamX HwP
variable {P : Program} {w : World} {K : PySem.W.Frag} {mg : Str → Option Value} {base : Heap}

theorem cutV_to (xs : List V) (m : Nat) : cutV xs none (some (m : Int)) = xs.take m := by
  unfold cutV
  rw [HT.sIx_none, HT.sIx_nat, List.drop_zero, Nat.sub_zero]
  rcases Nat.le_total m xs.length with h | h
  · rw [Nat.min_eq_left h]
  · rw [Nat.min_eq_right h, List.take_of_length_le (Nat.le_refl _), List.take_of_length_le h]
theorem cutV_from (xs : List V) (m : Nat) : cutV xs (some (m : Int)) none = xs.drop m := by
  unfold cutV
  rw [HT.sIx_none, HT.sIx_nat]
  rcases Nat.le_total m xs.length with h | h
  · rw [Nat.min_eq_left h, List.take_of_length_le (by rw [List.length_drop]; omega)]
  · rw [Nat.min_eq_right h, List.drop_of_length_le h, List.drop_length, List.take_nil]
theorem fa_take {α β : Type} {R : α → β → Prop} {as : List α} {bs : List β} (h : Fa2 R as bs) : ∀ n : Nat, Fa2 R (as.take n) (bs.take n) := by
  induction h with
  | nil => intro n; rw [List.take_nil, List.take_nil]; exact .nil
  | cons h _ ih =>
    intro n
    cases n with
    | zero => exact .nil
    | succ n => exact .cons h (ih n)
theorem fa_drop {α β : Type} {R : α → β → Prop} {as : List α} {bs : List β} (h : Fa2 R as bs) : ∀ n : Nat, Fa2 R (as.drop n) (bs.drop n) := by
  induction h with
  | nil => intro n; rw [List.drop_nil, List.drop_nil]; exact .nil
  | cons h r ih =>
    intro n
    cases n with
    | zero => exact .cons h r
    | succ n => exact ih n
def spPut (K : PySem.W.Frag) (CR CP CB : Addr) : Sp := fun vs H Q E => ∃ (x y z : V) (q : Rat) (qs : List Rat) (i r i2 r2 : Bool), vs = [x, y, z] ∧ IsP CR CP H x q qs ∧ Ty K CR H y i r ∧ Ty K CR H z i2 r2 ∧ (∀ s ∈ q :: qs, HwM.Bd 150 s) ∧ qs.length ≤ 18 ∧
  ((∃ (m : Nat) (p s : Rat), y = .int m ∧ i = true ∧ qs[m]? = some s ∧ AsR CR H z p ∧ HwM.Bd 90 p ∧ ∀ H' w, Same H H' → IsP CR CP H' w (q + s * p) (qs.take m ++ qs.drop (m + 1)) → Q w H') ∨
   (((∃ m : Int, y = .int m ∧ i = true ∧ ¬ (0 ≤ m ∧ m < (qs.length : Int))) ∨ i = false) ∧ Bad2 CB H E "place" y) ∨
   (∃ m : Nat, y = .int m ∧ i = true ∧ m < qs.length ∧ i2 = false ∧ r2 = false ∧ Bad2 CB H E "fixed" z))


end HwL
end

section
namespace HwL
open PySem PySem.Spec PyProof.Rows L2 LamX HwP
variable {P : Program} {w : World} {K : PySem.W.Frag} {mg : Str → Option Value} {base : Heap}

/-! ### equality of planes -/
theorem ratF_inj {q r : Rat} (h : ratF q = ratF r) : q = r := by
  unfold ratF at h
  obtain ⟨h1, h2⟩ := List.cons.inj h
  obtain ⟨h3, _⟩ := List.cons.inj h2
  have e1 : V.int q.num = V.int r.num := congrArg Prod.snd h1
  have e2 : V.int (q.den : Int) = V.int (r.den : Int) := congrArg Prod.snd h3
  have e3 : (q.den : Int) = (r.den : Int) := V.int.inj e2
  exact Rat.ext (V.int.inj e1) (by omega)
theorem IsR.inj {C : Addr} {H : Hp} {x : V} {q r : Rat} (h : IsR C H x q) (k : IsR C H x r) : q = r := by
  obtain ⟨a, dx, rfl, e⟩ := h
  obtain ⟨b, dy, e2, e3⟩ := k
  cases e2
  rw [e] at e3
  exact ratF_inj (HO.ins.inj (Option.some.inj e3)).2.2
def DRat (C : Addr) : EqvB := fun x y H b => ∃ q r, IsR C H x q ∧ IsR C H y r ∧ b = decide (q = r)
theorem mon_rat {C : Addr} : MonB (DRat C) := fun x y H H' b e ⟨q, r, h1, h2, h3⟩ => ⟨q, r, h1.same e, h2.same e, h3⟩
theorem all_eq {qs rs : List Rat} : ((List.range (min qs.length rs.length)).all (fun i => decide (qs[i]? = rs[i]?)) && qs.length == rs.length) = decide (qs = rs) := by
  rw [Bool.eq_iff_iff]
  simp only [Bool.and_eq_true, List.all_eq_true, decide_eq_true_eq, beq_iff_eq]
  refine ⟨fun ⟨h1, h2⟩ => List.ext_getElem? fun i => ?_, fun h => by rw [h]; exact ⟨fun _ _ => rfl, rfl⟩⟩
  rcases Nat.lt_or_ge i qs.length with h | h
  · exact h1 i (List.mem_range.mpr (by omega))
  · rw [List.getElem?_eq_none h, List.getElem?_eq_none (by omega)]
def rEqT (K : PySem.W.Frag) (C : Addr) : R2 := fun x y H Q => ∃ a c xs ys qs rs, x = .ref a ∧ y = .ref c ∧ SqT K H a xs ∧ SqT K H c ys ∧ AllR C H xs qs ∧ AllR C H ys rs ∧ ∀ H', Same H H' → Q (.bl (decide (qs = rs))) H'
theorem op_ownT {X : Cx} {C : Addr} {j k : Nat} {E : XK} (c : Ef X.prog X.w X.K X.mg X.base C k (spEqR X.K C)) (hr : Room j X.A) (hk : k + 1 ≤ j) (hx : Passes (L2.CX X.prog X.w) X E) : OpR X (compareOp .Eq) (rEqT X.K C) := by
  obtain ⟨f, fd, ps, h1, h2, h3, h4⟩ := c.ex
  have e1 : EqB X k (DRat C) := (rcB_own (D := DRat C) h4 h1 h2 h3 hx fun x y H b ⟨q, r, hx, hy, hb⟩ => by
    obtain ⟨a, dx, rfl, ha⟩ := id hx
    obtain ⟨d, dy, rfl, hd⟩ := id hy
    exact ⟨a, d, dx, dy, _, _, rfl, rfl, ha, hd, fun Q hQ => ⟨_, _, q, rfl, hx, .inl ⟨r, .inl hy, by rw [← hb]; exact hQ _ (Same.refl _)⟩⟩⟩).eqB fun x y H b ⟨q, r, hx, hy, hb⟩ => by
    obtain ⟨a, dx, rfl, ha⟩ := id hx
    obtain ⟨d, dy, rfl, hd⟩ := id hy
    exact ⟨a, d, rfl, rfl, fun z => by subst z; rw [hb]; exact decide_eq_true (hx.inj hy)⟩
  intro pins s σ H x y v u Q I rx ry h
  obtain ⟨a, d, xs, ys, qs, rs, rfl, rfl, ha, hd, hq, hs, k⟩ := h
  refine op_eqB (rcB_tup mon_rat e1) (hr.mono hk) pins s σ H _ _ v u Q I rx ry ⟨_, ⟨a, d, xs, ys, fun i => decide (qs[i]? = rs[i]?), rfl, rfl, ha, hd, fun i u v hu hv => ?_, rfl⟩, ?_⟩
  · obtain ⟨q, hq1, e1⟩ := Fa2.get hq hu
    obtain ⟨r, hr1, e2⟩ := Fa2.get hs hv
    exact ⟨q, r, e1, e2, by show decide (qs[i]? = rs[i]?) = _; rw [hq1, hr1]; exact decide_eq_decide.mpr ⟨fun z => Option.some.inj z, fun z => by rw [z]⟩⟩
  · rw [Fa2.len hq, Fa2.len hs, all_eq]
    exact k
theorem call_isiTE {X : Cx} {K : PySem.W.Frag} (h : X.K = K) : CallR X (.builtin "isinstance") (rIsiT K) := by subst h; exact call_isiT
theorem own_eq {K : PySem.W.Frag} {C : Addr} {H : Hp} {x y : V} {q r : Rat} {Q : VK} {E : XK} (R : RatC K C) (hx : IsR C H x q) (hy : AsR C H y r) (k : Q (.bl (decide (q = r))) H) : rOwnEq K C (spEqR K C) E x y H Q := by
  obtain ⟨i, b, hT, _⟩ := ty_as R hy
  obtain ⟨t, bI, bB, ty, e1, e2, e4, e3, nf⟩ := hT.ex
  exact ⟨hx.inst, ⟨t, ty, nf⟩, x, y, q, rfl, hx, .inl ⟨r, hy, k⟩⟩
def spEqP (K : PySem.W.Frag) (CR CP : Addr) : Sp := fun vs H Q _ => ∃ (x y : V) (q : Rat) (qs : List Rat), vs = [x, y] ∧ IsP CR CP H x q qs ∧
  ((∃ r rs, IsP CR CP H y r rs ∧ ∀ H', Same H H' → Q (.bl (decide (q = r ∧ qs = rs))) H') ∨ (∃ t, TyX K H y t ∧ PySem.W.kitOne K t (.ref CP) = some false ∧ Q (.bl false) H))
abbrev N_PlaneD_eqD : List Str := ["self", "other"]
theorem sc_PlaneD_eqD : FnScope N_PlaneD_eqD ["self", "other"] (defScope s_PlaneD_eqD) := ⟨rfl, rfl, rfl, by decide +kernel, rfl, by decide +kernel, by decide +kernel⟩
theorem st_PlaneD_eqD {v0 v1 : V} : L2.start N_PlaneD_eqD [v0, v1] = [some v0, some v1] := rfl
theorem ok_PlaneD_eqD {f : Addr} {fd : FuncData} (F : FD K s_PlaneD_eqD "__eq__" "Plane.__eq__" f fd) {C_Ratio C_Plane : Addr} (R : RatC K C_Ratio) (PC : PlaC K C_Plane) (PI : PlaI K C_Plane) (z_isinstance : mg "isinstance" = none) (m_Plane : mg "Plane" = some (.ref C_Plane)) (g_RatioD_eqD : Ef P w K mg base C_Ratio 2 (spEqR K C_Ratio)) : FnOk P w K mg base (L2.CX P w) 4 f fd ["self", "other"] (spEqP K C_Ratio C_Plane) := by
  have nd := sc_PlaneD_eqD.nd
  refine F.ok0 sc_PlaneD_eqD (fun vs H Q E h => ?_) (fun cdv A outer s H vs Q E hr h => ?_)
  · obtain ⟨x, y, q, qs, rfl, _⟩ := h
    rfl
  · obtain ⟨x, y, q, qs, rfl, hx, hc⟩ := h
    refine ⟨_, (pss_one (ps_ret (pe_and (pe_callB (id := "isinstance") (r := rIsi K) (call_isiE rfl) (by rfl) z_isinstance (by decide +kernel) (pa_cons (pv 1) (pa_cons (pe_glob (v := .ref C_Plane) rfl m_Plane rfl) pa_nil))) (pe_and (pe_cmpR (eq_o g_RatioD_eqD hr (by decide) passL) (pe_fld (pv 0) rfl) (pe_fld (pv 1) rfl) (nomark _)) (pe_one (pe_cmpR (op_ownT g_RatioD_eqD hr (by decide) passL) (pe_fld (pv 0) rfl) (pe_fld (pv 1) rfl) (nomark _))))))), ?_⟩
    simp only [tVar, rIxTH, rIxLH, gTupH, line_le, HO.tup.injEq, HO.lst.injEq, List.length_cons, List.length_nil, at0, at1, rU, tOst, tTest, rIxL, rIxT, C8.tCut, cxOf_K, tC, tOp, tUn, tSeq, tAsg, tNext, tRet, tRetN, tDrop, tIfS, tNever, gName, gNil, gCons, gTup, gSub, tPar, rI, rI0, rU, rEq, rNe, tB, tAnd, tOr, tNot, tAndV, tOrV, tNotV, tIf, tTup, tLst, tNil, tCons, tCB, tCall, tMeth, tMake, tFld, sFld, tDGet, sDPut, tDisp, tPairs, tBreak, tCont, scal_ii, scal_bb, scal_ss, List.getElem?_cons_zero, List.getElem?_cons_succ, List.set_cons_zero, List.set_cons_succ, Option.some.injEq, exists_eq_left', exists_eq_left, exists_and_left, V.int.injEq, V.bl.injEq, V.ref.injEq, V.str.injEq, List.cons.injEq, and_true, true_and, Bool.true_eq, List.nil_append, List.append_nil, List.cons_append, exists_eq', and_self, reduceCtorEq, false_or, or_false, false_and, exists_false, exists_const, and_assoc, if_true, Bool.false_eq_true, if_false, Nat.reduceAdd, Nat.reduceLeDiff, Nat.zero_add, Nat.le_refl, forall_const, st_PlaneD_eqD, rIsi]
    rcases hc with ⟨r, rs, hy, k⟩ | ⟨t, ty, e, k⟩
    · refine ⟨.ref C_Plane, .ref C_Plane, .own _, isP_ty PC PI hy, true, by unfold PySem.W.kitOne; simp, ?_⟩
      obtain ⟨a, da, fa, rfl, ha, v0, t, ys, r1, rfl, ha0, hat, haa, har⟩ := hx
      obtain ⟨b, db, fb, rfl, hb, w0, t2, ys2, r2, rfl, hb0, hbt, hba, hbr⟩ := hy
      refine iteT ⟨_, rfl, _, _, _, ha, PC.cl, PC.nf, _, lkA, _, rfl, _, _, _, hb, PC.cl, PC.nf, _, lkA, own_eq R ha0 (.inl hb0) ⟨_, rfl, ?_⟩⟩
      refine ite2 (fun h1 => ?_) (fun h1 => ?_)
      · have h1 := of_decide_eq_true h1
        refine ⟨_, rfl, _, _, _, ha, PC.cl, PC.ns, _, lkB (by decide) lkA, _, rfl, _, _, _, hb, PC.cl, PC.ns, _, lkB (by decide) lkA, t, t2, ys, ys2, qs, rs, rfl, rfl, SqT.of hat, SqT.of hbt, haa, hba, fun H' s => ?_⟩
        have e : decide (q = r ∧ qs = rs) = decide (qs = rs) := decide_eq_decide.mpr ⟨fun z => z.2, fun z => ⟨h1, z⟩⟩
        have k := k _ s
        rw [e] at k
        exact k
      · have e : decide (q = r ∧ qs = rs) = false := decide_eq_false fun z => h1 (decide_eq_true z.1)
        have k := k _ (Same.refl _)
        rw [e] at k
        exact k
    · exact ⟨t, .ref C_Plane, .own _, ty, false, e, k⟩
/-- what is wished where a point is none -/
def BadG (CG : Addr) (H : Hp) (E : XK) (w : Str) : Prop := ∀ H' d, Same H H' → H' d = some (.xd [("what", .str w)]) → E (.ref CG) (some d) H'
abbrev N_BadGivenD_initD : List Str := ["self", "what"]
theorem sc_BadGivenD_initD : FnScope N_BadGivenD_initD ["self", "what"] (defScope s_BadGivenD_initD) := ⟨rfl, rfl, rfl, by decide +kernel, rfl, by decide +kernel, by decide +kernel⟩
theorem st_BadGivenD_initD {v0 v1 : V} : L2.start N_BadGivenD_initD [v0, v1] = [some v0, some v1] := rfl
theorem ok_BadGivenD_initD {f : Addr} {fd : FuncData} (F : FD K s_BadGivenD_initD "__init__" "BadGiven.__init__" f fd) {C_BadGiven : Addr} (TX : OexC K C_BadGiven) (n1 : PySem.W.findIn K (.ref C_BadGiven) "what" = some none) : FnOk P w K mg base (L2.CX P w) 1 f fd ["self", "what"] (spX1 C_BadGiven "what") := by
  have nd := sc_BadGivenD_initD.nd
  refine F.ok0 sc_BadGivenD_initD (fun vs H Q E h => ?_) (fun cdv A outer s H vs Q E hr h => ?_)
  · obtain ⟨a, x, rfl, _⟩ := h
    rfl
  · obtain ⟨a, x, rfl, ha, k⟩ := h
    refine ⟨_, (pss_one (ps_ost (pv 0) (pv 1))), ?_⟩
    simp only [tVar, rIxTH, rIxLH, gTupH, line_le, HO.tup.injEq, HO.lst.injEq, List.length_cons, List.length_nil, at0, at1, rU, tOst, tTest, rIxL, rIxT, C8.tCut, cxOf_K, tC, tOp, tUn, tSeq, tAsg, tNext, tRet, tRetN, tDrop, tIfS, tNever, gName, gNil, gCons, gTup, gSub, tPar, rI, rI0, rU, rEq, rNe, tB, tAnd, tOr, tNot, tAndV, tOrV, tNotV, tIf, tTup, tLst, tNil, tCons, tCB, tCall, tMeth, tMake, tFld, sFld, tDGet, sDPut, tDisp, tPairs, tBreak, tCont, scal_ii, scal_bb, scal_ss, List.getElem?_cons_zero, List.getElem?_cons_succ, List.set_cons_zero, List.set_cons_succ, Option.some.injEq, exists_eq_left', exists_eq_left, exists_and_left, V.int.injEq, V.bl.injEq, V.ref.injEq, V.str.injEq, List.cons.injEq, and_true, true_and, Bool.true_eq, List.nil_append, List.append_nil, List.cons_append, exists_eq', and_self, reduceCtorEq, false_or, or_false, false_and, exists_false, exists_const, and_assoc, if_true, Bool.false_eq_true, if_false, Nat.reduceAdd, Nat.reduceLeDiff, Nat.zero_add, Nat.le_refl, forall_const, st_BadGivenD_initD]
    exact ⟨C_BadGiven, TX, n1, .inl ⟨ha, fun d hd hda => k d hd hda⟩⟩
theorem raise_badG {CG : Addr} {σ : L2.St} {H : Hp} {E : XK} {w : Str} (ke : BadG CG H E w) :
    tMkO CG (spX1 CG "what") [] (tCons (tC (.str w)) tNil) σ H fun cls d H' => E cls d H' := by
  refine ⟨by simp, fun b hb => ⟨b, _, rfl, upd_same, fun d hd hda => ⟨rfl, ?_⟩⟩⟩
  obtain ⟨d', e1, fs, e2, e3, e4⟩ := x1_made (C := CG) (f1 := "what") (x := .str w) (Q := E) hb (by rw [upd_ne hda] at hd; exact hd) hda fun H2 e1 e2 => ke H2 d e1 e2
  exact ⟨d', fs, e1, e2, e3, e4⟩
theorem BadG.same {CG : Addr} {H H1 : Hp} {E : XK} {w : Str} (h : BadG CG H E w) (e : Same H H1) : BadG CG H1 E w := fun H' d e1 e2 => h H' d (e.trans e1) e2
/-- a list or tuple of our own making -/
def Sq0 (H : Hp) (a : Addr) (xs : List V) : Prop := H a = some (.lst xs) ∨ H a = some (.tup xs)
theorem Sq0.sq {H : Hp} {a : Addr} {xs : List V} (h : Sq0 H a xs) : Sq K H a xs := h.elim (fun h => .inl (SqL.of h)) fun h => .inr (SqT.of h)
theorem Sq0.same {H H' : Hp} {a : Addr} {xs : List V} (h : Sq0 H a xs) (e : Same H H') : Sq0 H' a xs := h.elim (fun h => .inl (e _ _ h)) fun h => .inr (e _ _ h)
theorem Sq0.ty {H : Hp} {a : Addr} {xs : List V} (h : Sq0 H a xs) : ∃ t, TyX K H (.ref a) t ∧ PySem.W.kitAny K t [.type "tuple", .type "list"] = some true := by
  rcases h with h | h
  · exact ⟨.type "list", .base (.lst h), kitAny_cons (b := false) (kit_ty (by decide +kernel)) (fun _ => kitAny_cons (b := true) (kit_ty (by decide +kernel)) (fun z => by cases z) fun _ => rfl) fun z => by cases z⟩
  · exact ⟨.type "tuple", .base (.tup h), kitAny_cons (b := true) (kit_ty (by decide +kernel)) (fun z => by cases z) fun _ => rfl⟩
/-- whether a value is a ratio -/
def TyB (K : PySem.W.Frag) (C : Addr) (H : Hp) (v : V) (b : Bool) : Prop := ∃ i r, b = (r || i) ∧ ∀ H', Same H H' → Ty K C H' v i r
theorem tyB_all {C : Addr} {H : Hp} (R : RatC K C) {xs : List V} {rs : List Rat} (h : AllA C H xs rs) : ∃ bs, Fa2 (TyB K C H) xs bs ∧ bs.all id = true := by
  unfold AllA at h
  induction h with
  | nil => exact ⟨[], .nil, rfl⟩
  | cons h _ ih =>
    obtain ⟨bs, h1, h2⟩ := ih
    rcases h with h | ⟨i, rfl, _⟩
    · exact ⟨true :: bs, .cons ⟨false, true, rfl, fun H' e => ty_rat R (h.same e).inst⟩ h1, by simpa using h2⟩
    · exact ⟨true :: bs, .cons ⟨true, false, rfl, fun H' e => ty_int R i⟩ h1, by simpa using h2⟩
/-- x is a tuple or list of these ratios -/
def IsPt (C : Addr) (H : Hp) (x : V) (rs : List Rat) : Prop := ∃ a xs, x = .ref a ∧ Sq0 H a xs ∧ AllA C H xs rs
/-- .. no such thing -/
def NoPt (K : PySem.W.Frag) (C : Addr) (H : Hp) (x : V) (n : Nat) : Prop := x = .non ∨ (∃ t, x = .str t) ∨ ∃ a xs, x = .ref a ∧ Sq0 H a xs ∧ (xs.length ≠ n ∨ (xs.length ≤ 100 ∧ ∃ bs, Fa2 (TyB K C H) xs bs ∧ bs.all id = false))
def spPoint (K : PySem.W.Frag) (C CG : Addr) : Sp := fun vs H Q E => ∃ (x : V) (n : Nat), vs = [x, .int n] ∧
  ((∃ rs, IsPt C H x rs ∧ rs.length = n ∧ n ≤ 100 ∧ ∀ H', Same H H' → Q .non H') ∨ (NoPt K C H x n ∧ BadG CG H E "point"))
abbrev N_check_point : List Str := ["point", "size", "ratio"]
theorem sc_check_point : FnScope N_check_point ["point", "size"] (defScope s_check_point) := ⟨rfl, rfl, rfl, by decide +kernel, rfl, by decide +kernel, by decide +kernel⟩
theorem st_check_point {v0 v1 : V} : L2.start N_check_point [v0, v1] = [some v0, some v1, none] := rfl
theorem ok_check_point {f : Addr} {fd : FuncData} (F : FD K s_check_point "check_point" "check_point" f fd) {C_Ratio C_BadGiven : Addr} (R : RatC K C_Ratio) (z_all : mg "all" = none) (z_len : mg "len" = none) (z_isinstance : mg "isinstance" = none) (z_list : mg "list" = none) (z_tuple : mg "tuple" = none) (g_is_ratio : Gf P w K mg base "is_ratio" 2 ["value"] (spIsRat K C_Ratio)) (g_BadGiven : Xf P w K mg base "BadGiven" C_BadGiven 1 (spX1 C_BadGiven "what")) : FnOk P w K mg base (L2.CX P w) 3 f fd ["point", "size"] (spPoint K C_Ratio C_BadGiven) := by
  have nd := sc_check_point.nd
  refine F.okX sc_check_point (fun vs H Q E h => ?_) (fun cdv A outer s H vs Q E hr h => ?_)
  · obtain ⟨x, n, rfl, _⟩ := h
    rfl
  · obtain ⟨x, n, rfl, hc⟩ := h
    refine ⟨_, (pss_cons (ps_if (PW.pt (pw_or (pt_not (pt_val (pe_callB (id := "isinstance") (r := rIsiT K) (call_isiTE rfl) (by rfl) z_isinstance (by decide +kernel) (pa_cons (pv 0) (pa_cons (pe_tup (pa_cons (pe_bltn (v := .ty "tuple") rfl z_tuple (by decide +kernel) rfl) (pa_cons (pe_bltn (v := .ty "list") rfl z_list (by decide +kernel) rfl) pa_nil))) pa_nil))))) (pw_or1 (pt_cmpR op_ne (pe_callB call_len_seq (by rfl) z_len (by decide +kernel) (pa_cons (pv 0) pa_nil)) (pv 1) (nomark _))))) (pss_one (ps_raiseX g_BadGiven hr (by decide) rfl (takes_of rfl rfl rfl rfl) rfl (pa_cons pe_str pa_nil))) pss_nil)
        (pss_one (ps_if (pt_not (pt_val (pe_callB (id := "all") (cr_all rfl) (by rfl) z_all (by decide +kernel) (pa_cons (pe_lc (own := [("ratio", 2)]) rfl nd (pi_seq (pv 0)) (blkOk_by (own := [("ratio", 2)]) (N := N_check_point) (sc := defScope s_check_point) (by decide +kernel)) (fun _ _ _ _ _ => (pg_name (i := 2) nd rfl (Or.inl rfl))) (fun _ _ _ _ _ => pts_nil) (fun _ _ _ _ _ => (pe_g g_is_ratio hr (by decide) passL rfl (pa_cons (pv 2) pa_nil)))) pa_nil)))) (pss_one (ps_raiseX g_BadGiven hr (by decide) rfl (takes_of rfl rfl rfl rfl) rfl (pa_cons pe_str pa_nil))) pss_nil))), ?_⟩
    simp only [tVar, rIxTH, rIxLH, gTupH, line_le, HO.tup.injEq, HO.lst.injEq, List.length_cons, List.length_nil, at0, at1, rU, tOst, tTest, rIxL, rIxT, C8.tCut, cxOf_K, tC, tOp, tUn, tSeq, tAsg, tNext, tRet, tRetN, tDrop, tIfS, tNever, gName, gNil, gCons, gTup, gSub, tPar, rI, rI0, rU, rEq, rNe, tB, tAnd, tOr, tNot, tAndV, tOrV, tNotV, tIf, tTup, tLst, tNil, tCons, tCB, tCall, tMeth, tMake, tFld, sFld, tDGet, sDPut, tDisp, tPairs, tBreak, tCont, scal_ii, scal_bb, scal_ss, List.getElem?_cons_zero, List.getElem?_cons_succ, List.set_cons_zero, List.set_cons_succ, Option.some.injEq, exists_eq_left', exists_eq_left, exists_and_left, V.int.injEq, V.bl.injEq, V.ref.injEq, V.str.injEq, List.cons.injEq, and_true, true_and, Bool.true_eq, List.nil_append, List.append_nil, List.cons_append, exists_eq', and_self, reduceCtorEq, false_or, or_false, false_and, exists_false, exists_const, and_assoc, if_true, Bool.false_eq_true, if_false, Nat.reduceAdd, Nat.reduceLeDiff, Nat.zero_add, Nat.le_refl, forall_const, st_check_point, rIsiT]
    intro p hp
    have sp := same_new (o := HO.tup [V.ty "tuple", V.ty "list"]) hp
    generalize hH1 : upd H p (HO.tup [V.ty "tuple", V.ty "list"]) = H1 at sp ⊢
    have hp1 : H1 p = some (.tup [V.ty "tuple", V.ty "list"]) := by rw [← hH1, upd_same]
    have cls : Paired ClsV [V.ty "tuple", V.ty "list"] [.type "tuple", .type "list"] := .cons (.ty _) (.cons (.ty _) .nil)
    have items : ∀ {a : Addr} {xs : List V} {bs : List Bool} {Q2 : Bool → Hp → Prop}, Sq0 H1 a xs → Fa2 (TyB K C_Ratio H) xs bs → xs.length ≤ 100 → (∀ H2, Same H1 H2 → Q2 (bs.all id) H2) →
        tLc (iSeq K (tVar 0)) (gName 2) tYes (tCall (spIsRat K C_Ratio) [] C8.E0 (tCons (tVar 2) tNil)) (List.map (fun x => x.snd) [(("ratio" : Str), 2)]) [some (.ref a), some (V.int n), none] H1 fun x H2 => rAll K [x] H2 fun y H3 => ∃ c, y = V.bl c ∧ Q2 c H3 := by
      intro a xs bs Q2 hs hf hl k
      have lb := Fa2.len hf
      refine ⟨_, rfl, a, rfl, lc_seq (xs := xs) hs.sq (fun D i H2 => Same H1 H2 ∧ H2 D = some (.lst ((bs.take i).map V.bl))) (fun D hD => ⟨same_new hD, upd_same⟩) (fun D hD i H' h => h.1) ?_ ?_⟩
      · rintro D hD i x H2 hi ⟨s2, hy⟩
        obtain ⟨b, hb, ii, r, rfl, hT⟩ := Fa2.get hf hi
        have li : i < xs.length := by
          rcases Nat.lt_or_ge i xs.length with h | h
          · exact h
          · rw [List.getElem?_eq_none h] at hi; cases hi
        simp only [tVar, rIxTH, rIxLH, gTupH, line_le, HO.tup.injEq, HO.lst.injEq, List.length_cons, List.length_nil, at0, at1, rU, tOst, tTest, rIxL, rIxT, C8.tCut, cxOf_K, tC, tOp, tUn, tSeq, tAsg, tNext, tRet, tRetN, tDrop, tIfS, tNever, gName, gNil, gCons, gTup, gSub, tPar, rI, rI0, rU, rEq, rNe, tB, tAnd, tOr, tNot, tAndV, tOrV, tNotV, tIf, tTup, tLst, tNil, tCons, tCB, tCall, tMeth, tMake, tFld, sFld, tDGet, sDPut, tDisp, tPairs, tBreak, tCont, scal_ii, scal_bb, scal_ss, List.getElem?_cons_zero, List.getElem?_cons_succ, List.set_cons_zero, List.set_cons_succ, Option.some.injEq, exists_eq_left', exists_eq_left, exists_and_left, V.int.injEq, V.bl.injEq, V.ref.injEq, V.str.injEq, List.cons.injEq, and_true, true_and, Bool.true_eq, List.nil_append, List.append_nil, List.cons_append, exists_eq', and_self, reduceCtorEq, false_or, or_false, false_and, exists_false, exists_const, and_assoc, if_true, Bool.false_eq_true, if_false, Nat.reduceAdd, Nat.reduceLeDiff, Nat.zero_add, Nat.le_refl, forall_const, st_check_point, wipe, List.map_cons, List.map_nil, tYes]
        refine ⟨x, ii, r, rfl, hT _ (sp.trans s2), _, hy, by rw [List.length_map, List.length_take]; exact Nat.lt_of_le_of_lt (show _ ≤ 100 by omega) (by decide), same_updL hD s2, ?_⟩
        rw [upd_same, take_snoc hb, List.map_append]
        rfl
      · rintro D hD H2 ⟨s2, hy⟩
        rw [lb, List.take_length] at hy
        exact ⟨D, bs, rfl, SqL.of hy, _, rfl, k H2 s2⟩
    rcases hc with ⟨rs, ⟨a, xs, rfl, hs, ha⟩, hn, hl, k⟩ | ⟨rfl | ⟨tx, rfl⟩ | ⟨a, xs, rfl, hs, hc⟩, ke⟩
    · obtain ⟨t, ty, kt⟩ := (hs.same sp).ty (K := K)
      obtain ⟨bs, hf, hall⟩ := tyB_all R ha
      have lx := Fa2.len ha
      refine ⟨_, hp1, t, _, cls, ty, true, kt, iteF ⟨_, rfl, xs, (hs.same sp).sq, ?_⟩⟩
      rw [decide_eq_true (by omega), if_neg (by decide)]
      refine items (hs.same sp) hf (by omega) (Q2 := fun c H1 => if (!c) = true then _ else _) fun H2 s2 => ?_
      rw [hall, if_neg (by decide)]
      exact k _ (sp.trans s2)
    · exact ⟨_, hp1, .type "NoneType", _, cls, .base .non, false, kitAny_cons (b := false) (kit_ty (by decide +kernel)) (fun _ => kitAny_cons (b := false) (kit_ty (by decide +kernel)) (fun _ => kitAny_nil) fun z => by cases z) (fun z => by cases z), iteT (raise_badG (ke.same sp))⟩
    · exact ⟨_, hp1, .type "str", _, cls, .base (.str _), false, kitAny_cons (b := false) (kit_ty (by decide +kernel)) (fun _ => kitAny_cons (b := false) (kit_ty (by decide +kernel)) (fun _ => kitAny_nil) fun z => by cases z) (fun z => by cases z), iteT (raise_badG (ke.same sp))⟩
    · obtain ⟨t, ty, kt⟩ := (hs.same sp).ty (K := K)
      refine ⟨_, hp1, t, _, cls, ty, true, kt, iteF ⟨_, rfl, xs, (hs.same sp).sq, ?_⟩⟩
      by_cases hn : xs.length = n
      · rcases hc with h | ⟨hl, bs, hf, hall⟩
        · exact absurd hn h
        rw [decide_eq_true (by omega), if_neg (by decide)]
        refine items (hs.same sp) hf hl (Q2 := fun c H1 => if (!c) = true then _ else _) fun H2 s2 => ?_
        rw [hall, if_pos (by decide)]
        exact raise_badG (ke.same (sp.trans s2))
      · rw [decide_eq_false (by omega), if_pos (by decide)]
        exact raise_badG (ke.same sp)
/-- the worth of a plane at a point -/
def worth (q : Rat) (qs rs : List Rat) : Rat := (qs.zip rs).foldl (fun w p => w + p.1 * p.2) q
theorem worth_snoc {q s r : Rat} {qs rs : List Rat} {i : Nat} (h1 : qs[i]? = some s) (h2 : rs[i]? = some r) : worth q (qs.take (i + 1)) (rs.take (i + 1)) = worth q (qs.take i) (rs.take i) + s * r := by
  have l1 : i < qs.length := by
    rcases Nat.lt_or_ge i qs.length with h | h
    · exact h
    · rw [List.getElem?_eq_none h] at h1; cases h1
  have l2 : i < rs.length := by
    rcases Nat.lt_or_ge i rs.length with h | h
    · exact h
    · rw [List.getElem?_eq_none h] at h2; cases h2
  unfold worth
  rw [take_snoc h1, take_snoc h2, List.zip_append (by rw [List.length_take, List.length_take]; omega), List.foldl_append]
  rfl
theorem worth_bd {q : Rat} {qs rs : List Rat} (hl : qs.length = rs.length) (h1 : ∀ z ∈ q :: qs, HwM.Bd 190 z) (h2 : ∀ z ∈ rs, HwM.Bd 600 z) : ∀ i ≤ qs.length, HwM.Bd (190 + 791 * i) (worth q (qs.take i) (rs.take i)) := by
  intro i
  induction i with
  | zero => intro _; exact h1 q List.mem_cons_self
  | succ i ih =>
    intro hi
    have e1 : qs[i]? = some qs[i] := List.getElem?_eq_getElem hi
    have e2 : rs[i]? = some (rs[i]'(by omega)) := List.getElem?_eq_getElem (by omega)
    rw [worth_snoc e1 e2]
    exact (HwM.add_bd (ih (by omega)) (HwM.mul_bd (by decide) (h1 _ (List.mem_cons_of_mem _ (List.mem_of_getElem? e1))) (h2 _ (List.mem_of_getElem? e2)))).mono (by omega)
theorem worth_bdG {m n : Nat} {q : Rat} {qs rs : List Rat} (h0 : 0 < m + n) (hl : qs.length = rs.length) (h1 : ∀ z ∈ q :: qs, HwM.Bd m z) (h2 : ∀ z ∈ rs, HwM.Bd n z) : ∀ i ≤ qs.length, HwM.Bd (m + (m + n + 1) * i) (worth q (qs.take i) (rs.take i)) := by
  intro i
  induction i with
  | zero => intro _; exact h1 q List.mem_cons_self
  | succ i ih =>
    intro hi
    have e1 : qs[i]? = some qs[i] := List.getElem?_eq_getElem hi
    have e2 : rs[i]? = some (rs[i]'(by omega)) := List.getElem?_eq_getElem (by omega)
    rw [worth_snoc e1 e2]
    exact (HwM.add_bd (ih (by omega)) (HwM.mul_bd h0 (h1 _ (List.mem_cons_of_mem _ (List.mem_of_getElem? e1))) (h2 _ (List.mem_of_getElem? e2)))).mono (by rw [Nat.mul_succ]; omega)
def spAt (K : PySem.W.Frag) (CR CP CG : Addr) : Sp := fun vs H Q E => ∃ (x y : V) (q : Rat) (qs : List Rat), vs = [x, y] ∧ IsP CR CP H x q qs ∧
  ((∃ rs, IsPt CR H y rs ∧ rs.length = qs.length ∧ qs.length ≤ 3 ∧ (∀ z ∈ q :: qs, HwM.Bd 190 z) ∧ (∀ z ∈ rs, HwM.Bd 600 z) ∧ ∀ H' z, Same H H' → IsR CR H' z (worth q qs rs) → Q z H') ∨ (NoPt K CR H y qs.length ∧ BadG CG H E "point"))
def spMix (CR : Addr) : Sp := fun vs H Q _ => ∃ (v : V) (l : Addr) (ts : List Addr) (xs ys : List V) (q : Rat) (qs rs : List Rat), vs = [v, .ref l] ∧ IsR CR H v q ∧ H l = some (.lst (ts.map V.ref)) ∧ ts.length = xs.length ∧ PairsAt H ts xs ys ∧ AllR CR H xs qs ∧ AllR CR H ys rs ∧
  qs.length = rs.length ∧ qs.length ≤ 3 ∧ (∀ z ∈ q :: qs, HwM.Bd 190 z) ∧ (∀ z ∈ rs, HwM.Bd 600 z) ∧ ∀ H' z, Same H H' → IsR CR H' z (worth q qs rs) → Q z H'
theorem mix_eq {t n b p W : Int} (hb : b ≠ 0) (hp : p ≠ 0) (hW : W ≠ 0) (db : b ∣ W) (dp : p ∣ W) : Rat.divInt (t * (W / b) + n * (W / p)) W = Rat.divInt t b + Rat.divInt n p := by
  obtain ⟨k, rfl⟩ := db
  obtain ⟨m, hm⟩ := dp
  rw [Int.mul_ediv_cancel_left k hb, hm, Int.mul_ediv_cancel_left m hp, Rat.divInt_add_divInt _ _ hb hp, Rat.divInt_eq_divInt_iff (by rw [← hm]; exact hW) (Int.mul_ne_zero hb hp)]
  grind
theorem quo_lt {W b : Nat} {p k : Nat} (hp : p < 2 ^ k) (e : W ≤ b * p) (h0 : 0 < b) : W / b < 2 ^ k := Nat.lt_of_le_of_lt (Nat.div_le_of_le_mul e) hp
theorem lcm_le (a b : Nat) : Nat.lcm a b ≤ a * b := Nat.div_le_self _ _
/-- the sum so far over one bottom -/
def MixAt (q : Rat) (qs rs : List Rat) (i : Nat) (t : Int) (b : Nat) : Prop := 0 < b ∧ b < 2 ^ (190 + 790 * i) ∧ t.natAbs < 2 ^ (190 + 791 * i) ∧ Rat.divInt t (b : Int) = worth q (qs.take i) (rs.take i)
theorem mix_skip {q s r : Rat} {qs rs : List Rat} {i : Nat} {t : Int} {b : Nat} (h : MixAt q qs rs i t b) (h1 : qs[i]? = some s) (h2 : rs[i]? = some r) (z : s.num = 0 ∨ r.num = 0) : MixAt q qs rs (i + 1) t b := by
  refine ⟨h.1, HwM.lt_mono h.2.1 (by omega), HwM.lt_mono h.2.2.1 (by omega), ?_⟩
  rw [worth_snoc h1 h2, h.2.2.2]
  rcases z with z | z
  · rw [Rat.num_eq_zero.mp z, Rat.zero_mul, Rat.add_zero]
  · rw [Rat.num_eq_zero.mp z, Rat.mul_zero, Rat.add_zero]
theorem mix_step {q s r : Rat} {qs rs : List Rat} {i : Nat} {t : Int} {b : Nat} (h : MixAt q qs rs i t b) (h1 : qs[i]? = some s) (h2 : rs[i]? = some r) (bs : HwM.Bd 190 s) (br : HwM.Bd 600 r) :
    MixAt q qs rs (i + 1) (t * (((Nat.lcm b (s.den * r.den) : Nat) : Int) / (b : Int)) + s.num * r.num * (((Nat.lcm b (s.den * r.den) : Nat) : Int) / (((s.den * r.den : Nat) : Int)))) (Nat.lcm b (s.den * r.den)) := by
  obtain ⟨b0, bb, tb, e⟩ := h
  have p0 : 0 < s.den * r.den := Nat.mul_pos s.den_pos r.den_pos
  have pb : s.den * r.den < 2 ^ 790 := HwM.mul_lt bs.2 br.2
  have l0 : 0 < Nat.lcm b (s.den * r.den) := Nat.lcm_pos b0 p0
  have lb : Nat.lcm b (s.den * r.den) < 2 ^ (190 + 790 * (i + 1)) := HwM.lt_mono (Nat.lt_of_le_of_lt (lcm_le _ _) (HwM.mul_lt bb pb)) (by omega)
  have q1 : Nat.lcm b (s.den * r.den) / b < 2 ^ 790 := quo_lt pb (lcm_le _ _) b0
  have q2 : Nat.lcm b (s.den * r.den) / (s.den * r.den) < 2 ^ (190 + 790 * i) := quo_lt bb (Nat.le_trans (lcm_le _ _) (Nat.le_of_eq (Nat.mul_comm _ _))) p0
  refine ⟨l0, lb, ?_, ?_⟩
  · have a1 : (t * (((Nat.lcm b (s.den * r.den) : Nat) : Int) / (b : Int))).natAbs < 2 ^ (190 + 791 * i + 790) := by
      rw [Int.natAbs_mul, ← Int.natCast_ediv, Int.natAbs_natCast]
      exact HwM.mul_lt tb q1
    have a2 : (s.num * r.num * (((Nat.lcm b (s.den * r.den) : Nat) : Int) / (((s.den * r.den : Nat) : Int)))).natAbs < 2 ^ (190 + 791 * i + 790) := by
      rw [Int.natAbs_mul, ← Int.natCast_ediv, Int.natAbs_natCast]
      exact HwM.lt_mono (HwM.mul_lt (HwM.num_mul_bd bs br) q2) (by omega)
    exact HwM.lt_mono (Nat.lt_of_le_of_lt (Int.natAbs_add_le _ _) (HwM.add_lt a1 a2)) (by omega)
  · rw [mix_eq (by omega) (by omega) (by omega) (Int.natCast_dvd_natCast.mpr (Nat.dvd_lcm_left _ _)) (Int.natCast_dvd_natCast.mpr (Nat.dvd_lcm_right _ _)), worth_snoc h1 h2, e, Int.natCast_mul, HwM.mul_eq]
abbrev N_mixed_ratio : List Str := ["fixed", "pairs", "top", "bottom", "one", "other", "part", "whole"]
theorem sc_mixed_ratio : FnScope N_mixed_ratio ["fixed", "pairs"] (defScope s_mixed_ratio) := ⟨rfl, rfl, rfl, by decide +kernel, rfl, by decide +kernel, by decide +kernel⟩
theorem st_mixed_ratio {v0 v1 : V} : L2.start N_mixed_ratio [v0, v1] = [some v0, some v1, none, none, none, none, none, none] := rfl
theorem ok_mixed_ratio {f : Addr} {fd : FuncData} (F : FD K s_mixed_ratio "mixed_ratio" "mixed_ratio" f fd) {C_Ratio C_BadNumber : Addr} (R : RatC K C_Ratio) (m_lcm : mg "lcm" = some (.builtin "math.lcm")) (g_Ratio : Kf P w K mg base "Ratio" C_Ratio 3 ["self", "top", "bottom"] [] (spInit C_Ratio C_BadNumber)) : FnOk P w K mg base (L2.CX P w) 5 f fd ["fixed", "pairs"] (spMix C_Ratio) := by
  have nd := sc_mixed_ratio.nd
  refine F.ok0 sc_mixed_ratio (fun vs H Q E h => ?_) (fun cdv A outer s H vs Q E hr h => ?_)
  · obtain ⟨v, l, ts, xs, ys, q, qs, rs, rfl, _⟩ := h
    rfl
  · obtain ⟨v, l, ts, xs, ys, q, qs, rs, rfl, hv, hl, hn, hp, hx, hy, hq, h6, bq, br, k⟩ := h
    refine ⟨_, (C8.pss_cut (ps_set (i := 2) nd rfl (Or.inl rfl) (pe_fld (pv 0) rfl))
        (C8.pss_cut (ps_set (i := 3) nd rfl (Or.inl rfl) (pe_fld (pv 0) rfl))
        (C8.pss_cut (ps_for PassesOwn.never rfl (pi_list (pv 1)) (pg_tupH rfl (pgs_cons (pg_name (i := 4) nd rfl (Or.inl rfl)) (pgs_cons (pg_name (i := 5) nd rfl (Or.inl rfl)) pgs_nil))) (pss_one (ps_if (PW.pt (pw_and (pt_cmpR op_ne (pe_fld (pv 4) rfl) pe_int (nomark _)) (pw_and1 (pt_cmpR op_ne (pe_fld (pv 5) rfl) pe_int (nomark _))))) (pss_cons (ps_set (i := 6) nd rfl (Or.inl rfl) (pe_op op_mulW (pe_fld (pv 4) rfl) (pe_fld (pv 5) rfl)))
        (pss_cons (ps_set (i := 7) nd rfl (Or.inl rfl) (pe_callBfun cr_lcm rfl m_lcm (pa_cons (pv 3) (pa_cons (pv 6) pa_nil))))
        (pss_cons (ps_set (i := 2) nd rfl (Or.inl rfl) (pe_op op_add (pe_op op_mulW (pv 2) (pe_op op_fdivX (pv 7) (pv 3))) (pe_op op_mulW (pe_op op_mulW (pe_fld (pv 4) rfl) (pe_fld (pv 5) rfl)) (pe_op op_fdivX (pv 7) (pv 6)))))
        (pss_one (ps_set (i := 3) nd rfl (Or.inl rfl) (pv 7)))))) pss_nil)))
        (pss_one (ps_ret (pe_k g_Ratio hr (by decide) passL rfl (pa_cons (pv 2) (pa_cons (pv 3) pa_nil)))))))), ?_⟩
    have lx := Fa2.len hx
    obtain ⟨a, dx, rfl, ha⟩ := hv
    simp only [tVar, rIxTH, rIxLH, gTupH, line_le, HO.tup.injEq, HO.lst.injEq, List.length_cons, List.length_nil, at0, at1, rU, tOst, tTest, rIxL, rIxT, C8.tCut, cxOf_K, tC, tOp, tUn, tSeq, tAsg, tNext, tRet, tRetN, tDrop, tIfS, tNever, gName, gNil, gCons, gTup, gSub, tPar, rI, rI0, rU, rEq, rNe, tB, tAnd, tOr, tNot, tAndV, tOrV, tNotV, tIf, tTup, tLst, tNil, tCons, tCB, tCall, tMeth, tMake, tFld, sFld, tDGet, sDPut, tDisp, tPairs, tBreak, tCont, scal_ii, scal_bb, scal_ss, List.getElem?_cons_zero, List.getElem?_cons_succ, List.set_cons_zero, List.set_cons_succ, Option.some.injEq, exists_eq_left', exists_eq_left, exists_and_left, V.int.injEq, V.bl.injEq, V.ref.injEq, V.str.injEq, List.cons.injEq, and_true, true_and, Bool.true_eq, List.nil_append, List.append_nil, List.cons_append, exists_eq', and_self, reduceCtorEq, false_or, or_false, false_and, exists_false, exists_const, and_assoc, if_true, Bool.false_eq_true, if_false, Nat.reduceAdd, Nat.reduceLeDiff, Nat.zero_add, Nat.le_refl, forall_const, st_mixed_ratio, HO.ins.injEq, R.cl, R.nt, R.nb, ratF_top, ratF_bottom, ha]
    refine ⟨fun σ' H' => H' = H ∧ σ' = [some (.ref a), some (.ref l), some (.int q.num), none, none, none, none, none], ⟨rfl, rfl⟩, ?_⟩
    rintro σ' H1 ⟨rfl, rfl⟩
    simp only [tVar, rIxTH, rIxLH, gTupH, line_le, HO.tup.injEq, HO.lst.injEq, List.length_cons, List.length_nil, at0, at1, rU, tOst, tTest, rIxL, rIxT, C8.tCut, cxOf_K, tC, tOp, tUn, tSeq, tAsg, tNext, tRet, tRetN, tDrop, tIfS, tNever, gName, gNil, gCons, gTup, gSub, tPar, rI, rI0, rU, rEq, rNe, tB, tAnd, tOr, tNot, tAndV, tOrV, tNotV, tIf, tTup, tLst, tNil, tCons, tCB, tCall, tMeth, tMake, tFld, sFld, tDGet, sDPut, tDisp, tPairs, tBreak, tCont, scal_ii, scal_bb, scal_ss, List.getElem?_cons_zero, List.getElem?_cons_succ, List.set_cons_zero, List.set_cons_succ, Option.some.injEq, exists_eq_left', exists_eq_left, exists_and_left, V.int.injEq, V.bl.injEq, V.ref.injEq, V.str.injEq, List.cons.injEq, and_true, true_and, Bool.true_eq, List.nil_append, List.append_nil, List.cons_append, exists_eq', and_self, reduceCtorEq, false_or, or_false, false_and, exists_false, exists_const, and_assoc, if_true, Bool.false_eq_true, if_false, Nat.reduceAdd, Nat.reduceLeDiff, Nat.zero_add, Nat.le_refl, forall_const, st_mixed_ratio, HO.ins.injEq, R.cl, R.nt, R.nb, ratF_top, ratF_bottom, ha]
    refine ⟨fun σ' H' => H' = H1 ∧ σ' = [some (.ref a), some (.ref l), some (.int q.num), some (.int q.den), none, none, none, none], ⟨rfl, rfl⟩, ?_⟩
    rintro σ' H1 ⟨rfl, rfl⟩
    have m0 : MixAt q qs rs 0 q.num q.den := ⟨q.den_pos, (bq _ List.mem_cons_self).2, (bq _ List.mem_cons_self).1, HwM.self_eq q⟩
    refine ⟨fun σ' H' => H' = H1 ∧ ∃ (t : Int) (b : Nat) (v4 v5 v6 v7 : Option V), σ' = [some (.ref a), some (.ref l), some (.int t), some (.int (b : Int)), v4, v5, v6, v7] ∧ MixAt q qs rs qs.length t b, ?_, ?_⟩
    · refine ⟨.ref l, rfl, l, rfl, ⟨_, SqL.of hl⟩, for_list (K := K) (a := l) (xs := ts.map V.ref) (fun i σ' H' => H' = H1 ∧ ∃ (t : Int) (b : Nat) (v4 v5 v6 v7 : Option V), σ' = [some (.ref a), some (.ref l), some (.int t), some (.int (b : Int)), v4, v5, v6, v7] ∧ MixAt q qs rs i t b) ⟨rfl, _, _, none, none, none, none, rfl, m0⟩ (fun i σ' H' _ h => by rw [h.1]; exact SqL.of hl) ?_ ?_⟩
      · rintro i x σ H' hi ⟨rfl, t, b, v4, v5, v6, v7, rfl, M⟩
        obtain ⟨T, hT, rfl⟩ : ∃ T, ts[i]? = some T ∧ x = V.ref T := by
          rw [List.getElem?_map] at hi
          cases e : ts[i]? with
          | none => rw [e] at hi; cases hi
          | some z => rw [e] at hi; exact ⟨z, rfl, (Option.some.inj hi).symm⟩
        obtain ⟨x, y, hxi, hyi, hTT⟩ := hp i T hT
        obtain ⟨s, hs1, hx1⟩ := Fa2.get hx hxi
        obtain ⟨r, hr1, hy1⟩ := Fa2.get hy hyi
        obtain ⟨xa, dxa, rfl, hxa⟩ := hx1
        obtain ⟨ya, dya, rfl, hya⟩ := hy1
        have bs := bq _ (List.mem_cons_of_mem _ (List.mem_of_getElem? hs1))
        have br1 := br _ (List.mem_of_getElem? hr1)
        simp only [tVar, rIxTH, rIxLH, gTupH, line_le, HO.tup.injEq, HO.lst.injEq, List.length_cons, List.length_nil, at0, at1, rU, tOst, tTest, rIxL, rIxT, C8.tCut, cxOf_K, tC, tOp, tUn, tSeq, tAsg, tNext, tRet, tRetN, tDrop, tIfS, tNever, gName, gNil, gCons, gTup, gSub, tPar, rI, rI0, rU, rEq, rNe, tB, tAnd, tOr, tNot, tAndV, tOrV, tNotV, tIf, tTup, tLst, tNil, tCons, tCB, tCall, tMeth, tMake, tFld, sFld, tDGet, sDPut, tDisp, tPairs, tBreak, tCont, scal_ii, scal_bb, scal_ss, List.getElem?_cons_zero, List.getElem?_cons_succ, List.set_cons_zero, List.set_cons_succ, Option.some.injEq, exists_eq_left', exists_eq_left, exists_and_left, V.int.injEq, V.bl.injEq, V.ref.injEq, V.str.injEq, List.cons.injEq, and_true, true_and, Bool.true_eq, List.nil_append, List.append_nil, List.cons_append, exists_eq', and_self, reduceCtorEq, false_or, or_false, false_and, exists_false, exists_const, and_assoc, if_true, Bool.false_eq_true, if_false, Nat.reduceAdd, Nat.reduceLeDiff, Nat.zero_add, Nat.le_refl, forall_const, st_mixed_ratio, HO.ins.injEq, R.cl, R.nt, R.nb, ratF_top, ratF_bottom]
        refine ⟨_, hTT, rfl, ?_⟩
        simp only [tVar, rIxTH, rIxLH, gTupH, line_le, HO.tup.injEq, HO.lst.injEq, List.length_cons, List.length_nil, at0, at1, rU, tOst, tTest, rIxL, rIxT, C8.tCut, cxOf_K, tC, tOp, tUn, tSeq, tAsg, tNext, tRet, tRetN, tDrop, tIfS, tNever, gName, gNil, gCons, gTup, gSub, tPar, rI, rI0, rU, rEq, rNe, tB, tAnd, tOr, tNot, tAndV, tOrV, tNotV, tIf, tTup, tLst, tNil, tCons, tCB, tCall, tMeth, tMake, tFld, sFld, tDGet, sDPut, tDisp, tPairs, tBreak, tCont, scal_ii, scal_bb, scal_ss, List.getElem?_cons_zero, List.getElem?_cons_succ, List.set_cons_zero, List.set_cons_succ, Option.some.injEq, exists_eq_left', exists_eq_left, exists_and_left, V.int.injEq, V.bl.injEq, V.ref.injEq, V.str.injEq, List.cons.injEq, and_true, true_and, Bool.true_eq, List.nil_append, List.append_nil, List.cons_append, exists_eq', and_self, reduceCtorEq, false_or, or_false, false_and, exists_false, exists_const, and_assoc, if_true, Bool.false_eq_true, if_false, Nat.reduceAdd, Nat.reduceLeDiff, Nat.zero_add, Nat.le_refl, forall_const, st_mixed_ratio, HO.ins.injEq, R.cl, R.nt, R.nb, ratF_top, ratF_bottom, hxa, hya, rLcm, CDivX]
        refine ite2 (fun hs0 => ite2 (fun hr0 => ?_) (fun hr0 => ?_)) (fun hs0 => ?_)
        · obtain ⟨b0, bb, tb, e⟩ := id M
          have p0 : 0 < s.den * r.den := Nat.mul_pos s.den_pos r.den_pos
          have pb : s.den * r.den < 2 ^ 790 := HwM.mul_lt bs.2 br1.2
          have hi6 : i ≤ 3 := by
            rcases Nat.lt_or_ge i qs.length with h | h
            · omega
            · rw [List.getElem?_eq_none h] at hs1; cases hs1
          have b9 : b < 2 ^ 3000 := HwM.lt_mono bb (by omega)
          have t9 : t.natAbs < 2 ^ 3000 := HwM.lt_mono tb (by omega)
          have lb := Nat.lt_of_le_of_lt (lcm_le b (s.den * r.den)) (HwM.mul_lt b9 pb)
          have q1 : ((Nat.lcm b (s.den * r.den) : Nat) / (b : Int) : Int).natAbs < 2 ^ 4000 := by rw [← Int.natCast_ediv, Int.natAbs_natCast]; exact HwM.lt_mono (Nat.lt_of_le_of_lt (Nat.div_le_self _ _) lb) (by decide)
          have q2 : ((Nat.lcm b (s.den * r.den) : Nat) / ((s.den * r.den : Nat) : Int) : Int).natAbs < 2 ^ 4000 := by rw [← Int.natCast_ediv, Int.natAbs_natCast]; exact HwM.lt_mono (Nat.lt_of_le_of_lt (Nat.div_le_self _ _) lb) (by decide)
          rw [← Int.natCast_mul, Int.natAbs_natCast, Int.natAbs_natCast, Int.fdiv_eq_ediv_of_dvd (Int.natCast_dvd_natCast.mpr (Nat.dvd_lcm_left _ _)), Int.fdiv_eq_ediv_of_dvd (Int.natCast_dvd_natCast.mpr (Nat.dvd_lcm_right _ _))]
          refine ⟨wide_mul (a := 190) (b := 600) (by rw [Int.natAbs_natCast]; exact bs.2) (by rw [Int.natAbs_natCast]; exact br1.2) (by decide) (by decide) (by decide), HwM.lt_mono b9 (by decide), HwM.lt_mono pb (by decide), by omega, HwM.log2_lt (by decide) (HwM.lt_mono b9 (by decide)), wide_mul t9 q1 (by decide) (by decide) (by decide), wide_mul bs.1 br1.1 (by decide) (by decide) (by decide), by omega, HwM.log2_lt (by decide) (HwM.lt_mono pb (by decide)), wide_mul (HwM.num_mul_bd bs br1) q2 (by decide) (by decide) (by decide), _, rfl, mix_step M hs1 hr1 bs br1⟩
        · exact ⟨b, rfl, mix_skip M hs1 hr1 (.inr (by simpa using hr0))⟩
        · exact ⟨b, rfl, mix_skip M hs1 hr1 (.inl (by simpa using hs0))⟩
      · rintro σ' H3 ⟨rfl, t, b, v4, v5, v6, v7, rfl, M⟩
        refine ⟨rfl, t, b, v4, v5, v6, v7, rfl, ?_⟩
        rwa [List.length_map, hn, lx] at M
    rintro σ' H2 ⟨rfl, t, b, v4, v5, v6, v7, rfl, M⟩
    simp only [tVar, rIxTH, rIxLH, gTupH, line_le, HO.tup.injEq, HO.lst.injEq, List.length_cons, List.length_nil, at0, at1, rU, tOst, tTest, rIxL, rIxT, C8.tCut, cxOf_K, tC, tOp, tUn, tSeq, tAsg, tNext, tRet, tRetN, tDrop, tIfS, tNever, gName, gNil, gCons, gTup, gSub, tPar, rI, rI0, rU, rEq, rNe, tB, tAnd, tOr, tNot, tAndV, tOrV, tNotV, tIf, tTup, tLst, tNil, tCons, tCB, tCall, tMeth, tMake, tFld, sFld, tDGet, sDPut, tDisp, tPairs, tBreak, tCont, scal_ii, scal_bb, scal_ss, List.getElem?_cons_zero, List.getElem?_cons_succ, List.set_cons_zero, List.set_cons_succ, Option.some.injEq, exists_eq_left', exists_eq_left, exists_and_left, V.int.injEq, V.bl.injEq, V.ref.injEq, V.str.injEq, List.cons.injEq, and_true, true_and, Bool.true_eq, List.nil_append, List.append_nil, List.cons_append, exists_eq', and_self, reduceCtorEq, false_or, or_false, false_and, exists_false, exists_const, and_assoc, if_true, Bool.false_eq_true, if_false, Nat.reduceAdd, Nat.reduceLeDiff, Nat.zero_add, Nat.le_refl, forall_const, st_mixed_ratio]
    obtain ⟨b0, bb, tb, e⟩ := M
    rw [List.take_length, hq, List.take_length] at e
    refine made_rat ?_ (fun _ H3 z s3 hz => k _ _ s3 (by rw [← e]; exact hz)) fun z => absurd z ?_
    · rw [Int.natAbs_natCast]; exact HwM.lt_mono bb (by omega)
    · omega
abbrev N_Plane_at : List Str := ["self", "point"]
theorem sc_Plane_at : FnScope N_Plane_at ["self", "point"] (defScope s_Plane_at) := ⟨rfl, rfl, rfl, by decide +kernel, rfl, by decide +kernel, by decide +kernel⟩
theorem st_Plane_at {v0 v1 : V} : L2.start N_Plane_at [v0, v1] = [some v0, some v1] := rfl
theorem ok_Plane_at {f : Addr} {fd : FuncData} (F : FD K s_Plane_at "at" "Plane.at" f fd) {C_Ratio C_Plane C_BadGiven : Addr} (R : RatC K C_Ratio) (PC : PlaC K C_Plane) (z_list : mg "list" = none) (z_zip : mg "zip" = none) (g_mixed_ratio : Gf P w K mg base "mixed_ratio" 5 ["fixed", "pairs"] (spMix C_Ratio)) (g_as_ratios : Gf P w K mg base "as_ratios" 6 ["values"] (spAsAll K C_Ratio)) (g_check_point : Gf P w K mg base "check_point" 3 ["point", "size"] (spPoint K C_Ratio C_BadGiven)) : FnOk P w K mg base (L2.CX P w) 7 f fd ["self", "point"] (spAt K C_Ratio C_Plane C_BadGiven) := by
  have nd := sc_Plane_at.nd
  refine F.okX sc_Plane_at (fun vs H Q E h => ?_) (fun cdv A outer s H vs Q E hr h => ?_)
  · obtain ⟨x, y, q, qs, rfl, _⟩ := h
    rfl
  · obtain ⟨x, y, q, qs, rfl, hx, hc⟩ := h
    refine ⟨_, (C8.pss_cut (ps_expr (pe_g g_check_point hr (by decide) (passX rfl rfl rfl rfl) rfl (pa_cons (pv 1) (pa_cons (pe_fld (pv 0) rfl) pa_nil))))
        (pss_one (ps_ret (pe_g g_mixed_ratio hr (by decide) passL rfl (pa_cons (pe_fld (pv 0) rfl) (pa_cons (pe_listZip (by rfl) z_list (by rfl) z_zip (pa_cons (pe_fld (pv 0) rfl) (pa_cons (pe_g g_as_ratios hr (by decide) passL rfl (pa_cons (pv 1) pa_nil)) pa_nil))) pa_nil)))))), ?_⟩
    obtain ⟨a, da, fa, rfl, ha, v0, t, ys, r1, rfl, ha0, hat, haa, har⟩ := id hx
    have ly := Fa2.len haa
    have l3 : ∀ {v : V} {t n b r}, List.lookup ("size" : Str) (plF v t n b r) = some (V.int n) := fun {v t n b r} => lkB (by decide) (lkB (by decide) lkA)
    simp only [tVar, rIxTH, rIxLH, gTupH, line_le, HO.tup.injEq, HO.lst.injEq, List.length_cons, List.length_nil, at0, at1, rU, tOst, tTest, rIxL, rIxT, C8.tCut, cxOf_K, tC, tOp, tUn, tSeq, tAsg, tNext, tRet, tRetN, tDrop, tIfS, tNever, gName, gNil, gCons, gTup, gSub, tPar, rI, rI0, rU, rEq, rNe, tB, tAnd, tOr, tNot, tAndV, tOrV, tNotV, tIf, tTup, tLst, tNil, tCons, tCB, tCall, tMeth, tMake, tFld, sFld, tDGet, sDPut, tDisp, tPairs, tBreak, tCont, scal_ii, scal_bb, scal_ss, List.getElem?_cons_zero, List.getElem?_cons_succ, List.set_cons_zero, List.set_cons_succ, Option.some.injEq, exists_eq_left', exists_eq_left, exists_and_left, V.int.injEq, V.bl.injEq, V.ref.injEq, V.str.injEq, List.cons.injEq, and_true, true_and, Bool.true_eq, List.nil_append, List.append_nil, List.cons_append, exists_eq', and_self, reduceCtorEq, false_or, or_false, false_and, exists_false, exists_const, and_assoc, if_true, Bool.false_eq_true, if_false, Nat.reduceAdd, Nat.reduceLeDiff, Nat.zero_add, Nat.le_refl, forall_const, st_Plane_at]
    rcases hc with ⟨rs, hp, hn, hl, bq, br, k⟩ | ⟨hp, ke⟩
    · refine ⟨fun σ' H' => Same H H' ∧ σ' = [some (.ref a), some y], ⟨_, _, _, ha, PC.cl, PC.nz, _, l3, y, _, rfl, .inl ⟨rs, hp, hn, by omega, fun H' s => ⟨s, rfl⟩⟩⟩, ?_⟩
      rintro σ' H1 ⟨s1, rfl⟩
      obtain ⟨b, xs, rfl, hs, hf⟩ := hp
      have lx := Fa2.len hf
      simp only [tVar, rIxTH, rIxLH, gTupH, line_le, HO.tup.injEq, HO.lst.injEq, List.length_cons, List.length_nil, at0, at1, rU, tOst, tTest, rIxL, rIxT, C8.tCut, cxOf_K, tC, tOp, tUn, tSeq, tAsg, tNext, tRet, tRetN, tDrop, tIfS, tNever, gName, gNil, gCons, gTup, gSub, tPar, rI, rI0, rU, rEq, rNe, tB, tAnd, tOr, tNot, tAndV, tOrV, tNotV, tIf, tTup, tLst, tNil, tCons, tCB, tCall, tMeth, tMake, tFld, sFld, tDGet, sDPut, tDisp, tPairs, tBreak, tCont, scal_ii, scal_bb, scal_ss, List.getElem?_cons_zero, List.getElem?_cons_succ, List.set_cons_zero, List.set_cons_succ, Option.some.injEq, exists_eq_left', exists_eq_left, exists_and_left, V.int.injEq, V.bl.injEq, V.ref.injEq, V.str.injEq, List.cons.injEq, and_true, true_and, Bool.true_eq, List.nil_append, List.append_nil, List.cons_append, exists_eq', and_self, reduceCtorEq, false_or, or_false, false_and, exists_false, exists_const, and_assoc, if_true, Bool.false_eq_true, if_false, Nat.reduceAdd, Nat.reduceLeDiff, Nat.zero_add, Nat.le_refl, forall_const, st_Plane_at]
      refine ⟨_, _, _, s1 _ _ ha, PC.cl, PC.nf, _, lkA, ?_⟩
      simp only [tListZip, tVar, rIxTH, rIxLH, gTupH, line_le, HO.tup.injEq, HO.lst.injEq, List.length_cons, List.length_nil, at0, at1, rU, tOst, tTest, rIxL, rIxT, C8.tCut, cxOf_K, tC, tOp, tUn, tSeq, tAsg, tNext, tRet, tRetN, tDrop, tIfS, tNever, gName, gNil, gCons, gTup, gSub, tPar, rI, rI0, rU, rEq, rNe, tB, tAnd, tOr, tNot, tAndV, tOrV, tNotV, tIf, tTup, tLst, tNil, tCons, tCB, tCall, tMeth, tMake, tFld, sFld, tDGet, sDPut, tDisp, tPairs, tBreak, tCont, scal_ii, scal_bb, scal_ss, List.getElem?_cons_zero, List.getElem?_cons_succ, List.set_cons_zero, List.set_cons_succ, Option.some.injEq, exists_eq_left', exists_eq_left, exists_and_left, V.int.injEq, V.bl.injEq, V.ref.injEq, V.str.injEq, List.cons.injEq, and_true, true_and, Bool.true_eq, List.nil_append, List.append_nil, List.cons_append, exists_eq', and_self, reduceCtorEq, false_or, or_false, false_and, exists_false, exists_const, and_assoc, if_true, Bool.false_eq_true, if_false, Nat.reduceAdd, Nat.reduceLeDiff, Nat.zero_add, Nat.le_refl, forall_const, st_Plane_at]
      refine ⟨_, _, _, s1 _ _ ha, PC.cl, PC.ns, _, lkB (by decide) lkA, b, xs, rs, rfl, (hs.same s1).sq, hf.same s1, by omega, fun H2 t2 ys2 s2 ht2 hy2 => ?_⟩
      have ly2 := Fa2.len hy2
      refine ⟨t, rfl, t2, rfl, ys, SqT.of (s2 _ _ (s1 _ _ hat)), ys2, SqT.of ht2, by omega, fun l ts H3 s3 hl3 hn3 hp3 => ?_⟩
      have s13 := (s1.trans s2).trans s3
      exact ⟨v0, l, ts, ys, ys2, q, qs, rs, rfl, ha0.same s13, hl3, hn3, hp3, haa.same s13, hy2.same s3, hn.symm, hl, bq, br, fun H4 z s4 hz => k _ _ (s13.trans s4) hz⟩
    · exact ⟨fun _ _ => False, ⟨_, _, _, ha, PC.cl, PC.nz, _, l3, y, _, rfl, .inr ⟨hp, ke⟩⟩, fun _ _ z => z.elim⟩


end HwL
end

section
namespace HwL
open PySem PySem.Spec PyProof.Rows L2 LamX HwP
variable {P : Program} {w : World} {K : PySem.W.Frag} {mg : Str → Option Value} {base : Heap}

/-! ### the law's own fractions -/
def spGcd : Sp := fun vs H Q _ => ∃ a b : Int, vs = [.int a, .int b] ∧ a.natAbs < 2 ^ 9000 ∧ b.natAbs < 2 ^ 9000 ∧ Q (.int ((Nat.gcd a.natAbs b.natAbs : Nat) : Int)) H
abbrev N_L_gcd : List Str := ["_law_one", "_law_two", "_law_lap"]
theorem sc_L_gcd : FnScope N_L_gcd ["_law_one", "_law_two"] (defScope s_L_gcd) := ⟨rfl, rfl, rfl, by decide +kernel, rfl, by decide +kernel, by decide +kernel⟩
theorem st_L_gcd {v0 v1 : V} : L2.start N_L_gcd [v0, v1] = [some v0, some v1, none] := rfl
theorem ok_L_gcd {f : Addr} {fd : FuncData} (F : FD K s_L_gcd "_law_gcd" "_law_gcd" f fd) (z_range : mg "range" = none) (z_int : mg "int" = none) (z_abs : mg "abs" = none) : FnOk P w K mg base (L2.CX P w) 1 f fd ["_law_one", "_law_two"] (spGcd) := by
  have nd := sc_L_gcd.nd
  refine F.ok0 sc_L_gcd (fun vs H Q E h => ?_) (fun cdv A outer s H vs Q E hr h => ?_)
  · obtain ⟨a, b, rfl, _⟩ := h
    rfl
  · obtain ⟨a, b, rfl, ha, hb, k⟩ := h
    refine ⟨_, (C8.pss_cut (ps_par (i := 0) (j := 1) (by rfl) nd rfl rfl (by decide) rfl rfl (pa_cons (pe_callB call_abs (by rfl) z_abs (by decide +kernel) (pa_cons (pv 0) pa_nil)) (pa_cons (pe_callB call_abs (by rfl) z_abs (by decide +kernel) (pa_cons (pv 1) pa_nil)) pa_nil)) (by rfl))
        (pss_cons (ps_for PassesOwn.never rfl (pi_range1 rfl z_range (pa_cons pe_int pa_nil)) (pg_name (i := 2) nd rfl (Or.inl rfl)) (pss_cons (ps_if (pt_cmpR op_eq (pv 1) pe_int (nomark _)) (pss_one ps_break) pss_nil)
        (pss_one (ps_par (i := 0) (j := 1) (by rfl) nd rfl rfl (by decide) rfl rfl (pa_cons (pv 1) (pa_cons (pe_op op_mod (pe_callTy call_int1 (by rfl) z_int (by decide +kernel) (pa_cons (pv 0) pa_nil)) (pv 1)) pa_nil)) (by rfl)))))
        (pss_one (ps_ret (pv 0))))), ?_⟩
    refine ⟨fun σ' H' => H' = H ∧ σ' = [some (.int (a.natAbs : Int)), some (.int (b.natAbs : Int)), none], ?_, ?_⟩
    · have ea : (if a < 0 then -a else a) = (a.natAbs : Int) := by split <;> omega
      have eb : (if b < 0 then -b else b) = (b.natAbs : Int) := by split <;> omega
      simp only [tVar, rIxTH, rIxLH, gTupH, line_le, HO.tup.injEq, HO.lst.injEq, List.length_cons, List.length_nil, at0, at1, rU, tOst, tTest, rIxL, rIxT, C8.tCut, cxOf_K, tC, tOp, tUn, tSeq, tAsg, tNext, tRet, tRetN, tDrop, tIfS, tNever, gName, gNil, gCons, gTup, gSub, tPar, rI, rI0, rU, rEq, rNe, tB, tAnd, tOr, tNot, tAndV, tOrV, tNotV, tIf, tTup, tLst, tNil, tCons, tCB, tCall, tMeth, tMake, tFld, sFld, tDGet, sDPut, tDisp, tPairs, tBreak, tCont, scal_ii, scal_bb, scal_ss, List.getElem?_cons_zero, List.getElem?_cons_succ, List.set_cons_zero, List.set_cons_succ, Option.some.injEq, exists_eq_left', exists_eq_left, exists_and_left, V.int.injEq, V.bl.injEq, V.ref.injEq, V.str.injEq, List.cons.injEq, and_true, true_and, Bool.true_eq, List.nil_append, List.append_nil, List.cons_append, exists_eq', and_self, reduceCtorEq, false_or, or_false, false_and, exists_false, exists_const, and_assoc, if_true, Bool.false_eq_true, if_false, Nat.reduceAdd, Nat.reduceLeDiff, Nat.zero_add, Nat.le_refl, forall_const, st_L_gcd, ea, eb]
    · rintro σ' H' ⟨rfl, rfl⟩
      refine ⟨_, rfl, by decide, by decide, for_range (lo := 0) (n := 60000) (fun i σ' H2 => ∃ (x y : Int) (v : Option V), H2 = H' ∧ σ' = [some (.int x), some (.int y), v] ∧ 0 ≤ x ∧ 0 ≤ y ∧ y.natAbs < 2 ^ 9000 ∧
        Nat.gcd x.natAbs y.natAbs = Nat.gcd a.natAbs b.natAbs ∧ (i = 0 ∨ y = 0 ∨ (y < x ∧ x.natAbs * y.natAbs * 2 ^ i < 2 ^ (2 * 9000 + 2)))) ?_ ?_ ?_⟩
      · exact ⟨_, _, none, rfl, rfl, by omega, by omega, by simpa using hb, by simp, .inl rfl⟩
      · rintro i σ' H2 hi ⟨x, y, v, rfl, rfl, x0, y0, yb, eg, hl⟩
        simp only [tVar, rIxTH, rIxLH, gTupH, line_le, HO.tup.injEq, HO.lst.injEq, List.length_cons, List.length_nil, at0, at1, rU, tOst, tTest, rIxL, rIxT, C8.tCut, cxOf_K, tC, tOp, tUn, tSeq, tAsg, tNext, tRet, tRetN, tDrop, tIfS, tNever, gName, gNil, gCons, gTup, gSub, tPar, rI, rI0, rU, rEq, rNe, tB, tAnd, tOr, tNot, tAndV, tOrV, tNotV, tIf, tTup, tLst, tNil, tCons, tCB, tCall, tMeth, tMake, tFld, sFld, tDGet, sDPut, tDisp, tPairs, tBreak, tCont, scal_ii, scal_bb, scal_ss, List.getElem?_cons_zero, List.getElem?_cons_succ, List.set_cons_zero, List.set_cons_succ, Option.some.injEq, exists_eq_left', exists_eq_left, exists_and_left, V.int.injEq, V.bl.injEq, V.ref.injEq, V.str.injEq, List.cons.injEq, and_true, true_and, Bool.true_eq, List.nil_append, List.append_nil, List.cons_append, exists_eq', and_self, reduceCtorEq, false_or, or_false, false_and, exists_false, exists_const, and_assoc, if_true, Bool.false_eq_true, if_false, Nat.reduceAdd, Nat.reduceLeDiff, Nat.zero_add, Nat.le_refl, forall_const, st_L_gcd]
        refine ite2 (fun hz => ?_) (fun hz => ?_)
        · have hz : y = 0 := by simpa using hz
          subst hz
          have e : x = ((Nat.gcd a.natAbs b.natAbs : Nat) : Int) := by
            rw [← eg]
            simp
            omega
          rw [e]
          exact k
        · have hz : ¬ y = 0 := by simpa using hz
          have yp : 0 < y := by omega
          have hl2 : i = 0 ∨ (y < x ∧ x.natAbs * y.natAbs * 2 ^ i < 2 ^ (2 * 9000 + 2)) := by
            rcases hl with h | h | h
            · exact .inl h
            · exact absurd h hz
            · exact .inr h
          obtain ⟨l1, l2, l3, l4⟩ := HwM.lap x0 yp yb hl2
          refine ⟨yp, y0, l2, l3, by rw [HwM.gcd_step x0 yp, eg], .inr ⟨l1, l4⟩⟩
      · rintro σ' H2 ⟨x, y, v, rfl, rfl, x0, y0, yb, eg, hl⟩
        have hz : y = 0 := by
          rcases hl with h | h | ⟨h1, h2⟩
          · cases h
          · exact h
          · exact HwM.laps_end (n := 60000) y0 h1 (HwM.lt_mono h2 (by decide))
        subst hz
        have e : x = ((Nat.gcd a.natAbs b.natAbs : Nat) : Int) := by
          rw [← eg]
          simp
          omega
        simp only [tVar, rIxTH, rIxLH, gTupH, line_le, HO.tup.injEq, HO.lst.injEq, List.length_cons, List.length_nil, at0, at1, rU, tOst, tTest, rIxL, rIxT, C8.tCut, cxOf_K, tC, tOp, tUn, tSeq, tAsg, tNext, tRet, tRetN, tDrop, tIfS, tNever, gName, gNil, gCons, gTup, gSub, tPar, rI, rI0, rU, rEq, rNe, tB, tAnd, tOr, tNot, tAndV, tOrV, tNotV, tIf, tTup, tLst, tNil, tCons, tCB, tCall, tMeth, tMake, tFld, sFld, tDGet, sDPut, tDisp, tPairs, tBreak, tCont, scal_ii, scal_bb, scal_ss, List.getElem?_cons_zero, List.getElem?_cons_succ, List.set_cons_zero, List.set_cons_succ, Option.some.injEq, exists_eq_left', exists_eq_left, exists_and_left, V.int.injEq, V.bl.injEq, V.ref.injEq, V.str.injEq, List.cons.injEq, and_true, true_and, Bool.true_eq, List.nil_append, List.append_nil, List.cons_append, exists_eq', and_self, reduceCtorEq, false_or, or_false, false_and, exists_false, exists_const, and_assoc, if_true, Bool.false_eq_true, if_false, Nat.reduceAdd, Nat.reduceLeDiff, Nat.zero_add, Nat.le_refl, forall_const, st_L_gcd, e]
        exact k
/-- (top, bottom) in lowest terms -/
def spQ : Sp := fun vs H Q _ => ∃ t b : Int, vs = [.int t, .int b] ∧ b ≠ 0 ∧ t.natAbs < 2 ^ 9000 ∧ b.natAbs < 2 ^ 9000 ∧ ∀ p, H p = none → Q (.ref p) (upd H p (.tup (qv (Rat.divInt t b))))
abbrev N_L_q : List Str := ["_law_top", "_law_bottom", "_law_by"]
theorem sc_L_q : FnScope N_L_q ["_law_top", "_law_bottom"] (defScope s_L_q) := ⟨rfl, rfl, rfl, by decide +kernel, rfl, by decide +kernel, by decide +kernel⟩
theorem st_L_q {v0 v1 : V} : L2.start N_L_q [v0, v1] = [some v0, some v1, none] := rfl
theorem ok_L_q {f : Addr} {fd : FuncData} (F : FD K s_L_q "_law_q" "_law_q" f fd) (g_L_gcd : Gf P w K mg base "_law_gcd" 1 ["_law_one", "_law_two"] (spGcd)) : FnOk P w K mg base (L2.CX P w) 2 f fd ["_law_top", "_law_bottom"] (spQ) := by
  have nd := sc_L_q.nd
  refine F.ok0 sc_L_q (fun vs H Q E h => ?_) (fun cdv A outer s H vs Q E hr h => ?_)
  · obtain ⟨t, b, rfl, _⟩ := h
    rfl
  · obtain ⟨t, b, rfl, hb, ht, hb2, k⟩ := h
    refine ⟨_, (pss_cons (ps_set (i := 2) nd rfl (Or.inl rfl) (pe_g g_L_gcd hr (by decide) passL rfl (pa_cons (pv 0) (pa_cons (pv 1) pa_nil))))
        (C8.pss_cut (ps_if (pt_cmpR op_lt (pv 1) pe_int (nomark _)) (pss_one (ps_set (i := 2) nd rfl (Or.inl rfl) (pe_un un_neg (pv 2)))) pss_nil)
        (pss_one (ps_ret (pe_tup (pa_cons (pe_op op_fdivX (pv 0) (pv 2)) (pa_cons (pe_op op_fdivX (pv 1) (pv 2)) pa_nil))))))), ?_⟩
    simp only [tVar, rIxTH, rIxLH, gTupH, line_le, HO.tup.injEq, HO.lst.injEq, List.length_cons, List.length_nil, at0, at1, rU, tOst, tTest, rIxL, rIxT, C8.tCut, cxOf_K, tC, tOp, tUn, tSeq, tAsg, tNext, tRet, tRetN, tDrop, tIfS, tNever, gName, gNil, gCons, gTup, gSub, tPar, rI, rI0, rU, rEq, rNe, tB, tAnd, tOr, tNot, tAndV, tOrV, tNotV, tIf, tTup, tLst, tNil, tCons, tCB, tCall, tMeth, tMake, tFld, sFld, tDGet, sDPut, tDisp, tPairs, tBreak, tCont, scal_ii, scal_bb, scal_ss, List.getElem?_cons_zero, List.getElem?_cons_succ, List.set_cons_zero, List.set_cons_succ, Option.some.injEq, exists_eq_left', exists_eq_left, exists_and_left, V.int.injEq, V.bl.injEq, V.ref.injEq, V.str.injEq, List.cons.injEq, and_true, true_and, Bool.true_eq, List.nil_append, List.append_nil, List.cons_append, exists_eq', and_self, reduceCtorEq, false_or, or_false, false_and, exists_false, exists_const, and_assoc, if_true, Bool.false_eq_true, if_false, Nat.reduceAdd, Nat.reduceLeDiff, Nat.zero_add, Nat.le_refl, forall_const, st_L_q]
    refine ⟨t, b, rfl, ht, hb2, fun σ' H' => H' = H ∧ σ' = [some (.int t), some (.int b), some (.int (if b < 0 then -((Nat.gcd t.natAbs b.natAbs : Nat) : Int) else ((Nat.gcd t.natAbs b.natAbs : Nat) : Int)))], ?_, ?_⟩
    · by_cases hn : b < 0
      · simp only [tVar, rIxTH, rIxLH, gTupH, line_le, HO.tup.injEq, HO.lst.injEq, List.length_cons, List.length_nil, at0, at1, rU, tOst, tTest, rIxL, rIxT, C8.tCut, cxOf_K, tC, tOp, tUn, tSeq, tAsg, tNext, tRet, tRetN, tDrop, tIfS, tNever, gName, gNil, gCons, gTup, gSub, tPar, rI, rI0, rU, rEq, rNe, tB, tAnd, tOr, tNot, tAndV, tOrV, tNotV, tIf, tTup, tLst, tNil, tCons, tCB, tCall, tMeth, tMake, tFld, sFld, tDGet, sDPut, tDisp, tPairs, tBreak, tCont, scal_ii, scal_bb, scal_ss, List.getElem?_cons_zero, List.getElem?_cons_succ, List.set_cons_zero, List.set_cons_succ, Option.some.injEq, exists_eq_left', exists_eq_left, exists_and_left, V.int.injEq, V.bl.injEq, V.ref.injEq, V.str.injEq, List.cons.injEq, and_true, true_and, Bool.true_eq, List.nil_append, List.append_nil, List.cons_append, exists_eq', and_self, reduceCtorEq, false_or, or_false, false_and, exists_false, exists_const, and_assoc, if_true, Bool.false_eq_true, if_false, Nat.reduceAdd, Nat.reduceLeDiff, Nat.zero_add, Nat.le_refl, forall_const, st_L_q, rU, hn, decide_true, if_true]
      · simp only [tVar, rIxTH, rIxLH, gTupH, line_le, HO.tup.injEq, HO.lst.injEq, List.length_cons, List.length_nil, at0, at1, rU, tOst, tTest, rIxL, rIxT, C8.tCut, cxOf_K, tC, tOp, tUn, tSeq, tAsg, tNext, tRet, tRetN, tDrop, tIfS, tNever, gName, gNil, gCons, gTup, gSub, tPar, rI, rI0, rU, rEq, rNe, tB, tAnd, tOr, tNot, tAndV, tOrV, tNotV, tIf, tTup, tLst, tNil, tCons, tCB, tCall, tMeth, tMake, tFld, sFld, tDGet, sDPut, tDisp, tPairs, tBreak, tCont, scal_ii, scal_bb, scal_ss, List.getElem?_cons_zero, List.getElem?_cons_succ, List.set_cons_zero, List.set_cons_succ, Option.some.injEq, exists_eq_left', exists_eq_left, exists_and_left, V.int.injEq, V.bl.injEq, V.ref.injEq, V.str.injEq, List.cons.injEq, and_true, true_and, Bool.true_eq, List.nil_append, List.append_nil, List.cons_append, exists_eq', and_self, reduceCtorEq, false_or, or_false, false_and, exists_false, exists_const, and_assoc, if_true, Bool.false_eq_true, if_false, Nat.reduceAdd, Nat.reduceLeDiff, Nat.zero_add, Nat.le_refl, forall_const, st_L_q, rU, hn, decide_false, if_false, Bool.false_eq_true]
    · rintro σ' H' ⟨rfl, rfl⟩
      have l2 := HwM.log2_lt (k := 9000) (by decide) (Nat.lt_of_le_of_lt (HwM.gcd_le (t := t) hb) hb2)
      simp only [tVar, rIxTH, rIxLH, gTupH, line_le, HO.tup.injEq, HO.lst.injEq, List.length_cons, List.length_nil, at0, at1, rU, tOst, tTest, rIxL, rIxT, C8.tCut, cxOf_K, tC, tOp, tUn, tSeq, tAsg, tNext, tRet, tRetN, tDrop, tIfS, tNever, gName, gNil, gCons, gTup, gSub, tPar, rI, rI0, rU, rEq, rNe, tB, tAnd, tOr, tNot, tAndV, tOrV, tNotV, tIf, tTup, tLst, tNil, tCons, tCB, tCall, tMeth, tMake, tFld, sFld, tDGet, sDPut, tDisp, tPairs, tBreak, tCont, scal_ii, scal_bb, scal_ss, List.getElem?_cons_zero, List.getElem?_cons_succ, List.set_cons_zero, List.set_cons_succ, Option.some.injEq, exists_eq_left', exists_eq_left, exists_and_left, V.int.injEq, V.bl.injEq, V.ref.injEq, V.str.injEq, List.cons.injEq, and_true, true_and, Bool.true_eq, List.nil_append, List.append_nil, List.cons_append, exists_eq', and_self, reduceCtorEq, false_or, or_false, false_and, exists_false, exists_const, and_assoc, if_true, Bool.false_eq_true, if_false, Nat.reduceAdd, Nat.reduceLeDiff, Nat.zero_add, Nat.le_refl, forall_const, st_L_q, CDivX]
      refine ⟨HwM.gcd_ne hb, l2, HwM.gcd_ne hb, l2, fun p hp => ?_⟩
      have z := k p hp
      unfold qv at z
      rw [HwM.num_fdiv hb, HwM.den_fdiv hb]
      exact z
def spQ2 (g : Rat → Rat → Rat) : Sp := fun vs H Q _ => ∃ (a b : Addr) (q r : Rat), vs = [.ref a, .ref b] ∧ H a = some (.tup (qv q)) ∧ H b = some (.tup (qv r)) ∧ HwM.Bd 4000 q ∧ HwM.Bd 4000 r ∧ ∀ p, H p = none → Q (.ref p) (upd H p (.tup (qv (g q r))))
abbrev N_L_plus : List Str := ["_law_one", "_law_two"]
theorem sc_L_plus : FnScope N_L_plus ["_law_one", "_law_two"] (defScope s_L_plus) := ⟨rfl, rfl, rfl, by decide +kernel, rfl, by decide +kernel, by decide +kernel⟩
theorem st_L_plus {v0 v1 : V} : L2.start N_L_plus [v0, v1] = [some v0, some v1] := rfl
theorem ok_L_plus {f : Addr} {fd : FuncData} (F : FD K s_L_plus "_law_plus" "_law_plus" f fd) (g_L_q : Gf P w K mg base "_law_q" 2 ["_law_top", "_law_bottom"] (spQ)) : FnOk P w K mg base (L2.CX P w) 3 f fd ["_law_one", "_law_two"] (spQ2 (fun q r => q + r)) := by
  have nd := sc_L_plus.nd
  refine F.ok0 sc_L_plus (fun vs H Q E h => ?_) (fun cdv A outer s H vs Q E hr h => ?_)
  · obtain ⟨a, b, q, r, rfl, _⟩ := h
    rfl
  · obtain ⟨a, b, q, r, rfl, ha, hb, bq, br, k⟩ := h
    refine ⟨_, (pss_one (ps_ret (pe_g g_L_q hr (by decide) passL rfl (pa_cons (pe_op op_add (pe_op op_mulW (pe_ix ix_tupH (pv 0) pe_int (fun _ _ => rfl)) (pe_ix ix_tupH (pv 1) pe_int (fun _ _ => rfl))) (pe_op op_mulW (pe_ix ix_tupH (pv 1) pe_int (fun _ _ => rfl)) (pe_ix ix_tupH (pv 0) pe_int (fun _ _ => rfl)))) (pa_cons (pe_op op_mulW (pe_ix ix_tupH (pv 0) pe_int (fun _ _ => rfl)) (pe_ix ix_tupH (pv 1) pe_int (fun _ _ => rfl))) pa_nil))))), ?_⟩
    simp only [tVar, rIxTH, rIxLH, gTupH, line_le, HO.tup.injEq, HO.lst.injEq, List.length_cons, List.length_nil, at0, at1, rU, tOst, tTest, rIxL, rIxT, C8.tCut, cxOf_K, tC, tOp, tUn, tSeq, tAsg, tNext, tRet, tRetN, tDrop, tIfS, tNever, gName, gNil, gCons, gTup, gSub, tPar, rI, rI0, rU, rEq, rNe, tB, tAnd, tOr, tNot, tAndV, tOrV, tNotV, tIf, tTup, tLst, tNil, tCons, tCB, tCall, tMeth, tMake, tFld, sFld, tDGet, sDPut, tDisp, tPairs, tBreak, tCont, scal_ii, scal_bb, scal_ss, List.getElem?_cons_zero, List.getElem?_cons_succ, List.set_cons_zero, List.set_cons_succ, Option.some.injEq, exists_eq_left', exists_eq_left, exists_and_left, V.int.injEq, V.bl.injEq, V.ref.injEq, V.str.injEq, List.cons.injEq, and_true, true_and, Bool.true_eq, List.nil_append, List.append_nil, List.cons_append, exists_eq', and_self, reduceCtorEq, false_or, or_false, false_and, exists_false, exists_const, and_assoc, if_true, Bool.false_eq_true, if_false, Nat.reduceAdd, Nat.reduceLeDiff, Nat.zero_add, Nat.le_refl, forall_const, st_L_plus, ha, hb, cm_nd bq br, cm_nd br bq, cm_dd bq br, cm_nn bq br]
    exact ⟨_, _, rfl, HwM.dens_ne q r, HwM.lt_mono (HwM.num_add_bd bq br) (by decide), big_dd bq br, fun p hp => by rw [HwM.add_eq]; exact k p hp⟩
abbrev N_L_minus : List Str := ["_law_one", "_law_two"]
theorem sc_L_minus : FnScope N_L_minus ["_law_one", "_law_two"] (defScope s_L_minus) := ⟨rfl, rfl, rfl, by decide +kernel, rfl, by decide +kernel, by decide +kernel⟩
theorem st_L_minus {v0 v1 : V} : L2.start N_L_minus [v0, v1] = [some v0, some v1] := rfl
theorem ok_L_minus {f : Addr} {fd : FuncData} (F : FD K s_L_minus "_law_minus" "_law_minus" f fd) (g_L_q : Gf P w K mg base "_law_q" 2 ["_law_top", "_law_bottom"] (spQ)) : FnOk P w K mg base (L2.CX P w) 3 f fd ["_law_one", "_law_two"] (spQ2 (fun q r => q - r)) := by
  have nd := sc_L_minus.nd
  refine F.ok0 sc_L_minus (fun vs H Q E h => ?_) (fun cdv A outer s H vs Q E hr h => ?_)
  · obtain ⟨a, b, q, r, rfl, _⟩ := h
    rfl
  · obtain ⟨a, b, q, r, rfl, ha, hb, bq, br, k⟩ := h
    refine ⟨_, (pss_one (ps_ret (pe_g g_L_q hr (by decide) passL rfl (pa_cons (pe_op op_sub (pe_op op_mulW (pe_ix ix_tupH (pv 0) pe_int (fun _ _ => rfl)) (pe_ix ix_tupH (pv 1) pe_int (fun _ _ => rfl))) (pe_op op_mulW (pe_ix ix_tupH (pv 1) pe_int (fun _ _ => rfl)) (pe_ix ix_tupH (pv 0) pe_int (fun _ _ => rfl)))) (pa_cons (pe_op op_mulW (pe_ix ix_tupH (pv 0) pe_int (fun _ _ => rfl)) (pe_ix ix_tupH (pv 1) pe_int (fun _ _ => rfl))) pa_nil))))), ?_⟩
    simp only [tVar, rIxTH, rIxLH, gTupH, line_le, HO.tup.injEq, HO.lst.injEq, List.length_cons, List.length_nil, at0, at1, rU, tOst, tTest, rIxL, rIxT, C8.tCut, cxOf_K, tC, tOp, tUn, tSeq, tAsg, tNext, tRet, tRetN, tDrop, tIfS, tNever, gName, gNil, gCons, gTup, gSub, tPar, rI, rI0, rU, rEq, rNe, tB, tAnd, tOr, tNot, tAndV, tOrV, tNotV, tIf, tTup, tLst, tNil, tCons, tCB, tCall, tMeth, tMake, tFld, sFld, tDGet, sDPut, tDisp, tPairs, tBreak, tCont, scal_ii, scal_bb, scal_ss, List.getElem?_cons_zero, List.getElem?_cons_succ, List.set_cons_zero, List.set_cons_succ, Option.some.injEq, exists_eq_left', exists_eq_left, exists_and_left, V.int.injEq, V.bl.injEq, V.ref.injEq, V.str.injEq, List.cons.injEq, and_true, true_and, Bool.true_eq, List.nil_append, List.append_nil, List.cons_append, exists_eq', and_self, reduceCtorEq, false_or, or_false, false_and, exists_false, exists_const, and_assoc, if_true, Bool.false_eq_true, if_false, Nat.reduceAdd, Nat.reduceLeDiff, Nat.zero_add, Nat.le_refl, forall_const, st_L_minus, ha, hb, cm_nd bq br, cm_nd br bq, cm_dd bq br, cm_nn bq br]
    exact ⟨_, _, rfl, HwM.dens_ne q r, HwM.lt_mono (HwM.num_sub_bd bq br) (by decide), big_dd bq br, fun p hp => by rw [HwM.sub_eq]; exact k p hp⟩
abbrev N_L_times : List Str := ["_law_one", "_law_two"]
theorem sc_L_times : FnScope N_L_times ["_law_one", "_law_two"] (defScope s_L_times) := ⟨rfl, rfl, rfl, by decide +kernel, rfl, by decide +kernel, by decide +kernel⟩
theorem st_L_times {v0 v1 : V} : L2.start N_L_times [v0, v1] = [some v0, some v1] := rfl
theorem ok_L_times {f : Addr} {fd : FuncData} (F : FD K s_L_times "_law_times" "_law_times" f fd) (g_L_q : Gf P w K mg base "_law_q" 2 ["_law_top", "_law_bottom"] (spQ)) : FnOk P w K mg base (L2.CX P w) 3 f fd ["_law_one", "_law_two"] (spQ2 (fun q r => q * r)) := by
  have nd := sc_L_times.nd
  refine F.ok0 sc_L_times (fun vs H Q E h => ?_) (fun cdv A outer s H vs Q E hr h => ?_)
  · obtain ⟨a, b, q, r, rfl, _⟩ := h
    rfl
  · obtain ⟨a, b, q, r, rfl, ha, hb, bq, br, k⟩ := h
    refine ⟨_, (pss_one (ps_ret (pe_g g_L_q hr (by decide) passL rfl (pa_cons (pe_op op_mulW (pe_ix ix_tupH (pv 0) pe_int (fun _ _ => rfl)) (pe_ix ix_tupH (pv 1) pe_int (fun _ _ => rfl))) (pa_cons (pe_op op_mulW (pe_ix ix_tupH (pv 0) pe_int (fun _ _ => rfl)) (pe_ix ix_tupH (pv 1) pe_int (fun _ _ => rfl))) pa_nil))))), ?_⟩
    simp only [tVar, rIxTH, rIxLH, gTupH, line_le, HO.tup.injEq, HO.lst.injEq, List.length_cons, List.length_nil, at0, at1, rU, tOst, tTest, rIxL, rIxT, C8.tCut, cxOf_K, tC, tOp, tUn, tSeq, tAsg, tNext, tRet, tRetN, tDrop, tIfS, tNever, gName, gNil, gCons, gTup, gSub, tPar, rI, rI0, rU, rEq, rNe, tB, tAnd, tOr, tNot, tAndV, tOrV, tNotV, tIf, tTup, tLst, tNil, tCons, tCB, tCall, tMeth, tMake, tFld, sFld, tDGet, sDPut, tDisp, tPairs, tBreak, tCont, scal_ii, scal_bb, scal_ss, List.getElem?_cons_zero, List.getElem?_cons_succ, List.set_cons_zero, List.set_cons_succ, Option.some.injEq, exists_eq_left', exists_eq_left, exists_and_left, V.int.injEq, V.bl.injEq, V.ref.injEq, V.str.injEq, List.cons.injEq, and_true, true_and, Bool.true_eq, List.nil_append, List.append_nil, List.cons_append, exists_eq', and_self, reduceCtorEq, false_or, or_false, false_and, exists_false, exists_const, and_assoc, if_true, Bool.false_eq_true, if_false, Nat.reduceAdd, Nat.reduceLeDiff, Nat.zero_add, Nat.le_refl, forall_const, st_L_times, ha, hb, cm_nd bq br, cm_nd br bq, cm_dd bq br, cm_nn bq br]
    exact ⟨_, _, rfl, HwM.dens_ne q r, HwM.lt_mono (HwM.num_mul_bd bq br) (by decide), big_dd bq br, fun p hp => by rw [HwM.mul_eq]; exact k p hp⟩
/-- whether the object is just this fraction -/
def spIsR (C : Addr) : Sp := fun vs H Q _ => ∃ (x : V) (b : Addr) (q r : Rat), vs = [x, .ref b] ∧ IsR C H x q ∧ H b = some (.tup (qv r)) ∧ ∀ H', Same H H' → Q (.bl (decide (q = r))) H'


end HwL
end

section
namespace HwL
open PySem PySem.Spec PyProof.Rows L2 LamX HwP
variable {P : Program} {w : World} {K : PySem.W.Frag} {mg : Str → Option Value} {base : Heap}

/-! ### the law's forms: tuples of fractions -/
def IsQ (H : Hp) (x : V) (q : Rat) : Prop := ∃ b, x = .ref b ∧ H b = some (.tup (qv q))
def AllQ (H : Hp) (xs : List V) (qs : List Rat) : Prop := Fa2 (IsQ H) xs qs
def IsForm (H : Hp) (a : Addr) (qs : List Rat) : Prop := ∃ xs, H a = some (.tup xs) ∧ AllQ H xs qs
theorem IsQ.same {H H' : Hp} {x : V} {q : Rat} (h : IsQ H x q) (e : Same H H') : IsQ H' x q := by
  obtain ⟨b, rfl, h⟩ := h
  exact ⟨b, rfl, e _ _ h⟩
theorem AllQ.same {H H' : Hp} {xs : List V} {qs : List Rat} (h : AllQ H xs qs) (e : Same H H') : AllQ H' xs qs := Fa2.mono h fun _ _ z => z.same e
theorem IsForm.same {H H' : Hp} {a : Addr} {qs : List Rat} (h : IsForm H a qs) (e : Same H H') : IsForm H' a qs := by
  obtain ⟨xs, h1, h2⟩ := h
  exact ⟨xs, e _ _ h1, h2.same e⟩
theorem IsQ.updL {D : Addr} {H : Hp} {v : V} {q : Rat} {acc : List V} {o : HO} (h : IsQ H v q) (hD : H D = some (.lst acc)) : IsQ (upd H D o) v q := by
  obtain ⟨b, rfl, h⟩ := h
  exact ⟨b, rfl, by rw [upd_ne (fun z => by rw [z, hD] at h; cases h)]; exact h⟩
theorem AllQ.updL {D : Addr} {H : Hp} {xs : List V} {qs : List Rat} {acc : List V} {o : HO} (h : AllQ H xs qs) (hD : H D = some (.lst acc)) : AllQ (upd H D o) xs qs := Fa2.mono h fun _ _ z => z.updL hD
theorem tup_noPen {H : Hp} {p l a : Addr} {c : Int} {xs : List V} (hp : PenAt H p l c) (h : H a = some (.tup xs)) : a ≠ p := by
  obtain ⟨cs, i, d, n, f, h1, _⟩ := hp
  exact fun z => by rw [z, h1] at h; cases h
theorem ins_noPen {H : Hp} {p l a C dx : Addr} {c : Int} {fs : List (Str × V)} (hp : PenAt H p l c) (h : H a = some (.ins C dx fs)) : a ≠ p := by
  obtain ⟨cs, i, d, n, f, h1, _⟩ := hp
  exact fun z => by rw [z, h1] at h; cases h
theorem lst_noPen {H : Hp} {p l a : Addr} {c : Int} {xs : List V} (hp : PenAt H p l c) (h : H a = some (.lst xs)) : a ≠ p := by
  obtain ⟨cs, i, d, n, f, h1, _⟩ := hp
  exact fun z => by rw [z, h1] at h; cases h
theorem IsQ.ext {H H' : Hp} {x : V} {q : Rat} {p l : Addr} {c : Int} (h : IsQ H x q) (hp : PenAt H p l c) (e : Ext p H H') : IsQ H' x q := by
  obtain ⟨b, rfl, h⟩ := h
  exact ⟨b, rfl, e _ _ (tup_noPen hp h) h⟩
theorem AllQ.ext {H H' : Hp} {xs : List V} {qs : List Rat} {p l : Addr} {c : Int} (h : AllQ H xs qs) (hp : PenAt H p l c) (e : Ext p H H') : AllQ H' xs qs := Fa2.mono h fun _ _ z => z.ext hp e
theorem IsForm.ext {H H' : Hp} {a : Addr} {qs : List Rat} {p l : Addr} {c : Int} (h : IsForm H a qs) (hp : PenAt H p l c) (e : Ext p H H') : IsForm H' a qs := by
  obtain ⟨xs, h1, h2⟩ := h
  exact ⟨xs, e _ _ (tup_noPen hp h1) h1, h2.ext hp e⟩
theorem ix_lt {α : Type} {l : List α} {i : Nat} {x : α} (h : l[i]? = some x) : i < l.length := by
  rcases Nat.lt_or_ge i l.length with z | z
  · exact z
  · rw [List.getElem?_eq_none z] at h; cases h
def spFB (f : Rat → Rat → Rat) : Sp := fun vs H Q _ => ∃ (a b : Addr) (qs rs : List Rat), vs = [.ref a, .ref b] ∧ IsForm H a qs ∧ IsForm H b rs ∧ qs.length = rs.length ∧ qs.length ≤ 20 ∧ (∀ q ∈ qs, HwM.Bd 4000 q) ∧ (∀ r ∈ rs, HwM.Bd 4000 r) ∧ ∀ H' c, Same H H' → IsForm H' c (zipR f qs rs) → Q (.ref c) H'
abbrev N_L_form_less : List Str := ["_law_one", "_law_two", "_law_a", "_law_b"]
theorem sc_L_form_less : FnScope N_L_form_less ["_law_one", "_law_two"] (defScope s_L_form_less) := ⟨rfl, rfl, rfl, by decide +kernel, rfl, by decide +kernel, by decide +kernel⟩
theorem st_L_form_less {v0 v1 : V} : L2.start N_L_form_less [v0, v1] = [some v0, some v1, none, none] := rfl
theorem ok_L_form_less {f : Addr} {fd : FuncData} (F : FD K s_L_form_less "_law_form_less" "_law_form_less" f fd) (z_tuple : mg "tuple" = none) (z_zip : mg "zip" = none) (g_L_minus : Gf P w K mg base "_law_minus" 3 ["_law_one", "_law_two"] (spQ2 (fun q r => q - r))) : FnOk P w K mg base (L2.CX P w) 4 f fd ["_law_one", "_law_two"] (spFB (fun q r => q - r)) := by
  have nd := sc_L_form_less.nd
  refine F.ok0 sc_L_form_less (fun vs H Q E h => ?_) (fun cdv A outer s H vs Q E hr h => ?_)
  · obtain ⟨a, b, qs, rs, rfl, _⟩ := h
    rfl
  · obtain ⟨a, b, qs, rs, rfl, ⟨xs, ha, hx⟩, ⟨ys, hb, hy⟩, el, hl, bq, br, k⟩ := h
    refine ⟨_, (pss_one (ps_ret (pe_callTy call_tuple_of (by rfl) z_tuple (by decide +kernel) (pa_cons (pe_lc (own := [("_law_a", 2), ("_law_b", 3)]) rfl nd (RZ.pi_zipA (by rfl) z_zip (pa_cons (pv 0) (pa_cons (pv 1) pa_nil))) (blkOk_by (own := [("_law_a", 2), ("_law_b", 3)]) (N := N_L_form_less) (sc := defScope s_L_form_less) (by decide +kernel)) (fun _ _ _ _ _ => (pg_tupH (n := 2) rfl (pgs_cons (pg_name (i := 2) nd rfl (Or.inl rfl)) (pgs_cons (pg_name (i := 3) nd rfl (Or.inl rfl)) pgs_nil)))) (fun _ _ _ _ _ => pts_nil) (fun _ _ _ _ _ => (pe_g g_L_minus hr (by decide) passL rfl (pa_cons (pv 2) (pa_cons (pv 3) pa_nil))))) pa_nil)))), ?_⟩
    simp only [tVar, rIxTH, rIxLH, gTupH, line_le, HO.tup.injEq, HO.lst.injEq, List.length_cons, List.length_nil, at0, at1, rU, tOst, tTest, rIxL, rIxT, C8.tCut, cxOf_K, tC, tOp, tUn, tSeq, tAsg, tNext, tRet, tRetN, tDrop, tIfS, tNever, gName, gNil, gCons, gTup, gSub, tPar, rI, rI0, rU, rEq, rNe, tB, tAnd, tOr, tNot, tAndV, tOrV, tNotV, tIf, tTup, tLst, tNil, tCons, tCB, tCall, tMeth, tMake, tFld, sFld, tDGet, sDPut, tDisp, tPairs, tBreak, tCont, scal_ii, scal_bb, scal_ss, List.getElem?_cons_zero, List.getElem?_cons_succ, List.set_cons_zero, List.set_cons_succ, Option.some.injEq, exists_eq_left', exists_eq_left, exists_and_left, V.int.injEq, V.bl.injEq, V.ref.injEq, V.str.injEq, List.cons.injEq, and_true, true_and, Bool.true_eq, List.nil_append, List.append_nil, List.cons_append, exists_eq', and_self, reduceCtorEq, false_or, or_false, false_and, exists_false, exists_const, and_assoc, if_true, Bool.false_eq_true, if_false, Nat.reduceAdd, Nat.reduceLeDiff, Nat.zero_add, Nat.le_refl, forall_const, st_L_form_less]
    have lx := Fa2.len hx
    have ly := Fa2.len hy
    have zl : (zipR (fun q r => q - r) qs rs).length = xs.length := by unfold zipR; rw [List.length_map, List.length_zip]; omega
    refine ⟨_, rfl, _, rfl, a, b, xs, ys, rfl, .inr ⟨SqT.of ha, SqT.of hb, fun D hD => lc_it (walk_zipT (xs := xs) (ys := ys) (n := xs.length) (by omega))
      (fun i H' => Same H H' ∧ ∃ acc, H' D = some (.lst acc) ∧ acc.length = i ∧ AllQ H' acc ((zipR (fun q r => q - r) qs rs).take i)) ⟨same_new hD, [], upd_same, rfl, .nil⟩ (fun i H' _ h => ⟨SqT.of (h.1 _ _ ha), SqT.of (h.1 _ _ hb)⟩) ?_ ?_⟩⟩
    · rintro i v H3 H4 hi ⟨s3, acc, hacc, hl3, hall⟩ ⟨T, x, y, rfl, hT, rfl, hxi, hyi⟩
      obtain ⟨q1, hq1, c1, rfl, hc1⟩ := Fa2.get hx hxi
      obtain ⟨r1, hr1, d1, rfl, hd1⟩ := Fa2.get hy hyi
      have s4 := same_new (o := HO.tup [V.ref c1, V.ref d1]) hT
      simp only [tVar, rIxTH, rIxLH, gTupH, line_le, HO.tup.injEq, HO.lst.injEq, List.length_cons, List.length_nil, at0, at1, rU, tOst, tTest, rIxL, rIxT, C8.tCut, cxOf_K, tC, tOp, tUn, tSeq, tAsg, tNext, tRet, tRetN, tDrop, tIfS, tNever, gName, gNil, gCons, gTup, gSub, tPar, rI, rI0, rU, rEq, rNe, tB, tAnd, tOr, tNot, tAndV, tOrV, tNotV, tIf, tTup, tLst, tNil, tCons, tCB, tCall, tMeth, tMake, tFld, sFld, tDGet, sDPut, tDisp, tPairs, tBreak, tCont, scal_ii, scal_bb, scal_ss, List.getElem?_cons_zero, List.getElem?_cons_succ, List.set_cons_zero, List.set_cons_succ, Option.some.injEq, exists_eq_left', exists_eq_left, exists_and_left, V.int.injEq, V.bl.injEq, V.ref.injEq, V.str.injEq, List.cons.injEq, and_true, true_and, Bool.true_eq, List.nil_append, List.append_nil, List.cons_append, exists_eq', and_self, reduceCtorEq, false_or, or_false, false_and, exists_false, exists_const, and_assoc, if_true, Bool.false_eq_true, if_false, Nat.reduceAdd, Nat.reduceLeDiff, Nat.zero_add, Nat.le_refl, forall_const, st_L_form_less, wipe, List.map_cons, List.map_nil, tYes]
      have sx := s3.trans s4
      refine ⟨_, upd_same, rfl, _, _, rfl, _, _, rfl, rfl, c1, d1, q1, r1, rfl, sx _ _ hc1, sx _ _ hd1, bq _ (List.mem_of_getElem? hq1), br _ (List.mem_of_getElem? hr1), fun p hp => ?_⟩
      have zi : (zipR (fun q r => q - r) qs rs)[i]? = some (q1 - r1) := by unfold zipR; rw [List.getElem?_map, (List.getElem?_zip_eq_some (z := (q1, r1))).mpr ⟨hq1, hr1⟩]; rfl
      have s5 := same_new (o := HO.tup (qv (q1 - r1))) hp
      have hD5 := s5 _ _ (s4 _ _ hacc)
      refine ⟨acc, hD5, by rw [hl3]; exact line_le (by omega), same_updL hD (sx.trans s5), _, upd_same, by simp [hl3], ?_⟩
      rw [take_snoc zi]
      exact AllQ.updL (Fa2.snoc ((hall.same s4).same s5) ⟨p, rfl, upd_same⟩) hD5
    · rintro H3 ⟨s3, acc, hacc, hl3, hall⟩
      rw [← zl, List.take_length] at hall
      exact ⟨D, rfl, acc, .inl ⟨SqL.of hacc, fun t ht => k _ t (s3.trans (same_new ht)) ⟨acc, upd_same, hall.same (same_new ht)⟩⟩⟩
def spFT : Sp := fun vs H Q _ => ∃ (a b : Addr) (qs : List Rat) (r : Rat), vs = [.ref a, .ref b] ∧ IsForm H a qs ∧ H b = some (.tup (qv r)) ∧ qs.length ≤ 20 ∧ (∀ q ∈ qs, HwM.Bd 4000 q) ∧ HwM.Bd 4000 r ∧ ∀ H' c, Same H H' → IsForm H' c (qs.map fun q => q * r) → Q (.ref c) H'
abbrev N_L_form_times : List Str := ["_law_one", "_law_by", "_law_a"]
theorem sc_L_form_times : FnScope N_L_form_times ["_law_one", "_law_by"] (defScope s_L_form_times) := ⟨rfl, rfl, rfl, by decide +kernel, rfl, by decide +kernel, by decide +kernel⟩
theorem st_L_form_times {v0 v1 : V} : L2.start N_L_form_times [v0, v1] = [some v0, some v1, none] := rfl
theorem ok_L_form_times {f : Addr} {fd : FuncData} (F : FD K s_L_form_times "_law_form_times" "_law_form_times" f fd) (z_tuple : mg "tuple" = none) (g_L_times : Gf P w K mg base "_law_times" 3 ["_law_one", "_law_two"] (spQ2 (fun q r => q * r))) : FnOk P w K mg base (L2.CX P w) 4 f fd ["_law_one", "_law_by"] (spFT) := by
  have nd := sc_L_form_times.nd
  refine F.ok0 sc_L_form_times (fun vs H Q E h => ?_) (fun cdv A outer s H vs Q E hr h => ?_)
  · obtain ⟨a, b, qs, r, rfl, _⟩ := h
    rfl
  · obtain ⟨a, b, qs, r, rfl, ⟨xs, ha, hx⟩, hb, hl, bq, br, k⟩ := h
    refine ⟨_, (pss_one (ps_ret (pe_callTy call_tuple_of (by rfl) z_tuple (by decide +kernel) (pa_cons (pe_lc (own := [("_law_a", 2)]) rfl nd (pi_tup (pv 0)) (blkOk_by (own := [("_law_a", 2)]) (N := N_L_form_times) (sc := defScope s_L_form_times) (by decide +kernel)) (fun _ _ _ _ _ => (pg_name (i := 2) nd rfl (Or.inl rfl))) (fun _ _ _ _ _ => pts_nil) (fun _ _ _ _ _ => (pe_g g_L_times hr (by decide) passL rfl (pa_cons (pv 2) (pa_cons (pv 1) pa_nil))))) pa_nil)))), ?_⟩
    simp only [tVar, rIxTH, rIxLH, gTupH, line_le, HO.tup.injEq, HO.lst.injEq, List.length_cons, List.length_nil, at0, at1, rU, tOst, tTest, rIxL, rIxT, C8.tCut, cxOf_K, tC, tOp, tUn, tSeq, tAsg, tNext, tRet, tRetN, tDrop, tIfS, tNever, gName, gNil, gCons, gTup, gSub, tPar, rI, rI0, rU, rEq, rNe, tB, tAnd, tOr, tNot, tAndV, tOrV, tNotV, tIf, tTup, tLst, tNil, tCons, tCB, tCall, tMeth, tMake, tFld, sFld, tDGet, sDPut, tDisp, tPairs, tBreak, tCont, scal_ii, scal_bb, scal_ss, List.getElem?_cons_zero, List.getElem?_cons_succ, List.set_cons_zero, List.set_cons_succ, Option.some.injEq, exists_eq_left', exists_eq_left, exists_and_left, V.int.injEq, V.bl.injEq, V.ref.injEq, V.str.injEq, List.cons.injEq, and_true, true_and, Bool.true_eq, List.nil_append, List.append_nil, List.cons_append, exists_eq', and_self, reduceCtorEq, false_or, or_false, false_and, exists_false, exists_const, and_assoc, if_true, Bool.false_eq_true, if_false, Nat.reduceAdd, Nat.reduceLeDiff, Nat.zero_add, Nat.le_refl, forall_const, st_L_form_times]
    have lx := Fa2.len hx
    refine ⟨_, rfl, a, rfl, ⟨_, SqT.of ha⟩, fun D hD => lc_tup (K := K) (a := a) (xs := xs)
      (fun i H' => Same H H' ∧ ∃ acc, H' D = some (.lst acc) ∧ acc.length = i ∧ AllQ H' acc ((qs.map fun q => q * r).take i)) ⟨same_new hD, [], upd_same, rfl, .nil⟩ (fun i H' _ h => SqT.of (h.1 _ _ ha)) ?_ ?_⟩
    · rintro i v H3 hi ⟨s3, acc, hacc, hl3, hall⟩
      obtain ⟨q1, hq1, c1, rfl, hc1⟩ := Fa2.get hx hi
      have li := ix_lt hi
      simp only [tVar, rIxTH, rIxLH, gTupH, line_le, HO.tup.injEq, HO.lst.injEq, List.length_cons, List.length_nil, at0, at1, rU, tOst, tTest, rIxL, rIxT, C8.tCut, cxOf_K, tC, tOp, tUn, tSeq, tAsg, tNext, tRet, tRetN, tDrop, tIfS, tNever, gName, gNil, gCons, gTup, gSub, tPar, rI, rI0, rU, rEq, rNe, tB, tAnd, tOr, tNot, tAndV, tOrV, tNotV, tIf, tTup, tLst, tNil, tCons, tCB, tCall, tMeth, tMake, tFld, sFld, tDGet, sDPut, tDisp, tPairs, tBreak, tCont, scal_ii, scal_bb, scal_ss, List.getElem?_cons_zero, List.getElem?_cons_succ, List.set_cons_zero, List.set_cons_succ, Option.some.injEq, exists_eq_left', exists_eq_left, exists_and_left, V.int.injEq, V.bl.injEq, V.ref.injEq, V.str.injEq, List.cons.injEq, and_true, true_and, Bool.true_eq, List.nil_append, List.append_nil, List.cons_append, exists_eq', and_self, reduceCtorEq, false_or, or_false, false_and, exists_false, exists_const, and_assoc, if_true, Bool.false_eq_true, if_false, Nat.reduceAdd, Nat.reduceLeDiff, Nat.zero_add, Nat.le_refl, forall_const, st_L_form_times, wipe, List.map_cons, List.map_nil, tYes]
      refine ⟨c1, b, q1, r, rfl, s3 _ _ hc1, s3 _ _ hb, bq _ (List.mem_of_getElem? hq1), br, fun p hp => ?_⟩
      have zi : (qs.map fun q => q * r)[i]? = some (q1 * r) := by rw [List.getElem?_map, hq1]; rfl
      have s5 := same_new (o := HO.tup (qv (q1 * r))) hp
      have hD5 := s5 _ _ hacc
      refine ⟨acc, hD5, by rw [hl3]; exact line_le (by omega), same_updL hD (s3.trans s5), _, upd_same, by simp [hl3], ?_⟩
      rw [take_snoc zi]
      exact AllQ.updL (Fa2.snoc (hall.same s5) ⟨p, rfl, upd_same⟩) hD5
    · rintro H3 ⟨s3, acc, hacc, hl3, hall⟩
      rw [show xs.length = (qs.map fun q => q * r).length by rw [List.length_map, lx], List.take_length] at hall
      exact ⟨D, rfl, acc, .inl ⟨SqL.of hacc, fun t ht => k _ t (s3.trans (same_new ht)) ⟨acc, upd_same, hall.same (same_new ht)⟩⟩⟩
/-- the worth of a form at a list of fractions -/
def spLAt : Sp := fun vs H Q _ => ∃ (a b : Addr) (q : Rat) (qs rs : List Rat) (ys : List V), vs = [.ref a, .ref b] ∧ IsForm H a (q :: qs) ∧ H b = some (.lst ys) ∧ AllQ H ys rs ∧ qs.length = rs.length ∧ qs.length ≤ 3 ∧ (∀ z ∈ q :: qs, HwM.Bd 190 z) ∧ (∀ z ∈ rs, HwM.Bd 600 z) ∧ ∀ H' c, Same H H' → H' c = some (.tup (qv (worth q qs rs))) → Q (.ref c) H'
abbrev N_L_at : List Str := ["_law_form", "_law_point", "_law_total", "_law_slope", "_law_ratio"]
theorem sc_L_at : FnScope N_L_at ["_law_form", "_law_point"] (defScope s_L_at) := ⟨rfl, rfl, rfl, by decide +kernel, rfl, by decide +kernel, by decide +kernel⟩
theorem st_L_at {v0 v1 : V} : L2.start N_L_at [v0, v1] = [some v0, some v1, none, none, none] := rfl
theorem ok_L_at {f : Addr} {fd : FuncData} (F : FD K s_L_at "_law_at" "_law_at" f fd) (z_zip : mg "zip" = none) (g_L_plus : Gf P w K mg base "_law_plus" 3 ["_law_one", "_law_two"] (spQ2 (fun q r => q + r))) (g_L_times : Gf P w K mg base "_law_times" 3 ["_law_one", "_law_two"] (spQ2 (fun q r => q * r))) : FnOk P w K mg base (L2.CX P w) 4 f fd ["_law_form", "_law_point"] (spLAt) := by
  have nd := sc_L_at.nd
  refine F.ok0 sc_L_at (fun vs H Q E h => ?_) (fun cdv A outer s H vs Q E hr h => ?_)
  · obtain ⟨a, b, q, qs, rs, ys, rfl, _⟩ := h
    rfl
  · obtain ⟨a, b, q, qs, rs, ys, rfl, ⟨xs0, ha, hx0⟩, hb, hy, el, hl, bq, br, k⟩ := h
    refine ⟨_, (C8.pss_cut (ps_set (i := 2) nd rfl (Or.inl rfl) (pe_ix ix_tupH (pv 0) pe_int (fun _ _ => rfl)))
        (C8.pss_cut (ps_for PassesOwn.never rfl (pi_zipM (by rfl) z_zip (pa_cons (pe_slice sl_tup (pv 0) (po_some pe_int) po_none) (pa_cons (pv 1) pa_nil))) (pg_tupH rfl (pgs_cons (pg_name (i := 3) nd rfl (Or.inl rfl)) (pgs_cons (pg_name (i := 4) nd rfl (Or.inl rfl)) pgs_nil))) (pss_one (ps_set (i := 2) nd rfl (Or.inl rfl) (pe_g g_L_plus hr (by decide) passL rfl (pa_cons (pv 2) (pa_cons (pe_g g_L_times hr (by decide) passL rfl (pa_cons (pv 3) (pa_cons (pv 4) pa_nil))) pa_nil))))))
        (pss_one (ps_ret (pv 2))))), ?_⟩
    obtain ⟨x0, xs, rfl, hx1, hx⟩ : ∃ x0 xs, xs0 = x0 :: xs ∧ IsQ H x0 q ∧ AllQ H xs qs := by
      cases hx0 with
      | cons h1 h2 => exact ⟨_, _, rfl, h1, h2⟩
    have lx := Fa2.len hx
    have ly := Fa2.len hy
    simp only [tVar, rIxTH, rIxLH, gTupH, line_le, HO.tup.injEq, HO.lst.injEq, List.length_cons, List.length_nil, at0, at1, rU, tOst, tTest, rIxL, rIxT, C8.tCut, cxOf_K, tC, tOp, tUn, tSeq, tAsg, tNext, tRet, tRetN, tDrop, tIfS, tNever, gName, gNil, gCons, gTup, gSub, tPar, rI, rI0, rU, rEq, rNe, tB, tAnd, tOr, tNot, tAndV, tOrV, tNotV, tIf, tTup, tLst, tNil, tCons, tCB, tCall, tMeth, tMake, tFld, sFld, tDGet, sDPut, tDisp, tPairs, tBreak, tCont, scal_ii, scal_bb, scal_ss, List.getElem?_cons_zero, List.getElem?_cons_succ, List.set_cons_zero, List.set_cons_succ, Option.some.injEq, exists_eq_left', exists_eq_left, exists_and_left, V.int.injEq, V.bl.injEq, V.ref.injEq, V.str.injEq, List.cons.injEq, and_true, true_and, Bool.true_eq, List.nil_append, List.append_nil, List.cons_append, exists_eq', and_self, reduceCtorEq, false_or, or_false, false_and, exists_false, exists_const, and_assoc, if_true, Bool.false_eq_true, if_false, Nat.reduceAdd, Nat.reduceLeDiff, Nat.zero_add, Nat.le_refl, forall_const, st_L_at]
    refine ⟨fun σ' H' => H' = H ∧ σ' = [some (.ref a), some (.ref b), some x0, none, none], ?_, ?_⟩
    · exact ⟨x0 :: xs, ha, x0, atI_nat (j := 0) rfl, rfl, rfl⟩
    rintro σ' H1 ⟨rfl, rfl⟩
    refine ⟨fun σ' H' => Same H1 H' ∧ ∃ w v3 v4, σ' = [some (.ref a), some (.ref b), some w, v3, v4] ∧ IsQ H' w (worth q qs rs), ?_, ?_⟩
    · refine ⟨_, rfl, 1, rfl, a, x0 :: xs, rfl, SqT.of ha, by rw [show (1 : Int) = ((1 : Nat) : Int) from rfl, HT.sIx_nat, List.length_cons]; omega, fun p hp => ?_⟩
      rw [show (1 : Int) = ((1 : Nat) : Int) from rfl, cutV_from, show List.drop 1 (x0 :: xs) = xs from rfl]
      have sp := same_new (o := HO.tup xs) hp
      refine ⟨.ref b, rfl, p, b, xs, ys, rfl, SqT.of upd_same, for_zipM (n := xs.length) (SqT.of upd_same) (.inl (SqL.of (sp _ _ hb))) (by omega)
        (fun i σ' H' => Same (upd H1 p (.tup xs)) H' ∧ ∃ w v3 v4, σ' = [some (.ref a), some (.ref b), some w, v3, v4] ∧ IsQ H' w (worth q (qs.take i) (rs.take i))) ⟨Same.refl _, x0, none, none, rfl, hx1.same sp⟩ (fun i σ' H' h => h.1) ?_ ?_⟩
      · rintro i u v T σ' H3 hu hv ⟨s3, w, v3, v4, rfl, hw⟩ hT
        obtain ⟨s, hs1, d1, rfl, hu1⟩ := Fa2.get hx hu
        obtain ⟨r, hr1, d2, rfl, hv1⟩ := Fa2.get hy hv
        obtain ⟨dw, rfl, hw⟩ := hw
        have s4 := same_new (o := HO.tup [V.ref d1, V.ref d2]) hT
        have s14 := (sp.trans s3).trans s4
        have bs := bq _ (List.mem_cons_of_mem _ (List.mem_of_getElem? hs1))
        have br1 := br _ (List.mem_of_getElem? hr1)
        have li := ix_lt hs1
        have bw := worth_bd (by omega) bq br i (by omega)
        simp only [tVar, rIxTH, rIxLH, gTupH, line_le, HO.tup.injEq, HO.lst.injEq, List.length_cons, List.length_nil, at0, at1, rU, tOst, tTest, rIxL, rIxT, C8.tCut, cxOf_K, tC, tOp, tUn, tSeq, tAsg, tNext, tRet, tRetN, tDrop, tIfS, tNever, gName, gNil, gCons, gTup, gSub, tPar, rI, rI0, rU, rEq, rNe, tB, tAnd, tOr, tNot, tAndV, tOrV, tNotV, tIf, tTup, tLst, tNil, tCons, tCB, tCall, tMeth, tMake, tFld, sFld, tDGet, sDPut, tDisp, tPairs, tBreak, tCont, scal_ii, scal_bb, scal_ss, List.getElem?_cons_zero, List.getElem?_cons_succ, List.set_cons_zero, List.set_cons_succ, Option.some.injEq, exists_eq_left', exists_eq_left, exists_and_left, V.int.injEq, V.bl.injEq, V.ref.injEq, V.str.injEq, List.cons.injEq, and_true, true_and, Bool.true_eq, List.nil_append, List.append_nil, List.cons_append, exists_eq', and_self, reduceCtorEq, false_or, or_false, false_and, exists_false, exists_const, and_assoc, if_true, Bool.false_eq_true, if_false, Nat.reduceAdd, Nat.reduceLeDiff, Nat.zero_add, Nat.le_refl, forall_const, st_L_at]
        refine ⟨_, upd_same, rfl, _, _, rfl, _, _, rfl, rfl, d1, d2, s, r, rfl, s14 _ _ hu1, s14 _ _ hv1, bs.mono (by decide), br1.mono (by decide), fun p1 hp1 => ?_⟩
        have s5 := same_new (o := HO.tup (qv (s * r))) hp1
        refine ⟨dw, p1, _, s * r, rfl, s5 _ _ (s4 _ _ hw), upd_same, bw.mono (by omega), (HwM.mul_bd (by decide) bs br1).mono (by decide), fun p2 hp2 => ?_⟩
        exact ⟨((s3.trans s4).trans s5).trans (same_new hp2), p2, rfl, by rw [worth_snoc hs1 hr1]; exact upd_same⟩
      · rintro σ' H3 ⟨s3, w, v3, v4, rfl, hw⟩
        rw [lx, List.take_length, el, List.take_length] at hw
        exact ⟨sp.trans s3, w, v3, v4, rfl, hw⟩
    · rintro σ' H3 ⟨s3, w, v3, v4, rfl, d, rfl, hw⟩
      exact ⟨_, rfl, k _ _ s3 hw⟩


end HwL
end

section
namespace HwL
open PySem PySem.Spec PyProof.Rows L2 LamX HwP
variable {P : Program} {w : World} {K : PySem.W.Frag} {mg : Str → Option Value} {base : Heap}

theorem eq_nil {H : Hp} {a b : Addr} {Q : VK} (ha : H a = some (.lst [])) (hb : H b = some (.lst [])) (k : Q (.bl true) H) : rEqD K (.ref a) (.ref b) H Q :=
  ⟨.list [], .list [], .lst (SqL.of ha) .nil, .lst (SqL.of hb) .nil, by rfl, by rfl, k⟩
theorem cat_run {H : Hp} {a b : Addr} {xs ys : List V} {Q : VK} (ha : H a = some (.tup xs)) (hb : H b = some (.tup ys)) (hl : xs.length + ys.length ≤ 1000) (k : ∀ p H', Same H H' → H' p = some (.tup (xs ++ ys)) → Q (.ref p) H') : rCatA K (.ref a) (.ref b) H Q :=
  ⟨a, b, xs, ys, rfl, rfl, SqT.of ha, SqT.of hb, line_le hl, fun e => k _ _ (Same.refl _) (by rw [e, List.nil_append]; exact hb), fun _ e => k _ _ (Same.refl _) (by rw [e, List.append_nil]; exact ha), fun _ _ p hp => k _ _ (same_new hp) upd_same⟩
theorem tup_kit {H : Hp} {t : Addr} {xs : List V} (h : H t = some (.tup xs)) {Q : Bool → Prop} (k : Q true) : ∃ x x1, ClsV (.ty "tuple") x1 ∧ TyX K H (.ref t) x ∧ ∃ b, PySem.W.kitOne K x x1 = some b ∧ Q b := ⟨.type "tuple", .type "tuple", .ty _, .base (.tup h), true, kit_ty (by decide +kernel), k⟩
theorem made_rat2 {C CB : Addr} {H : Hp} {t b : Int} {Q : Addr → Hp → Prop} {E : XK} (hb : b.natAbs < 2 ^ 9000) (k : b ≠ 0 → ∀ H' x, Same H H' → IsR C H' (.ref x) (Rat.divInt t b) → Q x H') (ke : b = 0 → Bot0 CB H E) (x dx : Addr) (hx : H x = none) (hd : H dx = none) (hne : dx ≠ x) :
    spInit C CB [.ref x, .int t, .int b] (upd (upd H dx (.own x)) x (.ins C dx [])) (fun v H2 => v = .non ∧ Q x H2) E := by
  have sm : Same H (upd (upd H dx (.own x)) x (.ins C dx [])) := fun c o e => by rw [upd_ne (ne_of_none e hx), upd_ne (ne_of_none e hd)]; exact e
  refine ⟨x, dx, t, b, rfl, upd_same, hb, fun h => ⟨rfl, k h _ _ (fun c o e => ?_) ⟨x, dx, rfl, upd_same⟩⟩, fun h H' d e1 e2 => ke h H' d (sm.trans e1) e2⟩
  rw [upd_ne (ne_of_none e hx)]
  exact sm _ _ e
theorem made_plane2 {CR CP CB a : Addr} {H : Hp} {v : V} {xs : List V} {q : Rat} {qs : List Rat} {Q : Addr → Hp → Prop} {E : XK} (hv : AsR CR H v q) (hl : Sq K H a xs) (hf : AllA CR H xs qs) (le : xs.length ≤ 18) (bq : HwM.Bd 400 q) (bs : ∀ r ∈ qs, HwM.Bd 400 r)
    (k : ∀ H' y, Same H H' → IsP CR CP H' (.ref y) q qs → Q y H') (x dx : Addr) (hx : H x = none) (hd : H dx = none) (hne : dx ≠ x) :
    spPlane K CR CP CB [.ref x, v, .ref a] (upd (upd H dx (.own x)) x (.ins CP dx [])) (fun v H2 => v = .non ∧ Q x H2) E := by
  have sm : Same H (upd (upd H dx (.own x)) x (.ins CP dx [])) := fun c o e => by rw [upd_ne (ne_of_none e hx), upd_ne (ne_of_none e hd)]; exact e
  refine ⟨x, dx, a, v, xs, rfl, upd_same, hl.same sm, le, .inl ⟨q, qs, hv.same sm, hf.same sm, bq, bs, fun H' fs e hp hf => ⟨rfl, k H' _ (fun c o z => ?_) ⟨x, dx, fs, rfl, hp, hf⟩⟩⟩⟩
  exact e _ _ (ne_of_none z hx) (sm _ _ z)
/-- whether the plane is just this form: told where it is -/
def spIsForm (CR CP : Addr) : Sp := fun vs H Q _ => ∃ (x : V) (b : Addr) (q : Rat) (qs : List Rat), vs = [x, .ref b] ∧ IsP CR CP H x q qs ∧ IsForm H b (q :: qs) ∧ qs.length ≤ 18 ∧ ∀ H', Same H H' → Q (.bl true) H'
abbrev N_L_truth : List Str := ["_law_value", "_law_due"]
theorem sc_L_truth : FnScope N_L_truth ["_law_value", "_law_due"] (defScope s_L_truth) := ⟨rfl, rfl, rfl, by decide +kernel, rfl, by decide +kernel, by decide +kernel⟩
theorem st_L_truth {v0 v1 : V} : L2.start N_L_truth [v0, v1] = [some v0, some v1] := rfl
theorem ok_L_truth {f : Addr} {fd : FuncData} (F : FD K s_L_truth "_law_truth" "_law_truth" f fd)  : FnOk P w K mg base (L2.CX P w) 1 f fd ["_law_value", "_law_due"] (fun vs H Q _ => ∃ a b : Bool, vs = [.bl a, .bl b] ∧ Q (.bl (decide (a = b))) H) := by
  have nd := sc_L_truth.nd
  refine F.ok0 sc_L_truth (fun vs H Q E h => ?_) (fun cdv A outer s H vs Q E hr h => ?_)
  · obtain ⟨a, b, rfl, _⟩ := h
    rfl
  · obtain ⟨a, b, rfl, k⟩ := h
    refine ⟨_, (pss_one (ps_ret (pe_ifExp (pt_val (pv 1)) (pe_cmpR op_isBl (pv 0) pe_bl (nomark _)) (pe_cmpR op_isBl (pv 0) pe_bl (nomark _))))), ?_⟩
    simp only [tVar, rIxTH, rIxLH, gTupH, line_le, HO.tup.injEq, HO.lst.injEq, List.length_cons, List.length_nil, at0, at1, rU, tOst, tTest, rIxL, rIxT, C8.tCut, cxOf_K, tC, tOp, tUn, tSeq, tAsg, tNext, tRet, tRetN, tDrop, tIfS, tNever, gName, gNil, gCons, gTup, gSub, tPar, rI, rI0, rU, rEq, rNe, tB, tAnd, tOr, tNot, tAndV, tOrV, tNotV, tIf, tTup, tLst, tNil, tCons, tCB, tCall, tMeth, tMake, tFld, sFld, tDGet, sDPut, tDisp, tPairs, tBreak, tCont, scal_ii, scal_bb, scal_ss, List.getElem?_cons_zero, List.getElem?_cons_succ, List.set_cons_zero, List.set_cons_succ, Option.some.injEq, exists_eq_left', exists_eq_left, exists_and_left, V.int.injEq, V.bl.injEq, V.ref.injEq, V.str.injEq, List.cons.injEq, and_true, true_and, Bool.true_eq, List.nil_append, List.append_nil, List.cons_append, exists_eq', and_self, reduceCtorEq, false_or, or_false, false_and, exists_false, exists_const, and_assoc, if_true, Bool.false_eq_true, if_false, Nat.reduceAdd, Nat.reduceLeDiff, Nat.zero_add, Nat.le_refl, forall_const, st_L_truth, rIsB]
    cases b with
    | true => exact iteT (by simpa using k)
    | false => exact iteF (by simpa using k)
def spMinusF : Sp := fun vs H Q _ => ∃ (a : Addr) (qs : List Rat), vs = [.ref a] ∧ IsForm H a qs ∧ qs.length ≤ 20 ∧ (∀ q ∈ qs, HwM.Bd 4000 q) ∧ ∀ H' c, Same H H' → IsForm H' c (qs.map fun q => -q) → Q (.ref c) H'
abbrev N_L_minus_form : List Str := ["_law_form", "_law_part"]
theorem sc_L_minus_form : FnScope N_L_minus_form ["_law_form"] (defScope s_L_minus_form) := ⟨rfl, rfl, rfl, by decide +kernel, rfl, by decide +kernel, by decide +kernel⟩
theorem st_L_minus_form {v0 : V} : L2.start N_L_minus_form [v0] = [some v0, none] := rfl
theorem ok_L_minus_form {f : Addr} {fd : FuncData} (F : FD K s_L_minus_form "_law_minus_form" "_law_minus_form" f fd) (z_tuple : mg "tuple" = none) : FnOk P w K mg base (L2.CX P w) 1 f fd ["_law_form"] (spMinusF) := by
  have nd := sc_L_minus_form.nd
  refine F.ok0 sc_L_minus_form (fun vs H Q E h => ?_) (fun cdv A outer s H vs Q E hr h => ?_)
  · obtain ⟨a, qs, rfl, _⟩ := h
    rfl
  · obtain ⟨a, qs, rfl, ⟨xs, ha, hx⟩, hl, bq, k⟩ := h
    refine ⟨_, (pss_one (ps_ret (pe_callTy call_tuple_of (by rfl) z_tuple (by decide +kernel) (pa_cons (pe_lc (own := [("_law_part", 1)]) rfl nd (pi_tup (pv 0)) (blkOk_by (own := [("_law_part", 1)]) (N := N_L_minus_form) (sc := defScope s_L_minus_form) (by decide +kernel)) (fun _ _ _ _ _ => (pg_name (i := 1) nd rfl (Or.inl rfl))) (fun _ _ _ _ _ => pts_nil) (fun _ _ _ _ _ => (pe_tup (pa_cons (pe_un un_neg (pe_ix ix_tupH (pv 1) pe_int (fun _ _ => rfl))) (pa_cons (pe_ix ix_tupH (pv 1) pe_int (fun _ _ => rfl)) pa_nil))))) pa_nil)))), ?_⟩
    simp only [tVar, rIxTH, rIxLH, gTupH, line_le, HO.tup.injEq, HO.lst.injEq, List.length_cons, List.length_nil, at0, at1, rU, tOst, tTest, rIxL, rIxT, C8.tCut, cxOf_K, tC, tOp, tUn, tSeq, tAsg, tNext, tRet, tRetN, tDrop, tIfS, tNever, gName, gNil, gCons, gTup, gSub, tPar, rI, rI0, rU, rEq, rNe, tB, tAnd, tOr, tNot, tAndV, tOrV, tNotV, tIf, tTup, tLst, tNil, tCons, tCB, tCall, tMeth, tMake, tFld, sFld, tDGet, sDPut, tDisp, tPairs, tBreak, tCont, scal_ii, scal_bb, scal_ss, List.getElem?_cons_zero, List.getElem?_cons_succ, List.set_cons_zero, List.set_cons_succ, Option.some.injEq, exists_eq_left', exists_eq_left, exists_and_left, V.int.injEq, V.bl.injEq, V.ref.injEq, V.str.injEq, List.cons.injEq, and_true, true_and, Bool.true_eq, List.nil_append, List.append_nil, List.cons_append, exists_eq', and_self, reduceCtorEq, false_or, or_false, false_and, exists_false, exists_const, and_assoc, if_true, Bool.false_eq_true, if_false, Nat.reduceAdd, Nat.reduceLeDiff, Nat.zero_add, Nat.le_refl, forall_const, st_L_minus_form]
    have lx := Fa2.len hx
    refine ⟨_, rfl, a, rfl, ⟨_, SqT.of ha⟩, fun D hD => lc_tup (K := K) (a := a) (xs := xs)
      (fun i H' => Same H H' ∧ ∃ acc, H' D = some (.lst acc) ∧ acc.length = i ∧ AllQ H' acc ((qs.map fun q => -q).take i)) ⟨same_new hD, [], upd_same, rfl, .nil⟩ (fun i H' _ h => SqT.of (h.1 _ _ ha)) ?_ ?_⟩
    · rintro i v H3 hi ⟨s3, acc, hacc, hl3, hall⟩
      obtain ⟨q1, hq1, c1, rfl, hc1⟩ := Fa2.get hx hi
      have li := ix_lt hi
      have hc3 := s3 _ _ hc1
      simp only [tVar, rIxTH, rIxLH, gTupH, line_le, HO.tup.injEq, HO.lst.injEq, List.length_cons, List.length_nil, at0, at1, rU, tOst, tTest, rIxL, rIxT, C8.tCut, cxOf_K, tC, tOp, tUn, tSeq, tAsg, tNext, tRet, tRetN, tDrop, tIfS, tNever, gName, gNil, gCons, gTup, gSub, tPar, rI, rI0, rU, rEq, rNe, tB, tAnd, tOr, tNot, tAndV, tOrV, tNotV, tIf, tTup, tLst, tNil, tCons, tCB, tCall, tMeth, tMake, tFld, sFld, tDGet, sDPut, tDisp, tPairs, tBreak, tCont, scal_ii, scal_bb, scal_ss, List.getElem?_cons_zero, List.getElem?_cons_succ, List.set_cons_zero, List.set_cons_succ, Option.some.injEq, exists_eq_left', exists_eq_left, exists_and_left, V.int.injEq, V.bl.injEq, V.ref.injEq, V.str.injEq, List.cons.injEq, and_true, true_and, Bool.true_eq, List.nil_append, List.append_nil, List.cons_append, exists_eq', and_self, reduceCtorEq, false_or, or_false, false_and, exists_false, exists_const, and_assoc, if_true, Bool.false_eq_true, if_false, Nat.reduceAdd, Nat.reduceLeDiff, Nat.zero_add, Nat.le_refl, forall_const, st_L_minus_form, wipe, List.map_cons, List.map_nil, tYes, hc3]
      intro p hp
      have zi : (qs.map fun q => -q)[i]? = some (-q1) := by rw [List.getElem?_map, hq1]; rfl
      have s5 := same_new (o := HO.tup [V.int (-q1.num), V.int (q1.den : Int)]) hp
      have hD5 := s5 _ _ hacc
      refine ⟨acc, hD5, by rw [hl3]; exact line_le (by omega), same_updL hD (s3.trans s5), _, upd_same, by simp [hl3], ?_⟩
      rw [take_snoc zi]
      refine AllQ.updL (Fa2.snoc (hall.same s5) ⟨p, rfl, ?_⟩) hD5
      rw [upd_same]
      unfold qv
      simp
    · rintro H3 ⟨s3, acc, hacc, hl3, hall⟩
      rw [show xs.length = (qs.map fun q => -q).length by rw [List.length_map, lx], List.take_length] at hall
      exact ⟨D, rfl, acc, .inl ⟨SqL.of hacc, fun t ht => k _ t (s3.trans (same_new ht)) ⟨acc, upd_same, hall.same (same_new ht)⟩⟩⟩
theorem qv_int (i : Int) : qv (i : Rat) = [.int i, .int 1] := by unfold qv; simp
def spNumF : Sp := fun vs H Q _ => ∃ (b : Addr) (q : Rat) (n : Nat), vs = [.ref b, .int n] ∧ H b = some (.tup (qv q)) ∧ n ≤ 18 ∧ ∀ H' c, Same H H' → IsForm H' c (q :: List.replicate n 0) → Q (.ref c) H'
abbrev N_L_number_form : List Str := ["_law_one", "_law_size"]
theorem sc_L_number_form : FnScope N_L_number_form ["_law_one", "_law_size"] (defScope s_L_number_form) := ⟨rfl, rfl, rfl, by decide +kernel, rfl, by decide +kernel, by decide +kernel⟩
theorem st_L_number_form {v0 v1 : V} : L2.start N_L_number_form [v0, v1] = [some v0, some v1] := rfl
theorem ok_L_number_form {f : Addr} {fd : FuncData} (F : FD K s_L_number_form "_law_number_form" "_law_number_form" f fd)  : FnOk P w K mg base (L2.CX P w) 1 f fd ["_law_one", "_law_size"] (spNumF) := by
  have nd := sc_L_number_form.nd
  refine F.ok0 sc_L_number_form (fun vs H Q E h => ?_) (fun cdv A outer s H vs Q E hr h => ?_)
  · obtain ⟨b, q, n, rfl, _⟩ := h
    rfl
  · obtain ⟨b, q, n, rfl, hb, hn, k⟩ := h
    refine ⟨_, (pss_one (ps_ret (pe_op op_catA (pe_tup (pa_cons (pv 0) pa_nil)) (pe_op op_rep1 (pe_tup (pa_cons (pe_tup (pa_cons pe_int (pa_cons pe_int pa_nil))) pa_nil)) (pv 1))))), ?_⟩
    simp only [tVar, rIxTH, rIxLH, gTupH, line_le, HO.tup.injEq, HO.lst.injEq, List.length_cons, List.length_nil, at0, at1, rU, tOst, tTest, rIxL, rIxT, C8.tCut, cxOf_K, tC, tOp, tUn, tSeq, tAsg, tNext, tRet, tRetN, tDrop, tIfS, tNever, gName, gNil, gCons, gTup, gSub, tPar, rI, rI0, rU, rEq, rNe, tB, tAnd, tOr, tNot, tAndV, tOrV, tNotV, tIf, tTup, tLst, tNil, tCons, tCB, tCall, tMeth, tMake, tFld, sFld, tDGet, sDPut, tDisp, tPairs, tBreak, tCont, scal_ii, scal_bb, scal_ss, List.getElem?_cons_zero, List.getElem?_cons_succ, List.set_cons_zero, List.set_cons_succ, Option.some.injEq, exists_eq_left', exists_eq_left, exists_and_left, V.int.injEq, V.bl.injEq, V.ref.injEq, V.str.injEq, List.cons.injEq, and_true, true_and, Bool.true_eq, List.nil_append, List.append_nil, List.cons_append, exists_eq', and_self, reduceCtorEq, false_or, or_false, false_and, exists_false, exists_const, and_assoc, if_true, Bool.false_eq_true, if_false, Nat.reduceAdd, Nat.reduceLeDiff, Nat.zero_add, Nat.le_refl, forall_const, st_L_number_form, rRep1]
    intro p hp p1 hp1 p2 hp2
    have s0 := same_new (o := HO.tup [V.ref b]) hp
    have s1 := same_new (o := HO.tup [V.int 0, V.int 1]) hp1
    have s2 := same_new (o := HO.tup [V.ref p1]) hp2
    refine ⟨_, n, rfl, upd_same, by omega, fun p3 H' s3 h3 => ?_⟩
    have s13 := (s1.trans s2).trans s3
    refine cat_run (s13 _ _ upd_same) h3 (by simp; omega) fun p4 H4 s4 h4 => ?_
    have sa := (s0.trans s13).trans s4
    refine k _ _ sa ⟨_, h4, .cons ⟨b, rfl, sa _ _ hb⟩ (fa_rep ⟨p1, rfl, ?_⟩ n)⟩
    exact ((s2.trans s3).trans s4) _ _ upd_same
theorem unit_cons (n m : Nat) : (List.range (n + 1)).map (fun k => if k = m + 1 then (1 : Rat) else 0) = 0 :: unitR n m := by
  rw [List.range_succ_eq_map, List.map_cons, List.map_map]
  unfold unitR
  congr 1
  refine List.map_congr_left fun k _ => ?_
  simp
def spLetF : Sp := fun vs H Q _ => ∃ (m n : Nat), vs = [.int m, .int n] ∧ n ≤ 18 ∧ ∀ H' c, Same H H' → IsForm H' c (0 :: unitR n m) → Q (.ref c) H'
/-- the plane that a form tells -/
def spAsP (CR CP : Addr) : Sp := fun vs H Q _ => ∃ (a : Addr) (q : Rat) (qs : List Rat), vs = [.ref a] ∧ IsForm H a (q :: qs) ∧ qs.length ≤ 18 ∧ (∀ z ∈ q :: qs, HwM.Bd 400 z) ∧ ∀ H' z, Same H H' → IsP CR CP H' z q qs → Q z H'
abbrev N_L_as_plane : List Str := ["_law_form", "_law_part"]
theorem sc_L_as_plane : FnScope N_L_as_plane ["_law_form"] (defScope s_L_as_plane) := ⟨rfl, rfl, rfl, by decide +kernel, rfl, by decide +kernel, by decide +kernel⟩
theorem st_L_as_plane {v0 : V} : L2.start N_L_as_plane [v0] = [some v0, none] := rfl
theorem ok_L_as_plane {f : Addr} {fd : FuncData} (F : FD K s_L_as_plane "_law_as_plane" "_law_as_plane" f fd) {C_Ratio C_Plane C_BadNumber : Addr} (z_tuple : mg "tuple" = none) (g_Plane : Kf P w K mg base "Plane" C_Plane 7 ["self", "fixed", "slopes"] [] (spPlane K C_Ratio C_Plane C_BadNumber)) (g_Ratio : Kf P w K mg base "Ratio" C_Ratio 3 ["self", "top", "bottom"] [] (spInit C_Ratio C_BadNumber)) : FnOk P w K mg base (L2.CX P w) 9 f fd ["_law_form"] (spAsP C_Ratio C_Plane) := by
  have nd := sc_L_as_plane.nd
  refine F.ok0 sc_L_as_plane (fun vs H Q E h => ?_) (fun cdv A outer s H vs Q E hr h => ?_)
  · obtain ⟨a, q, qs, rfl, _⟩ := h
    rfl
  · obtain ⟨a, q, qs, rfl, ⟨xs0, ha, hx0⟩, hl, bq, k⟩ := h
    refine ⟨_, (pss_one (ps_ret (pe_k g_Plane hr (by decide) passL rfl (pa_cons (pe_k g_Ratio hr (by decide) passL rfl (pa_cons (pe_ix ix_tupH (pe_ix ix_tupH (pv 0) pe_int (fun _ _ => rfl)) pe_int (fun _ _ => rfl)) (pa_cons (pe_ix ix_tupH (pe_ix ix_tupH (pv 0) pe_int (fun _ _ => rfl)) pe_int (fun _ _ => rfl)) pa_nil))) (pa_cons (pe_callTy call_tuple_of (by rfl) z_tuple (by decide +kernel) (pa_cons (pe_lc (own := [("_law_part", 1)]) rfl nd (pi_tup (pe_slice sl_tup (pv 0) (po_some pe_int) po_none)) (blkOk_by (own := [("_law_part", 1)]) (N := N_L_as_plane) (sc := defScope s_L_as_plane) (by decide +kernel)) (fun _ _ _ _ _ => (pg_name (i := 1) nd rfl (Or.inl rfl))) (fun _ _ _ _ _ => pts_nil) (fun _ _ _ _ _ => (pe_k g_Ratio hr (by decide) passL rfl (pa_cons (pe_ix ix_tupH (pv 1) pe_int (fun _ _ => rfl)) (pa_cons (pe_ix ix_tupH (pv 1) pe_int (fun _ _ => rfl)) pa_nil))))) pa_nil)) pa_nil))))), ?_⟩
    obtain ⟨x0, xs, rfl, ⟨d0, rfl, hd0⟩, hx⟩ : ∃ x0 xs, xs0 = x0 :: xs ∧ IsQ H x0 q ∧ AllQ H xs qs := by
      cases hx0 with
      | cons h1 h2 => exact ⟨_, _, rfl, h1, h2⟩
    have lx := Fa2.len hx
    have d9 : ∀ {r : Rat}, HwM.Bd 400 r → (r.den : Int).natAbs < 2 ^ 9000 := fun h => HwM.lt_mono (by simpa using h.2) (by decide)
    simp only [tVar, rIxTH, rIxLH, gTupH, line_le, HO.tup.injEq, HO.lst.injEq, List.length_cons, List.length_nil, at0, at1, rU, tOst, tTest, rIxL, rIxT, C8.tCut, cxOf_K, tC, tOp, tUn, tSeq, tAsg, tNext, tRet, tRetN, tDrop, tIfS, tNever, gName, gNil, gCons, gTup, gSub, tPar, rI, rI0, rU, rEq, rNe, tB, tAnd, tOr, tNot, tAndV, tOrV, tNotV, tIf, tTup, tLst, tNil, tCons, tCB, tCall, tMeth, tMake, tFld, sFld, tDGet, sDPut, tDisp, tPairs, tBreak, tCont, scal_ii, scal_bb, scal_ss, List.getElem?_cons_zero, List.getElem?_cons_succ, List.set_cons_zero, List.set_cons_succ, Option.some.injEq, exists_eq_left', exists_eq_left, exists_and_left, V.int.injEq, V.bl.injEq, V.ref.injEq, V.str.injEq, List.cons.injEq, and_true, true_and, Bool.true_eq, List.nil_append, List.append_nil, List.cons_append, exists_eq', and_self, reduceCtorEq, false_or, or_false, false_and, exists_false, exists_const, and_assoc, if_true, Bool.false_eq_true, if_false, Nat.reduceAdd, Nat.reduceLeDiff, Nat.zero_add, Nat.le_refl, forall_const, st_L_as_plane, ha, hd0]
    refine ⟨_, atI_nat (j := 0) rfl, d0, rfl, _, hd0, _, at0.mpr rfl, _, atI_nat (j := 0) rfl, d0, rfl, _, hd0, _, at1.mpr rfl, made_rat2 (d9 (bq _ List.mem_cons_self)) (fun _ H1 y s1 hy => ?_) fun z => absurd z (HwM.den_ne q)⟩
    rw [HwM.self_eq] at hy
    refine ⟨_, rfl, 1, rfl, a, V.ref d0 :: xs, rfl, SqT.of (s1 _ _ ha), by rw [show (1 : Int) = ((1 : Nat) : Int) from rfl, HT.sIx_nat, List.length_cons]; omega, fun p hp => ?_⟩
    rw [show (1 : Int) = ((1 : Nat) : Int) from rfl, cutV_from, show List.drop 1 (V.ref d0 :: xs) = xs from rfl]
    have s2 := same_new (o := HO.tup xs) hp
    refine ⟨p, rfl, ⟨_, SqT.of upd_same⟩, fun D hD => lc_tup (K := K) (a := p) (xs := xs) (fun i H' => Same (upd H1 p (.tup xs)) H' ∧ ∃ acc, H' D = some (.lst acc) ∧ acc.length = i ∧ AllR C_Ratio H' acc (qs.take i)) ⟨same_new hD, [], upd_same, rfl, .nil⟩ (fun i H' _ h => SqT.of (h.1 _ _ upd_same)) ?_ ?_⟩
    · rintro i v H3 hi ⟨s3, acc, hacc, hl3, hall⟩
      obtain ⟨r, hr1, d, rfl, hd⟩ := Fa2.get hx hi
      have hd3 := s3 _ _ (s2 _ _ (s1 _ _ hd))
      have li := ix_lt hi
      simp only [tVar, rIxTH, rIxLH, gTupH, line_le, HO.tup.injEq, HO.lst.injEq, List.length_cons, List.length_nil, at0, at1, rU, tOst, tTest, rIxL, rIxT, C8.tCut, cxOf_K, tC, tOp, tUn, tSeq, tAsg, tNext, tRet, tRetN, tDrop, tIfS, tNever, gName, gNil, gCons, gTup, gSub, tPar, rI, rI0, rU, rEq, rNe, tB, tAnd, tOr, tNot, tAndV, tOrV, tNotV, tIf, tTup, tLst, tNil, tCons, tCB, tCall, tMeth, tMake, tFld, sFld, tDGet, sDPut, tDisp, tPairs, tBreak, tCont, scal_ii, scal_bb, scal_ss, List.getElem?_cons_zero, List.getElem?_cons_succ, List.set_cons_zero, List.set_cons_succ, Option.some.injEq, exists_eq_left', exists_eq_left, exists_and_left, V.int.injEq, V.bl.injEq, V.ref.injEq, V.str.injEq, List.cons.injEq, and_true, true_and, Bool.true_eq, List.nil_append, List.append_nil, List.cons_append, exists_eq', and_self, reduceCtorEq, false_or, or_false, false_and, exists_false, exists_const, and_assoc, if_true, Bool.false_eq_true, if_false, Nat.reduceAdd, Nat.reduceLeDiff, Nat.zero_add, Nat.le_refl, forall_const, st_L_as_plane, wipe, List.map_cons, List.map_nil, tYes, hd3]
      refine ⟨_, at1.mpr rfl, made_rat2 (d9 (bq _ (List.mem_cons_of_mem _ (List.mem_of_getElem? hr1)))) (fun _ H4 y4 s4 hy4 => ?_) fun z => absurd z (HwM.den_ne r)⟩
      rw [HwM.self_eq] at hy4
      have hD4 := s4 _ _ hacc
      refine ⟨acc, hD4, by rw [hl3]; exact line_le (by omega), same_updL hD (s3.trans s4), _, upd_same, by simp [hl3], ?_⟩
      rw [take_snoc hr1]
      exact AllR.updL (Fa2.snoc (hall.same s4) hy4) hD4
    · rintro H3 ⟨s3, acc, hacc, hl3, hall⟩
      rw [lx, List.take_length] at hall
      refine ⟨D, rfl, acc, .inl ⟨SqL.of hacc, fun t ht => ?_⟩⟩
      have s4 := same_new (o := HO.tup acc) ht
      exact made_plane2 (.inl ((((hy.same s2).same s3).same s4))) (.inr (SqT.of upd_same)) (Fa2.mono (hall.same s4) fun _ _ h => .inl h) (by omega) (bq _ List.mem_cons_self) (fun r hr => bq _ (List.mem_cons_of_mem _ hr)) fun H' z s5 hz => k H' _ ((((s1.trans s2).trans s3).trans s4).trans s5) hz


end HwL
end

section
namespace HwL
open PySem PySem.Spec PyProof.Rows L2 LamX HwP
variable {P : Program} {w : World} {K : PySem.W.Frag} {mg : Str → Option Value} {base : Heap}

theorem row_pos {qs : List Rat} (h : 0 < cg (ws qs)) : row qs = (ws qs).map fun z => z / (cg (ws qs) : Int) := by
  unfold row
  split
  · rename_i h1
    have e : cg (ws qs) = 1 := by omega
    rw [e]
    simp
  · rfl


end HwL
end

section
namespace HwL
open PySem PySem.Spec PyProof.Rows L2 LamX HwP
variable {P : Program} {w : World} {K : PySem.W.Frag} {mg : Str → Option Value} {base : Heap}

/-! ### what is right of a plane -/
def spRight (CR CP : Addr) : Sp := fun vs H Q _ => ∃ (x : V) (b : Addr) (q : Rat) (qs : List Rat), vs = [x, .ref b] ∧ IsP CR CP H x q qs ∧ IsForm H b (q :: qs) ∧ qs.length ≤ 18 ∧ (∀ z ∈ q :: qs, HwM.Bd 400 z) ∧ ∀ H', Same H H' → Q (.bl true) H'

end HwL
end

section
namespace HwL
open PySem PySem.Spec PyProof.Rows L2 LamX HwP
variable {P : Program} {w : World} {K : PySem.W.Frag} {mg : Str → Option Value} {base : Heap}

theorem divInt_zero {z u : Int} (hu : u ≠ 0) (h : Rat.divInt z u = 0) : z = 0 := by
  have h1 := Rat.num_divInt z u
  rw [h] at h1
  have h2 : ((0:Rat)).num = 0 := rfl
  rw [h2] at h1
  have hg : ((u.gcd z : Nat) : Int) ∣ u.sign * z := Int.dvd_trans (Int.gcd_dvd_right ..) (Int.dvd_mul_left ..)
  have h3 := Int.ediv_mul_cancel hg
  rw [← h1, Int.zero_mul] at h3
  rcases Int.mul_eq_zero.mp h3.symm with h4 | h4
  · exact absurd (Int.sign_eq_zero_iff_zero.mp h4) hu
  · exact h4
/-! ### what is drawn -/
def spLittle : Sp := fun vs H Q _ => ∃ (p l : Addr) (c : Int), vs = [.ref p] ∧ PenAt H p l c ∧ c < 10000000 ∧ ∀ H' b q, Ext p H H' → PenAt H' p l (c + 2) → H' b = some (.tup (qv q)) → HwM.Bd 10 q → Q (.ref b) H'
abbrev N_L_little : List Str := ["_law_pen_here"]
theorem sc_L_little : FnScope N_L_little ["_law_pen_here"] (defScope s_L_little) := ⟨rfl, rfl, rfl, by decide +kernel, rfl, by decide +kernel, by decide +kernel⟩
theorem st_L_little {v0 : V} : L2.start N_L_little [v0] = [some v0] := rfl
theorem ok_L_little {f : Addr} {fd : FuncData} (F : FD K s_L_little "_law_little" "_law_little" f fd) (g_L_q : Gf P w K mg base "_law_q" 2 ["_law_top", "_law_bottom"] (spQ)) (g_L_pick : Gf P w K mg base "_law_pick" 2 ["_law_pen_here", "_law_some"] (spPick)) (g_L_draw : Gf P w K mg base "_law_draw" 1 ["_law_pen_here", "_law_many"] (spDraw)) : FnOk P w K mg base (L2.CX P w) 3 f fd ["_law_pen_here"] (spLittle) := by
  have nd := sc_L_little.nd
  refine F.ok0 sc_L_little (fun vs H Q E h => ?_) (fun cdv A outer s H vs Q E hr h => ?_)
  · obtain ⟨p, l, c, rfl, _⟩ := h
    rfl
  · obtain ⟨p, l, c, rfl, hp, hc, k⟩ := h
    refine ⟨_, (pss_one (ps_ret (pe_g g_L_q hr (by decide) passL rfl (pa_cons (pe_op op_sub (pe_g g_L_draw hr (by decide) passL rfl (pa_cons (pv 0) (pa_cons pe_int pa_nil))) pe_int) (pa_cons (pe_g g_L_pick hr (by decide) passL rfl (pa_cons (pv 0) (pa_cons (pe_lst (pa_cons pe_int (pa_cons pe_int (pa_cons pe_int (pa_cons pe_int (pa_cons pe_int pa_nil)))))) pa_nil))) pa_nil))))), ?_⟩
    simp only [tVar, rIxTH, rIxLH, gTupH, line_le, HO.tup.injEq, HO.lst.injEq, List.length_cons, List.length_nil, at0, at1, rU, tOst, tTest, rIxL, rIxT, C8.tCut, cxOf_K, tC, tOp, tUn, tSeq, tAsg, tNext, tRet, tRetN, tDrop, tIfS, tNever, gName, gNil, gCons, gTup, gSub, tPar, rI, rI0, rU, rEq, rNe, tB, tAnd, tOr, tNot, tAndV, tOrV, tNotV, tIf, tTup, tLst, tNil, tCons, tCB, tCall, tMeth, tMake, tFld, sFld, tDGet, sDPut, tDisp, tPairs, tBreak, tCont, scal_ii, scal_bb, scal_ss, List.getElem?_cons_zero, List.getElem?_cons_succ, List.set_cons_zero, List.set_cons_succ, Option.some.injEq, exists_eq_left', exists_eq_left, exists_and_left, V.int.injEq, V.bl.injEq, V.ref.injEq, V.str.injEq, List.cons.injEq, and_true, true_and, Bool.true_eq, List.nil_append, List.append_nil, List.cons_append, exists_eq', and_self, reduceCtorEq, false_or, or_false, false_and, exists_false, exists_const, and_assoc, if_true, Bool.false_eq_true, if_false, Nat.reduceAdd, Nat.reduceLeDiff, Nat.zero_add, Nat.le_refl, forall_const, st_L_little]
    refine ⟨p, l, c, 9, rfl, hp, by omega, by decide, by decide, fun H1 r x1 p1 r0 r1 => ?_⟩
    simp only [tVar, rIxTH, rIxLH, gTupH, line_le, HO.tup.injEq, HO.lst.injEq, List.length_cons, List.length_nil, at0, at1, rU, tOst, tTest, rIxL, rIxT, C8.tCut, cxOf_K, tC, tOp, tUn, tSeq, tAsg, tNext, tRet, tRetN, tDrop, tIfS, tNever, gName, gNil, gCons, gTup, gSub, tPar, rI, rI0, rU, rEq, rNe, tB, tAnd, tOr, tNot, tAndV, tOrV, tNotV, tIf, tTup, tLst, tNil, tCons, tCB, tCall, tMeth, tMake, tFld, sFld, tDGet, sDPut, tDisp, tPairs, tBreak, tCont, scal_ii, scal_bb, scal_ss, List.getElem?_cons_zero, List.getElem?_cons_succ, List.set_cons_zero, List.set_cons_succ, Option.some.injEq, exists_eq_left', exists_eq_left, exists_and_left, V.int.injEq, V.bl.injEq, V.ref.injEq, V.str.injEq, List.cons.injEq, and_true, true_and, Bool.true_eq, List.nil_append, List.append_nil, List.cons_append, exists_eq', and_self, reduceCtorEq, false_or, or_false, false_and, exists_false, exists_const, and_assoc, if_true, Bool.false_eq_true, if_false, Nat.reduceAdd, Nat.reduceLeDiff, Nat.zero_add, Nat.le_refl, forall_const, st_L_little]
    intro a ha
    have s1 := same_new (o := HO.lst [V.int 1, V.int 1, V.int 1, V.int 2, V.int 3]) ha
    refine ⟨p, l, a, c + 1, _, rfl, p1.same s1, by omega, upd_same, by simp, by simp, fun H2 i v x2 p2 hv => ?_⟩
    obtain ⟨z, rfl, z0, z1⟩ : ∃ z : Int, v = .int z ∧ 0 < z ∧ z ≤ 3 := by
      match i, hv with
      | 0, h => exact ⟨1, (Option.some.inj h).symm, by decide, by decide⟩
      | 1, h => exact ⟨1, (Option.some.inj h).symm, by decide, by decide⟩
      | 2, h => exact ⟨1, (Option.some.inj h).symm, by decide, by decide⟩
      | 3, h => exact ⟨2, (Option.some.inj h).symm, by decide, by decide⟩
      | 4, h => exact ⟨3, (Option.some.inj h).symm, by decide, by decide⟩
    refine ⟨_, _, rfl, by omega, ?_, ?_, fun b hb => ?_⟩
    · exact Nat.lt_of_lt_of_le (show (r - 4).natAbs < 2 ^ 10 by omega) (Nat.pow_le_pow_right (by decide) (by decide))
    · exact Nat.lt_of_lt_of_le (show z.natAbs < 2 ^ 10 by omega) (Nat.pow_le_pow_right (by decide) (by decide))
    · exact k _ b _ ((x1.new ha).trans (x2.new hb)) ((p2.same (same_new hb)).mono (by omega)) upd_same (HwM.divInt_bd (by decide) (by omega) (by omega))
def spLitNot : Sp := fun vs H Q _ => ∃ (p l : Addr) (c : Int), vs = [.ref p] ∧ PenAt H p l c ∧ c < 10000000 ∧ ∀ H' b q, Ext p H H' → PenAt H' p l (c + 3) → H' b = some (.tup (qv q)) → HwM.Bd 10 q → q ≠ 0 → Q (.ref b) H'
abbrev N_L_little_not : List Str := ["_law_pen_here"]
theorem sc_L_little_not : FnScope N_L_little_not ["_law_pen_here"] (defScope s_L_little_not) := ⟨rfl, rfl, rfl, by decide +kernel, rfl, by decide +kernel, by decide +kernel⟩
theorem st_L_little_not {v0 : V} : L2.start N_L_little_not [v0] = [some v0] := rfl
theorem ok_L_little_not {f : Addr} {fd : FuncData} (F : FD K s_L_little_not "_law_little_not" "_law_little_not" f fd) (g_L_q : Gf P w K mg base "_law_q" 2 ["_law_top", "_law_bottom"] (spQ)) (g_L_pick : Gf P w K mg base "_law_pick" 2 ["_law_pen_here", "_law_some"] (spPick)) (g_L_draw : Gf P w K mg base "_law_draw" 1 ["_law_pen_here", "_law_many"] (spDraw)) : FnOk P w K mg base (L2.CX P w) 3 f fd ["_law_pen_here"] (spLitNot) := by
  have nd := sc_L_little_not.nd
  refine F.ok0 sc_L_little_not (fun vs H Q E h => ?_) (fun cdv A outer s H vs Q E hr h => ?_)
  · obtain ⟨p, l, c, rfl, _⟩ := h
    rfl
  · obtain ⟨p, l, c, rfl, hp, hc, k⟩ := h
    refine ⟨_, (pss_one (ps_ret (pe_g g_L_q hr (by decide) passL rfl (pa_cons (pe_g g_L_pick hr (by decide) passL rfl (pa_cons (pv 0) (pa_cons (pe_lst (pa_cons pe_int (pa_cons (pe_un un_neg pe_int) (pa_cons pe_int (pa_cons (pe_un un_neg pe_int) (pa_cons (pe_op op_add pe_int (pe_g g_L_draw hr (by decide) passL rfl (pa_cons (pv 0) (pa_cons pe_int pa_nil)))) pa_nil)))))) pa_nil))) (pa_cons (pe_g g_L_pick hr (by decide) passL rfl (pa_cons (pv 0) (pa_cons (pe_lst (pa_cons pe_int (pa_cons pe_int (pa_cons pe_int (pa_cons pe_int pa_nil))))) pa_nil))) pa_nil))))), ?_⟩
    simp only [tVar, rIxTH, rIxLH, gTupH, line_le, HO.tup.injEq, HO.lst.injEq, List.length_cons, List.length_nil, at0, at1, rU, tOst, tTest, rIxL, rIxT, C8.tCut, cxOf_K, tC, tOp, tUn, tSeq, tAsg, tNext, tRet, tRetN, tDrop, tIfS, tNever, gName, gNil, gCons, gTup, gSub, tPar, rI, rI0, rU, rEq, rNe, tB, tAnd, tOr, tNot, tAndV, tOrV, tNotV, tIf, tTup, tLst, tNil, tCons, tCB, tCall, tMeth, tMake, tFld, sFld, tDGet, sDPut, tDisp, tPairs, tBreak, tCont, scal_ii, scal_bb, scal_ss, List.getElem?_cons_zero, List.getElem?_cons_succ, List.set_cons_zero, List.set_cons_succ, Option.some.injEq, exists_eq_left', exists_eq_left, exists_and_left, V.int.injEq, V.bl.injEq, V.ref.injEq, V.str.injEq, List.cons.injEq, and_true, true_and, Bool.true_eq, List.nil_append, List.append_nil, List.cons_append, exists_eq', and_self, reduceCtorEq, false_or, or_false, false_and, exists_false, exists_const, and_assoc, if_true, Bool.false_eq_true, if_false, Nat.reduceAdd, Nat.reduceLeDiff, Nat.zero_add, Nat.le_refl, forall_const, st_L_little_not, rU]
    refine ⟨p, l, c, 6, rfl, hp, by omega, by decide, by decide, fun H1 r x1 p1 r0 r1 => ?_⟩
    simp only [tVar, rIxTH, rIxLH, gTupH, line_le, HO.tup.injEq, HO.lst.injEq, List.length_cons, List.length_nil, at0, at1, rU, tOst, tTest, rIxL, rIxT, C8.tCut, cxOf_K, tC, tOp, tUn, tSeq, tAsg, tNext, tRet, tRetN, tDrop, tIfS, tNever, gName, gNil, gCons, gTup, gSub, tPar, rI, rI0, rU, rEq, rNe, tB, tAnd, tOr, tNot, tAndV, tOrV, tNotV, tIf, tTup, tLst, tNil, tCons, tCB, tCall, tMeth, tMake, tFld, sFld, tDGet, sDPut, tDisp, tPairs, tBreak, tCont, scal_ii, scal_bb, scal_ss, List.getElem?_cons_zero, List.getElem?_cons_succ, List.set_cons_zero, List.set_cons_succ, Option.some.injEq, exists_eq_left', exists_eq_left, exists_and_left, V.int.injEq, V.bl.injEq, V.ref.injEq, V.str.injEq, List.cons.injEq, and_true, true_and, Bool.true_eq, List.nil_append, List.append_nil, List.cons_append, exists_eq', and_self, reduceCtorEq, false_or, or_false, false_and, exists_false, exists_const, and_assoc, if_true, Bool.false_eq_true, if_false, Nat.reduceAdd, Nat.reduceLeDiff, Nat.zero_add, Nat.le_refl, forall_const, st_L_little_not]
    intro a ha
    have s1 := same_new (o := HO.lst [V.int 1, V.int (-1), V.int 2, V.int (-3), V.int (1 + r)]) ha
    refine ⟨p, l, a, c + 1, _, rfl, p1.same s1, by omega, upd_same, by simp, by simp, fun H2 i v x2 p2 hv => ?_⟩
    obtain ⟨z, rfl, z0, z1⟩ : ∃ z : Int, v = .int z ∧ z ≠ 0 ∧ z.natAbs ≤ 10 := by
      match i, hv with
      | 0, h => exact ⟨1, (Option.some.inj h).symm, by decide, by decide⟩
      | 1, h => exact ⟨-1, (Option.some.inj h).symm, by decide, by decide⟩
      | 2, h => exact ⟨2, (Option.some.inj h).symm, by decide, by decide⟩
      | 3, h => exact ⟨-3, (Option.some.inj h).symm, by decide, by decide⟩
      | 4, h => exact ⟨1 + r, (Option.some.inj h).symm, by omega, by omega⟩
    intro a2 ha2
    have s2 := same_new (o := HO.lst [V.int 1, V.int 1, V.int 2, V.int 5]) ha2
    refine ⟨p, l, a2, c + 2, _, rfl, (p2.same s2).mono (by omega), by omega, upd_same, by simp, by simp, fun H3 i v x3 p3 hv => ?_⟩
    obtain ⟨u, rfl, u0, u1⟩ : ∃ u : Int, v = .int u ∧ 0 < u ∧ u ≤ 5 := by
      match i, hv with
      | 0, h => exact ⟨1, (Option.some.inj h).symm, by decide, by decide⟩
      | 1, h => exact ⟨1, (Option.some.inj h).symm, by decide, by decide⟩
      | 2, h => exact ⟨2, (Option.some.inj h).symm, by decide, by decide⟩
      | 3, h => exact ⟨5, (Option.some.inj h).symm, by decide, by decide⟩
    refine ⟨_, _, rfl, by omega, ?_, ?_, fun b hb => ?_⟩
    · exact Nat.lt_of_lt_of_le (show z.natAbs < 2 ^ 10 by omega) (Nat.pow_le_pow_right (by decide) (by decide))
    · exact Nat.lt_of_lt_of_le (show u.natAbs < 2 ^ 10 by omega) (Nat.pow_le_pow_right (by decide) (by decide))
    · refine k _ b _ ((((x1.new ha).trans x2).new ha2).trans (x3.new hb)) ((p3.same (same_new hb)).mono (by omega)) upd_same (HwM.divInt_bd (by decide) (by omega) (by omega)) fun z0' => ?_
      exact z0 (divInt_zero (show u ≠ 0 by omega) z0')
theorem pow10 (n : Nat) : (10 : Int) ^ n = ((10 ^ n : Nat) : Int) := by simp
/-- a long one: at most four pieces of ten digits -/
def spLong : Sp := fun vs H Q _ => ∃ (p l : Addr) (c : Int) (n : Nat), vs = [.ref p, .int ((10 * n : Nat) : Int)] ∧ n ≤ 4 ∧ PenAt H p l c ∧ c < 10000000 ∧ ∀ H' b q, Ext p H H' → PenAt H' p l (c + 10) → H' b = some (.tup (qv q)) → HwM.Bd (34 * n + 4) q → Q (.ref b) H'


end HwL
end

section
namespace HwL
open PySem PySem.Spec PyProof.Rows L2 LamX HwP
variable {P : Program} {w : World} {K : PySem.W.Frag} {mg : Str → Option Value} {base : Heap}

theorem qv0 : qv (0 : Rat) = [.int 0, .int 1] := qv_int 0
theorem bd0 {n : Nat} (h : 1 ≤ n) : HwM.Bd n (0 : Rat) := HwM.int_bd (i := 0) (by omega) (Nat.two_pow_pos n)
theorem ext_updD {p D : Addr} {H H1 : Hp} {o : HO} (hD : H D = none) (h : Ext p H H1) : Ext p H (upd H1 D o) := fun b u n e => by rw [upd_ne (ne_of_none e hD)]; exact h b u n e
def spDrawn (m k : Nat) : Sp := fun vs H Q _ => ∃ (p l : Addr) (c : Int) (n : Nat), vs = [.ref p, .int n] ∧ n ≤ 17 ∧ PenAt H p l c ∧ c + k < 1000000 ∧ ∀ H' a qs, Ext p H H' → PenAt H' p l (c + k) → IsForm H' a qs → qs.length = n + 1 → (∀ q ∈ qs, HwM.Bd m q) → Q (.ref a) H'
abbrev N_L_drawn_form : List Str := ["_law_pen_here", "_law_size", "_law_part"]
theorem sc_L_drawn_form : FnScope N_L_drawn_form ["_law_pen_here", "_law_size"] (defScope s_L_drawn_form) := ⟨rfl, rfl, rfl, by decide +kernel, rfl, by decide +kernel, by decide +kernel⟩
theorem st_L_drawn_form {v0 v1 : V} : L2.start N_L_drawn_form [v0, v1] = [some v0, some v1, none] := rfl
theorem ok_L_drawn_form {f : Addr} {fd : FuncData} (F : FD K s_L_drawn_form "_law_drawn_form" "_law_drawn_form" f fd) (z_tuple : mg "tuple" = none) (z_range : mg "range" = none) (g_L_pick : Gf P w K mg base "_law_pick" 2 ["_law_pen_here", "_law_some"] (spPick)) (g_L_little : Gf P w K mg base "_law_little" 3 ["_law_pen_here"] (spLittle)) : FnOk P w K mg base (L2.CX P w) 4 f fd ["_law_pen_here", "_law_size"] (spDrawn 10 90) := by
  have nd := sc_L_drawn_form.nd
  refine F.ok0 sc_L_drawn_form (fun vs H Q E h => ?_) (fun cdv A outer s H vs Q E hr h => ?_)
  · obtain ⟨p, l, c, n, rfl, _⟩ := h
    rfl
  · obtain ⟨p, l, c, n, rfl, hn, hp, hc, k⟩ := h
    refine ⟨_, (pss_one (ps_ret (pe_callTy call_tuple_of (by rfl) z_tuple (by decide +kernel) (pa_cons (pe_lc (own := [("_law_part", 2)]) rfl nd (pi_range1 rfl z_range (pa_cons (pe_op op_add (pv 1) pe_int) pa_nil)) (blkOk_by (own := [("_law_part", 2)]) (N := N_L_drawn_form) (sc := defScope s_L_drawn_form) (by decide +kernel)) (fun _ _ _ _ _ => (pg_name (i := 2) nd rfl (Or.inl rfl))) (fun _ _ _ _ _ => pts_nil) (fun _ _ _ _ _ => (pe_g g_L_pick hr (by decide) passL rfl (pa_cons (pv 0) (pa_cons (pe_lst (pa_cons (pe_tup (pa_cons pe_int (pa_cons pe_int pa_nil))) (pa_cons (pe_g g_L_little hr (by decide) passL rfl (pa_cons (pv 0) pa_nil)) (pa_cons (pe_g g_L_little hr (by decide) passL rfl (pa_cons (pv 0) pa_nil)) pa_nil)))) pa_nil))))) pa_nil)))), ?_⟩
    simp only [tVar, rIxTH, rIxLH, gTupH, line_le, HO.tup.injEq, HO.lst.injEq, List.length_cons, List.length_nil, at0, at1, rU, tOst, tTest, rIxL, rIxT, C8.tCut, cxOf_K, tC, tOp, tUn, tSeq, tAsg, tNext, tRet, tRetN, tDrop, tIfS, tNever, gName, gNil, gCons, gTup, gSub, tPar, rI, rI0, rU, rEq, rNe, tB, tAnd, tOr, tNot, tAndV, tOrV, tNotV, tIf, tTup, tLst, tNil, tCons, tCB, tCall, tMeth, tMake, tFld, sFld, tDGet, sDPut, tDisp, tPairs, tBreak, tCont, scal_ii, scal_bb, scal_ss, List.getElem?_cons_zero, List.getElem?_cons_succ, List.set_cons_zero, List.set_cons_succ, Option.some.injEq, exists_eq_left', exists_eq_left, exists_and_left, V.int.injEq, V.bl.injEq, V.ref.injEq, V.str.injEq, List.cons.injEq, and_true, true_and, Bool.true_eq, List.nil_append, List.append_nil, List.cons_append, exists_eq', and_self, reduceCtorEq, false_or, or_false, false_and, exists_false, exists_const, and_assoc, if_true, Bool.false_eq_true, if_false, Nat.reduceAdd, Nat.reduceLeDiff, Nat.zero_add, Nat.le_refl, forall_const, st_L_drawn_form]
    refine ⟨_, rfl, n, 1, rfl, rfl, n + 1, by push_cast; rfl, by omega, by omega, fun D hD => lc_range (lo := 0) (n := n + 1) (D := D)
      (fun i H' => ∃ acc qs, H' D = some (.lst acc) ∧ acc.length = i ∧ qs.length = i ∧ AllQ H' acc qs ∧ (∀ q ∈ qs, HwM.Bd 10 q) ∧ Ext p H H' ∧ PenAt H' p l (c + 5 * i)) ⟨[], [], upd_same, rfl, rfl, .nil, by simp, .of (same_new hD), (hp.same (same_new hD)).mono (by omega)⟩ ?_ ?_⟩
    · rintro i H2 hi ⟨acc, qs, hacc, hl, hl2, hall, hb, x2, p2⟩
      have nDp : D ≠ p := hp.ne hD
      have nDl : D ≠ l := hp.ne2 hD
      simp only [tVar, rIxTH, rIxLH, gTupH, line_le, HO.tup.injEq, HO.lst.injEq, List.length_cons, List.length_nil, at0, at1, rU, tOst, tTest, rIxL, rIxT, C8.tCut, cxOf_K, tC, tOp, tUn, tSeq, tAsg, tNext, tRet, tRetN, tDrop, tIfS, tNever, gName, gNil, gCons, gTup, gSub, tPar, rI, rI0, rU, rEq, rNe, tB, tAnd, tOr, tNot, tAndV, tOrV, tNotV, tIf, tTup, tLst, tNil, tCons, tCB, tCall, tMeth, tMake, tFld, sFld, tDGet, sDPut, tDisp, tPairs, tBreak, tCont, scal_ii, scal_bb, scal_ss, List.getElem?_cons_zero, List.getElem?_cons_succ, List.set_cons_zero, List.set_cons_succ, Option.some.injEq, exists_eq_left', exists_eq_left, exists_and_left, V.int.injEq, V.bl.injEq, V.ref.injEq, V.str.injEq, List.cons.injEq, and_true, true_and, Bool.true_eq, List.nil_append, List.append_nil, List.cons_append, exists_eq', and_self, reduceCtorEq, false_or, or_false, false_and, exists_false, exists_const, and_assoc, if_true, Bool.false_eq_true, if_false, Nat.reduceAdd, Nat.reduceLeDiff, Nat.zero_add, Nat.le_refl, forall_const, st_L_drawn_form, wipe, List.map_cons, List.map_nil]
      intro t ht
      have s3 := same_new (o := HO.tup [V.int 0, V.int 1]) ht
      refine ⟨p, l, _, rfl, p2.same s3, by omega, fun H4 b1 q1 x4 p4 hb1 bq1 => ?_⟩
      refine ⟨p, l, _, rfl, p4, by omega, fun H5 b2 q2 x5 p5 hb2 bq2 a ha => ?_⟩
      have s6 := same_new (o := HO.lst [V.ref t, V.ref b1, V.ref b2]) ha
      refine ⟨p, l, a, _, _, rfl, p5.same s6, by omega, upd_same, by simp, by simp, fun H7 j v x7 p7 hv => ?_⟩
      have j0 : IsQ (upd H2 t (.tup [V.int 0, V.int 1])) (.ref t) 0 := ⟨t, rfl, by rw [upd_same, qv0]⟩
      have i0 : IsQ H7 (.ref t) 0 := (((j0.ext (p2.same s3) x4).ext p4 x5).same s6).ext (p5.same s6) x7
      have j1 : IsQ H4 (.ref b1) q1 := ⟨b1, rfl, hb1⟩
      have i1 : IsQ H7 (.ref b1) q1 := (((j1.ext p4 x5).same s6).ext (p5.same s6) x7)
      have j2 : IsQ H5 (.ref b2) q2 := ⟨b2, rfl, hb2⟩
      have i2 : IsQ H7 (.ref b2) q2 := ((j2.same s6).ext (p5.same s6) x7)
      obtain ⟨q, hq, bq⟩ : ∃ q, IsQ H7 v q ∧ HwM.Bd 10 q := by
        match j, hv with
        | 0, h => exact ⟨0, by rw [← Option.some.inj h]; exact i0, bd0 (by decide)⟩
        | 1, h => exact ⟨q1, by rw [← Option.some.inj h]; exact i1, bq1⟩
        | 2, h => exact ⟨q2, by rw [← Option.some.inj h]; exact i2, bq2⟩
      have x37 : Ext p H2 H7 := (((Ext.of s3).trans x4).trans x5).trans ((Ext.of s6).trans x7)
      have hacc7 := x37 _ _ nDp hacc
      refine ⟨acc, hacc7, by rw [hl]; exact line_le (by omega), acc ++ [v], upd_same, by simp [hl], qs ++ [q], by simp [hl2], AllQ.updL (show AllQ H7 _ _ from Fa2.snoc (hall.ext p2 x37) hq) hacc7, ?_, ext_updD hD (x2.trans x37), (p7.put nDp nDl _).mono (by omega)⟩
      intro z hz
      rcases List.mem_append.mp hz with h | h
      · exact hb z h
      · rw [List.mem_singleton.mp h]; exact bq
    · rintro H2 ⟨acc, qs, hacc, hl, hl2, hall, hb, x2, p2⟩
      refine ⟨D, rfl, acc, .inl ⟨SqL.of hacc, fun t ht => ?_⟩⟩
      have s := same_new (o := HO.tup acc) ht
      exact k _ t qs (x2.trans (.of s)) ((p2.same s).mono (by omega)) ⟨acc, upd_same, hall.same s⟩ hl2 hb


end HwL
end

section
namespace HwL
open PySem PySem.Spec PyProof.Rows L2 LamX HwP
variable {P : Program} {w : World} {K : PySem.W.Frag} {mg : Str → Option Value} {base : Heap}

abbrev N_L_refused : List Str := ["_law_call", "_law_found", "e"]
theorem sc_L_refused : FnScope N_L_refused ["_law_call"] (defScope s_L_refused) := ⟨rfl, rfl, rfl, by decide +kernel, rfl, by decide +kernel, by decide +kernel⟩
theorem st_L_refused {v0 : V} : L2.start N_L_refused [v0] = [some v0, none, none] := rfl
/-- a call that refuses: the exception's name and fields, as a tuple -/
def TRef3 (K : PySem.W.Frag) (CB CG CPl : Addr) : (XK → Hp → VK → Prop) → Hp → VK → Prop := fun tl H Q => ∀ (H0 : Hp) (Q0 : VK), Same H H0 →
  tl (fun cls d H' => (cls = .ref CB ∧ ∃ dd wh x dt, d = some dd ∧ H' dd = some (.xd [("number", x), ("what", .str wh)]) ∧ RepOK K H' x dt ∧ ∀ H'' a, Same H' H'' → H'' a = some (.tup [.str "number", .str wh, .str dt.shown]) → Q (.ref a) H'') ∨
    (cls = .ref CG ∧ ∃ dd wh, d = some dd ∧ H' dd = some (.xd [("what", .str wh)]) ∧ ∀ H'' a, Same H' H'' → H'' a = some (.tup [.str "given", .str wh]) → Q (.ref a) H'') ∨
    (cls = .ref CPl ∧ ∃ dd i, d = some dd ∧ H' dd = some (.xd [("row", .int i)]) ∧ ∀ H'' a, Same H' H'' → H'' a = some (.tup [.str "place", .int i]) → Q (.ref a) H'')) H0 Q0
theorem tref_in3 {CB CG CPl : Addr} {tl : XK → Hp → VK → Prop} {H : Hp} {Q : VK} (zs : List V)
    (h : ∀ (H0 : Hp) (Q0 : VK) (E : XK), Same H H0 → (∀ (wh : Str) (x : V) (dt : PyData), zs = [.str "number", .str wh, .str dt.shown] → (∀ H', Same H0 H' → RepOK K H' x dt) → ∀ H' d, Same H0 H' → H' d = some (.xd [("number", x), ("what", .str wh)]) → E (.ref CB) (some d) H') →
      (∀ wh : Str, zs = [.str "given", .str wh] → ∀ H' d, Same H0 H' → H' d = some (.xd [("what", .str wh)]) → E (.ref CG) (some d) H') →
      (∀ i : Int, zs = [.str "place", .int i] → ∀ H' d, Same H0 H' → H' d = some (.xd [("row", .int i)]) → E (.ref CPl) (some d) H') → tl E H0 Q0)
    (k : ∀ H' a, Same H H' → H' a = some (.tup zs) → Q (.ref a) H') : TRef3 K CB CG CPl tl H Q := by
  intro H0 Q0 s0
  refine h H0 Q0 _ s0 ?_ ?_ ?_
  · rintro wh x dt rfl rep H' d s' hd
    exact .inl ⟨rfl, d, wh, x, dt, rfl, hd, rep H' s', fun H'' a s'' ha => k _ a (s0.trans (s'.trans s'')) ha⟩
  · rintro wh rfl H' d s' hd
    exact .inr (.inl ⟨rfl, d, wh, rfl, hd, fun H'' a s'' ha => k _ a (s0.trans (s'.trans s'')) ha⟩)
  · rintro i rfl H' d s' hd
    exact .inr (.inr ⟨rfl, d, i, rfl, hd, fun H'' a s'' ha => k _ a (s0.trans (s'.trans s'')) ha⟩)
section
variable {CB CG CE CT CPl : Addr}
theorem refused_gives (B : XrC K CB "what" "number") (G : XrC K CG "what" "what") (B2 : XrC K CPl "row" "row") (T1 : XrC K CT "what" "many") (T2 : XrC K CT "limit" "limit") (eGB : PySem.W.exmOne K (.ref CG) (.ref CB) = some false) (ePB : PySem.W.exmOne K (.ref CPl) (.ref CB) = some false) (ePG : PySem.W.exmOne K (.ref CPl) (.ref CG) = some false)
    (m_B : mg "BadNumber" = some (.ref CB)) (m_G : mg "BadGiven" = some (.ref CG)) (m_P : mg "BadPlace" = some (.ref CPl)) (m_E : mg "EmptyPlace" = some (.ref CE)) (m_T : mg "TooLarge" = some (.ref CT)) (z_repr : mg "repr" = none) {A : Around} {stack : List Env} (hgd : A.guards = some []) (hu : A.units + 200 < cLine) (g : Addr) (cdg : Value) :
    GivesV P w K mg base A stack N_L_refused "_law_refused" (defScope s_L_refused) g cdg (defBody s_L_refused) "_law_call" (TRef3 K CB CG CPl) := by
  intro f Kn s H Q tl mono act hK hT
  have nd := sc_L_refused.nd
  refine ⟨_, pss_cons (ps_set (i := 1) nd rfl (Or.inl rfl) (pe_tup (pa_cons pe_str pa_nil))) (pss_cons (ps_try_all
      (tb := fun W D σ H => ∃ Ech : XK, (∀ cls d σ' H', Ech cls d H' → σ'.length = 3 → W cls d σ' H') ∧ σ[0]? = some (some (V.ref f)) ∧ Kn H ∧ tl Ech H (fun _ H' => D.nx σ H'))
      rfl rfl nd L2.takes0 (fun W pn xe tk _ => ⟨fun pins s' σ H' D I h' => let ⟨Ech, hW, h1, h2, h3⟩ := h'
        (pss_one (ps_expr (act _ pn xe Ech _ _ (takes_len tk) hW))).run pins s' σ H' D I ⟨h1, h2, h3⟩⟩)
      (HdsA.named (i := 2) rfl rfl ⟨rfl, by decide, .inl m_B⟩ (fun e oe kl dd pn hz hf => pss_one (ps_set (i := 1) nd rfl (Or.inl rfl) (pe_tup (pa_cons pe_str (pa_cons (pe_xf B.T B.n1 hz hf (pv 2)) (pa_cons (pe_callB (id := "repr") (r := rRepr K) (call_reprD rfl hgd (by show A.units + 3 + 64 < cLine; omega)) (by rfl) z_repr (by decide +kernel) (pa_cons (pe_xf B.T B.n2 hz hf (pv 2)) pa_nil)) pa_nil))))))
      (HdsA.named (i := 2) rfl rfl ⟨rfl, by decide, .inl m_G⟩ (fun e oe kl dd pn hz hf => pss_one (ps_set (i := 1) nd rfl (Or.inl rfl) (pe_tup (pa_cons pe_str (pa_cons (pe_xf G.T G.n1 hz hf (pv 2)) pa_nil)))))
      (HdsA.named (i := 2) rfl rfl ⟨rfl, by decide, .inl m_P⟩ (fun e oe kl dd pn hz hf => pss_one (ps_set (i := 1) nd rfl (Or.inl rfl) (pe_tup (pa_cons pe_str (pa_cons (pe_xf B2.T B2.n1 hz hf (pv 2)) pa_nil)))))
      (HdsA.plain ⟨rfl, by decide, .inl m_E⟩ (fun e oe kl dd pn hz hf => pss_one (ps_set (i := 1) nd rfl (Or.inl rfl) (pe_tup (pa_cons pe_str pa_nil))))
      (HdsA.named (i := 2) rfl rfl ⟨rfl, by decide, .inl m_T⟩ (fun e oe kl dd pn hz hf => pss_one (ps_set (i := 1) nd rfl (Or.inl rfl) (pe_tup (pa_cons pe_str (pa_cons (pe_xf T1.T T1.n1 hz hf (pv 2)) (pa_cons (pe_xf T1.T T1.n2 hz hf (pv 2)) (pa_cons (pe_xf T2.T T2.n1 hz hf (pv 2)) pa_nil)))))))
      HdsA.nil)))))) (pss_one (ps_ret (pv 1)))), ?_⟩
  rw [st_L_refused]
  simp only [tVar, rIxTH, rIxLH, gTupH, line_le, HO.tup.injEq, HO.lst.injEq, List.length_cons, List.length_nil, at0, at1, rU, tOst, tTest, rIxL, rIxT, C8.tCut, cxOf_K, tC, tOp, tUn, tSeq, tAsg, tNext, tRet, tRetN, tDrop, tIfS, tNever, gName, gNil, gCons, gTup, gSub, tPar, rI, rI0, rU, rEq, rNe, tB, tAnd, tOr, tNot, tAndV, tOrV, tNotV, tIf, tTup, tLst, tNil, tCons, tCB, tCall, tMeth, tMake, tFld, sFld, tDGet, sDPut, tDisp, tPairs, tBreak, tCont, scal_ii, scal_bb, scal_ss, List.getElem?_cons_zero, List.getElem?_cons_succ, List.set_cons_zero, List.set_cons_succ, Option.some.injEq, exists_eq_left', exists_eq_left, exists_and_left, V.int.injEq, V.bl.injEq, V.ref.injEq, V.str.injEq, List.cons.injEq, and_true, true_and, Bool.true_eq, List.nil_append, List.append_nil, List.cons_append, exists_eq', and_self, reduceCtorEq, false_or, or_false, false_and, exists_false, exists_const, and_assoc, if_true, Bool.false_eq_true, if_false, Nat.reduceAdd, Nat.reduceLeDiff, Nat.zero_add, Nat.le_refl, forall_const]
  intro p hp
  have sp := same_new (o := HO.tup [V.str "none"]) hp
  refine ⟨_, ?_, mono _ _ sp hK, hT _ _ sp⟩
  rintro cls d σ' H' (⟨rfl, dd, wh, x, dt, rfl, hd, hr, k⟩ | ⟨rfl, dd, wh, rfl, hd, k⟩ | ⟨rfl, dd, ix, rfl, hd, k⟩) hl
  · obtain ⟨y0, y1, y2, rfl⟩ : ∃ y0 y1 y2, σ' = [y0, y1, y2] := by
      match σ', hl with
      | [y0, y1, y2], _ => exact ⟨y0, y1, y2, rfl⟩
    refine ⟨true, B.me, fun _ a ha => ?_, fun z => by cases z⟩
    have l1 : List.lookup ("what" : Str) [(("number" : Str), x), ("what", V.str wh)] = some (V.str wh) := lkB (by decide) lkA
    have l2 : List.lookup ("number" : Str) [(("number" : Str), x), ("what", V.str wh)] = some x := lkA
    simp only [tVar, rIxTH, rIxLH, gTupH, line_le, HO.tup.injEq, HO.lst.injEq, List.length_cons, List.length_nil, at0, at1, rU, tOst, tTest, rIxL, rIxT, C8.tCut, cxOf_K, tC, tOp, tUn, tSeq, tAsg, tNext, tRet, tRetN, tDrop, tIfS, tNever, gName, gNil, gCons, gTup, gSub, tPar, rI, rI0, rU, rEq, rNe, tB, tAnd, tOr, tNot, tAndV, tOrV, tNotV, tIf, tTup, tLst, tNil, tCons, tCB, tCall, tMeth, tMake, tFld, sFld, tDGet, sDPut, tDisp, tPairs, tBreak, tCont, scal_ii, scal_bb, scal_ss, List.getElem?_cons_zero, List.getElem?_cons_succ, List.set_cons_zero, List.set_cons_succ, Option.some.injEq, exists_eq_left', exists_eq_left, exists_and_left, V.int.injEq, V.bl.injEq, V.ref.injEq, V.str.injEq, List.cons.injEq, and_true, true_and, Bool.true_eq, List.nil_append, List.append_nil, List.cons_append, exists_eq', and_self, reduceCtorEq, false_or, or_false, false_and, exists_false, exists_const, and_assoc, if_true, Bool.false_eq_true, if_false, Nat.reduceAdd, Nat.reduceLeDiff, Nat.zero_add, Nat.le_refl, forall_const, tXf, dropS, hd, HO.xd.injEq, l1, l2]
    refine hr.run ?_
    exact fun b hb => k _ b (same_new hb) upd_same
  · obtain ⟨y0, y1, y2, rfl⟩ : ∃ y0 y1 y2, σ' = [y0, y1, y2] := by
      match σ', hl with
      | [y0, y1, y2], _ => exact ⟨y0, y1, y2, rfl⟩
    refine ⟨false, eGB, fun z => by (cases z), fun _ => ⟨true, G.me, fun _ a ha => ?_, fun z => by cases z⟩⟩
    have l1 : List.lookup ("what" : Str) [(("what" : Str), V.str wh)] = some (V.str wh) := lkA
    simp only [tVar, rIxTH, rIxLH, gTupH, line_le, HO.tup.injEq, HO.lst.injEq, List.length_cons, List.length_nil, at0, at1, rU, tOst, tTest, rIxL, rIxT, C8.tCut, cxOf_K, tC, tOp, tUn, tSeq, tAsg, tNext, tRet, tRetN, tDrop, tIfS, tNever, gName, gNil, gCons, gTup, gSub, tPar, rI, rI0, rU, rEq, rNe, tB, tAnd, tOr, tNot, tAndV, tOrV, tNotV, tIf, tTup, tLst, tNil, tCons, tCB, tCall, tMeth, tMake, tFld, sFld, tDGet, sDPut, tDisp, tPairs, tBreak, tCont, scal_ii, scal_bb, scal_ss, List.getElem?_cons_zero, List.getElem?_cons_succ, List.set_cons_zero, List.set_cons_succ, Option.some.injEq, exists_eq_left', exists_eq_left, exists_and_left, V.int.injEq, V.bl.injEq, V.ref.injEq, V.str.injEq, List.cons.injEq, and_true, true_and, Bool.true_eq, List.nil_append, List.append_nil, List.cons_append, exists_eq', and_self, reduceCtorEq, false_or, or_false, false_and, exists_false, exists_const, and_assoc, if_true, Bool.false_eq_true, if_false, Nat.reduceAdd, Nat.reduceLeDiff, Nat.zero_add, Nat.le_refl, forall_const, tXf, dropS, hd, HO.xd.injEq, l1]
    exact fun b hb => k _ b (same_new hb) upd_same
  · obtain ⟨y0, y1, y2, rfl⟩ : ∃ y0 y1 y2, σ' = [y0, y1, y2] := by
      match σ', hl with
      | [y0, y1, y2], _ => exact ⟨y0, y1, y2, rfl⟩
    refine ⟨false, ePB, fun z => by (cases z), fun _ => ⟨false, ePG, fun z => by (cases z), fun _ => ⟨true, B2.me, fun _ a ha => ?_, fun z => by cases z⟩⟩⟩
    have l1 : List.lookup ("row" : Str) [(("row" : Str), V.int ix)] = some (V.int ix) := lkA
    simp only [tVar, rIxTH, rIxLH, gTupH, line_le, HO.tup.injEq, HO.lst.injEq, List.length_cons, List.length_nil, at0, at1, rU, tOst, tTest, rIxL, rIxT, C8.tCut, cxOf_K, tC, tOp, tUn, tSeq, tAsg, tNext, tRet, tRetN, tDrop, tIfS, tNever, gName, gNil, gCons, gTup, gSub, tPar, rI, rI0, rU, rEq, rNe, tB, tAnd, tOr, tNot, tAndV, tOrV, tNotV, tIf, tTup, tLst, tNil, tCons, tCB, tCall, tMeth, tMake, tFld, sFld, tDGet, sDPut, tDisp, tPairs, tBreak, tCont, scal_ii, scal_bb, scal_ss, List.getElem?_cons_zero, List.getElem?_cons_succ, List.set_cons_zero, List.set_cons_succ, Option.some.injEq, exists_eq_left', exists_eq_left, exists_and_left, V.int.injEq, V.bl.injEq, V.ref.injEq, V.str.injEq, List.cons.injEq, and_true, true_and, Bool.true_eq, List.nil_append, List.append_nil, List.cons_append, exists_eq', and_self, reduceCtorEq, false_or, or_false, false_and, exists_false, exists_const, and_assoc, if_true, Bool.false_eq_true, if_false, Nat.reduceAdd, Nat.reduceLeDiff, Nat.zero_add, Nat.le_refl, forall_const, tXf, dropS, hd, HO.xd.injEq, l1]
    exact fun b hb => k _ b (same_new hb) upd_same
end
/-- what is asked of the classes of errors -/
structure RefX3 (K : PySem.W.Frag) (mg : Str → Option Value) (CB CG CPl : Addr) : Prop where
  B : XrC K CB "what" "number"
  G : XrC K CG "what" "what"
  P : XrC K CPl "row" "row"
  ex : ∃ CE CT : Addr, XrC K CT "what" "many" ∧ XrC K CT "limit" "limit" ∧ mg "EmptyPlace" = some (.ref CE) ∧ mg "TooLarge" = some (.ref CT)
  eGB : PySem.W.exmOne K (.ref CG) (.ref CB) = some false
  ePB : PySem.W.exmOne K (.ref CPl) (.ref CB) = some false
  ePG : PySem.W.exmOne K (.ref CPl) (.ref CG) = some false
  mB : mg "BadNumber" = some (.ref CB)
  mG : mg "BadGiven" = some (.ref CG)
  mP : mg "BadPlace" = some (.ref CPl)
  zr : mg "repr" = none
theorem RefX3.gives {CB CG CPl : Addr} (R : RefX3 K mg CB CG CPl) {A : Around} {stack : List Env} (hgd : A.guards = some []) (hu : A.units + 200 < cLine) (g : Addr) (cdg : Value) :
    GivesV P w K mg base A stack N_L_refused "_law_refused" (defScope s_L_refused) g cdg (defBody s_L_refused) "_law_call" (TRef3 K CB CG CPl) := by
  obtain ⟨CE, CT, h2, h3, h5, h6⟩ := R.ex
  exact refused_gives R.B R.G R.P h2 h3 R.eGB R.ePB R.ePG R.mB R.mG R.mP h5 h6 R.zr hgd hu g cdg


end HwL
end

section
namespace HwL
open PySem PySem.Spec PyProof.Rows L2 LamX HwP
variable {P : Program} {w : World} {K : PySem.W.Frag} {mg : Str → Option Value} {base : Heap}

/-- a row of a place of size n -/
def IsRow (CR CP : Addr) (H : Hp) (x : V) (n : Nat) (q : Rat) (qs : List Rat) (b : Bool) : Prop := ∃ t pl, x = .ref t ∧ H t = some (.tup [pl, .bl b]) ∧ IsP CR CP H pl q qs ∧ qs.length = n
inductive NoRow (K : PySem.W.Frag) (CR CP : Addr) (H : Hp) (n : Nat) : V → Prop
  | kind {x : V} {t : Value} (ty : TyX K H x t) (k : PySem.W.kitOne K t (.type "tuple") = some false) : NoRow K CR CP H n x
  | len {a : Addr} {xs : List V} (h : H a = some (.tup xs)) (l : xs.length ≠ 2) : NoRow K CR CP H n (.ref a)
  | first {a : Addr} {u v : V} {t : Value} (h : H a = some (.tup [u, v])) (ty : TyX K H u t) (k : PySem.W.kitOne K t (.ref CP) = some false) : NoRow K CR CP H n (.ref a)
  | size {a : Addr} {u v : V} {q : Rat} {qs : List Rat} (h : H a = some (.tup [u, v])) (p : IsP CR CP H u q qs) (l : qs.length ≠ n) : NoRow K CR CP H n (.ref a)
  | second {a : Addr} {u v : V} {q : Rat} {qs : List Rat} {t : Value} (h : H a = some (.tup [u, v])) (p : IsP CR CP H u q qs) (l : qs.length = n) (ty : TyX K H v t) (k : PySem.W.kitOne K t (.type "bool") = some false) : NoRow K CR CP H n (.ref a)
theorem plF_no {v : V} {t : Addr} {n : Int} {b : Bool} {r : Addr} {m : Str} (h1 : (m == ("fixed" : Str)) = false) (h2 : (m == ("slopes" : Str)) = false) (h3 : (m == ("size" : Str)) = false) (h4 : (m == ("is_number" : Str)) = false) (h5 : (m == ("row" : Str)) = false) : List.lookup m (plF v t n b r) = none := by
  unfold plF
  simp [List.lookup, h1, h2, h3, h4, h5]
theorem iteT' {c : Bool} {A B : Prop} (h : c = true) (k : A) : if c = true then A else B := by rw [if_pos h]; exact k
theorem iteF' {c : Bool} {A B : Prop} (h : c = false) (k : B) : if c = true then A else B := by rw [if_neg (by rw [h]; decide)]; exact k
def spIsRow (K : PySem.W.Frag) (CR CP : Addr) : Sp := fun vs H Q _ => ∃ (x : V) (n : Nat), vs = [x, .int n] ∧ ((∃ q qs b, IsRow CR CP H x n q qs b ∧ Q (.bl true) H) ∨ (NoRow K CR CP H n x ∧ Q (.bl false) H))
abbrev N_is_row : List Str := ["row", "size", "plane", "is_strict"]
theorem sc_is_row : FnScope N_is_row ["row", "size"] (defScope s_is_row) := ⟨rfl, rfl, rfl, by decide +kernel, rfl, by decide +kernel, by decide +kernel⟩
theorem st_is_row {v0 v1 : V} : L2.start N_is_row [v0, v1] = [some v0, some v1, none, none] := rfl
theorem ok_is_row {f : Addr} {fd : FuncData} (F : FD K s_is_row "is_row" "is_row" f fd) {C_Ratio C_Plane : Addr} (PC : PlaC K C_Plane) (PI : PlaI K C_Plane) (z_isinstance : mg "isinstance" = none) (z_bool : mg "bool" = none) (z_len : mg "len" = none) (z_tuple : mg "tuple" = none) (m_Plane : mg "Plane" = some (.ref C_Plane)) : FnOk P w K mg base (L2.CX P w) 1 f fd ["row", "size"] (spIsRow K C_Ratio C_Plane) := by
  have nd := sc_is_row.nd
  refine F.ok0 sc_is_row (fun vs H Q E h => ?_) (fun cdv A outer s H vs Q E hr h => ?_)
  · obtain ⟨x, n, rfl, _⟩ := h
    rfl
  · obtain ⟨x, n, rfl, hc⟩ := h
    refine ⟨_, (pss_cons (ps_if (PW.pt (pw_or (pt_not (pt_val (pe_callB (id := "isinstance") (r := rIsi K) (call_isiE rfl) (by rfl) z_isinstance (by decide +kernel) (pa_cons (pv 0) (pa_cons (pe_bltn (v := .ty "tuple") rfl z_tuple (by decide +kernel) rfl) pa_nil))))) (pw_or1 (pt_cmpR op_ne (pe_callB call_len_seq (by rfl) z_len (by decide +kernel) (pa_cons (pv 0) pa_nil)) pe_int (nomark _))))) (pss_one (ps_ret pe_bl)) pss_nil)
        (pss_cons (ps_asg (pv 0) (pg_tupH rfl (pgs_cons (pg_name (i := 2) nd rfl (Or.inl rfl)) (pgs_cons (pg_name (i := 3) nd rfl (Or.inl rfl)) pgs_nil))))
        (pss_one (ps_ret (pe_and (pe_callB (id := "isinstance") (r := rIsi K) (call_isiE rfl) (by rfl) z_isinstance (by decide +kernel) (pa_cons (pv 2) (pa_cons (pe_glob (v := .ref C_Plane) rfl m_Plane rfl) pa_nil))) (pe_and (pe_cmpR op_eq (pe_fld (pv 2) rfl) (pv 1) (nomark _)) (pe_one (pe_callB (id := "isinstance") (r := rIsi K) (call_isiE rfl) (by rfl) z_isinstance (by decide +kernel) (pa_cons (pv 3) (pa_cons (pe_bltn (v := .ty "bool") rfl z_bool (by decide +kernel) rfl) pa_nil)))))))))), ?_⟩
    simp only [tVar, rIxTH, rIxLH, gTupH, line_le, HO.tup.injEq, HO.lst.injEq, List.length_cons, List.length_nil, at0, at1, rU, tOst, tTest, rIxL, rIxT, C8.tCut, cxOf_K, tC, tOp, tUn, tSeq, tAsg, tNext, tRet, tRetN, tDrop, tIfS, tNever, gName, gNil, gCons, gTup, gSub, tPar, rI, rI0, rU, rEq, rNe, tB, tAnd, tOr, tNot, tAndV, tOrV, tNotV, tIf, tTup, tLst, tNil, tCons, tCB, tCall, tMeth, tMake, tFld, sFld, tDGet, sDPut, tDisp, tPairs, tBreak, tCont, scal_ii, scal_bb, scal_ss, List.getElem?_cons_zero, List.getElem?_cons_succ, List.set_cons_zero, List.set_cons_succ, Option.some.injEq, exists_eq_left', exists_eq_left, exists_and_left, V.int.injEq, V.bl.injEq, V.ref.injEq, V.str.injEq, List.cons.injEq, and_true, true_and, Bool.true_eq, List.nil_append, List.append_nil, List.cons_append, exists_eq', and_self, reduceCtorEq, false_or, or_false, false_and, exists_false, exists_const, and_assoc, if_true, Bool.false_eq_true, if_false, Nat.reduceAdd, Nat.reduceLeDiff, Nat.zero_add, Nat.le_refl, forall_const, st_is_row, rIsi]
    have l1 : ∀ {v : V} {t n b r}, List.lookup ("size" : Str) (plF v t n b r) = some (V.int n) := fun {v t n b r} => lkB (by decide) (lkB (by decide) lkA)
    have tt : PySem.W.kitOne K (.type "tuple") (.type "tuple") = some true := kit_ty (by decide +kernel)
    have cc : PySem.W.kitOne K (.ref C_Plane) (.ref C_Plane) = some true := by unfold PySem.W.kitOne; simp
    rcases hc with ⟨q, qs, b, ⟨t, pl, rfl, ht, hp, hl⟩, k⟩ | ⟨hn, k⟩
    · refine ⟨.type "tuple", .type "tuple", .ty _, .base (.tup ht), true, tt, iteF ⟨t, rfl, _, .inr (SqT.of ht), iteF ?_⟩⟩
      obtain ⟨a, da, fa, rfl, ha, v0, t0, ys, r0, rfl, _⟩ := id hp
      refine ⟨t, rfl, _, ht, rfl, _, _, rfl, _, _, rfl, rfl, .ref C_Plane, .ref C_Plane, .own _, isP_ty PC PI hp, true, cc, iteT ?_⟩
      exact ⟨a, rfl, _, _, _, ha, PC.cl, PC.nz, _, l1, rfl, iteT' (decide_eq_true (by rw [hl])) ⟨.type "bool", .type "bool", .ty _, .base (.bl b), true, kit_ty (by decide +kernel), k⟩⟩
    · cases hn with
      | kind ty kk => exact ⟨_, .type "tuple", .ty _, ty, false, kk, iteT k⟩
      | len h l =>
        refine ⟨.type "tuple", .type "tuple", .ty _, .base (.tup h), true, tt, iteF ⟨_, rfl, _, .inr (SqT.of h), ?_⟩⟩
        rw [decide_eq_false (by omega)]
        exact iteT k
      | first h ty kk =>
        refine ⟨.type "tuple", .type "tuple", .ty _, .base (.tup h), true, tt, iteF ⟨_, rfl, _, .inr (SqT.of h), iteF ?_⟩⟩
        exact ⟨_, rfl, _, h, rfl, _, _, rfl, _, _, rfl, rfl, _, .ref C_Plane, .own _, ty, false, kk, iteF k⟩
      | size h p l =>
        refine ⟨.type "tuple", .type "tuple", .ty _, .base (.tup h), true, tt, iteF ⟨_, rfl, _, .inr (SqT.of h), iteF ?_⟩⟩
        obtain ⟨a, da, fa, rfl, ha, v0, t0, ys, r0, rfl, _⟩ := id p
        refine ⟨_, rfl, _, h, rfl, _, _, rfl, _, _, rfl, rfl, .ref C_Plane, .ref C_Plane, .own _, isP_ty PC PI p, true, cc, iteT ?_⟩
        exact ⟨a, rfl, _, _, _, ha, PC.cl, PC.nz, _, l1, rfl, iteF' (decide_eq_false fun z => by injection z with z; omega) k⟩
      | second h p l ty kk =>
        refine ⟨.type "tuple", .type "tuple", .ty _, .base (.tup h), true, tt, iteF ⟨_, rfl, _, .inr (SqT.of h), iteF ?_⟩⟩
        obtain ⟨a, da, fa, rfl, ha, v0, t0, ys, r0, rfl, _⟩ := id p
        refine ⟨_, rfl, _, h, rfl, _, _, rfl, _, _, rfl, rfl, .ref C_Plane, .ref C_Plane, .own _, isP_ty PC PI p, true, cc, iteT ?_⟩
        exact ⟨a, rfl, _, _, _, ha, PC.cl, PC.nz, _, l1, rfl, iteT' (decide_eq_true (by rw [l])) ⟨_, .type "bool", .ty _, ty, false, kk, k⟩⟩
def spRowH (CR CP : Addr) : Sp := fun vs H Q _ => ∃ (x y : V) (b : Bool) (q : Rat) (qs rs : List Rat), vs = [x, .bl b, y] ∧ IsP CR CP H x q qs ∧ IsPt CR H y rs ∧ rs.length = qs.length ∧ qs.length ≤ 3 ∧ (∀ z ∈ q :: qs, HwM.Bd 190 z) ∧ (∀ z ∈ rs, HwM.Bd 600 z) ∧
  ∀ H', Same H H' → Q (.bl (decide (0 < worth q qs rs ∨ (worth q qs rs = 0 ∧ b = false)))) H'
abbrev N_row_holds : List Str := ["plane", "is_strict", "point", "sign"]
theorem sc_row_holds : FnScope N_row_holds ["plane", "is_strict", "point"] (defScope s_row_holds) := ⟨rfl, rfl, rfl, by decide +kernel, rfl, by decide +kernel, by decide +kernel⟩
theorem st_row_holds {v0 v1 v2 : V} : L2.start N_row_holds [v0, v1, v2] = [some v0, some v1, some v2, none] := rfl
theorem ok_row_holds {f : Addr} {fd : FuncData} (F : FD K s_row_holds "row_holds" "row_holds" f fd) {C_Ratio C_Plane C_BadGiven : Addr} (R : RatC K C_Ratio) (g_Ratio_compared : Mf P w K mg base C_Ratio "compared" 6 ["self", "other"] (spCmp C_Ratio (fun q r => .int (HwM.cmp q r)))) (g_Plane_at : Mf P w K mg base C_Plane "at" 7 ["self", "point"] (spAt K C_Ratio C_Plane C_BadGiven)) : FnOk P w K mg base (L2.CX P w) 8 f fd ["plane", "is_strict", "point"] (spRowH C_Ratio C_Plane) := by
  have nd := sc_row_holds.nd
  refine F.ok0 sc_row_holds (fun vs H Q E h => ?_) (fun cdv A outer s H vs Q E hr h => ?_)
  · obtain ⟨x, y, b, q, qs, rs, rfl, _⟩ := h
    rfl
  · obtain ⟨x, y, b, q, qs, rs, rfl, hx, hy, lr, hl, bq, br, k⟩ := h
    refine ⟨_, (C8.pss_cut (ps_set (i := 3) nd rfl (Or.inl rfl) (pe_m g_Ratio_compared hr (by decide) passL (pe_m g_Plane_at hr (by decide) passL (pv 0) (pa_cons (pv 2) pa_nil)) (pa_cons pe_int pa_nil)))
        (pss_one (ps_ret (pe_or (pe_cmpR op_gt (pv 3) pe_int (nomark _)) (pe_one (pe_and (pe_cmpR op_eq (pv 3) pe_int (nomark _)) (pe_one (pe_not (pv 1))))))))), ?_⟩
    simp only [tVar, rIxTH, rIxLH, gTupH, line_le, HO.tup.injEq, HO.lst.injEq, List.length_cons, List.length_nil, at0, at1, rU, tOst, tTest, rIxL, rIxT, C8.tCut, cxOf_K, tC, tOp, tUn, tSeq, tAsg, tNext, tRet, tRetN, tDrop, tIfS, tNever, gName, gNil, gCons, gTup, gSub, tPar, rI, rI0, rU, rEq, rNe, tB, tAnd, tOr, tNot, tAndV, tOrV, tNotV, tIf, tTup, tLst, tNil, tCons, tCB, tCall, tMeth, tMake, tFld, sFld, tDGet, sDPut, tDisp, tPairs, tBreak, tCont, scal_ii, scal_bb, scal_ss, List.getElem?_cons_zero, List.getElem?_cons_succ, List.set_cons_zero, List.set_cons_succ, Option.some.injEq, exists_eq_left', exists_eq_left, exists_and_left, V.int.injEq, V.bl.injEq, V.ref.injEq, V.str.injEq, List.cons.injEq, and_true, true_and, Bool.true_eq, List.nil_append, List.append_nil, List.cons_append, exists_eq', and_self, reduceCtorEq, false_or, or_false, false_and, exists_false, exists_const, and_assoc, if_true, Bool.false_eq_true, if_false, Nat.reduceAdd, Nat.reduceLeDiff, Nat.zero_add, Nat.le_refl, forall_const, st_row_holds]
    obtain ⟨a, da, fa, rfl, ha, v0, t0, ys, r0, rfl, _⟩ := id hx
    have bw := worth_bd (i := qs.length) lr.symm bq br (Nat.le_refl _)
    rw [List.take_length, ← lr, List.take_length] at bw
    refine ⟨fun σ' H' => σ' = [some (.ref a), some (.bl b), some y, some (.int (HwM.cmp (worth q qs rs) 0))] ∧ Same H H', ?_, ?_⟩
    · refine ⟨a, rfl, _, _, ha, plF_no (by decide) (by decide) (by decide) (by decide) (by decide), ?_⟩
      refine ⟨_, _, q, qs, rfl, hx, .inl ⟨rs, hy, lr, hl, bq, br, fun H1 z s1 hz => ?_⟩⟩
      obtain ⟨c, dc, rfl, hc⟩ := id hz
      refine ⟨c, rfl, _, _, hc, ratF_no _ (by decide) (by decide), _, _, worth q qs rs, ((0 : Int) : Rat), rfl, hz, .inr ⟨0, rfl, rfl⟩, bw.mono (by omega), HwM.int_bd (by decide) (Nat.two_pow_pos _), fun H2 s2 => ⟨rfl, s1.trans s2⟩⟩
    rintro σ' H1 ⟨rfl, s1⟩
    have k1 := k H1 s1
    refine ⟨_, rfl, _, rfl, ?_⟩
    have cm : HwM.cmp (worth q qs rs) 0 = if worth q qs rs < 0 then -1 else if 0 < worth q qs rs then 1 else 0 := by unfold HwM.cmp; rfl
    rw [cm]
    generalize worth q qs rs = W at k1
    have tri : W < 0 ∨ W = 0 ∨ 0 < W := by
      by_cases h1 : W < 0
      · exact .inl h1
      · by_cases h2 : 0 < W
        · exact .inr (.inr h2)
        · exact .inr (.inl (by grind))
    rcases tri with h | h | h
    · have hn : ¬ 0 < W := by grind
      have h0 : W ≠ 0 := by grind
      rw [if_pos h]
      rw [decide_eq_false (fun z => z.elim hn fun z => h0 z.1)] at k1
      exact iteF ⟨_, rfl, rfl, iteF k1⟩
    · rw [if_neg (show ¬ W < 0 by grind), if_neg (show ¬ 0 < W by grind)]
      refine iteF ⟨_, rfl, rfl, iteT ⟨_, rfl, b, rfl, ?_⟩⟩
      have e : decide (0 < W ∨ (W = 0 ∧ b = false)) = !b := by
        rw [h]
        cases b
        · exact decide_eq_true (.inr ⟨rfl, rfl⟩)
        · exact decide_eq_false fun z => z.elim (fun z => by grind) fun z => by cases z.2
      rw [e] at k1
      exact k1
    · rw [if_neg (show ¬ W < 0 by grind), if_pos h]
      rw [decide_eq_true (.inl h)] at k1
      exact iteT k1


end HwL
end

section
namespace HwL
open PySem PySem.Spec PyProof.Rows L2 LamX HwP
variable {P : Program} {w : World} {K : PySem.W.Frag} {mg : Str → Option Value} {base : Heap}

abbrev N_BadPlaceD_initD : List Str := ["self", "row"]
theorem sc_BadPlaceD_initD : FnScope N_BadPlaceD_initD ["self", "row"] (defScope s_BadPlaceD_initD) := ⟨rfl, rfl, rfl, by decide +kernel, rfl, by decide +kernel, by decide +kernel⟩
theorem st_BadPlaceD_initD {v0 v1 : V} : L2.start N_BadPlaceD_initD [v0, v1] = [some v0, some v1] := rfl
theorem ok_BadPlaceD_initD {f : Addr} {fd : FuncData} (F : FD K s_BadPlaceD_initD "__init__" "BadPlace.__init__" f fd) {C_BadPlace : Addr} (TX : OexC K C_BadPlace) (n1 : PySem.W.findIn K (.ref C_BadPlace) "row" = some none) : FnOk P w K mg base (L2.CX P w) 1 f fd ["self", "row"] (spX1 C_BadPlace "row") := by
  have nd := sc_BadPlaceD_initD.nd
  refine F.ok0 sc_BadPlaceD_initD (fun vs H Q E h => ?_) (fun cdv A outer s H vs Q E hr h => ?_)
  · obtain ⟨a, x, rfl, _⟩ := h
    rfl
  · obtain ⟨a, x, rfl, ha, k⟩ := h
    refine ⟨_, (pss_one (ps_ost (pv 0) (pv 1))), ?_⟩
    simp only [tVar, rIxTH, rIxLH, gTupH, line_le, HO.tup.injEq, HO.lst.injEq, List.length_cons, List.length_nil, at0, at1, rU, tOst, tTest, rIxL, rIxT, C8.tCut, cxOf_K, tC, tOp, tUn, tSeq, tAsg, tNext, tRet, tRetN, tDrop, tIfS, tNever, gName, gNil, gCons, gTup, gSub, tPar, rI, rI0, rU, rEq, rNe, tB, tAnd, tOr, tNot, tAndV, tOrV, tNotV, tIf, tTup, tLst, tNil, tCons, tCB, tCall, tMeth, tMake, tFld, sFld, tDGet, sDPut, tDisp, tPairs, tBreak, tCont, scal_ii, scal_bb, scal_ss, List.getElem?_cons_zero, List.getElem?_cons_succ, List.set_cons_zero, List.set_cons_succ, Option.some.injEq, exists_eq_left', exists_eq_left, exists_and_left, V.int.injEq, V.bl.injEq, V.ref.injEq, V.str.injEq, List.cons.injEq, and_true, true_and, Bool.true_eq, List.nil_append, List.append_nil, List.cons_append, exists_eq', and_self, reduceCtorEq, false_or, or_false, false_and, exists_false, exists_const, and_assoc, if_true, Bool.false_eq_true, if_false, Nat.reduceAdd, Nat.reduceLeDiff, Nat.zero_add, Nat.le_refl, forall_const, st_BadPlaceD_initD]
    exact ⟨C_BadPlace, TX, n1, .inl ⟨ha, fun d hd hda => k d hd hda⟩⟩
/-- rows of places of size n: their data -/
def Rows (CR CP : Addr) (H : Hp) (n : Nat) (xs : List V) (ds : List (Rat × List Rat × Bool)) : Prop := Fa2 (fun x d => IsRow CR CP H x n d.1 d.2.1 d.2.2) xs ds
theorem IsRow.same {CR CP : Addr} {H H' : Hp} {x : V} {n : Nat} {q : Rat} {qs : List Rat} {b : Bool} (h : IsRow CR CP H x n q qs b) (e : Same H H') : IsRow CR CP H' x n q qs b := by
  obtain ⟨t, pl, h1, h2, h3, h4⟩ := h
  exact ⟨t, pl, h1, e _ _ h2, h3.same e, h4⟩
theorem Rows.same {CR CP : Addr} {H H' : Hp} {n : Nat} {xs : List V} {ds : List (Rat × List Rat × Bool)} (h : Rows CR CP H n xs ds) (e : Same H H') : Rows CR CP H' n xs ds := Fa2.mono h fun _ _ z => z.same e
/-- what is wished where a row is none -/
def BadP (CX : Addr) (H : Hp) (E : XK) (i : Int) : Prop := ∀ H' d, Same H H' → H' d = some (.xd [("row", .int i)]) → E (.ref CX) (some d) H'
theorem raise_badP {CX : Addr} {te : TE} {σ : L2.St} {H : Hp} {E : XK} {i : Int} (hte : ∀ Q : VK, Q (.int i) H → te σ H Q) (ke : BadP CX H E i) :
    tMkO CX (spX1 CX "row") [] (tCons te tNil) σ H fun cls d H' => E cls d H' := by
  refine hte _ ⟨by simp, fun b hb => ⟨b, _, rfl, upd_same, fun d hd hda => ⟨rfl, ?_⟩⟩⟩
  obtain ⟨d', e1, fs, e2, e3, e4⟩ := x1_made (C := CX) (f1 := "row") (x := .int i) (Q := E) hb (by rw [upd_ne hda] at hd; exact hd) hda fun H2 e1 e2 => ke H2 d e1 e2
  exact ⟨d', fs, e1, e2, e3, e4⟩
/-- what the text says of the class Place -/
structure PlcC (K : PySem.W.Frag) (C : Addr) : Prop where
  cl : Cls K C
  nr : NoAttr K C "rows"
  ns : NoAttr K C "size"
def plcF (t : Addr) (n : Int) : List (Str × V) := [("rows", .ref t), ("size", .int n)]
theorem one_put (v : V) : (putF "rows" v []).length < 1000 := by
  unfold putF
  simp
theorem plc_put (t : Addr) (n : Int) : putF "size" (.int n) (putF "rows" (.ref t) []) = plcF t n := by
  unfold plcF putF
  simp (decide := true) [putF]
def spPlcI (K : PySem.W.Frag) (CR CP CL CB CX : Addr) : Sp := fun vs H Q E => ∃ (p dx a : Addr) (y : V) (xs : List V) (i r : Bool), vs = [.ref p, .ref a, y] ∧ H p = some (.ins CL dx []) ∧ Sq0 H a xs ∧ xs.length ≤ 100 ∧ Ty K CR H y i r ∧
  ((∃ (n : Nat) (ds : List (Rat × List Rat × Bool)), y = .int n ∧ i = true ∧ Rows CR CP H n xs ds ∧ ∀ H' t, Ext p H H' → H' p = some (.ins CL dx (plcF t n)) → H' t = some (.tup xs) → Q .non H') ∨
   (((∃ n : Int, y = .int n ∧ i = true ∧ n < 0) ∨ i = false) ∧ Bad2 CB H E "size" y) ∨
   (∃ (n j : Nat) (v : V) (ds : List (Rat × List Rat × Bool)), y = .int n ∧ i = true ∧ xs[j]? = some v ∧ Rows CR CP H n (xs.take j) ds ∧ (∀ H', Same H H' → NoRow K CR CP H' n v) ∧ BadP CX H E j))
abbrev N_PlaceD_initD : List Str := ["self", "rows", "size", "number", "row"]
theorem sc_PlaceD_initD : FnScope N_PlaceD_initD ["self", "rows", "size"] (defScope s_PlaceD_initD) := ⟨rfl, rfl, rfl, by decide +kernel, rfl, by decide +kernel, by decide +kernel⟩
theorem st_PlaceD_initD {v0 v1 v2 : V} : L2.start N_PlaceD_initD [v0, v1, v2] = [some v0, some v1, some v2, none, none] := rfl
theorem ok_PlaceD_initD {f : Addr} {fd : FuncData} (F : FD K s_PlaceD_initD "__init__" "Place.__init__" f fd) {C_Ratio C_Plane C_Place C_BadNumber C_BadPlace : Addr} (PL : PlcC K C_Place) (z_tuple : mg "tuple" = none) (z_enumerate : mg "enumerate" = none) (g_is_row : Gf P w K mg base "is_row" 1 ["row", "size"] (spIsRow K C_Ratio C_Plane)) (g_BadPlace : Xf P w K mg base "BadPlace" C_BadPlace 1 (spX1 C_BadPlace "row")) (g_check_size : Gf P w K mg base "check_size" 3 ["size"] (spSize K C_Ratio C_BadNumber)) : FnOk P w K mg base (L2.CX P w) 4 f fd ["self", "rows", "size"] (spPlcI K C_Ratio C_Plane C_Place C_BadNumber C_BadPlace) := by
  have nd := sc_PlaceD_initD.nd
  refine F.okX sc_PlaceD_initD (fun vs H Q E h => ?_) (fun cdv A outer s H vs Q E hr h => ?_)
  · obtain ⟨p, dx, a, y, xs, i, r, rfl, _⟩ := h
    rfl
  · obtain ⟨p, dx, a, y, xs, i, r, rfl, hp, ha, hl, hT, hc⟩ := h
    refine ⟨_, (C8.pss_cut (ps_expr (pe_g g_check_size hr (by decide) (passX rfl rfl rfl rfl) rfl (pa_cons (pv 2) pa_nil)))
        (C8.pss_cut (ps_for (passes_of rfl) rfl (pi_enumS (by rfl) z_enumerate (pa_cons (pv 1) pa_nil)) (pg_tupH rfl (pgs_cons (pg_name (i := 3) nd rfl (Or.inl rfl)) (pgs_cons (pg_name (i := 4) nd rfl (Or.inl rfl)) pgs_nil))) (pss_one (ps_if (pt_not (pt_val (pe_g g_is_row hr (by decide) passL rfl (pa_cons (pv 4) (pa_cons (pv 2) pa_nil))))) (pss_one (ps_raiseX g_BadPlace hr (by decide) rfl (takes_of rfl rfl rfl rfl) rfl (pa_cons (pv 3) pa_nil))) pss_nil)))
        (pss_cons (ps_fld (pv 0) (pe_callTy call_tuple_of (by rfl) z_tuple (by decide +kernel) (pa_cons (pv 1) pa_nil)) rfl)
        (pss_one (ps_fld (pv 0) (pv 2) rfl))))), ?_⟩
    simp only [tVar, rIxTH, rIxLH, gTupH, line_le, HO.tup.injEq, HO.lst.injEq, List.length_cons, List.length_nil, at0, at1, rU, tOst, tTest, rIxL, rIxT, C8.tCut, cxOf_K, tC, tOp, tUn, tSeq, tAsg, tNext, tRet, tRetN, tDrop, tIfS, tNever, gName, gNil, gCons, gTup, gSub, tPar, rI, rI0, rU, rEq, rNe, tB, tAnd, tOr, tNot, tAndV, tOrV, tNotV, tIf, tTup, tLst, tNil, tCons, tCB, tCall, tMeth, tMake, tFld, sFld, tDGet, sDPut, tDisp, tPairs, tBreak, tCont, scal_ii, scal_bb, scal_ss, List.getElem?_cons_zero, List.getElem?_cons_succ, List.set_cons_zero, List.set_cons_succ, Option.some.injEq, exists_eq_left', exists_eq_left, exists_and_left, V.int.injEq, V.bl.injEq, V.ref.injEq, V.str.injEq, List.cons.injEq, and_true, true_and, Bool.true_eq, List.nil_append, List.append_nil, List.cons_append, exists_eq', and_self, reduceCtorEq, false_or, or_false, false_and, exists_false, exists_const, and_assoc, if_true, Bool.false_eq_true, if_false, Nat.reduceAdd, Nat.reduceLeDiff, Nat.zero_add, Nat.le_refl, forall_const, st_PlaceD_initD]
    refine ⟨fun σ' H' => σ' = [some (.ref p), some (.ref a), some y, none, none] ∧ H' = H ∧ ∃ n : Nat, y = .int n ∧ i = true, ?_, ?_⟩
    · rcases hc with ⟨n, ds, rfl, rfl, _⟩ | ⟨hb, ke⟩ | ⟨n, j, v, ds, rfl, rfl, _⟩
      · exact ⟨_, _, r, rfl, hT, .inl ⟨n, rfl, rfl, by omega, rfl, rfl, n, rfl, rfl⟩⟩
      · exact ⟨_, _, r, rfl, hT, .inr ⟨hb, ke⟩⟩
      · exact ⟨_, _, r, rfl, hT, .inl ⟨n, rfl, rfl, by omega, rfl, rfl, n, rfl, rfl⟩⟩
    rintro σ' H1 ⟨rfl, rfl, n, rfl, rfl⟩
    have hc : (∃ (ds : List (Rat × List Rat × Bool)), Rows C_Ratio C_Plane H1 n xs ds ∧ ∀ H' t, Ext p H1 H' → H' p = some (.ins C_Place dx (plcF t n)) → H' t = some (.tup xs) → Q .non H') ∨ (∃ (j : Nat) (v : V) (ds : List (Rat × List Rat × Bool)), xs[j]? = some v ∧ Rows C_Ratio C_Plane H1 n (xs.take j) ds ∧ (∀ H', Same H1 H' → NoRow K C_Ratio C_Plane H' n v) ∧ BadP C_BadPlace H1 E j) := by
      rcases hc with ⟨n', ds, e, _, h1, h2⟩ | ⟨⟨n', e, _, h⟩ | h, _⟩ | ⟨n', j, v, ds, e, _, h⟩
      · cases Int.ofNat.inj (V.int.inj e)
        exact .inl ⟨ds, h1, h2⟩
      · have := V.int.inj e
        omega
      · cases h
      · cases Int.ofNat.inj (V.int.inj e)
        exact .inr ⟨j, v, ds, h⟩
    clear hT
    refine ⟨fun σ' H' => ∃ v3 v4, σ' = [some (.ref p), some (.ref a), some (.int n), v3, v4] ∧ Same H1 H' ∧ ∀ H' t, Ext p H1 H' → H' p = some (.ins C_Place dx (plcF t n)) → H' t = some (.tup xs) → Q .non H', ?_, ?_⟩
    · refine ⟨_, rfl, a, xs, rfl, for_enumS ha.sq (fun i σ' H' => ∃ v3 v4, σ' = [some (.ref p), some (.ref a), some (.int n), v3, v4] ∧ Same H1 H' ∧ i ≤ xs.length ∧ ((∃ ds, Rows C_Ratio C_Plane H1 n xs ds ∧ ∀ H' t, Ext p H1 H' → H' p = some (.ins C_Place dx (plcF t n)) → H' t = some (.tup xs) → Q .non H') ∨ ∃ (j : Nat) (v : V) (ds : List (Rat × List Rat × Bool)), i ≤ j ∧ xs[j]? = some v ∧ Rows C_Ratio C_Plane H1 n (xs.take j) ds ∧ (∀ H', Same H1 H' → NoRow K C_Ratio C_Plane H' n v) ∧ BadP C_BadPlace H1 E j)) ?_ ?_ ?_ ?_⟩
      · refine ⟨none, none, rfl, Same.refl _, Nat.zero_le _, ?_⟩
        rcases hc with ⟨ds, h, k⟩ | ⟨j, v, ds, h⟩
        · exact .inl ⟨ds, h, k⟩
        · exact .inr ⟨j, v, ds, Nat.zero_le _, h⟩
      · rintro i σ' H' ⟨v3, v4, _, h, _⟩
        exact h
      · rintro i x T σ' H2 hi ⟨v3, v4, rfl, s2, hle, alt⟩ hTn
        have st := same_new (o := HO.tup [V.int (i : Int), x]) hTn
        have li := ix_lt hi
        simp only [tVar, rIxTH, rIxLH, gTupH, line_le, HO.tup.injEq, HO.lst.injEq, List.length_cons, List.length_nil, at0, at1, rU, tOst, tTest, rIxL, rIxT, C8.tCut, cxOf_K, tC, tOp, tUn, tSeq, tAsg, tNext, tRet, tRetN, tDrop, tIfS, tNever, gName, gNil, gCons, gTup, gSub, tPar, rI, rI0, rU, rEq, rNe, tB, tAnd, tOr, tNot, tAndV, tOrV, tNotV, tIf, tTup, tLst, tNil, tCons, tCB, tCall, tMeth, tMake, tFld, sFld, tDGet, sDPut, tDisp, tPairs, tBreak, tCont, scal_ii, scal_bb, scal_ss, List.getElem?_cons_zero, List.getElem?_cons_succ, List.set_cons_zero, List.set_cons_succ, Option.some.injEq, exists_eq_left', exists_eq_left, exists_and_left, V.int.injEq, V.bl.injEq, V.ref.injEq, V.str.injEq, List.cons.injEq, and_true, true_and, Bool.true_eq, List.nil_append, List.append_nil, List.cons_append, exists_eq', and_self, reduceCtorEq, false_or, or_false, false_and, exists_false, exists_const, and_assoc, if_true, Bool.false_eq_true, if_false, Nat.reduceAdd, Nat.reduceLeDiff, Nat.zero_add, Nat.le_refl, forall_const, st_PlaceD_initD]
        refine ⟨_, upd_same, rfl, _, _, rfl, _, _, rfl, rfl, ?_⟩
        have s2t := s2.trans st
        rcases alt with ⟨ds, hr, hk⟩ | ⟨j, v, ds, hij, hv, hr, hno, hbad⟩
        · obtain ⟨d, hd, hrow⟩ := Fa2.get hr hi
          exact ⟨x, n, rfl, .inl ⟨_, _, _, hrow.same s2t, true, rfl, iteF ⟨s2t, by omega, .inl ⟨ds, hr, hk⟩⟩⟩⟩
        · by_cases hj : i < j
          · obtain ⟨d, hd, hrow⟩ := Fa2.get hr (i := i) (a := x) (by rw [List.getElem?_take_of_lt hj]; exact hi)
            exact ⟨x, n, rfl, .inl ⟨_, _, _, hrow.same s2t, true, rfl, iteF ⟨s2t, by omega, .inr ⟨j, by omega, v, hv, ds, hr, hno, hbad⟩⟩⟩⟩
          · obtain rfl : i = j := by omega
            rw [hi] at hv
            cases hv
            refine ⟨x, n, rfl, .inr ⟨hno _ s2t, false, rfl, iteT ?_⟩⟩
            exact raise_badP (fun Q q => ⟨_, rfl, q⟩) fun H' d e1 e2 => hbad H' d (s2t.trans e1) e2
      · rintro σ' H2 ⟨v3, v4, rfl, s2, _, alt⟩
        rcases alt with ⟨ds, h, k⟩ | ⟨j, v, ds, h, hv, _⟩
        · exact ⟨v3, v4, rfl, s2, k⟩
        · have := ix_lt hv
          omega
    rintro σ' H2 ⟨v3, v4, rfl, s2, k⟩
    have hp2 := s2 _ _ hp
    have ha2 : Sq0 H2 a xs := ha.same s2
    rcases ha2 with h | h
    · refine ⟨_, rfl, a, rfl, xs, .inl ⟨SqL.of h, fun l hl => ?_⟩⟩
      have nl : p ≠ l := ne_of_none hp2 hl
      refine ⟨_, rfl, p, rfl, _, _, _, by rw [upd_ne nl]; exact hp2, PL.cl, PL.nr, by decide, _, rfl, _, rfl, p, rfl, _, _, _, upd_same, PL.cl, PL.ns, one_put _, ?_⟩
      refine k _ l (fun b u nb e => ?_) (by rw [upd_same, plc_put]) (by rw [upd_ne nl.symm, upd_ne nl.symm, upd_same])
      have e2 := s2 _ _ e
      rw [upd_ne nb, upd_ne nb, upd_ne (ne_of_none e2 hl)]
      exact e2
    · refine ⟨_, rfl, a, rfl, xs, .inr ⟨SqT.of h, _, rfl, p, rfl, _, _, _, hp2, PL.cl, PL.nr, by decide, _, rfl, _, rfl, p, rfl, _, _, _, upd_same, PL.cl, PL.ns, one_put _, ?_⟩⟩
      have na : a ≠ p := fun z => by rw [z, hp2] at h; cases h
      refine k _ a (fun b u nb e => ?_) (by rw [upd_same, plc_put]) (by rw [upd_ne na, upd_ne na]; exact h)
      rw [upd_ne nb, upd_ne nb]
      exact s2 _ _ e


end HwL
end

section
namespace HwL
open PySem PySem.Spec PyProof.Rows L2 LamX HwP
variable {P : Program} {w : World} {K : PySem.W.Frag} {mg : Str → Option Value} {base : Heap}

theorem IsPt.same {C : Addr} {H H' : Hp} {x : V} {rs : List Rat} (h : IsPt C H x rs) (e : Same H H') : IsPt C H' x rs := by
  obtain ⟨a, xs, h1, h2, h3⟩ := h
  exact ⟨a, xs, h1, h2.same e, h3.same e⟩
/-- a place with these rows -/
def IsPlc (CR CP CL : Addr) (H : Hp) (x : V) (n : Nat) (ds : List (Rat × List Rat × Bool)) : Prop := ∃ a dx t xs, x = .ref a ∧ H a = some (.ins CL dx (plcF t n)) ∧ H t = some (.tup xs) ∧ Rows CR CP H n xs ds ∧ xs.length ≤ 100
theorem IsPlc.same {CR CP CL : Addr} {H H' : Hp} {x : V} {n : Nat} {ds : List (Rat × List Rat × Bool)} (h : IsPlc CR CP CL H x n ds) (e : Same H H') : IsPlc CR CP CL H' x n ds := by
  obtain ⟨a, dx, t, xs, h1, h2, h3, h4, h5⟩ := h
  exact ⟨a, dx, t, xs, h1, e _ _ h2, e _ _ h3, h4.same e, h5⟩
/-- whether a point is within one row -/
def inRow (rs : List Rat) (d : Rat × List Rat × Bool) : Bool := decide (0 < worth d.1 d.2.1 rs ∨ (worth d.1 d.2.1 rs = 0 ∧ d.2.2 = false))
def spHolds (K : PySem.W.Frag) (CR CP CL CG : Addr) (f : Bool → Bool) : Sp := fun vs H Q E => ∃ (x y : V) (n : Nat) (ds : List (Rat × List Rat × Bool)), vs = [x, y] ∧ IsPlc CR CP CL H x n ds ∧
  ((∃ rs, IsPt CR H y rs ∧ rs.length = n ∧ n ≤ 3 ∧ (∀ d ∈ ds, ∀ z ∈ d.1 :: d.2.1, HwM.Bd 190 z) ∧ (∀ z ∈ rs, HwM.Bd 600 z) ∧ ∀ H', Same H H' → Q (.bl (ds.all fun d => inRow rs (d.1, d.2.1, f d.2.2))) H') ∨ (NoPt K CR H y n ∧ BadG CG H E "point"))
abbrev N_Place_holds : List Str := ["self", "point", "plane", "is_strict"]
theorem sc_Place_holds : FnScope N_Place_holds ["self", "point"] (defScope s_Place_holds) := ⟨rfl, rfl, rfl, by decide +kernel, rfl, by decide +kernel, by decide +kernel⟩
theorem st_Place_holds {v0 v1 : V} : L2.start N_Place_holds [v0, v1] = [some v0, some v1, none, none] := rfl
theorem ok_Place_holds {f : Addr} {fd : FuncData} (F : FD K s_Place_holds "holds" "Place.holds" f fd) {C_Ratio C_Plane C_Place C_BadGiven : Addr} (PL : PlcC K C_Place) (z_all : mg "all" = none) (g_row_holds : Gf P w K mg base "row_holds" 8 ["plane", "is_strict", "point"] (spRowH C_Ratio C_Plane)) (g_check_point : Gf P w K mg base "check_point" 3 ["point", "size"] (spPoint K C_Ratio C_BadGiven)) : FnOk P w K mg base (L2.CX P w) 9 f fd ["self", "point"] (spHolds K C_Ratio C_Plane C_Place C_BadGiven (fun b => b)) := by
  have nd := sc_Place_holds.nd
  refine F.okX sc_Place_holds (fun vs H Q E h => ?_) (fun cdv A outer s H vs Q E hr h => ?_)
  · obtain ⟨x, y, n, ds, rfl, _⟩ := h
    rfl
  · obtain ⟨x, y, n, ds, rfl, ⟨a, dx, t, xs, rfl, ha, ht, hw, hl⟩, hc⟩ := h
    refine ⟨_, (C8.pss_cut (ps_expr (pe_g g_check_point hr (by decide) (passX rfl rfl rfl rfl) rfl (pa_cons (pv 1) (pa_cons (pe_fld (pv 0) rfl) pa_nil))))
        (pss_one (ps_ret (pe_callB (id := "all") (cr_all rfl) (by rfl) z_all (by decide +kernel) (pa_cons (pe_lc (own := [("plane", 2), ("is_strict", 3)]) rfl nd (pi_tup (pe_fld (pv 0) rfl)) (blkOk_by (own := [("plane", 2), ("is_strict", 3)]) (N := N_Place_holds) (sc := defScope s_Place_holds) (by decide +kernel)) (fun _ _ _ _ _ => (pg_tupH (n := 2) rfl (pgs_cons (pg_name (i := 2) nd rfl (Or.inl rfl)) (pgs_cons (pg_name (i := 3) nd rfl (Or.inl rfl)) pgs_nil)))) (fun _ _ _ _ _ => pts_nil) (fun _ _ _ _ _ => (pe_g g_row_holds hr (by decide) passL rfl (pa_cons (pv 2) (pa_cons (pv 3) (pa_cons (pv 1) pa_nil)))))) pa_nil))))), ?_⟩
    simp only [tVar, rIxTH, rIxLH, gTupH, line_le, HO.tup.injEq, HO.lst.injEq, List.length_cons, List.length_nil, at0, at1, rU, tOst, tTest, rIxL, rIxT, C8.tCut, cxOf_K, tC, tOp, tUn, tSeq, tAsg, tNext, tRet, tRetN, tDrop, tIfS, tNever, gName, gNil, gCons, gTup, gSub, tPar, rI, rI0, rU, rEq, rNe, tB, tAnd, tOr, tNot, tAndV, tOrV, tNotV, tIf, tTup, tLst, tNil, tCons, tCB, tCall, tMeth, tMake, tFld, sFld, tDGet, sDPut, tDisp, tPairs, tBreak, tCont, scal_ii, scal_bb, scal_ss, List.getElem?_cons_zero, List.getElem?_cons_succ, List.set_cons_zero, List.set_cons_succ, Option.some.injEq, exists_eq_left', exists_eq_left, exists_and_left, V.int.injEq, V.bl.injEq, V.ref.injEq, V.str.injEq, List.cons.injEq, and_true, true_and, Bool.true_eq, List.nil_append, List.append_nil, List.cons_append, exists_eq', and_self, reduceCtorEq, false_or, or_false, false_and, exists_false, exists_const, and_assoc, if_true, Bool.false_eq_true, if_false, Nat.reduceAdd, Nat.reduceLeDiff, Nat.zero_add, Nat.le_refl, forall_const, st_Place_holds]
    have l2 : List.lookup ("size" : Str) (plcF t n) = some (V.int n) := lkB (by decide) lkA
    have l1 : List.lookup ("rows" : Str) (plcF t n) = some (V.ref t) := lkA
    refine ⟨fun σ' H' => σ' = [some (.ref a), some y, none, none] ∧ Same H H' ∧ ∃ rs, IsPt C_Ratio H' y rs ∧ rs.length = n ∧ n ≤ 3 ∧ (∀ d ∈ ds, ∀ z ∈ d.1 :: d.2.1, HwM.Bd 190 z) ∧ (∀ z ∈ rs, HwM.Bd 600 z) ∧ ∀ H', Same H H' → Q (.bl (ds.all fun d => inRow rs (d.1, d.2.1, d.2.2))) H', ?_, ?_⟩
    · refine ⟨_, _, _, ha, PL.cl, PL.ns, _, l2, ?_⟩
      rcases hc with ⟨rs, hy, l, h6, b1, b2, k⟩ | ⟨hn, ke⟩
      · exact ⟨y, n, rfl, .inl ⟨rs, hy, l, by omega, fun H1 s1 => ⟨rfl, s1, rs, hy.same s1, l, h6, b1, b2, k⟩⟩⟩
      · exact ⟨y, n, rfl, .inr ⟨hn, ke⟩⟩
    rintro σ' H1 ⟨rfl, s1, rs, hy, lr, h6, b1, b2, k⟩
    have ha1 := s1 _ _ ha
    have ht1 := s1 _ _ ht
    have hw1 := hw.same s1
    have lw := Fa2.len hw
    refine ⟨_, rfl, a, _, dx, _, .ref t, rfl, ha1, PL.cl, PL.nr, l1, t, rfl, ⟨_, SqT.of ht1⟩, fun D hD => lc_tup (K := K) (a := t) (xs := xs) (fun i H' => Same H1 H' ∧ H' D = some (.lst ((ds.take i).map fun d => V.bl (inRow rs (d.1, d.2.1, d.2.2))))) ⟨same_new hD, upd_same⟩ (fun i H' _ h => SqT.of (h.1 _ _ ht1)) ?_ ?_⟩
    · rintro i v H2 hi ⟨s2, hacc⟩
      obtain ⟨⟨q, qs, b⟩, hd, tt, pl, rfl, htt, hp, hq⟩ := Fa2.get hw1 hi
      have li := ix_lt hi
      simp only [tVar, rIxTH, rIxLH, gTupH, line_le, HO.tup.injEq, HO.lst.injEq, List.length_cons, List.length_nil, at0, at1, rU, tOst, tTest, rIxL, rIxT, C8.tCut, cxOf_K, tC, tOp, tUn, tSeq, tAsg, tNext, tRet, tRetN, tDrop, tIfS, tNever, gName, gNil, gCons, gTup, gSub, tPar, rI, rI0, rU, rEq, rNe, tB, tAnd, tOr, tNot, tAndV, tOrV, tNotV, tIf, tTup, tLst, tNil, tCons, tCB, tCall, tMeth, tMake, tFld, sFld, tDGet, sDPut, tDisp, tPairs, tBreak, tCont, scal_ii, scal_bb, scal_ss, List.getElem?_cons_zero, List.getElem?_cons_succ, List.set_cons_zero, List.set_cons_succ, Option.some.injEq, exists_eq_left', exists_eq_left, exists_and_left, V.int.injEq, V.bl.injEq, V.ref.injEq, V.str.injEq, List.cons.injEq, and_true, true_and, Bool.true_eq, List.nil_append, List.append_nil, List.cons_append, exists_eq', and_self, reduceCtorEq, false_or, or_false, false_and, exists_false, exists_const, and_assoc, if_true, Bool.false_eq_true, if_false, Nat.reduceAdd, Nat.reduceLeDiff, Nat.zero_add, Nat.le_refl, forall_const, st_Place_holds, wipe, List.map_cons, List.map_nil, tYes]
      refine ⟨_, s2 _ _ htt, rfl, _, _, rfl, _, _, rfl, rfl, ?_⟩
      have hq : qs.length = n := hq
      have hm := List.mem_of_getElem? hd
      refine ⟨pl, y, b, q, qs, rs, rfl, hp.same s2, hy.same s2, by omega, by omega, b1 _ hm, b2, fun H3 s3 => ?_⟩
      refine ⟨_, s3 _ _ hacc, by rw [List.length_map, List.length_take]; exact Nat.lt_of_le_of_lt (show _ ≤ 100 by omega) (by decide), same_updL hD (s2.trans s3), ?_⟩
      rw [upd_same, take_snoc hd, List.map_append]
      rfl
    · rintro H2 ⟨s2, hacc⟩
      rw [lw, List.take_length] at hacc
      refine ⟨D, ds.map fun d => inRow rs (d.1, d.2.1, d.2.2), rfl, SqL.of (by rw [hacc, List.map_map]; rfl), ?_⟩
      have k2 := k H2 (s1.trans s2)
      rw [List.all_map]
      exact k2
abbrev N_Place_closed_holds : List Str := ["self", "point", "plane", "_"]
theorem sc_Place_closed_holds : FnScope N_Place_closed_holds ["self", "point"] (defScope s_Place_closed_holds) := ⟨rfl, rfl, rfl, by decide +kernel, rfl, by decide +kernel, by decide +kernel⟩
theorem st_Place_closed_holds {v0 v1 : V} : L2.start N_Place_closed_holds [v0, v1] = [some v0, some v1, none, none] := rfl
theorem ok_Place_closed_holds {f : Addr} {fd : FuncData} (F : FD K s_Place_closed_holds "closed_holds" "Place.closed_holds" f fd) {C_Ratio C_Plane C_Place C_BadGiven : Addr} (PL : PlcC K C_Place) (z_all : mg "all" = none) (g_row_holds : Gf P w K mg base "row_holds" 8 ["plane", "is_strict", "point"] (spRowH C_Ratio C_Plane)) (g_check_point : Gf P w K mg base "check_point" 3 ["point", "size"] (spPoint K C_Ratio C_BadGiven)) : FnOk P w K mg base (L2.CX P w) 9 f fd ["self", "point"] (spHolds K C_Ratio C_Plane C_Place C_BadGiven (fun _ => false)) := by
  have nd := sc_Place_closed_holds.nd
  refine F.okX sc_Place_closed_holds (fun vs H Q E h => ?_) (fun cdv A outer s H vs Q E hr h => ?_)
  · obtain ⟨x, y, n, ds, rfl, _⟩ := h
    rfl
  · obtain ⟨x, y, n, ds, rfl, ⟨a, dx, t, xs, rfl, ha, ht, hw, hl⟩, hc⟩ := h
    refine ⟨_, (C8.pss_cut (ps_expr (pe_g g_check_point hr (by decide) (passX rfl rfl rfl rfl) rfl (pa_cons (pv 1) (pa_cons (pe_fld (pv 0) rfl) pa_nil))))
        (pss_one (ps_ret (pe_callB (id := "all") (cr_all rfl) (by rfl) z_all (by decide +kernel) (pa_cons (pe_lc (own := [("plane", 2), ("_", 3)]) rfl nd (pi_tup (pe_fld (pv 0) rfl)) (blkOk_by (own := [("plane", 2), ("_", 3)]) (N := N_Place_closed_holds) (sc := defScope s_Place_closed_holds) (by decide +kernel)) (fun _ _ _ _ _ => (pg_tupH (n := 2) rfl (pgs_cons (pg_name (i := 2) nd rfl (Or.inl rfl)) (pgs_cons (pg_name (i := 3) nd rfl (Or.inl rfl)) pgs_nil)))) (fun _ _ _ _ _ => pts_nil) (fun _ _ _ _ _ => (pe_g g_row_holds hr (by decide) passL rfl (pa_cons (pv 2) (pa_cons pe_bl (pa_cons (pv 1) pa_nil)))))) pa_nil))))), ?_⟩
    simp only [tVar, rIxTH, rIxLH, gTupH, line_le, HO.tup.injEq, HO.lst.injEq, List.length_cons, List.length_nil, at0, at1, rU, tOst, tTest, rIxL, rIxT, C8.tCut, cxOf_K, tC, tOp, tUn, tSeq, tAsg, tNext, tRet, tRetN, tDrop, tIfS, tNever, gName, gNil, gCons, gTup, gSub, tPar, rI, rI0, rU, rEq, rNe, tB, tAnd, tOr, tNot, tAndV, tOrV, tNotV, tIf, tTup, tLst, tNil, tCons, tCB, tCall, tMeth, tMake, tFld, sFld, tDGet, sDPut, tDisp, tPairs, tBreak, tCont, scal_ii, scal_bb, scal_ss, List.getElem?_cons_zero, List.getElem?_cons_succ, List.set_cons_zero, List.set_cons_succ, Option.some.injEq, exists_eq_left', exists_eq_left, exists_and_left, V.int.injEq, V.bl.injEq, V.ref.injEq, V.str.injEq, List.cons.injEq, and_true, true_and, Bool.true_eq, List.nil_append, List.append_nil, List.cons_append, exists_eq', and_self, reduceCtorEq, false_or, or_false, false_and, exists_false, exists_const, and_assoc, if_true, Bool.false_eq_true, if_false, Nat.reduceAdd, Nat.reduceLeDiff, Nat.zero_add, Nat.le_refl, forall_const, st_Place_closed_holds]
    have l2 : List.lookup ("size" : Str) (plcF t n) = some (V.int n) := lkB (by decide) lkA
    have l1 : List.lookup ("rows" : Str) (plcF t n) = some (V.ref t) := lkA
    refine ⟨fun σ' H' => σ' = [some (.ref a), some y, none, none] ∧ Same H H' ∧ ∃ rs, IsPt C_Ratio H' y rs ∧ rs.length = n ∧ n ≤ 3 ∧ (∀ d ∈ ds, ∀ z ∈ d.1 :: d.2.1, HwM.Bd 190 z) ∧ (∀ z ∈ rs, HwM.Bd 600 z) ∧ ∀ H', Same H H' → Q (.bl (ds.all fun d => inRow rs (d.1, d.2.1, false))) H', ?_, ?_⟩
    · refine ⟨_, _, _, ha, PL.cl, PL.ns, _, l2, ?_⟩
      rcases hc with ⟨rs, hy, l, h6, b1, b2, k⟩ | ⟨hn, ke⟩
      · exact ⟨y, n, rfl, .inl ⟨rs, hy, l, by omega, fun H1 s1 => ⟨rfl, s1, rs, hy.same s1, l, h6, b1, b2, k⟩⟩⟩
      · exact ⟨y, n, rfl, .inr ⟨hn, ke⟩⟩
    rintro σ' H1 ⟨rfl, s1, rs, hy, lr, h6, b1, b2, k⟩
    have ha1 := s1 _ _ ha
    have ht1 := s1 _ _ ht
    have hw1 := hw.same s1
    have lw := Fa2.len hw
    refine ⟨_, rfl, a, _, dx, _, .ref t, rfl, ha1, PL.cl, PL.nr, l1, t, rfl, ⟨_, SqT.of ht1⟩, fun D hD => lc_tup (K := K) (a := t) (xs := xs) (fun i H' => Same H1 H' ∧ H' D = some (.lst ((ds.take i).map fun d => V.bl (inRow rs (d.1, d.2.1, false))))) ⟨same_new hD, upd_same⟩ (fun i H' _ h => SqT.of (h.1 _ _ ht1)) ?_ ?_⟩
    · rintro i v H2 hi ⟨s2, hacc⟩
      obtain ⟨⟨q, qs, b⟩, hd, tt, pl, rfl, htt, hp, hq⟩ := Fa2.get hw1 hi
      have li := ix_lt hi
      simp only [tVar, rIxTH, rIxLH, gTupH, line_le, HO.tup.injEq, HO.lst.injEq, List.length_cons, List.length_nil, at0, at1, rU, tOst, tTest, rIxL, rIxT, C8.tCut, cxOf_K, tC, tOp, tUn, tSeq, tAsg, tNext, tRet, tRetN, tDrop, tIfS, tNever, gName, gNil, gCons, gTup, gSub, tPar, rI, rI0, rU, rEq, rNe, tB, tAnd, tOr, tNot, tAndV, tOrV, tNotV, tIf, tTup, tLst, tNil, tCons, tCB, tCall, tMeth, tMake, tFld, sFld, tDGet, sDPut, tDisp, tPairs, tBreak, tCont, scal_ii, scal_bb, scal_ss, List.getElem?_cons_zero, List.getElem?_cons_succ, List.set_cons_zero, List.set_cons_succ, Option.some.injEq, exists_eq_left', exists_eq_left, exists_and_left, V.int.injEq, V.bl.injEq, V.ref.injEq, V.str.injEq, List.cons.injEq, and_true, true_and, Bool.true_eq, List.nil_append, List.append_nil, List.cons_append, exists_eq', and_self, reduceCtorEq, false_or, or_false, false_and, exists_false, exists_const, and_assoc, if_true, Bool.false_eq_true, if_false, Nat.reduceAdd, Nat.reduceLeDiff, Nat.zero_add, Nat.le_refl, forall_const, st_Place_closed_holds, wipe, List.map_cons, List.map_nil, tYes]
      refine ⟨_, s2 _ _ htt, rfl, _, _, rfl, _, _, rfl, rfl, ?_⟩
      have hq : qs.length = n := hq
      have hm := List.mem_of_getElem? hd
      refine ⟨pl, y, false, q, qs, rs, rfl, hp.same s2, hy.same s2, by omega, by omega, b1 _ hm, b2, fun H3 s3 => ?_⟩
      refine ⟨_, s3 _ _ hacc, by rw [List.length_map, List.length_take]; exact Nat.lt_of_le_of_lt (show _ ≤ 100 by omega) (by decide), same_updL hD (s2.trans s3), ?_⟩
      rw [upd_same, take_snoc hd, List.map_append]
      rfl
    · rintro H2 ⟨s2, hacc⟩
      rw [lw, List.take_length] at hacc
      refine ⟨D, ds.map fun d => inRow rs (d.1, d.2.1, false), rfl, SqL.of (by rw [hacc, List.map_map]; rfl), ?_⟩
      have k2 := k H2 (s1.trans s2)
      rw [List.all_map]
      exact k2
theorem made_plc {CR CP CL CB CX a : Addr} {H : Hp} {n : Nat} {xs : List V} {ds : List (Rat × List Rat × Bool)} {Q : Addr → Hp → Prop} {E : XK} (R : RatC K CR) (hl : Sq0 H a xs) (le : xs.length ≤ 100) (hr : Rows CR CP H n xs ds) (k : ∀ H' y, Same H H' → IsPlc CR CP CL H' (.ref y) n ds → Q y H') (x dx : Addr) (hx : H x = none) (hd : H dx = none) (hne : dx ≠ x) :
    spPlcI K CR CP CL CB CX [.ref x, .ref a, .int n] (upd (upd H dx (.own x)) x (.ins CL dx [])) (fun v H2 => v = .non ∧ Q x H2) E := by
  have sm : Same H (upd (upd H dx (.own x)) x (.ins CL dx [])) := fun c o e => by rw [upd_ne (ne_of_none e hx), upd_ne (ne_of_none e hd)]; exact e
  refine ⟨x, dx, a, .int n, xs, true, false, rfl, upd_same, hl.same sm, le, ty_int R n, .inl ⟨n, ds, rfl, rfl, hr.same sm, fun H' t e h1 h2 => ⟨rfl, ?_⟩⟩⟩
  have s' : Same H H' := fun c o z => e _ _ (ne_of_none z hx) (sm _ _ z)
  exact k H' x s' ⟨x, dx, t, xs, rfl, h1, h2, hr.same s', le⟩
theorem bad_plc {CR CP CL CB CX a : Addr} {H : Hp} {n j : Nat} {v : V} {xs : List V} {ds : List (Rat × List Rat × Bool)} {Q : VK} {E : XK} (R : RatC K CR) (hl : Sq0 H a xs) (le : xs.length ≤ 100) (hv : xs[j]? = some v) (hr : Rows CR CP H n (xs.take j) ds) (hno : ∀ H', Same H H' → NoRow K CR CP H' n v) (ke : BadP CX H E j) (x dx : Addr) (hx : H x = none) (hd : H dx = none) (hne : dx ≠ x) :
    spPlcI K CR CP CL CB CX [.ref x, .ref a, .int n] (upd (upd H dx (.own x)) x (.ins CL dx [])) (fun v H2 => v = .non ∧ Q (.ref x) H2) E := by
  have sm : Same H (upd (upd H dx (.own x)) x (.ins CL dx [])) := fun c o e => by rw [upd_ne (ne_of_none e hx), upd_ne (ne_of_none e hd)]; exact e
  exact ⟨x, dx, a, .int n, xs, true, false, rfl, upd_same, hl.same sm, le, ty_int R n, .inr (.inr ⟨n, j, v, ds, rfl, rfl, hv, hr.same sm, fun H' s' => hno H' (sm.trans s'), fun H' d e1 e2 => ke H' d (sm.trans e1) e2⟩)⟩
def spWith (K : PySem.W.Frag) (CR CP CL CX : Addr) : Sp := fun vs H Q E => ∃ (x : V) (b : Addr) (n : Nat) (ds : List (Rat × List Rat × Bool)) (ys : List V), vs = [x, .ref b] ∧ IsPlc CR CP CL H x n ds ∧ ds.length + ys.length ≤ 100 ∧ Sq0 H b ys ∧
  ((∃ es, Rows CR CP H n ys es ∧ ∀ H' z, Same H H' → IsPlc CR CP CL H' z n (ds ++ es) → Q z H') ∨
   (∃ (j : Nat) (v : V) (es : List (Rat × List Rat × Bool)), ys[j]? = some v ∧ Rows CR CP H n (ys.take j) es ∧ (∀ H', Same H H' → NoRow K CR CP H' n v) ∧ BadP CX H E ((ds.length + j : Nat) : Int)))
abbrev N_Place_with_rows : List Str := ["self", "rows"]
theorem sc_Place_with_rows : FnScope N_Place_with_rows ["self", "rows"] (defScope s_Place_with_rows) := ⟨rfl, rfl, rfl, by decide +kernel, rfl, by decide +kernel, by decide +kernel⟩
theorem st_Place_with_rows {v0 v1 : V} : L2.start N_Place_with_rows [v0, v1] = [some v0, some v1] := rfl
theorem ok_Place_with_rows {f : Addr} {fd : FuncData} (F : FD K s_Place_with_rows "with_rows" "Place.with_rows" f fd) {C_Ratio C_Plane C_Place C_BadNumber C_BadPlace : Addr} (R : RatC K C_Ratio) (PL : PlcC K C_Place) (g_Place : Kf P w K mg base "Place" C_Place 4 ["self", "rows", "size"] [] (spPlcI K C_Ratio C_Plane C_Place C_BadNumber C_BadPlace)) : FnOk P w K mg base (L2.CX P w) 6 f fd ["self", "rows"] (spWith K C_Ratio C_Plane C_Place C_BadPlace) := by
  have nd := sc_Place_with_rows.nd
  refine F.okX sc_Place_with_rows (fun vs H Q E h => ?_) (fun cdv A outer s H vs Q E hr h => ?_)
  · obtain ⟨x, b, n, ds, ys, rfl, _⟩ := h
    rfl
  · obtain ⟨x, b, n, ds, ys, rfl, ⟨a, dx, t, xs, rfl, ha, ht, hw, hl⟩, hle, hb, hc⟩ := h
    refine ⟨_, (pss_one (ps_ret (pe_k g_Place hr (by decide) (passX rfl rfl rfl rfl) rfl (pa_cons (pe_lst (pa_star (pe_fld (pv 0) rfl) (pa_star (pv 1) pa_nil))) (pa_cons (pe_fld (pv 0) rfl) pa_nil))))), ?_⟩
    simp only [tVar, rIxTH, rIxLH, gTupH, line_le, HO.tup.injEq, HO.lst.injEq, List.length_cons, List.length_nil, at0, at1, rU, tOst, tTest, rIxL, rIxT, C8.tCut, cxOf_K, tC, tOp, tUn, tSeq, tAsg, tNext, tRet, tRetN, tDrop, tIfS, tNever, gName, gNil, gCons, gTup, gSub, tPar, rI, rI0, rU, rEq, rNe, tB, tAnd, tOr, tNot, tAndV, tOrV, tNotV, tIf, tTup, tLst, tNil, tCons, tCB, tCall, tMeth, tMake, tFld, sFld, tDGet, sDPut, tDisp, tPairs, tBreak, tCont, scal_ii, scal_bb, scal_ss, List.getElem?_cons_zero, List.getElem?_cons_succ, List.set_cons_zero, List.set_cons_succ, Option.some.injEq, exists_eq_left', exists_eq_left, exists_and_left, V.int.injEq, V.bl.injEq, V.ref.injEq, V.str.injEq, List.cons.injEq, and_true, true_and, Bool.true_eq, List.nil_append, List.append_nil, List.cons_append, exists_eq', and_self, reduceCtorEq, false_or, or_false, false_and, exists_false, exists_const, and_assoc, if_true, Bool.false_eq_true, if_false, Nat.reduceAdd, Nat.reduceLeDiff, Nat.zero_add, Nat.le_refl, forall_const, st_Place_with_rows]
    have l2 : List.lookup ("size" : Str) (plcF t n) = some (V.int n) := lkB (by decide) lkA
    have l1 : List.lookup ("rows" : Str) (plcF t n) = some (V.ref t) := lkA
    have lw := Fa2.len hw
    refine ⟨.ref a, rfl, a, _, dx, _, .ref t, rfl, ha, PL.cl, PL.nr, l1, t, xs, rfl, .inr (SqT.of ht), ?_⟩
    refine ⟨.ref b, rfl, b, ys, rfl, hb.sq, ?_⟩
    simp only [tVar, rIxTH, rIxLH, gTupH, line_le, HO.tup.injEq, HO.lst.injEq, List.length_cons, List.length_nil, at0, at1, rU, tOst, tTest, rIxL, rIxT, C8.tCut, cxOf_K, tC, tOp, tUn, tSeq, tAsg, tNext, tRet, tRetN, tDrop, tIfS, tNever, gName, gNil, gCons, gTup, gSub, tPar, rI, rI0, rU, rEq, rNe, tB, tAnd, tOr, tNot, tAndV, tOrV, tNotV, tIf, tTup, tLst, tNil, tCons, tCB, tCall, tMeth, tMake, tFld, sFld, tDGet, sDPut, tDisp, tPairs, tBreak, tCont, scal_ii, scal_bb, scal_ss, List.getElem?_cons_zero, List.getElem?_cons_succ, List.set_cons_zero, List.set_cons_succ, Option.some.injEq, exists_eq_left', exists_eq_left, exists_and_left, V.int.injEq, V.bl.injEq, V.ref.injEq, V.str.injEq, List.cons.injEq, and_true, true_and, Bool.true_eq, List.nil_append, List.append_nil, List.cons_append, exists_eq', and_self, reduceCtorEq, false_or, or_false, false_and, exists_false, exists_const, and_assoc, if_true, Bool.false_eq_true, if_false, Nat.reduceAdd, Nat.reduceLeDiff, Nat.zero_add, Nat.le_refl, forall_const, st_Place_with_rows]
    refine ⟨line_le (by rw [List.length_append]; omega), fun p1 hp1 => ?_⟩
    have s1 := same_new (o := HO.lst (xs ++ ys)) hp1
    refine ⟨_, _, _, s1 _ _ ha, PL.cl, PL.ns, _, l2, ?_⟩
    rcases hc with ⟨es, he, k⟩ | ⟨j, v, es, hv, he, hno, hbad⟩
    · exact made_plc R (.inl upd_same) (by rw [List.length_append]; omega) ((hw.same s1).app (he.same s1)) fun H' z s2 hz => k H' _ (s1.trans s2) hz
    · have hv2 : (xs ++ ys)[ds.length + j]? = some v := by rw [List.getElem?_append_right (by omega)]; rw [show ds.length + j - xs.length = j by omega]; exact hv
      have hr2 : Rows C_Ratio C_Plane (upd H p1 (HO.lst (xs ++ ys))) n ((xs ++ ys).take (ds.length + j)) (ds ++ es) := by
        rw [List.take_append, List.take_of_length_le (by omega), show ds.length + j - xs.length = j by omega]
        exact (hw.same s1).app (he.same s1)
      exact bad_plc R (.inl upd_same) (by rw [List.length_append]; omega) hv2 hr2 (fun H' s' => hno H' (s1.trans s')) fun H' d e1 e2 => hbad H' d (s1.trans e1) e2


end HwL
end

section
namespace HwL
open PySem PySem.Spec PyProof.Rows L2 LamX HwP
variable {P : Program} {w : World} {K : PySem.W.Frag} {mg : Str → Option Value} {base : Heap}

theorem all_eqG {α : Type} [DecidableEq α] {qs rs : List α} : ((List.range (min qs.length rs.length)).all (fun i => decide (qs[i]? = rs[i]?)) && qs.length == rs.length) = decide (qs = rs) := by
  rw [Bool.eq_iff_iff]
  simp only [Bool.and_eq_true, List.all_eq_true, decide_eq_true_eq, beq_iff_eq]
  refine ⟨fun ⟨h1, h2⟩ => List.ext_getElem? fun i => ?_, fun h => by rw [h]; exact ⟨fun _ _ => rfl, rfl⟩⟩
  rcases Nat.lt_or_ge i qs.length with h | h
  · exact h1 i (List.mem_range.mpr (by omega))
  · rw [List.getElem?_eq_none h, List.getElem?_eq_none (by omega)]
theorem allR_inj {C : Addr} {H : Hp} {xs : List V} {qs : List Rat} (h : AllR C H xs qs) : ∀ {rs : List Rat}, AllR C H xs rs → qs = rs := by
  unfold AllR at h
  induction h with
  | nil => intro rs k; cases k; rfl
  | cons h _ ih =>
    intro rs k
    cases k with
    | cons k1 k2 => rw [h.inj k1, ih k2]
theorem IsP.inj {CR CP : Addr} {H : Hp} {x : V} {q r : Rat} {qs rs : List Rat} (h : IsP CR CP H x q qs) (k : IsP CR CP H x r rs) : q = r ∧ qs = rs := by
  obtain ⟨a, dx, fs, rfl, e, v0, t, ys, r0, rfl, h1, h2, h3, _⟩ := h
  obtain ⟨b, dy, gs, e2, e3, w0, t2, ys2, r2, rfl, k1, k2, k3, _⟩ := k
  cases e2
  rw [e] at e3
  injection e3 with e3
  injection e3 with _ _ e3
  unfold plF at e3
  simp only [List.cons.injEq, Prod.mk.injEq, true_and, V.ref.injEq] at e3
  obtain ⟨rfl, rfl, _⟩ := e3
  rw [h2] at k2
  cases k2
  exact ⟨h1.inj k1, allR_inj h3 k3⟩
def DPla (CR CP : Addr) : EqvB := fun x y H b => ∃ q qs r rs, IsP CR CP H x q qs ∧ IsP CR CP H y r rs ∧ b = decide (q = r ∧ qs = rs)
theorem mon_pla {CR CP : Addr} : MonB (DPla CR CP) := fun x y H H' b e ⟨q, qs, r, rs, h1, h2, h3⟩ => ⟨q, qs, r, rs, h1.same e, h2.same e, h3⟩
theorem eqB_pla {X : Cx} {CR CP : Addr} {k : Nat} {E : XK} (c : Ef X.prog X.w X.K X.mg X.base CP k (spEqP X.K CR CP)) (hx : Passes (L2.CX X.prog X.w) X E) : EqB X k (DPla CR CP) := by
  obtain ⟨f, fd, ps, h1, h2, h3, h4⟩ := c.ex
  refine (rcB_own (D := DPla CR CP) h4 h1 h2 h3 hx fun x y H b ⟨q, qs, r, rs, hx, hy, hb⟩ => ?_).eqB fun x y H b ⟨q, qs, r, rs, hx, hy, hb⟩ => ?_
  · obtain ⟨a, dx, fx, rfl, ha, _⟩ := id hx
    obtain ⟨d, dy, fy, rfl, hd, _⟩ := id hy
    exact ⟨a, d, dx, dy, _, _, rfl, rfl, ha, hd, fun Q hQ => ⟨_, _, q, qs, rfl, hx, .inl ⟨r, rs, hy, fun H' s => by rw [← hb]; exact hQ _ s⟩⟩⟩
  · obtain ⟨a, dx, fx, rfl, ha, _⟩ := id hx
    obtain ⟨d, dy, fy, rfl, hd, _⟩ := id hy
    exact ⟨a, d, rfl, rfl, fun z => by subst z; rw [hb]; exact decide_eq_true (hx.inj hy)⟩
theorem RcB.weak {X : Cx} {n : Nat} {D D' : EqvB} (h : RcB X n D) (e : ∀ x y H b, D' x y H b → D x y H b) : RcB X n D' := fun A pins s σ H x y u v b sb I rx ry d => h A pins s σ H x y u v b sb I rx ry (e _ _ _ _ d)
def DRow (CR CP : Addr) : EqvB := fun x y H b => ∃ n m q qs c r rs d, IsRow CR CP H x n q qs c ∧ IsRow CR CP H y m r rs d ∧ b = decide ((q, qs, c) = (r, rs, d))
theorem mon_row {CR CP : Addr} : MonB (DRow CR CP) := fun x y H H' b e ⟨n, m, q, qs, c, r, rs, d, h1, h2, h3⟩ => ⟨n, m, q, qs, c, r, rs, d, h1.same e, h2.same e, h3⟩
theorem eqB_row {X : Cx} {CR CP : Addr} {k : Nat} {E : XK} (c : Ef X.prog X.w X.K X.mg X.base CP k (spEqP X.K CR CP)) (hx : Passes (L2.CX X.prog X.w) X E) : EqB X (k + 1) (DRow CR CP) := by
  refine RcB.eqB (RcB.weak (rcB_tup (MonB.or mon_pla monB_bl) (EqB.or (eqB_pla c hx) eqB_bl)) fun x y H b h => ?_) fun x y H b h => ?_
  · obtain ⟨n, m, q, qs, c, r, rs, d, ⟨t1, p1, rfl, ht1, hp1, _⟩, ⟨t2, p2, rfl, ht2, hp2, _⟩, rfl⟩ := h
    refine ⟨t1, t2, _, _, fun i => if i = 0 then decide (q = r ∧ qs = rs) else decide (c = d), rfl, rfl, SqT.of ht1, SqT.of ht2, fun i u v hu hv => ?_, ?_⟩
    · match i, hu, hv with
      | 0, hu, hv => cases hu; cases hv; exact .inl ⟨q, qs, r, rs, hp1, hp2, rfl⟩
      | 1, hu, hv => cases hu; cases hv; exact .inr ⟨c, d, rfl, rfl, rfl⟩
    · have h2 : List.range (min [p1, V.bl c].length [p2, V.bl d].length) = [0, 1] := rfl
      rw [h2]
      simp [and_assoc, Bool.and_assoc]
  · obtain ⟨n, m, q, qs, c, r, rs, d, ⟨t1, p1, rfl, ht1, hp1, _⟩, ⟨t2, p2, rfl, ht2, hp2, _⟩, rfl⟩ := h
    refine ⟨t1, t2, rfl, rfl, fun z => ?_⟩
    subst z
    rw [ht1] at ht2
    cases ht2
    obtain ⟨rfl, rfl⟩ := hp1.inj hp2
    exact decide_eq_true rfl
def rEqRows (K : PySem.W.Frag) (CR CP : Addr) : R2 := fun x y H Q => ∃ a c xs ys n m ds es, x = .ref a ∧ y = .ref c ∧ SqT K H a xs ∧ SqT K H c ys ∧ Rows CR CP H n xs ds ∧ Rows CR CP H m ys es ∧ ∀ H', Same H H' → Q (.bl (decide (ds = es))) H'
theorem op_rows {X : Cx} {CR CP : Addr} {j k : Nat} {E : XK} (c : Ef X.prog X.w X.K X.mg X.base CP k (spEqP X.K CR CP)) (hr : Room j X.A) (hk : k + 2 ≤ j) (hx : Passes (L2.CX X.prog X.w) X E) : OpR X (compareOp .Eq) (rEqRows X.K CR CP) := by
  intro pins s σ H x y v u Q I rx ry h
  obtain ⟨a, d, xs, ys, n, m, ds, es, rfl, rfl, ha, hd, hq, hs, k⟩ := h
  refine op_eqB (rcB_tup mon_row (eqB_row c hx)) (hr.mono hk) pins s σ H _ _ v u Q I rx ry ⟨_, ⟨a, d, xs, ys, fun i => decide (ds[i]? = es[i]?), rfl, rfl, ha, hd, fun i u v hu hv => ?_, rfl⟩, ?_⟩
  · obtain ⟨q, hq1, e1⟩ := Fa2.get hq hu
    obtain ⟨r, hr1, e2⟩ := Fa2.get hs hv
    exact ⟨n, m, q.1, q.2.1, q.2.2, r.1, r.2.1, r.2.2, e1, e2, by show decide (ds[i]? = es[i]?) = _; rw [hq1, hr1]; exact decide_eq_decide.mpr ⟨fun z => Option.some.inj z, fun z => congrArg some z⟩⟩
  · rw [Fa2.len hq, Fa2.len hs, all_eqG]
    exact k
def spEqL (K : PySem.W.Frag) (CR CP CL : Addr) : Sp := fun vs H Q _ => ∃ (x y : V) (n : Nat) (ds : List (Rat × List Rat × Bool)), vs = [x, y] ∧ IsPlc CR CP CL H x n ds ∧
  ((∃ m es, IsPlc CR CP CL H y m es ∧ ∀ H', Same H H' → Q (.bl (decide (n = m ∧ ds = es))) H') ∨ (∃ t, TyX K H y t ∧ PySem.W.kitOne K t (.ref CL) = some false ∧ Q (.bl false) H))
/-- the class Place among the kinds -/
structure PlcI (K : PySem.W.Frag) (C : Addr) : Prop where
  ha : PySem.W.findIn K (.ref C) "__class__" = some (some (.builtin "object.__class__"))
  hn : PySem.W.specialIn K (.builtin "object.__class__") "__get__" = some (some (.builtin "getset_descriptor.__get__"))
  htk : PySem.W.takesIn K (.builtin "object.__class__") = some true
  hm : PySem.W.mroIn K C (.type "object") = some true
abbrev N_PlaceD_eqD : List Str := ["self", "other"]
theorem sc_PlaceD_eqD : FnScope N_PlaceD_eqD ["self", "other"] (defScope s_PlaceD_eqD) := ⟨rfl, rfl, rfl, by decide +kernel, rfl, by decide +kernel, by decide +kernel⟩
theorem st_PlaceD_eqD {v0 v1 : V} : L2.start N_PlaceD_eqD [v0, v1] = [some v0, some v1] := rfl
theorem ok_PlaceD_eqD {f : Addr} {fd : FuncData} (F : FD K s_PlaceD_eqD "__eq__" "Place.__eq__" f fd) {C_Ratio C_Plane C_Place : Addr} (PL : PlcC K C_Place) (LI : PlcI K C_Place) (z_isinstance : mg "isinstance" = none) (m_Place : mg "Place" = some (.ref C_Place)) (g_PlaneD_eqD : Ef P w K mg base C_Plane 4 (spEqP K C_Ratio C_Plane)) : FnOk P w K mg base (L2.CX P w) 7 f fd ["self", "other"] (spEqL K C_Ratio C_Plane C_Place) := by
  have nd := sc_PlaceD_eqD.nd
  refine F.ok0 sc_PlaceD_eqD (fun vs H Q E h => ?_) (fun cdv A outer s H vs Q E hr h => ?_)
  · obtain ⟨x, y, n, ds, rfl, _⟩ := h
    rfl
  · obtain ⟨x, y, n, ds, rfl, hx, hc⟩ := h
    refine ⟨_, (pss_one (ps_ret (pe_and (pe_callB (id := "isinstance") (r := rIsi K) (call_isiE rfl) (by rfl) z_isinstance (by decide +kernel) (pa_cons (pv 1) (pa_cons (pe_glob (v := .ref C_Place) rfl m_Place rfl) pa_nil))) (pe_and (pe_cmpR op_eq (pe_fld (pv 0) rfl) (pe_fld (pv 1) rfl) (nomark _)) (pe_one (pe_cmpR (op_rows g_PlaneD_eqD hr (by decide) passL) (pe_fld (pv 0) rfl) (pe_fld (pv 1) rfl) (nomark _))))))), ?_⟩
    simp only [tVar, rIxTH, rIxLH, gTupH, line_le, HO.tup.injEq, HO.lst.injEq, List.length_cons, List.length_nil, at0, at1, rU, tOst, tTest, rIxL, rIxT, C8.tCut, cxOf_K, tC, tOp, tUn, tSeq, tAsg, tNext, tRet, tRetN, tDrop, tIfS, tNever, gName, gNil, gCons, gTup, gSub, tPar, rI, rI0, rU, rEq, rNe, tB, tAnd, tOr, tNot, tAndV, tOrV, tNotV, tIf, tTup, tLst, tNil, tCons, tCB, tCall, tMeth, tMake, tFld, sFld, tDGet, sDPut, tDisp, tPairs, tBreak, tCont, scal_ii, scal_bb, scal_ss, List.getElem?_cons_zero, List.getElem?_cons_succ, List.set_cons_zero, List.set_cons_succ, Option.some.injEq, exists_eq_left', exists_eq_left, exists_and_left, V.int.injEq, V.bl.injEq, V.ref.injEq, V.str.injEq, List.cons.injEq, and_true, true_and, Bool.true_eq, List.nil_append, List.append_nil, List.cons_append, exists_eq', and_self, reduceCtorEq, false_or, or_false, false_and, exists_false, exists_const, and_assoc, if_true, Bool.false_eq_true, if_false, Nat.reduceAdd, Nat.reduceLeDiff, Nat.zero_add, Nat.le_refl, forall_const, st_PlaceD_eqD, rIsi]
    rcases hc with ⟨m, es, hy, k⟩ | ⟨t, ty, e, k⟩
    · obtain ⟨a, dx, t, xs, rfl, ha, ht, hw, hl⟩ := hx
      obtain ⟨b, dy, t2, ys, rfl, hb, ht2, hw2, hl2⟩ := hy
      have l2 : ∀ {t : Addr} {n : Int}, List.lookup ("size" : Str) (plcF t n) = some (V.int n) := fun {t n} => lkB (by decide) lkA
      have l1 : ∀ {t : Addr} {n : Int}, List.lookup ("rows" : Str) (plcF t n) = some (V.ref t) := fun {t n} => lkA
      refine ⟨.ref C_Place, .ref C_Place, .own _, .base (.ins hb PL.cl LI.ha LI.hn LI.htk LI.hm), true, by unfold PySem.W.kitOne; simp, iteT ⟨a, rfl, _, _, _, ha, PL.cl, PL.ns, _, l2, b, rfl, _, _, _, hb, PL.cl, PL.ns, _, l2, rfl, ite2 (fun h1 => ?_) (fun h1 => ?_)⟩⟩
      · have e : n = m := Int.ofNat.inj (V.int.inj (of_decide_eq_true h1))
        refine ⟨a, rfl, _, _, _, ha, PL.cl, PL.nr, _, l1, b, rfl, _, _, _, hb, PL.cl, PL.nr, _, l1, ?_⟩
        refine ⟨t, t2, xs, ys, n, m, ds, es, rfl, rfl, SqT.of ht, SqT.of ht2, hw, hw2, fun H' s => ?_⟩
        have k := k H' s
        rw [show decide (n = m ∧ ds = es) = decide (ds = es) from decide_eq_decide.mpr ⟨fun z => z.2, fun z => ⟨e, z⟩⟩] at k
        exact k
      · have k := k H (Same.refl _)
        rw [decide_eq_false (fun z => h1 (decide_eq_true (by rw [z.1])))] at k
        exact k
    · exact ⟨t, .ref C_Place, .own _, ty, false, e, iteF k⟩


end HwL
end

section
namespace HwL
open PySem PySem.Spec PyProof.Rows L2 LamX HwP
variable {P : Program} {w : World} {K : PySem.W.Frag} {mg : Str → Option Value} {base : Heap}

/-- a row of the law: a form and whether it is strict -/
def LRow (H : Hp) (x : V) (n : Nat) (q : Rat) (qs : List Rat) (b : Bool) : Prop := ∃ t f, x = .ref t ∧ H t = some (.tup [.ref f, .bl b]) ∧ IsForm H f (q :: qs) ∧ qs.length = n
theorem LRow.same {H H' : Hp} {x : V} {n : Nat} {q : Rat} {qs : List Rat} {b : Bool} (h : LRow H x n q qs b) (e : Same H H') : LRow H' x n q qs b := by
  obtain ⟨t, f, h1, h2, h3, h4⟩ := h
  exact ⟨t, f, h1, e _ _ h2, h3.same e, h4⟩
theorem LRow.ext {H H' : Hp} {x : V} {n : Nat} {q : Rat} {qs : List Rat} {b : Bool} {p l : Addr} {c : Int} (h : LRow H x n q qs b) (hp : PenAt H p l c) (e : Ext p H H') : LRow H' x n q qs b := by
  obtain ⟨t, f, h1, h2, h3, h4⟩ := h
  exact ⟨t, f, h1, e _ _ (tup_noPen hp h2) h2, h3.ext hp e, h4⟩
def LRows (H : Hp) (n : Nat) (xs : List V) (ds : List (Rat × List Rat × Bool)) : Prop := Fa2 (fun x d => LRow H x n d.1 d.2.1 d.2.2) xs ds
theorem LRows.same {H H' : Hp} {n : Nat} {xs : List V} {ds : List (Rat × List Rat × Bool)} (h : LRows H n xs ds) (e : Same H H') : LRows H' n xs ds := Fa2.mono h fun _ _ z => z.same e
theorem LRows.ext {H H' : Hp} {n : Nat} {xs : List V} {ds : List (Rat × List Rat × Bool)} {p l : Addr} {c : Int} (h : LRows H n xs ds) (hp : PenAt H p l c) (e : Ext p H H') : LRows H' n xs ds := Fa2.mono h fun _ _ z => z.ext hp e
def RBd (k : Nat) (ds : List (Rat × List Rat × Bool)) : Prop := ∀ d ∈ ds, ∀ z ∈ d.1 :: d.2.1, HwM.Bd k z
theorem all_no {α : Type} {f : α → Bool} {ds : List α} {i : Nat} {d : α} (hd : ds[i]? = some d) (h : f d = false) : ds.all f = false := Bool.eq_false_iff.mpr fun z => by
  have := List.all_eq_true.mp z d (List.mem_of_getElem? hd)
  rw [h] at this
  cases this
def spLHolds : Sp := fun vs H Q _ => ∃ (a b : Addr) (xs ys : List V) (n : Nat) (ds : List (Rat × List Rat × Bool)) (rs : List Rat), vs = [.ref a, .ref b] ∧ H a = some (.lst xs) ∧ LRows H n xs ds ∧ H b = some (.lst ys) ∧ AllQ H ys rs ∧ rs.length = n ∧ n ≤ 3 ∧ RBd 190 ds ∧ (∀ z ∈ rs, HwM.Bd 600 z) ∧ ∀ H', Same H H' → Q (.bl (ds.all (inRow rs))) H'
abbrev N_L_holds : List Str := ["_law_rows", "_law_point", "_law_form", "_law_strict", "_law_worth"]
theorem sc_L_holds : FnScope N_L_holds ["_law_rows", "_law_point"] (defScope s_L_holds) := ⟨rfl, rfl, rfl, by decide +kernel, rfl, by decide +kernel, by decide +kernel⟩
theorem st_L_holds {v0 v1 : V} : L2.start N_L_holds [v0, v1] = [some v0, some v1, none, none, none] := rfl
theorem ok_L_holds {f : Addr} {fd : FuncData} (F : FD K s_L_holds "_law_holds" "_law_holds" f fd) (g_L_at : Gf P w K mg base "_law_at" 4 ["_law_form", "_law_point"] (spLAt)) : FnOk P w K mg base (L2.CX P w) 5 f fd ["_law_rows", "_law_point"] (spLHolds) := by
  have nd := sc_L_holds.nd
  refine F.ok0 sc_L_holds (fun vs H Q E h => ?_) (fun cdv A outer s H vs Q E hr h => ?_)
  · obtain ⟨a, b, xs, ys, n, ds, rs, rfl, _⟩ := h
    rfl
  · obtain ⟨a, b, xs, ys, n, ds, rs, rfl, ha, hw, hb, hy, lr, hn, bd, br, k⟩ := h
    refine ⟨_, (pss_cons (ps_for PassesOwn.never rfl (pi_list (pv 0)) (pg_tupH rfl (pgs_cons (pg_name (i := 2) nd rfl (Or.inl rfl)) (pgs_cons (pg_name (i := 3) nd rfl (Or.inl rfl)) pgs_nil))) (pss_cons (ps_set (i := 4) nd rfl (Or.inl rfl) (pe_ix ix_tupH (pe_g g_L_at hr (by decide) passL rfl (pa_cons (pv 2) (pa_cons (pv 1) pa_nil))) pe_int (fun _ _ => rfl)))
        (pss_one (ps_if (PW.pt (pw_or (pt_cmpR op_lt (pv 4) pe_int (nomark _)) (pw_or1 (PW.pt (pw_and (pt_cmpR op_eq (pv 4) pe_int (nomark _)) (pw_and1 (pt_val (pv 3)))))))) (pss_one (ps_ret pe_bl)) pss_nil))))
        (pss_one (ps_ret pe_bl))), ?_⟩
    simp only [tVar, rIxTH, rIxLH, gTupH, line_le, HO.tup.injEq, HO.lst.injEq, List.length_cons, List.length_nil, at0, at1, rU, tOst, tTest, rIxL, rIxT, C8.tCut, cxOf_K, tC, tOp, tUn, tSeq, tAsg, tNext, tRet, tRetN, tDrop, tIfS, tNever, gName, gNil, gCons, gTup, gSub, tPar, rI, rI0, rU, rEq, rNe, tB, tAnd, tOr, tNot, tAndV, tOrV, tNotV, tIf, tTup, tLst, tNil, tCons, tCB, tCall, tMeth, tMake, tFld, sFld, tDGet, sDPut, tDisp, tPairs, tBreak, tCont, scal_ii, scal_bb, scal_ss, List.getElem?_cons_zero, List.getElem?_cons_succ, List.set_cons_zero, List.set_cons_succ, Option.some.injEq, exists_eq_left', exists_eq_left, exists_and_left, V.int.injEq, V.bl.injEq, V.ref.injEq, V.str.injEq, List.cons.injEq, and_true, true_and, Bool.true_eq, List.nil_append, List.append_nil, List.cons_append, exists_eq', and_self, reduceCtorEq, false_or, or_false, false_and, exists_false, exists_const, and_assoc, if_true, Bool.false_eq_true, if_false, Nat.reduceAdd, Nat.reduceLeDiff, Nat.zero_add, Nat.le_refl, forall_const, st_L_holds]
    refine ⟨.ref a, rfl, a, rfl, ⟨_, SqL.of ha⟩, for_list (xs := xs) (fun i σ' H' => ∃ v2 v3 v4, σ' = [some (.ref a), some (.ref b), v2, v3, v4] ∧ Same H H' ∧ (ds.take i).all (inRow rs) = true) ?_ ?_ ?_ ?_⟩
    · exact ⟨_, _, _, rfl, Same.refl _, rfl⟩
    · rintro i σ' H' _ ⟨v2, v3, v4, _, s, _⟩
      exact SqL.of (s _ _ ha)
    · rintro i v σ' H1 hi ⟨v2, v3, v4, rfl, s1, hall⟩
      obtain ⟨⟨q, qs, c⟩, hd, t, f', rfl, ht, hf, lq⟩ := Fa2.get hw hi
      have lq : qs.length = n := lq
      simp only [tVar, rIxTH, rIxLH, gTupH, line_le, HO.tup.injEq, HO.lst.injEq, List.length_cons, List.length_nil, at0, at1, rU, tOst, tTest, rIxL, rIxT, C8.tCut, cxOf_K, tC, tOp, tUn, tSeq, tAsg, tNext, tRet, tRetN, tDrop, tIfS, tNever, gName, gNil, gCons, gTup, gSub, tPar, rI, rI0, rU, rEq, rNe, tB, tAnd, tOr, tNot, tAndV, tOrV, tNotV, tIf, tTup, tLst, tNil, tCons, tCB, tCall, tMeth, tMake, tFld, sFld, tDGet, sDPut, tDisp, tPairs, tBreak, tCont, scal_ii, scal_bb, scal_ss, List.getElem?_cons_zero, List.getElem?_cons_succ, List.set_cons_zero, List.set_cons_succ, Option.some.injEq, exists_eq_left', exists_eq_left, exists_and_left, V.int.injEq, V.bl.injEq, V.ref.injEq, V.str.injEq, List.cons.injEq, and_true, true_and, Bool.true_eq, List.nil_append, List.append_nil, List.cons_append, exists_eq', and_self, reduceCtorEq, false_or, or_false, false_and, exists_false, exists_const, and_assoc, if_true, Bool.false_eq_true, if_false, Nat.reduceAdd, Nat.reduceLeDiff, Nat.zero_add, Nat.le_refl, forall_const, st_L_holds]
      refine ⟨_, s1 _ _ ht, rfl, _, _, rfl, _, _, rfl, rfl, ?_⟩
      have hm := List.mem_of_getElem? hd
      refine ⟨f', b, q, qs, rs, ys, rfl, hf.same s1, s1 _ _ hb, hy.same s1, by omega, by omega, bd _ hm, br, fun H2 e s2 he => ?_⟩
      refine ⟨_, rfl, _, he, _, atI_nat (j := 0) rfl, _, rfl, ?_⟩
      have no : inRow rs (q, qs, c) = false → Q (.bl false) H2 := fun h => by
        have k := k H2 (s1.trans s2)
        rw [all_no hd h] at k
        exact k
      have yes : inRow rs (q, qs, c) = true → (List.take (i + 1) ds).all (inRow rs) = true := fun h => by
        rw [take_snoc hd, List.all_append, hall, List.all_cons, h]
        rfl
      have s12 := s1.trans s2
      obtain ⟨sg1, sg2⟩ := HwM.sign_num (worth q qs rs)
      have sg3 : (worth q qs rs).num = 0 ↔ worth q qs rs = 0 := Rat.num_eq_zero
      have ir : inRow rs (q, qs, c) = decide (0 < worth q qs rs ∨ (worth q qs rs = 0 ∧ c = false)) := rfl
      generalize worth q qs rs = W at sg1 sg2 sg3 ir
      refine ite2 (fun h1 => no ?_) (fun h1 => ⟨rfl, ite2 (fun h2 => ⟨c, rfl, ite2 (fun h3 => no ?_) fun h3 => ⟨s12, yes ?_⟩⟩) fun h2 => ⟨s12, yes ?_⟩⟩)
      · have h := sg1.mp (of_decide_eq_true h1)
        rw [ir]
        exact decide_eq_false fun z => z.elim (fun z => by grind) fun z => by grind
      · have h := sg3.mp (V.int.inj (of_decide_eq_true h2))
        rw [ir]
        exact decide_eq_false fun z => z.elim (fun z => by grind) fun z => by rw [z.2] at h3; cases h3
      · have h := sg3.mp (V.int.inj (of_decide_eq_true h2))
        rw [ir]
        exact decide_eq_true (.inr ⟨h, by cases c; rfl; exact absurd rfl h3⟩)
      · rw [ir]
        refine decide_eq_true (.inl (sg2.mp ?_))
        have n1 : ¬ W.num < 0 := fun z => h1 (decide_eq_true z)
        have n2 : ¬ W.num = 0 := fun z => h2 (decide_eq_true (by rw [z]))
        omega
    · rintro σ' H1 ⟨v2, v3, v4, rfl, s1, hall⟩
      rw [Fa2.len hw, List.take_length] at hall
      have k := k H1 s1
      rw [hall] at k
      exact k
theorem LRow.updL {D : Addr} {H : Hp} {x : V} {n : Nat} {q : Rat} {qs : List Rat} {b : Bool} {acc : List V} {o : HO} (h : LRow H x n q qs b) (hD : H D = some (.lst acc)) : LRow (upd H D o) x n q qs b := by
  obtain ⟨t, f, h1, h2, ⟨xs, h3, h5⟩, h4⟩ := h
  exact ⟨t, f, h1, by rw [upd_ne (fun z => by rw [z, hD] at h2; cases h2)]; exact h2, ⟨xs, by rw [upd_ne (fun z => by rw [z, hD] at h3; cases h3)]; exact h3, h5.updL hD⟩, h4⟩
theorem LRows.updL {D : Addr} {H : Hp} {n : Nat} {xs : List V} {ds : List (Rat × List Rat × Bool)} {acc : List V} {o : HO} (h : LRows H n xs ds) (hD : H D = some (.lst acc)) : LRows (upd H D o) n xs ds := Fa2.mono h fun _ _ z => z.updL hD
def spLClosed : Sp := fun vs H Q _ => ∃ (a : Addr) (xs : List V) (n : Nat) (ds : List (Rat × List Rat × Bool)), vs = [.ref a] ∧ H a = some (.lst xs) ∧ LRows H n xs ds ∧ xs.length ≤ 100 ∧ ∀ H' c zs, Same H H' → H' c = some (.lst zs) → LRows H' n zs (ds.map fun d => (d.1, d.2.1, false)) → Q (.ref c) H'
abbrev N_L_closed : List Str := ["_law_rows", "_law_form", "_law_strict"]
theorem sc_L_closed : FnScope N_L_closed ["_law_rows"] (defScope s_L_closed) := ⟨rfl, rfl, rfl, by decide +kernel, rfl, by decide +kernel, by decide +kernel⟩
theorem st_L_closed {v0 : V} : L2.start N_L_closed [v0] = [some v0, none, none] := rfl
theorem ok_L_closed {f : Addr} {fd : FuncData} (F : FD K s_L_closed "_law_closed" "_law_closed" f fd)  : FnOk P w K mg base (L2.CX P w) 1 f fd ["_law_rows"] (spLClosed) := by
  have nd := sc_L_closed.nd
  refine F.ok0 sc_L_closed (fun vs H Q E h => ?_) (fun cdv A outer s H vs Q E hr h => ?_)
  · obtain ⟨a, xs, n, ds, rfl, _⟩ := h
    rfl
  · obtain ⟨a, xs, n, ds, rfl, ha, hw, hl, k⟩ := h
    refine ⟨_, (pss_one (ps_ret (pe_lc (own := [("_law_form", 1), ("_law_strict", 2)]) rfl nd (pi_list (pv 0)) (blkOk_by (own := [("_law_form", 1), ("_law_strict", 2)]) (N := N_L_closed) (sc := defScope s_L_closed) (by decide +kernel)) (fun _ _ _ _ _ => (pg_tupH (n := 2) rfl (pgs_cons (pg_name (i := 1) nd rfl (Or.inl rfl)) (pgs_cons (pg_name (i := 2) nd rfl (Or.inl rfl)) pgs_nil)))) (fun _ _ _ _ _ => pts_nil) (fun _ _ _ _ _ => (pe_tup (pa_cons (pv 1) (pa_cons pe_bl pa_nil))))))), ?_⟩
    simp only [tVar, rIxTH, rIxLH, gTupH, line_le, HO.tup.injEq, HO.lst.injEq, List.length_cons, List.length_nil, at0, at1, rU, tOst, tTest, rIxL, rIxT, C8.tCut, cxOf_K, tC, tOp, tUn, tSeq, tAsg, tNext, tRet, tRetN, tDrop, tIfS, tNever, gName, gNil, gCons, gTup, gSub, tPar, rI, rI0, rU, rEq, rNe, tB, tAnd, tOr, tNot, tAndV, tOrV, tNotV, tIf, tTup, tLst, tNil, tCons, tCB, tCall, tMeth, tMake, tFld, sFld, tDGet, sDPut, tDisp, tPairs, tBreak, tCont, scal_ii, scal_bb, scal_ss, List.getElem?_cons_zero, List.getElem?_cons_succ, List.set_cons_zero, List.set_cons_succ, Option.some.injEq, exists_eq_left', exists_eq_left, exists_and_left, V.int.injEq, V.bl.injEq, V.ref.injEq, V.str.injEq, List.cons.injEq, and_true, true_and, Bool.true_eq, List.nil_append, List.append_nil, List.cons_append, exists_eq', and_self, reduceCtorEq, false_or, or_false, false_and, exists_false, exists_const, and_assoc, if_true, Bool.false_eq_true, if_false, Nat.reduceAdd, Nat.reduceLeDiff, Nat.zero_add, Nat.le_refl, forall_const, st_L_closed]
    have lw := Fa2.len hw
    refine ⟨.ref a, rfl, a, rfl, ⟨_, SqL.of ha⟩, fun D hD => lc_list (K := K) (a := a) (xs := xs) (fun i H' => Same H H' ∧ ∃ acc, H' D = some (.lst acc) ∧ acc.length = i ∧ LRows H' n acc ((ds.take i).map fun d => (d.1, d.2.1, false))) ⟨same_new hD, [], upd_same, rfl, .nil⟩ (fun i H' _ h => SqL.of (h.1 _ _ ha)) ?_ ?_⟩
    · rintro i v H2 hi ⟨s2, acc, hacc, hl3, hall⟩
      obtain ⟨⟨q, qs, b⟩, hd, t, f', rfl, ht, hf, lq⟩ := Fa2.get hw hi
      have li := ix_lt hi
      simp only [tVar, rIxTH, rIxLH, gTupH, line_le, HO.tup.injEq, HO.lst.injEq, List.length_cons, List.length_nil, at0, at1, rU, tOst, tTest, rIxL, rIxT, C8.tCut, cxOf_K, tC, tOp, tUn, tSeq, tAsg, tNext, tRet, tRetN, tDrop, tIfS, tNever, gName, gNil, gCons, gTup, gSub, tPar, rI, rI0, rU, rEq, rNe, tB, tAnd, tOr, tNot, tAndV, tOrV, tNotV, tIf, tTup, tLst, tNil, tCons, tCB, tCall, tMeth, tMake, tFld, sFld, tDGet, sDPut, tDisp, tPairs, tBreak, tCont, scal_ii, scal_bb, scal_ss, List.getElem?_cons_zero, List.getElem?_cons_succ, List.set_cons_zero, List.set_cons_succ, Option.some.injEq, exists_eq_left', exists_eq_left, exists_and_left, V.int.injEq, V.bl.injEq, V.ref.injEq, V.str.injEq, List.cons.injEq, and_true, true_and, Bool.true_eq, List.nil_append, List.append_nil, List.cons_append, exists_eq', and_self, reduceCtorEq, false_or, or_false, false_and, exists_false, exists_const, and_assoc, if_true, Bool.false_eq_true, if_false, Nat.reduceAdd, Nat.reduceLeDiff, Nat.zero_add, Nat.le_refl, forall_const, st_L_closed, wipe, List.map_cons, List.map_nil, tYes]
      refine ⟨_, s2 _ _ ht, rfl, _, _, rfl, _, _, rfl, rfl, fun p1 hp1 => ?_⟩
      have s1 := same_new (o := HO.tup [V.ref f', V.bl false]) hp1
      have hD1 := s1 _ _ hacc
      refine ⟨acc, hD1, by rw [hl3]; exact Nat.lt_of_le_of_lt (show i ≤ 100 by omega) (by decide), same_updL hD (s2.trans s1), _, upd_same, by simp [hl3], ?_⟩
      rw [take_snoc hd, List.map_append]
      exact LRows.updL (show LRows _ _ _ _ from Fa2.snoc (hall.same s1) ⟨p1, f', rfl, upd_same, hf.same (s2.trans s1), lq⟩) hD1
    · rintro H2 ⟨s2, acc, hacc, hl3, hall⟩
      rw [lw, List.take_length] at hall
      exact k H2 D acc s2 hacc hall


end HwL
end

section
namespace HwL
open PySem PySem.Spec PyProof.Rows L2 LamX HwP
variable {P : Program} {w : World} {K : PySem.W.Frag} {mg : Str → Option Value} {base : Heap}

def spAsPlc (CR CP CL : Addr) : Sp := fun vs H Q _ => ∃ (a : Addr) (n : Nat) (xs : List V) (ds : List (Rat × List Rat × Bool)), vs = [.ref a, .int n] ∧ H a = some (.lst xs) ∧ LRows H n xs ds ∧ xs.length ≤ 60 ∧ n ≤ 18 ∧ RBd 400 ds ∧ ∀ H' y, Same H H' → IsPlc CR CP CL H' (.ref y) n ds → Q (.ref y) H'
theorem IsRow.updL {CR CP D : Addr} {H : Hp} {x : V} {n : Nat} {q : Rat} {qs : List Rat} {b : Bool} {acc : List V} {o : HO} (h : IsRow CR CP H x n q qs b) (hD : H D = some (.lst acc)) : IsRow CR CP (upd H D o) x n q qs b := by
  obtain ⟨t, pl, h1, h2, h3, h4⟩ := h
  refine ⟨t, pl, h1, by rw [upd_ne (fun z => by rw [z, hD] at h2; cases h2)]; exact h2, ?_, h4⟩
  obtain ⟨a, dx, fs, rfl, e, v0, t0, ys, r, rfl, k1, k2, k3, k4⟩ := h3
  exact ⟨a, dx, _, rfl, by rw [upd_ne (fun z => by rw [z, hD] at e; cases e)]; exact e, v0, t0, ys, r, rfl, k1.updL hD, by rw [upd_ne (fun z => by rw [z, hD] at k2; cases k2)]; exact k2, k3.updL hD, by rw [upd_ne (fun z => by rw [z, hD] at k4; cases k4)]; exact k4⟩
theorem Rows.updL {CR CP D : Addr} {H : Hp} {n : Nat} {xs : List V} {ds : List (Rat × List Rat × Bool)} {acc : List V} {o : HO} (h : Rows CR CP H n xs ds) (hD : H D = some (.lst acc)) : Rows CR CP (upd H D o) n xs ds := Fa2.mono h fun _ _ z => z.updL hD
abbrev N_L_as_place : List Str := ["_law_rows", "_law_size", "_law_form", "_law_strict"]
theorem sc_L_as_place : FnScope N_L_as_place ["_law_rows", "_law_size"] (defScope s_L_as_place) := ⟨rfl, rfl, rfl, by decide +kernel, rfl, by decide +kernel, by decide +kernel⟩
theorem st_L_as_place {v0 v1 : V} : L2.start N_L_as_place [v0, v1] = [some v0, some v1, none, none] := rfl
theorem ok_L_as_place {f : Addr} {fd : FuncData} (F : FD K s_L_as_place "_law_as_place" "_law_as_place" f fd) {C_Ratio C_Plane C_Place C_BadNumber C_BadPlace : Addr} (R : RatC K C_Ratio) (g_Place : Kf P w K mg base "Place" C_Place 4 ["self", "rows", "size"] [] (spPlcI K C_Ratio C_Plane C_Place C_BadNumber C_BadPlace)) (g_L_as_plane : Gf P w K mg base "_law_as_plane" 9 ["_law_form"] (spAsP C_Ratio C_Plane)) : FnOk P w K mg base (L2.CX P w) 10 f fd ["_law_rows", "_law_size"] (spAsPlc C_Ratio C_Plane C_Place) := by
  have nd := sc_L_as_place.nd
  refine F.ok0 sc_L_as_place (fun vs H Q E h => ?_) (fun cdv A outer s H vs Q E hr h => ?_)
  · obtain ⟨a, n, xs, ds, rfl, _⟩ := h
    rfl
  · obtain ⟨a, n, xs, ds, rfl, ha, hw, hl, hn, hb, k⟩ := h
    refine ⟨_, (pss_one (ps_ret (pe_k g_Place hr (by decide) passL rfl (pa_cons (pe_lc (own := [("_law_form", 2), ("_law_strict", 3)]) rfl nd (pi_list (pv 0)) (blkOk_by (own := [("_law_form", 2), ("_law_strict", 3)]) (N := N_L_as_place) (sc := defScope s_L_as_place) (by decide +kernel)) (fun _ _ _ _ _ => (pg_tupH (n := 2) rfl (pgs_cons (pg_name (i := 2) nd rfl (Or.inl rfl)) (pgs_cons (pg_name (i := 3) nd rfl (Or.inl rfl)) pgs_nil)))) (fun _ _ _ _ _ => pts_nil) (fun _ _ _ _ _ => (pe_tup (pa_cons (pe_g g_L_as_plane hr (by decide) passL rfl (pa_cons (pv 2) pa_nil)) (pa_cons (pv 3) pa_nil))))) (pa_cons (pv 1) pa_nil))))), ?_⟩
    simp only [tVar, rIxTH, rIxLH, gTupH, line_le, HO.tup.injEq, HO.lst.injEq, List.length_cons, List.length_nil, at0, at1, rU, tOst, tTest, rIxL, rIxT, C8.tCut, cxOf_K, tC, tOp, tUn, tSeq, tAsg, tNext, tRet, tRetN, tDrop, tIfS, tNever, gName, gNil, gCons, gTup, gSub, tPar, rI, rI0, rU, rEq, rNe, tB, tAnd, tOr, tNot, tAndV, tOrV, tNotV, tIf, tTup, tLst, tNil, tCons, tCB, tCall, tMeth, tMake, tFld, sFld, tDGet, sDPut, tDisp, tPairs, tBreak, tCont, scal_ii, scal_bb, scal_ss, List.getElem?_cons_zero, List.getElem?_cons_succ, List.set_cons_zero, List.set_cons_succ, Option.some.injEq, exists_eq_left', exists_eq_left, exists_and_left, V.int.injEq, V.bl.injEq, V.ref.injEq, V.str.injEq, List.cons.injEq, and_true, true_and, Bool.true_eq, List.nil_append, List.append_nil, List.cons_append, exists_eq', and_self, reduceCtorEq, false_or, or_false, false_and, exists_false, exists_const, and_assoc, if_true, Bool.false_eq_true, if_false, Nat.reduceAdd, Nat.reduceLeDiff, Nat.zero_add, Nat.le_refl, forall_const, st_L_as_place]
    have lw := Fa2.len hw
    refine ⟨.ref a, rfl, a, rfl, ⟨_, SqL.of ha⟩, fun D hD => lc_list (K := K) (a := a) (xs := xs) (fun i H' => Same H H' ∧ ∃ acc, H' D = some (.lst acc) ∧ acc.length = i ∧ Rows C_Ratio C_Plane H' n acc (ds.take i)) ⟨same_new hD, [], upd_same, rfl, .nil⟩ (fun i H' _ h => SqL.of (h.1 _ _ ha)) ?_ ?_⟩
    · rintro i v H2 hi ⟨s2, acc, hacc, hl3, hall⟩
      obtain ⟨⟨q, qs, b⟩, hd, t, f', rfl, ht, hf, lq⟩ := Fa2.get hw hi
      have li := ix_lt hi
      simp only [tVar, rIxTH, rIxLH, gTupH, line_le, HO.tup.injEq, HO.lst.injEq, List.length_cons, List.length_nil, at0, at1, rU, tOst, tTest, rIxL, rIxT, C8.tCut, cxOf_K, tC, tOp, tUn, tSeq, tAsg, tNext, tRet, tRetN, tDrop, tIfS, tNever, gName, gNil, gCons, gTup, gSub, tPar, rI, rI0, rU, rEq, rNe, tB, tAnd, tOr, tNot, tAndV, tOrV, tNotV, tIf, tTup, tLst, tNil, tCons, tCB, tCall, tMeth, tMake, tFld, sFld, tDGet, sDPut, tDisp, tPairs, tBreak, tCont, scal_ii, scal_bb, scal_ss, List.getElem?_cons_zero, List.getElem?_cons_succ, List.set_cons_zero, List.set_cons_succ, Option.some.injEq, exists_eq_left', exists_eq_left, exists_and_left, V.int.injEq, V.bl.injEq, V.ref.injEq, V.str.injEq, List.cons.injEq, and_true, true_and, Bool.true_eq, List.nil_append, List.append_nil, List.cons_append, exists_eq', and_self, reduceCtorEq, false_or, or_false, false_and, exists_false, exists_const, and_assoc, if_true, Bool.false_eq_true, if_false, Nat.reduceAdd, Nat.reduceLeDiff, Nat.zero_add, Nat.le_refl, forall_const, st_L_as_place, wipe, List.map_cons, List.map_nil, tYes]
      have lq : qs.length = n := lq
      refine ⟨_, s2 _ _ ht, rfl, _, _, rfl, _, _, rfl, rfl, ?_⟩
      refine ⟨f', q, qs, rfl, hf.same s2, by omega, hb _ (List.mem_of_getElem? hd), fun H3 z s3 hz p1 hp1 => ?_⟩
      have s1 := same_new (o := HO.tup [z, V.bl b]) hp1
      have hD1 := s1 _ _ (s3 _ _ hacc)
      refine ⟨acc, hD1, by rw [hl3]; exact Nat.lt_of_le_of_lt (show i ≤ 60 by omega) (by decide), same_updL hD ((s2.trans s3).trans s1), _, upd_same, by simp [hl3], ?_⟩
      rw [take_snoc hd]
      exact Rows.updL (show Rows _ _ _ _ _ _ from Fa2.snoc ((hall.same s3).same s1) ⟨p1, z, rfl, upd_same, hz.same s1, lq⟩) hD1
    · rintro H2 ⟨s2, acc, hacc, hl3, hall⟩
      rw [lw, List.take_length] at hall
      exact made_plc R (.inl hacc) (by omega) hall fun H' y s3 hy => k H' y (s2.trans s3) hy


end HwL
end

section
namespace HwL
open PySem PySem.Spec PyProof.Rows L2 LamX HwP
variable {P : Program} {w : World} {K : PySem.W.Frag} {mg : Str → Option Value} {base : Heap}

/-- rows that are drawn -/
def spRowsD (m k j : Nat) : Sp := fun vs H Q _ => ∃ (p l : Addr) (c : Int) (n u : Nat), vs = [.ref p, .int n, .int u] ∧ n ≤ 3 ∧ 1 ≤ u ∧ u ≤ 5 ∧ PenAt H p l c ∧ c + k < 1000000 ∧
  ∀ H' a xs ds, H a = none → Ext p H H' → PenAt H' p l (c + k) → H' a = some (.lst xs) → LRows H' n xs ds → xs.length ≤ u + j → RBd m ds → Q (.ref a) H'
theorem RBd.nil {k : Nat} : RBd k [] := fun d h => by cases h
theorem RBd.app {k : Nat} {ds es : List (Rat × List Rat × Bool)} (h : RBd k ds) (h2 : RBd k es) : RBd k (ds ++ es) := fun d hd => (List.mem_append.mp hd).elim (h d) (h2 d)
theorem RBd.one {k : Nat} {q : Rat} {qs : List Rat} {b : Bool} (h : ∀ z ∈ q :: qs, HwM.Bd k z) : RBd k [(q, qs, b)] := fun d hd => by rw [List.mem_singleton.mp hd]; exact h
theorem RBd.mono {m n : Nat} {ds : List (Rat × List Rat × Bool)} (h : RBd m ds) (e : m ≤ n) : RBd n ds := fun d hd z hz => (h d hd z hz).mono e
theorem RBd.take {k i : Nat} {ds : List (Rat × List Rat × Bool)} (h : RBd k ds) : RBd k (ds.take i) := fun d hd => h d (List.mem_of_mem_take hd)
theorem RBd.drop {k i : Nat} {ds : List (Rat × List Rat × Bool)} (h : RBd k ds) : RBd k (ds.drop i) := fun d hd => h d (List.mem_of_mem_drop hd)
theorem form_cons {qs : List Rat} {n : Nat} (h : qs.length = n + 1) : ∃ q rs, qs = q :: rs ∧ rs.length = n := by
  cases qs with
  | nil => cases h
  | cons q rs => exact ⟨q, rs, rfl, by simpa using h⟩
theorem small_draw {m : Nat} (h : m < 1024) : ((m : Int)).natAbs < 2 ^ 9000 := by
  rw [Int.natAbs_natCast]
  exact Nat.lt_of_lt_of_le (show m < 2 ^ 10 from h) (Nat.pow_le_pow_right (by decide) (by decide))
theorem ext_none {H H1 : Hp} {p l R : Addr} {c : Int} (x : Ext p H H1) (p1 : PenAt H1 p l c) (h : H1 R = none) : H R = none := by
  cases e : H R with
  | none => rfl
  | some o =>
    have := x R o (p1.ne h) e
    rw [h] at this
    cases this
abbrev N_L_random_rows : List Str := ["_law_pen_here", "_law_size", "_law_many", "_law_row"]
theorem sc_L_random_rows : FnScope N_L_random_rows ["_law_pen_here", "_law_size", "_law_many"] (defScope s_L_random_rows) := ⟨rfl, rfl, rfl, by decide +kernel, rfl, by decide +kernel, by decide +kernel⟩
theorem st_L_random_rows {v0 v1 v2 : V} : L2.start N_L_random_rows [v0, v1, v2] = [some v0, some v1, some v2, none] := rfl
theorem ok_L_random_rows {f : Addr} {fd : FuncData} (F : FD K s_L_random_rows "_law_random_rows" "_law_random_rows" f fd) (z_range : mg "range" = none) (g_L_draw : Gf P w K mg base "_law_draw" 1 ["_law_pen_here", "_law_many"] (spDraw)) (g_L_drawn_form : Gf P w K mg base "_law_drawn_form" 4 ["_law_pen_here", "_law_size"] (spDrawn 10 90)) : FnOk P w K mg base (L2.CX P w) 5 f fd ["_law_pen_here", "_law_size", "_law_many"] (spRowsD 10 900 0) := by
  have nd := sc_L_random_rows.nd
  refine F.ok0 sc_L_random_rows (fun vs H Q E h => ?_) (fun cdv A outer s H vs Q E hr h => ?_)
  · obtain ⟨p, l, c, n, u, rfl, _⟩ := h
    rfl
  · obtain ⟨p, l, c, n, u, rfl, hn, hu1, hu, hp, hc, k⟩ := h
    refine ⟨_, (pss_one (ps_ret (pe_lc (own := [("_law_row", 3)]) rfl nd (pi_range1 rfl z_range (pa_cons (pe_g g_L_draw hr (by decide) passL rfl (pa_cons (pv 0) (pa_cons (pe_op op_add (pv 2) pe_int) pa_nil))) pa_nil)) (blkOk_by (own := [("_law_row", 3)]) (N := N_L_random_rows) (sc := defScope s_L_random_rows) (by decide +kernel)) (fun _ _ _ _ _ => (pg_name (i := 3) nd rfl (Or.inl rfl))) (fun _ _ _ _ _ => pts_nil) (fun _ _ _ _ _ => (pe_tup (pa_cons (pe_g g_L_drawn_form hr (by decide) passL rfl (pa_cons (pv 0) (pa_cons (pv 1) pa_nil))) (pa_cons (pe_cmpR op_eq (pe_g g_L_draw hr (by decide) passL rfl (pa_cons (pv 0) (pa_cons pe_int pa_nil))) pe_int (nomark _)) pa_nil))))))), ?_⟩
    simp only [tVar, rIxTH, rIxLH, gTupH, line_le, HO.tup.injEq, HO.lst.injEq, List.length_cons, List.length_nil, at0, at1, rU, tOst, tTest, rIxL, rIxT, C8.tCut, cxOf_K, tC, tOp, tUn, tSeq, tAsg, tNext, tRet, tRetN, tDrop, tIfS, tNever, gName, gNil, gCons, gTup, gSub, tPar, rI, rI0, rU, rEq, rNe, tB, tAnd, tOr, tNot, tAndV, tOrV, tNotV, tIf, tTup, tLst, tNil, tCons, tCB, tCall, tMeth, tMake, tFld, sFld, tDGet, sDPut, tDisp, tPairs, tBreak, tCont, scal_ii, scal_bb, scal_ss, List.getElem?_cons_zero, List.getElem?_cons_succ, List.set_cons_zero, List.set_cons_succ, Option.some.injEq, exists_eq_left', exists_eq_left, exists_and_left, V.int.injEq, V.bl.injEq, V.ref.injEq, V.str.injEq, List.cons.injEq, and_true, true_and, Bool.true_eq, List.nil_append, List.append_nil, List.cons_append, exists_eq', and_self, reduceCtorEq, false_or, or_false, false_and, exists_false, exists_const, and_assoc, if_true, Bool.false_eq_true, if_false, Nat.reduceAdd, Nat.reduceLeDiff, Nat.zero_add, Nat.le_refl, forall_const, st_L_random_rows]
    refine ⟨_, rfl, _, rfl, u, 1, rfl, rfl, p, l, c, (u : Int) + 1, rfl, hp, by omega, by omega, ?_, fun H1 r x1 p1 r0 r1 => ?_⟩
    · rw [show ((u : Int) + 1).natAbs = u + 1 by omega]
      exact Nat.lt_of_lt_of_le (show u + 1 < 2 ^ 10 by omega) (Nat.pow_le_pow_right (by decide) (by decide))
    obtain ⟨j, rfl⟩ : ∃ j : Nat, r = (j : Int) := ⟨r.toNat, by omega⟩
    refine ⟨j, rfl, by omega, by omega, ?_⟩
    rw [Int.toNat_natCast]
    refine fun D hD => lc_range (lo := 0) (n := j) (D := D)
      (fun i H' => ∃ acc ds, H' D = some (.lst acc) ∧ acc.length = i ∧ LRows H' n acc ds ∧ RBd 10 ds ∧ Ext p H1 H' ∧ PenAt H' p l (c + 1 + 91 * i)) ⟨[], [], upd_same, rfl, .nil, .nil, .of (same_new hD), (p1.same (same_new hD)).mono (by omega)⟩ ?_ ?_
    · rintro i H2 hi ⟨acc, ds, hacc, hl, hall, hb, x2, p2⟩
      have nDp : D ≠ p := p1.ne hD
      have nDl : D ≠ l := p1.ne2 hD
      simp only [tVar, rIxTH, rIxLH, gTupH, line_le, HO.tup.injEq, HO.lst.injEq, List.length_cons, List.length_nil, at0, at1, rU, tOst, tTest, rIxL, rIxT, C8.tCut, cxOf_K, tC, tOp, tUn, tSeq, tAsg, tNext, tRet, tRetN, tDrop, tIfS, tNever, gName, gNil, gCons, gTup, gSub, tPar, rI, rI0, rU, rEq, rNe, tB, tAnd, tOr, tNot, tAndV, tOrV, tNotV, tIf, tTup, tLst, tNil, tCons, tCB, tCall, tMeth, tMake, tFld, sFld, tDGet, sDPut, tDisp, tPairs, tBreak, tCont, scal_ii, scal_bb, scal_ss, List.getElem?_cons_zero, List.getElem?_cons_succ, List.set_cons_zero, List.set_cons_succ, Option.some.injEq, exists_eq_left', exists_eq_left, exists_and_left, V.int.injEq, V.bl.injEq, V.ref.injEq, V.str.injEq, List.cons.injEq, and_true, true_and, Bool.true_eq, List.nil_append, List.append_nil, List.cons_append, exists_eq', and_self, reduceCtorEq, false_or, or_false, false_and, exists_false, exists_const, and_assoc, if_true, Bool.false_eq_true, if_false, Nat.reduceAdd, Nat.reduceLeDiff, Nat.zero_add, Nat.le_refl, forall_const, st_L_random_rows, wipe, List.map_cons, List.map_nil]
      refine ⟨p, l, _, n, rfl, by omega, p2, by omega, fun H3 a qs x3 p3 hf lq bq => ?_⟩
      refine ⟨p, l, _, 2, rfl, p3, by omega, by decide, small_draw (by decide), fun H4 r x4 p4 r0 r1 => ⟨rfl, fun t ht => ?_⟩⟩
      obtain ⟨q, qs, rfl, lq2⟩ := form_cons lq
      have s5 := same_new (o := HO.tup [V.ref a, V.bl (decide (V.int r = V.int 0))]) ht
      have x25 := (x3.trans x4).trans (Ext.of s5)
      have hacc5 := x25 _ _ nDp hacc
      refine ⟨acc, hacc5, by rw [hl]; exact line_le (by omega), acc ++ [.ref t], upd_same, by simp [hl], ds ++ [(q, qs, decide (V.int r = V.int 0))], ?_, hb.app (RBd.one bq), ext_updD hD (x2.trans x25), ((p4.same s5).put nDp nDl _).mono (by push_cast; omega)⟩
      exact LRows.updL (show LRows _ _ _ _ from Fa2.snoc (hall.ext p2 x25) ⟨t, a, rfl, upd_same, (hf.ext p3 x4).same s5, lq2⟩) hacc5
    · rintro H2 ⟨acc, ds, hacc, hl, hall, hb, x2, p2⟩
      exact k _ D acc ds (ext_none x1 p1 hD) (x1.trans x2) (p2.mono (by omega)) hacc hall (by omega) hb


end HwL
end

section
namespace HwL
open PySem PySem.Spec PyProof.Rows L2 LamX HwP
variable {P : Program} {w : World} {K : PySem.W.Frag} {mg : Str → Option Value} {base : Heap}

theorem newQ {H : Hp} {t : Addr} {q : Rat} {vs : List V} (h : qv q = vs) : IsQ (upd H t (.tup vs)) (.ref t) q := ⟨t, rfl, by rw [upd_same, h]⟩
theorem allQ_nil {H : Hp} : AllQ H [] [] := .nil
abbrev r13 : Rat := ⟨1, 3, by decide, by decide⟩
abbrev r32 : Rat := ⟨3, 2, by decide, by decide⟩
abbrev r23 : Rat := ⟨2, 3, by decide, by decide⟩
abbrev r12 : Rat := ⟨1, 2, by decide, by decide⟩
abbrev rm12 : Rat := ⟨-1, 2, by decide, by decide⟩
abbrev ri (i : Int) : Rat := ⟨i, 1, by decide, by simp⟩
theorem form_noPen {H : Hp} {p l a : Addr} {c : Int} {qs : List Rat} (hp : PenAt H p l c) (h : IsForm H a qs) : a ≠ p := by
  obtain ⟨xs, h1, _⟩ := h
  exact tup_noPen hp h1
theorem pick2 {H : Hp} {p l : Addr} {c : Int} {v1 v2 : List V} {q1 q2 : Rat} {Q : VK} {E : XK} (e1 : qv q1 = v1) (e2 : qv q2 = v2) (hp : PenAt H p l c) (hc : c < 100000000) (k : ∀ H' b q, Ext p H H' → PenAt H' p l (c + 1) → H' b = some (.tup (qv q)) → q ∈ ([q1, q2] : List Rat) → Q (.ref b) H') :
    ∀ t1, H t1 = none → ∀ t2, (upd H t1 (.tup v1)) t2 = none → ∀ a, (upd (upd H t1 (.tup v1)) t2 (.tup v2)) a = none → spPick [.ref p, .ref a] (upd (upd (upd H t1 (.tup v1)) t2 (.tup v2)) a (.lst [.ref t1, .ref t2])) Q E := by
  intro t1 h1 t2 h2 a ha
  subst e1 e2
  have s1 := same_new (o := HO.tup (qv q1)) h1
  have s2 := same_new (o := HO.tup (qv q2)) h2
  have sa := same_new (o := HO.lst [V.ref t1, V.ref t2]) ha
  have i1 := ((newQ (q := q1) rfl).same s2).same sa
  have i2 := (newQ (q := q2) rfl).same sa
  refine ⟨p, l, a, c, _, rfl, hp.same (((s1).trans s2).trans sa), hc, upd_same, by simp, by simp, fun H7 j v x7 p7 hv => ?_⟩
  obtain ⟨q, hq, b, rfl, hb⟩ := Fa2.get (show AllQ H7 _ [q1, q2] from .cons (i1.ext (hp.same (((s1).trans s2).trans sa)) x7) (.cons (i2.ext (hp.same (((s1).trans s2).trans sa)) x7) (.nil))) hv
  exact k H7 b q ((Ext.of (((s1).trans s2).trans sa)).trans x7) p7 hb (List.mem_of_getElem? hq)
theorem pick3 {H : Hp} {p l : Addr} {c : Int} {v1 v2 v3 : List V} {q1 q2 q3 : Rat} {Q : VK} {E : XK} (e1 : qv q1 = v1) (e2 : qv q2 = v2) (e3 : qv q3 = v3) (hp : PenAt H p l c) (hc : c < 100000000) (k : ∀ H' b q, Ext p H H' → PenAt H' p l (c + 1) → H' b = some (.tup (qv q)) → q ∈ ([q1, q2, q3] : List Rat) → Q (.ref b) H') :
    ∀ t1, H t1 = none → ∀ t2, (upd H t1 (.tup v1)) t2 = none → ∀ t3, (upd (upd H t1 (.tup v1)) t2 (.tup v2)) t3 = none → ∀ a, (upd (upd (upd H t1 (.tup v1)) t2 (.tup v2)) t3 (.tup v3)) a = none → spPick [.ref p, .ref a] (upd (upd (upd (upd H t1 (.tup v1)) t2 (.tup v2)) t3 (.tup v3)) a (.lst [.ref t1, .ref t2, .ref t3])) Q E := by
  intro t1 h1 t2 h2 t3 h3 a ha
  subst e1 e2 e3
  have s1 := same_new (o := HO.tup (qv q1)) h1
  have s2 := same_new (o := HO.tup (qv q2)) h2
  have s3 := same_new (o := HO.tup (qv q3)) h3
  have sa := same_new (o := HO.lst [V.ref t1, V.ref t2, V.ref t3]) ha
  have i1 := (((newQ (q := q1) rfl).same s2).same s3).same sa
  have i2 := ((newQ (q := q2) rfl).same s3).same sa
  have i3 := (newQ (q := q3) rfl).same sa
  refine ⟨p, l, a, c, _, rfl, hp.same ((((s1).trans s2).trans s3).trans sa), hc, upd_same, by simp, by simp, fun H7 j v x7 p7 hv => ?_⟩
  obtain ⟨q, hq, b, rfl, hb⟩ := Fa2.get (show AllQ H7 _ [q1, q2, q3] from .cons (i1.ext (hp.same ((((s1).trans s2).trans s3).trans sa)) x7) (.cons (i2.ext (hp.same ((((s1).trans s2).trans s3).trans sa)) x7) (.cons (i3.ext (hp.same ((((s1).trans s2).trans s3).trans sa)) x7) (.nil)))) hv
  exact k H7 b q ((Ext.of ((((s1).trans s2).trans s3).trans sa)).trans x7) p7 hb (List.mem_of_getElem? hq)
theorem pick4 {H : Hp} {p l : Addr} {c : Int} {v1 v2 v3 v4 : List V} {q1 q2 q3 q4 : Rat} {Q : VK} {E : XK} (e1 : qv q1 = v1) (e2 : qv q2 = v2) (e3 : qv q3 = v3) (e4 : qv q4 = v4) (hp : PenAt H p l c) (hc : c < 100000000) (k : ∀ H' b q, Ext p H H' → PenAt H' p l (c + 1) → H' b = some (.tup (qv q)) → q ∈ ([q1, q2, q3, q4] : List Rat) → Q (.ref b) H') :
    ∀ t1, H t1 = none → ∀ t2, (upd H t1 (.tup v1)) t2 = none → ∀ t3, (upd (upd H t1 (.tup v1)) t2 (.tup v2)) t3 = none → ∀ t4, (upd (upd (upd H t1 (.tup v1)) t2 (.tup v2)) t3 (.tup v3)) t4 = none → ∀ a, (upd (upd (upd (upd H t1 (.tup v1)) t2 (.tup v2)) t3 (.tup v3)) t4 (.tup v4)) a = none → spPick [.ref p, .ref a] (upd (upd (upd (upd (upd H t1 (.tup v1)) t2 (.tup v2)) t3 (.tup v3)) t4 (.tup v4)) a (.lst [.ref t1, .ref t2, .ref t3, .ref t4])) Q E := by
  intro t1 h1 t2 h2 t3 h3 t4 h4 a ha
  subst e1 e2 e3 e4
  have s1 := same_new (o := HO.tup (qv q1)) h1
  have s2 := same_new (o := HO.tup (qv q2)) h2
  have s3 := same_new (o := HO.tup (qv q3)) h3
  have s4 := same_new (o := HO.tup (qv q4)) h4
  have sa := same_new (o := HO.lst [V.ref t1, V.ref t2, V.ref t3, V.ref t4]) ha
  have i1 := ((((newQ (q := q1) rfl).same s2).same s3).same s4).same sa
  have i2 := (((newQ (q := q2) rfl).same s3).same s4).same sa
  have i3 := ((newQ (q := q3) rfl).same s4).same sa
  have i4 := (newQ (q := q4) rfl).same sa
  refine ⟨p, l, a, c, _, rfl, hp.same (((((s1).trans s2).trans s3).trans s4).trans sa), hc, upd_same, by simp, by simp, fun H7 j v x7 p7 hv => ?_⟩
  obtain ⟨q, hq, b, rfl, hb⟩ := Fa2.get (show AllQ H7 _ [q1, q2, q3, q4] from .cons (i1.ext (hp.same (((((s1).trans s2).trans s3).trans s4).trans sa)) x7) (.cons (i2.ext (hp.same (((((s1).trans s2).trans s3).trans s4).trans sa)) x7) (.cons (i3.ext (hp.same (((((s1).trans s2).trans s3).trans s4).trans sa)) x7) (.cons (i4.ext (hp.same (((((s1).trans s2).trans s3).trans s4).trans sa)) x7) (.nil))))) hv
  exact k H7 b q ((Ext.of (((((s1).trans s2).trans s3).trans s4).trans sa)).trans x7) p7 hb (List.mem_of_getElem? hq)
theorem fa2_take {α β : Type} {R : α → β → Prop} {as : List α} {bs : List β} (h : Fa2 R as bs) : ∀ i, Fa2 R (as.take i) (bs.take i) := by
  induction h with
  | nil => intro i; rw [List.take_nil, List.take_nil]; exact .nil
  | cons h _ ih => intro i; cases i with
    | zero => exact .nil
    | succ i => exact .cons h (ih i)
theorem fa2_drop {α β : Type} {R : α → β → Prop} {as : List α} {bs : List β} (h : Fa2 R as bs) : ∀ i, Fa2 R (as.drop i) (bs.drop i) := by
  induction h with
  | nil => intro i; rw [List.drop_nil, List.drop_nil]; exact .nil
  | cons h t ih => intro i; cases i with
    | zero => exact .cons h t
    | succ i => exact ih i
theorem zip_sub_bd {m n : Nat} {qs rs : List Rat} (h1 : ∀ q ∈ qs, HwM.Bd m q) (h2 : ∀ r ∈ rs, HwM.Bd n r) : ∀ z ∈ zipR (fun q r => q - r) qs rs, HwM.Bd (m + n + 1) z := by
  intro z hz
  unfold zipR at hz
  obtain ⟨⟨u, v⟩, hm, rfl⟩ := List.mem_map.mp hz
  exact HwM.sub_bd (h1 _ (List.of_mem_zip hm).1) (h2 _ (List.of_mem_zip hm).2)
theorem map_mul_bd {m n : Nat} {qs : List Rat} {r : Rat} (h0 : 0 < m + n) (h1 : ∀ q ∈ qs, HwM.Bd m q) (h2 : HwM.Bd n r) : ∀ z ∈ qs.map (fun q => q * r), HwM.Bd (m + n) z := by
  intro z hz
  obtain ⟨u, hm, rfl⟩ := List.mem_map.mp hz
  exact HwM.mul_bd h0 (h1 _ hm) h2
theorem zipR_len {f : Rat → Rat → Rat} {qs rs : List Rat} (h : qs.length = rs.length) : (zipR f qs rs).length = qs.length := by
  unfold zipR; rw [List.length_map, List.length_zip]; omega
/-- all of a short list are small -/
theorem few {P : Rat → Prop} {q : Rat} : ∀ {qs : List Rat}, q ∈ qs → (∀ z ∈ qs, P z) → P q := fun h k => k _ h
theorem all4 {P : Rat → Prop} {a b c d : Rat} (h1 : P a) (h2 : P b) (h3 : P c) (h4 : P d) : ∀ z ∈ [a, b, c, d], P z := fun z hz => by
  simp only [List.mem_cons, List.not_mem_nil, or_false] at hz
  rcases hz with rfl | rfl | rfl | rfl <;> assumption
theorem all3 {P : Rat → Prop} {a b c : Rat} (h1 : P a) (h2 : P b) (h3 : P c) : ∀ z ∈ [a, b, c], P z := fun z hz => by
  simp only [List.mem_cons, List.not_mem_nil, or_false] at hz
  rcases hz with rfl | rfl | rfl <;> assumption
theorem all2 {P : Rat → Prop} {a b : Rat} (h1 : P a) (h2 : P b) : ∀ z ∈ [a, b], P z := fun z hz => by
  simp only [List.mem_cons, List.not_mem_nil, or_false] at hz
  rcases hz with rfl | rfl <;> assumption
abbrev N_L_mixed_rows : List Str := ["_law_pen_here", "_law_size", "_law_many", "_law_rows", "_law_total", "_law_form", "_law_strict", "_law_at_here", "_law_calm"]
theorem sc_L_mixed_rows : FnScope N_L_mixed_rows ["_law_pen_here", "_law_size", "_law_many"] (defScope s_L_mixed_rows) := ⟨rfl, rfl, rfl, by decide +kernel, rfl, by decide +kernel, by decide +kernel⟩
theorem st_L_mixed_rows {v0 v1 v2 : V} : L2.start N_L_mixed_rows [v0, v1, v2] = [some v0, some v1, some v2, none, none, none, none, none, none] := rfl
theorem ok_L_mixed_rows {f : Addr} {fd : FuncData} (F : FD K s_L_mixed_rows "_law_mixed_rows" "_law_mixed_rows" f fd) (z_len : mg "len" = none) (g_L_draw : Gf P w K mg base "_law_draw" 1 ["_law_pen_here", "_law_many"] (spDraw)) (g_L_form_times : Gf P w K mg base "_law_form_times" 4 ["_law_one", "_law_by"] (spFT)) (g_L_pick : Gf P w K mg base "_law_pick" 2 ["_law_pen_here", "_law_some"] (spPick)) (g_L_form_less : Gf P w K mg base "_law_form_less" 4 ["_law_one", "_law_two"] (spFB (fun q r => q - r))) (g_L_number_form : Gf P w K mg base "_law_number_form" 1 ["_law_one", "_law_size"] (spNumF)) (g_L_random_rows : Gf P w K mg base "_law_random_rows" 5 ["_law_pen_here", "_law_size", "_law_many"] (spRowsD 10 900 0)) : FnOk P w K mg base (L2.CX P w) 6 f fd ["_law_pen_here", "_law_size", "_law_many"] (spRowsD 80 1000 1) := by
  have nd := sc_L_mixed_rows.nd
  refine F.ok0 sc_L_mixed_rows (fun vs H Q E h => ?_) (fun cdv A outer s H vs Q E hr h => ?_)
  · obtain ⟨p, l, c, n, u, rfl, _⟩ := h
    rfl
  · obtain ⟨p, l, c, n, u, rfl, hn, hu1, hu, hp, hc, k⟩ := h
    refine ⟨_, (C8.pss_cut (ps_set (i := 3) nd rfl (Or.inl rfl) (pe_g g_L_random_rows hr (by decide) passL rfl (pa_cons (pv 0) (pa_cons (pv 1) (pa_cons (pv 2) pa_nil)))))
        (C8.pss_cut (ps_set (i := 4) nd rfl (Or.inl rfl) (pe_g g_L_number_form hr (by decide) passL rfl (pa_cons (pe_g g_L_pick hr (by decide) passL rfl (pa_cons (pv 0) (pa_cons (pe_lst (pa_cons (pe_tup (pa_cons pe_int (pa_cons pe_int pa_nil))) (pa_cons (pe_tup (pa_cons pe_int (pa_cons pe_int pa_nil))) (pa_cons (pe_tup (pa_cons (pe_un un_neg pe_int) (pa_cons pe_int pa_nil))) (pa_cons (pe_tup (pa_cons pe_int (pa_cons pe_int pa_nil))) pa_nil))))) pa_nil))) (pa_cons (pv 1) pa_nil))))
        (C8.pss_cut (ps_for PassesOwn.never rfl (pi_list (pv 3)) (pg_tupH rfl (pgs_cons (pg_name (i := 5) nd rfl (Or.inl rfl)) (pgs_cons (pg_name (i := 6) nd rfl (Or.inl rfl)) pgs_nil))) (pss_one (ps_set (i := 4) nd rfl (Or.inl rfl) (pe_g g_L_form_less hr (by decide) passL rfl (pa_cons (pv 4) (pa_cons (pe_g g_L_form_times hr (by decide) passL rfl (pa_cons (pv 5) (pa_cons (pe_g g_L_pick hr (by decide) passL rfl (pa_cons (pv 0) (pa_cons (pe_lst (pa_cons (pe_tup (pa_cons pe_int (pa_cons pe_int pa_nil))) (pa_cons (pe_tup (pa_cons pe_int (pa_cons pe_int pa_nil))) (pa_cons (pe_tup (pa_cons pe_int (pa_cons pe_int pa_nil))) (pa_cons (pe_tup (pa_cons pe_int (pa_cons pe_int pa_nil))) pa_nil))))) pa_nil))) pa_nil))) pa_nil))))))
        (C8.pss_cut (ps_set (i := 7) nd rfl (Or.inl rfl) (pe_g g_L_draw hr (by decide) passL rfl (pa_cons (pv 0) (pa_cons (pe_op op_add (pe_callB call_len_seq (by rfl) z_len (by decide +kernel) (pa_cons (pv 3) pa_nil)) pe_int) pa_nil))))
        (C8.pss_cut (ps_set (i := 3) nd rfl (Or.inl rfl) (pe_op op_cat (pe_op op_cat (pe_slice sl_list (pv 3) po_none (po_some (pv 7))) (pe_lst (pa_cons (pe_tup (pa_cons (pe_g g_L_form_times hr (by decide) passL rfl (pa_cons (pv 4) (pa_cons (pe_g g_L_pick hr (by decide) passL rfl (pa_cons (pv 0) (pa_cons (pe_lst (pa_cons (pe_tup (pa_cons pe_int (pa_cons pe_int pa_nil))) (pa_cons (pe_tup (pa_cons pe_int (pa_cons pe_int pa_nil))) pa_nil))) pa_nil))) pa_nil))) (pa_cons (pe_cmpR op_eq (pe_g g_L_draw hr (by decide) passL rfl (pa_cons (pv 0) (pa_cons pe_int pa_nil))) pe_int (nomark _)) pa_nil))) pa_nil))) (pe_slice sl_list (pv 3) (po_some (pv 7)) po_none)))
        (C8.pss_cut (ps_set (i := 8) nd rfl (Or.inr rfl) (pe_cmpR op_eq (pe_g g_L_draw hr (by decide) passL rfl (pa_cons (pv 0) (pa_cons pe_int pa_nil))) pe_int (nomark _)))
        (pss_one (ps_ret (pe_lc (own := [("_law_form", 5), ("_law_strict", 6)]) rfl nd (pi_list (pv 3)) (blkOk_by (own := [("_law_form", 5), ("_law_strict", 6)]) (N := N_L_mixed_rows) (sc := defScope s_L_mixed_rows) (by decide +kernel)) (fun _ _ _ _ _ => (pg_tupH (n := 2) rfl (pgs_cons (pg_name (i := 5) nd rfl (Or.inl rfl)) (pgs_cons (pg_name (i := 6) nd rfl (Or.inl rfl)) pgs_nil)))) (fun _ _ _ _ _ => pts_nil) (fun _ _ _ _ _ => (pe_tup (pa_cons (pv 5) (pa_cons (pe_and (pv 6) (pe_one (pe_not (pv 8)))) pa_nil))))))))))))), ?_⟩
    simp only [tVar, rIxTH, rIxLH, gTupH, line_le, HO.tup.injEq, HO.lst.injEq, List.length_cons, List.length_nil, at0, at1, rU, tOst, tTest, rIxL, rIxT, C8.tCut, cxOf_K, tC, tOp, tUn, tSeq, tAsg, tNext, tRet, tRetN, tDrop, tIfS, tNever, gName, gNil, gCons, gTup, gSub, tPar, rI, rI0, rU, rEq, rNe, tB, tAnd, tOr, tNot, tAndV, tOrV, tNotV, tIf, tTup, tLst, tNil, tCons, tCB, tCall, tMeth, tMake, tFld, sFld, tDGet, sDPut, tDisp, tPairs, tBreak, tCont, scal_ii, scal_bb, scal_ss, List.getElem?_cons_zero, List.getElem?_cons_succ, List.set_cons_zero, List.set_cons_succ, Option.some.injEq, exists_eq_left', exists_eq_left, exists_and_left, V.int.injEq, V.bl.injEq, V.ref.injEq, V.str.injEq, List.cons.injEq, and_true, true_and, Bool.true_eq, List.nil_append, List.append_nil, List.cons_append, exists_eq', and_self, reduceCtorEq, false_or, or_false, false_and, exists_false, exists_const, and_assoc, if_true, Bool.false_eq_true, if_false, Nat.reduceAdd, Nat.reduceLeDiff, Nat.zero_add, Nat.le_refl, forall_const, st_L_mixed_rows]
    refine ⟨fun σ' H' => ∃ a xs ds, σ' = [some (.ref p), some (.int n), some (.int u), some (.ref a), none, none, none, none, none] ∧ Ext p H H' ∧ PenAt H' p l (c + 900) ∧ H' a = some (.lst xs) ∧ LRows H' n xs ds ∧ xs.length ≤ u ∧ RBd 10 ds, ?_, ?_⟩
    · exact ⟨p, l, c, n, u, rfl, hn, hu1, hu, hp, by omega, fun H1 a xs ds _ x1 p1 ha hw hl hb => ⟨a, xs, ds, rfl, x1, p1, ha, hw, hl, hb⟩⟩
    rintro σ' H1 ⟨a, xs, ds, rfl, x1, p1, ha, hw, hl, hb⟩
    refine ⟨fun σ' H' => ∃ f qs, σ' = [some (.ref p), some (.int n), some (.int u), some (.ref a), some (.ref f), none, none, none, none] ∧ Ext p H1 H' ∧ PenAt H' p l (c + 901) ∧ IsForm H' f qs ∧ qs.length = n + 1 ∧ ∀ z ∈ qs, HwM.Bd 4 z, ?_, ?_⟩
    · simp only [tVar, rIxTH, rIxLH, gTupH, line_le, HO.tup.injEq, HO.lst.injEq, List.length_cons, List.length_nil, at0, at1, rU, tOst, tTest, rIxL, rIxT, C8.tCut, cxOf_K, tC, tOp, tUn, tSeq, tAsg, tNext, tRet, tRetN, tDrop, tIfS, tNever, gName, gNil, gCons, gTup, gSub, tPar, rI, rI0, rU, rEq, rNe, tB, tAnd, tOr, tNot, tAndV, tOrV, tNotV, tIf, tTup, tLst, tNil, tCons, tCB, tCall, tMeth, tMake, tFld, sFld, tDGet, sDPut, tDisp, tPairs, tBreak, tCont, scal_ii, scal_bb, scal_ss, List.getElem?_cons_zero, List.getElem?_cons_succ, List.set_cons_zero, List.set_cons_succ, Option.some.injEq, exists_eq_left', exists_eq_left, exists_and_left, V.int.injEq, V.bl.injEq, V.ref.injEq, V.str.injEq, List.cons.injEq, and_true, true_and, Bool.true_eq, List.nil_append, List.append_nil, List.cons_append, exists_eq', and_self, reduceCtorEq, false_or, or_false, false_and, exists_false, exists_const, and_assoc, if_true, Bool.false_eq_true, if_false, Nat.reduceAdd, Nat.reduceLeDiff, Nat.zero_add, Nat.le_refl, forall_const, st_L_mixed_rows]
      refine pick4 (q1 := 0) (q2 := 0) (q3 := ri (-1)) (q4 := r13) qv0 qv0 rfl rfl p1 (by omega) fun H2 b q x2 p2 hb2 hq => ?_
      refine ⟨b, q, n, rfl, hb2, by omega, fun H3 f s3 hf => ⟨f, rfl, x2.trans (.of s3), (p2.same s3).mono (by omega), _, hf, by simp, fun z hz => ?_⟩⟩
      rcases List.mem_cons.mp hz with rfl | hz
      · simp only [List.mem_cons, List.not_mem_nil, or_false] at hq
        rcases hq with rfl | rfl | rfl | rfl
        · exact bd0 (by decide)
        · exact bd0 (by decide)
        · exact ⟨by decide, by decide⟩
        · exact ⟨by decide, by decide⟩
      · rw [List.eq_of_mem_replicate hz]; exact bd0 (by decide)
    rintro σ' H2 ⟨f, qs, rfl, x2, p2, hf, lq, bq⟩
    have ha2 := x2 _ _ (lst_noPen p1 ha) ha
    have hw2 := hw.ext p1 x2
    have lw := Fa2.len hw2
    refine ⟨fun σ' H' => ∃ f qs v5 v6, σ' = [some (.ref p), some (.int n), some (.int u), some (.ref a), some (.ref f), v5, v6, none, none] ∧ Ext p H2 H' ∧ PenAt H' p l (c + 910) ∧ IsForm H' f qs ∧ qs.length = n + 1 ∧ ∀ z ∈ qs, HwM.Bd 72 z, ?_, ?_⟩
    · refine ⟨.ref a, rfl, a, rfl, ⟨_, SqL.of ha2⟩, for_list (xs := xs) (fun i σ' H' => ∃ f qs v5 v6, σ' = [some (.ref p), some (.int n), some (.int u), some (.ref a), some (.ref f), v5, v6, none, none] ∧ Ext p H2 H' ∧ PenAt H' p l (c + 901 + i) ∧ IsForm H' f qs ∧ qs.length = n + 1 ∧ ∀ z ∈ qs, HwM.Bd (4 + 13 * i) z) ?_ ?_ ?_ ?_⟩
      · exact ⟨f, qs, none, none, rfl, Ext.refl, p2.mono (by omega), hf, lq, bq⟩
      · rintro i σ' H' _ ⟨f, qs, v5, v6, _, x3, _⟩
        exact SqL.of (x3 _ _ (lst_noPen p2 ha2) ha2)
      · rintro i v σ' H3 hi ⟨f, qs, v5, v6, rfl, x3, p3, hf, lq, bq⟩
        obtain ⟨⟨q0, qs0, b0⟩, hd, t, f', rfl, ht, hf', lq0⟩ := Fa2.get (hw2.ext p2 x3) hi
        have lq0 : qs0.length = n := lq0
        have li := ix_lt hi
        simp only [tVar, rIxTH, rIxLH, gTupH, line_le, HO.tup.injEq, HO.lst.injEq, List.length_cons, List.length_nil, at0, at1, rU, tOst, tTest, rIxL, rIxT, C8.tCut, cxOf_K, tC, tOp, tUn, tSeq, tAsg, tNext, tRet, tRetN, tDrop, tIfS, tNever, gName, gNil, gCons, gTup, gSub, tPar, rI, rI0, rU, rEq, rNe, tB, tAnd, tOr, tNot, tAndV, tOrV, tNotV, tIf, tTup, tLst, tNil, tCons, tCB, tCall, tMeth, tMake, tFld, sFld, tDGet, sDPut, tDisp, tPairs, tBreak, tCont, scal_ii, scal_bb, scal_ss, List.getElem?_cons_zero, List.getElem?_cons_succ, List.set_cons_zero, List.set_cons_succ, Option.some.injEq, exists_eq_left', exists_eq_left, exists_and_left, V.int.injEq, V.bl.injEq, V.ref.injEq, V.str.injEq, List.cons.injEq, and_true, true_and, Bool.true_eq, List.nil_append, List.append_nil, List.cons_append, exists_eq', and_self, reduceCtorEq, false_or, or_false, false_and, exists_false, exists_const, and_assoc, if_true, Bool.false_eq_true, if_false, Nat.reduceAdd, Nat.reduceLeDiff, Nat.zero_add, Nat.le_refl, forall_const, st_L_mixed_rows]
        refine ⟨_, ht, rfl, _, _, rfl, _, _, rfl, rfl, ?_⟩
        refine pick4 (q1 := ri 1) (q2 := ri 2) (q3 := r13) (q4 := 0) rfl rfl rfl qv0 p3 (by omega) fun H4 b q x4 p4 hb2 hq => ?_
        have bd2 : HwM.Bd 2 q := few hq (all4 ⟨by decide, by decide⟩ ⟨by decide, by decide⟩ ⟨by decide, by decide⟩ (bd0 (by decide)))
        have b10 := hb _ (List.mem_of_getElem? hd)
        refine ⟨f', b, q0 :: qs0, q, rfl, hf'.ext p3 x4, hb2, by simp; omega, fun z hz => (b10 z hz).mono (by decide), bd2.mono (by decide), fun H5 g s5 hg => ?_⟩
        have x35 := x4.trans (Ext.of s5)
        refine ⟨f, g, qs, _, rfl, hf.ext p3 x35, hg, by simp; omega, by omega, fun z hz => (bq z hz).mono (by omega), fun z hz => (map_mul_bd (by decide) b10 bd2 z hz).mono (by decide), fun H6 h s6 hh => ?_⟩
        exact ⟨h, rfl, x3.trans (x35.trans (Ext.of s6)), ((p4.same s5).same s6).mono (by push_cast; omega), _, hh, by rw [zipR_len (by simp; omega)]; exact lq, fun z hz => (zip_sub_bd bq (map_mul_bd (by decide) b10 bd2) z hz).mono (by omega)⟩
      · rintro σ' H3 ⟨f, qs, v5, v6, rfl, x3, p3, hf, lq, bq⟩
        exact ⟨f, qs, v5, v6, rfl, x3, p3.mono (by omega), hf, lq, fun z hz => (bq z hz).mono (by omega)⟩
    rintro σ' H3 ⟨f, qs, v5, v6, rfl, x3, p3, hf, lq, bq⟩
    have ha3 := x3 _ _ (lst_noPen p2 ha2) ha2
    have hw3 := hw2.ext p2 x3
    refine ⟨fun σ' H' => ∃ j : Nat, σ' = [some (.ref p), some (.int n), some (.int u), some (.ref a), some (.ref f), v5, v6, some (.int j), none] ∧ j ≤ xs.length ∧ Ext p H3 H' ∧ PenAt H' p l (c + 911), ?_, ?_⟩
    · simp only [tVar, rIxTH, rIxLH, gTupH, line_le, HO.tup.injEq, HO.lst.injEq, List.length_cons, List.length_nil, at0, at1, rU, tOst, tTest, rIxL, rIxT, C8.tCut, cxOf_K, tC, tOp, tUn, tSeq, tAsg, tNext, tRet, tRetN, tDrop, tIfS, tNever, gName, gNil, gCons, gTup, gSub, tPar, rI, rI0, rU, rEq, rNe, tB, tAnd, tOr, tNot, tAndV, tOrV, tNotV, tIf, tTup, tLst, tNil, tCons, tCB, tCall, tMeth, tMake, tFld, sFld, tDGet, sDPut, tDisp, tPairs, tBreak, tCont, scal_ii, scal_bb, scal_ss, List.getElem?_cons_zero, List.getElem?_cons_succ, List.set_cons_zero, List.set_cons_succ, Option.some.injEq, exists_eq_left', exists_eq_left, exists_and_left, V.int.injEq, V.bl.injEq, V.ref.injEq, V.str.injEq, List.cons.injEq, and_true, true_and, Bool.true_eq, List.nil_append, List.append_nil, List.cons_append, exists_eq', and_self, reduceCtorEq, false_or, or_false, false_and, exists_false, exists_const, and_assoc, if_true, Bool.false_eq_true, if_false, Nat.reduceAdd, Nat.reduceLeDiff, Nat.zero_add, Nat.le_refl, forall_const, st_L_mixed_rows]
      refine ⟨xs, .inl (SqL.of ha3), p, l, _, _, rfl, p3, by omega, by omega, ?_, fun H4 r x4 p4 r0 r1 => ⟨r.toNat, by rw [Int.toNat_of_nonneg r0], by omega, x4, p4.mono (by omega)⟩⟩
      exact small_draw (m := xs.length + 1) (by omega)
    rintro σ' H4 ⟨j, rfl, hj, x4, p4⟩
    have ha4 := x4 _ _ (lst_noPen p3 ha3) ha3
    have hw4 := hw3.ext p3 x4
    have hf4 := hf.ext p3 x4
    obtain ⟨f0, fs, rfl, lfs⟩ := form_cons lq
    refine ⟨fun σ' H' => ∃ a ys es, σ' = [some (.ref p), some (.int n), some (.int u), some (.ref a), some (.ref f), v5, v6, some (.int j), none] ∧ Ext p H4 H' ∧ PenAt H' p l (c + 913) ∧ H' a = some (.lst ys) ∧ LRows H' n ys es ∧ ys.length ≤ u + 1 ∧ RBd 80 es, ?_, ?_⟩
    · simp only [tVar, rIxTH, rIxLH, gTupH, line_le, HO.tup.injEq, HO.lst.injEq, List.length_cons, List.length_nil, at0, at1, rU, tOst, tTest, rIxL, rIxT, C8.tCut, cxOf_K, tC, tOp, tUn, tSeq, tAsg, tNext, tRet, tRetN, tDrop, tIfS, tNever, gName, gNil, gCons, gTup, gSub, tPar, rI, rI0, rU, rEq, rNe, tB, tAnd, tOr, tNot, tAndV, tOrV, tNotV, tIf, tTup, tLst, tNil, tCons, tCB, tCall, tMeth, tMake, tFld, sFld, tDGet, sDPut, tDisp, tPairs, tBreak, tCont, scal_ii, scal_bb, scal_ss, List.getElem?_cons_zero, List.getElem?_cons_succ, List.set_cons_zero, List.set_cons_succ, Option.some.injEq, exists_eq_left', exists_eq_left, exists_and_left, V.int.injEq, V.bl.injEq, V.ref.injEq, V.str.injEq, List.cons.injEq, and_true, true_and, Bool.true_eq, List.nil_append, List.append_nil, List.cons_append, exists_eq', and_self, reduceCtorEq, false_or, or_false, false_and, exists_false, exists_const, and_assoc, if_true, Bool.false_eq_true, if_false, Nat.reduceAdd, Nat.reduceLeDiff, Nat.zero_add, Nat.le_refl, forall_const, st_L_mixed_rows, tSl, tPart, tNoPart, rSlL]
      refine ⟨xs, SqL.of ha4, fun y1 hy1 => ?_⟩
      rw [cutV_to]
      have s1 := same_new (o := HO.lst (xs.take j)) hy1
      refine pick2 (q1 := ri 1) (q2 := r32) rfl rfl (p4.same s1) (by omega) fun H5 b q x5 p5 hb2 hq => ?_
      have bd2 : HwM.Bd 2 q := few hq (all2 ⟨by decide, by decide⟩ ⟨by decide, by decide⟩)
      have x45 := (Ext.of (p := p) s1).trans x5
      refine ⟨f, b, f0 :: fs, q, rfl, hf4.ext p4 x45, hb2, by simp; omega, fun z hz => (bq z hz).mono (by decide), bd2.mono (by decide), fun H6 g s6 hg => ?_⟩
      refine ⟨p, l, _, 2, rfl, p5.same s6, by omega, by decide, small_draw (m := 2) (by decide), fun H7 r x7 p7 r0 r1 => ⟨rfl, fun t ht y2 hy2 => ?_⟩⟩
      have st := same_new (o := HO.tup [V.ref g, V.bl (decide (V.int r = V.int 0))]) ht
      have sy := same_new (o := HO.lst [V.ref t]) hy2
      have x68 := (Ext.of (p := p) s6).trans (x7.trans (Ext.of (st.trans sy)))
      have x48 := x45.trans x68
      have y1p : y1 ≠ p := p4.ne hy1
      have y1' := (x5.trans x68) _ _ y1p (upd_same (H := H4) (a := y1) (o := HO.lst (xs.take j)))
      refine ⟨y1, y2, _, _, rfl, rfl, y1', upd_same, by simp; exact line_le (by omega), fun y3 hy3 => ?_⟩
      have s3 := same_new (o := HO.lst (xs.take j ++ [V.ref t])) hy3
      refine ⟨xs, SqL.of (s3 _ _ (x48 _ _ (lst_noPen p4 ha4) ha4)), fun y4 hy4 => ?_⟩
      rw [cutV_from]
      have s4 := same_new (o := HO.lst (xs.drop j)) hy4
      refine ⟨y3, y4, _, _, rfl, rfl, s4 _ _ upd_same, upd_same, by simp; exact line_le (by omega), fun y5 hy5 => ?_⟩
      have s5 := same_new (o := HO.lst (xs.take j ++ [V.ref t] ++ xs.drop j)) hy5
      have x89 := Ext.of (p := p) ((s3.trans s4).trans s5)
      have pe := (((p7.same st).same sy).same s3).same s4
      refine ⟨y5, rfl, x48.trans x89, (pe.same s5).mono (by omega), _, upd_same, ds.take j ++ [(f0 * q, fs.map fun z => z * q, decide (V.int r = V.int 0))] ++ ds.drop j, ?_, by simp; omega, ?_⟩
      · have hr : LRow _ (.ref t) n (f0 * q) (fs.map fun z => z * q) (decide (V.int r = V.int 0)) := ⟨t, g, rfl, s5 _ _ (s4 _ _ (s3 _ _ (sy _ _ upd_same))), ((((((hg.ext (p5.same s6) x7).same st).same sy).same s3).same s4).same s5), by simp; exact lfs⟩
        have hw9 := hw4.ext p4 (x48.trans x89)
        exact Fa2.app (Fa2.app (fa2_take hw9 j) (.cons hr .nil)) (fa2_drop hw9 j)
      · exact RBd.app (RBd.app ((hb.mono (by decide)).take) (RBd.one fun z hz => (map_mul_bd (qs := f0 :: fs) (by decide) bq bd2 z hz).mono (by decide))) ((hb.mono (by decide)).drop)
    rintro σ' H5 ⟨a5, ys, es, rfl, x5, p5, ha5, hw5, hl5, hb5⟩
    refine ⟨fun σ' H' => ∃ b : Bool, σ' = [some (.ref p), some (.int n), some (.int u), some (.ref a5), some (.ref f), v5, v6, some (.int j), some (.bl b)] ∧ Ext p H5 H' ∧ PenAt H' p l (c + 914), ?_, ?_⟩
    · simp only [tVar, rIxTH, rIxLH, gTupH, line_le, HO.tup.injEq, HO.lst.injEq, List.length_cons, List.length_nil, at0, at1, rU, tOst, tTest, rIxL, rIxT, C8.tCut, cxOf_K, tC, tOp, tUn, tSeq, tAsg, tNext, tRet, tRetN, tDrop, tIfS, tNever, gName, gNil, gCons, gTup, gSub, tPar, rI, rI0, rU, rEq, rNe, tB, tAnd, tOr, tNot, tAndV, tOrV, tNotV, tIf, tTup, tLst, tNil, tCons, tCB, tCall, tMeth, tMake, tFld, sFld, tDGet, sDPut, tDisp, tPairs, tBreak, tCont, scal_ii, scal_bb, scal_ss, List.getElem?_cons_zero, List.getElem?_cons_succ, List.set_cons_zero, List.set_cons_succ, Option.some.injEq, exists_eq_left', exists_eq_left, exists_and_left, V.int.injEq, V.bl.injEq, V.ref.injEq, V.str.injEq, List.cons.injEq, and_true, true_and, Bool.true_eq, List.nil_append, List.append_nil, List.cons_append, exists_eq', and_self, reduceCtorEq, false_or, or_false, false_and, exists_false, exists_const, and_assoc, if_true, Bool.false_eq_true, if_false, Nat.reduceAdd, Nat.reduceLeDiff, Nat.zero_add, Nat.le_refl, forall_const, st_L_mixed_rows]
      exact ⟨p, l, _, 3, rfl, p5, by omega, by decide, small_draw (m := 3) (by decide), fun H6 r x6 p6 r0 r1 => ⟨rfl, x6, p6.mono (by omega)⟩⟩
    rintro σ' H6 ⟨b, rfl, x6, p6⟩
    have ha6 := x6 _ _ (lst_noPen p5 ha5) ha5
    have hw6 := hw5.ext p5 x6
    have lw6 := Fa2.len hw6
    have x06 := ((((x1.trans x2).trans x3).trans x4).trans x5).trans x6
    refine ⟨.ref a5, rfl, a5, rfl, ⟨_, SqL.of ha6⟩, fun D hD => lc_list (K := K) (a := a5) (xs := ys) (fun i H' => Same H6 H' ∧ ∃ acc, H' D = some (.lst acc) ∧ acc.length = i ∧ LRows H' n acc ((es.take i).map fun d => (d.1, d.2.1, d.2.2 && !b))) ⟨same_new hD, [], upd_same, rfl, .nil⟩ (fun i H' _ h => SqL.of (h.1 _ _ ha6)) ?_ ?_⟩
    · rintro i v H2 hi ⟨s2, acc, hacc, hl3, hall⟩
      obtain ⟨⟨q, qs, b1⟩, hd, t, f', rfl, ht, hf, lq⟩ := Fa2.get hw6 hi
      have li := ix_lt hi
      simp only [tVar, rIxTH, rIxLH, gTupH, line_le, HO.tup.injEq, HO.lst.injEq, List.length_cons, List.length_nil, at0, at1, rU, tOst, tTest, rIxL, rIxT, C8.tCut, cxOf_K, tC, tOp, tUn, tSeq, tAsg, tNext, tRet, tRetN, tDrop, tIfS, tNever, gName, gNil, gCons, gTup, gSub, tPar, rI, rI0, rU, rEq, rNe, tB, tAnd, tOr, tNot, tAndV, tOrV, tNotV, tIf, tTup, tLst, tNil, tCons, tCB, tCall, tMeth, tMake, tFld, sFld, tDGet, sDPut, tDisp, tPairs, tBreak, tCont, scal_ii, scal_bb, scal_ss, List.getElem?_cons_zero, List.getElem?_cons_succ, List.set_cons_zero, List.set_cons_succ, Option.some.injEq, exists_eq_left', exists_eq_left, exists_and_left, V.int.injEq, V.bl.injEq, V.ref.injEq, V.str.injEq, List.cons.injEq, and_true, true_and, Bool.true_eq, List.nil_append, List.append_nil, List.cons_append, exists_eq', and_self, reduceCtorEq, false_or, or_false, false_and, exists_false, exists_const, and_assoc, if_true, Bool.false_eq_true, if_false, Nat.reduceAdd, Nat.reduceLeDiff, Nat.zero_add, Nat.le_refl, forall_const, st_L_mixed_rows, wipe, List.map_cons, List.map_nil, tYes]
      refine ⟨_, s2 _ _ ht, rfl, _, _, rfl, _, _, rfl, rfl, ?_⟩
      have go : ∀ b2 : Bool, b2 = (b1 && !b) → ∀ t1, H2 t1 = none → ∃ acc, upd H2 t1 (HO.tup [V.ref f', V.bl b2]) D = some (HO.lst acc) ∧ acc.length < sizeLine ∧ Same H6 (upd (upd H2 t1 (HO.tup [V.ref f', V.bl b2])) D (HO.lst (acc ++ [V.ref t1]))) ∧ ∃ acc_1, upd (upd H2 t1 (HO.tup [V.ref f', V.bl b2])) D (HO.lst (acc ++ [V.ref t1])) D = some (HO.lst acc_1) ∧ acc_1.length = i + 1 ∧
          LRows (upd (upd H2 t1 (HO.tup [V.ref f', V.bl b2])) D (HO.lst (acc ++ [V.ref t1]))) n acc_1 (List.map (fun d => (d.fst, d.snd.fst, d.snd.snd && !b)) (List.take (i + 1) es)) := by
        intro b2 e t1 ht1
        subst e
        have s1 := same_new (o := HO.tup [V.ref f', V.bl (b1 && !b)]) ht1
        have hD1 := s1 _ _ hacc
        refine ⟨acc, hD1, by rw [hl3]; exact Nat.lt_of_le_of_lt (show i ≤ 100 by omega) (by decide), same_updL hD (s2.trans s1), _, upd_same, by simp [hl3], ?_⟩
        rw [take_snoc hd, List.map_append]
        exact LRows.updL (show LRows _ _ _ _ from Fa2.snoc (hall.same s1) ⟨t1, f', rfl, upd_same, hf.same (s2.trans s1), lq⟩) hD1
      cases b1
      · exact ⟨false, rfl, iteF (go false rfl)⟩
      · exact ⟨true, rfl, iteT (go (!b) rfl)⟩
    · rintro H7 ⟨s7, acc, hacc, hl3, hall⟩
      rw [lw6, List.take_length] at hall
      exact k H7 D acc _ (ext_none x06 p6 hD) (x06.trans (Ext.of s7)) ((p6.same s7).mono (by omega)) hacc hall (by omega) fun d hd => by
        obtain ⟨e, he, rfl⟩ := List.mem_map.mp hd
        exact hb5 e he


end HwL
end

section
namespace HwL
open PySem PySem.Spec PyProof.Rows L2 LamX HwP
variable {P : Program} {w : World} {K : PySem.W.Frag} {mg : Str → Option Value} {base : Heap}

theorem worth_bd3 {m n : Nat} {q : Rat} {qs rs : List Rat} (h0 : 0 < m + n) (hl : qs.length = rs.length) (h3 : qs.length ≤ 3) (h1 : ∀ z ∈ q :: qs, HwM.Bd m z) (h2 : ∀ z ∈ rs, HwM.Bd n z) : HwM.Bd (m + (m + n + 1) * 3) (worth q qs rs) := by
  have h := worth_bdG h0 hl h1 h2 qs.length (Nat.le_refl _)
  rw [List.take_length, hl, List.take_length, ← hl] at h
  exact h.mono (Nat.add_le_add_left (Nat.mul_le_mul_left _ h3) _)
abbrev N_L_tight_rows : List Str := ["_law_pen_here", "_law_size", "_law_many", "_law_point", "_law_rows", "_law_form", "_law_strict", "_law_worth", "_law_lift", "_law_letter"]
theorem sc_L_tight_rows : FnScope N_L_tight_rows ["_law_pen_here", "_law_size", "_law_many"] (defScope s_L_tight_rows) := ⟨rfl, rfl, rfl, by decide +kernel, rfl, by decide +kernel, by decide +kernel⟩
theorem st_L_tight_rows {v0 v1 v2 : V} : L2.start N_L_tight_rows [v0, v1, v2] = [some v0, some v1, some v2, none, none, none, none, none, none, none] := rfl
theorem ok_L_tight_rows {f : Addr} {fd : FuncData} (F : FD K s_L_tight_rows "_law_tight_rows" "_law_tight_rows" f fd) (z_range : mg "range" = none) (g_L_random_rows : Gf P w K mg base "_law_random_rows" 5 ["_law_pen_here", "_law_size", "_law_many"] (spRowsD 10 900 0)) (g_L_plus : Gf P w K mg base "_law_plus" 3 ["_law_one", "_law_two"] (spQ2 (fun q r => q + r))) (g_L_minus : Gf P w K mg base "_law_minus" 3 ["_law_one", "_law_two"] (spQ2 (fun q r => q - r))) (g_L_pick : Gf P w K mg base "_law_pick" 2 ["_law_pen_here", "_law_some"] (spPick)) (g_L_at : Gf P w K mg base "_law_at" 4 ["_law_form", "_law_point"] (spLAt)) (g_L_little : Gf P w K mg base "_law_little" 3 ["_law_pen_here"] (spLittle)) : FnOk P w K mg base (L2.CX P w) 6 f fd ["_law_pen_here", "_law_size", "_law_many"] (spRowsD 90 1000 0) := by
  have nd := sc_L_tight_rows.nd
  refine F.ok0 sc_L_tight_rows (fun vs H Q E h => ?_) (fun cdv A outer s H vs Q E hr h => ?_)
  · obtain ⟨p, l, c, n, u, rfl, _⟩ := h
    rfl
  · obtain ⟨p, l, c, n, u, rfl, hn, hu1, hu, hp, hc, k⟩ := h
    refine ⟨_, (C8.pss_cut (ps_par (i := 3) (j := 4) (by rfl) nd rfl rfl (by decide) rfl rfl (pa_cons (pe_lc (own := [("_law_letter", 9)]) rfl nd (pi_range1 rfl z_range (pa_cons (pv 1) pa_nil)) (blkOk_by (own := [("_law_letter", 9)]) (N := N_L_tight_rows) (sc := defScope s_L_tight_rows) (by decide +kernel)) (fun _ _ _ _ _ => (pg_name (i := 9) nd rfl (Or.inl rfl))) (fun _ _ _ _ _ => pts_nil) (fun _ _ _ _ _ => (pe_g g_L_little hr (by decide) passL rfl (pa_cons (pv 0) pa_nil)))) (pa_cons (pe_lst pa_nil) pa_nil)) (by rfl))
        (C8.pss_cut (ps_for PassesOwn.never rfl (pi_list (pe_g g_L_random_rows hr (by decide) passL rfl (pa_cons (pv 0) (pa_cons (pv 1) (pa_cons (pv 2) pa_nil))))) (pg_tupH rfl (pgs_cons (pg_name (i := 5) nd rfl (Or.inl rfl)) (pgs_cons (pg_name (i := 6) nd rfl (Or.inl rfl)) pgs_nil))) (pss_cons (ps_set (i := 7) nd rfl (Or.inl rfl) (pe_g g_L_at hr (by decide) passL rfl (pa_cons (pv 5) (pa_cons (pv 3) pa_nil))))
        (pss_cons (ps_set (i := 8) nd rfl (Or.inl rfl) (pe_g g_L_pick hr (by decide) passL rfl (pa_cons (pv 0) (pa_cons (pe_lst (pa_cons (pe_tup (pa_cons pe_int (pa_cons pe_int pa_nil))) (pa_cons (pe_tup (pa_cons pe_int (pa_cons pe_int pa_nil))) (pa_cons (pe_tup (pa_cons pe_int (pa_cons pe_int pa_nil))) (pa_cons (pe_tup (pa_cons pe_int (pa_cons pe_int pa_nil))) pa_nil))))) pa_nil))))
        (pss_cons (ps_set (i := 5) nd rfl (Or.inl rfl) (pe_op op_catA (pe_tup (pa_cons (pe_g g_L_plus hr (by decide) passL rfl (pa_cons (pe_g g_L_minus hr (by decide) passL rfl (pa_cons (pe_ix ix_tupH (pv 5) pe_int (fun _ _ => rfl)) (pa_cons (pv 7) pa_nil))) (pa_cons (pv 8) pa_nil))) pa_nil)) (pe_slice sl_tup (pv 5) (po_some pe_int) po_none)))
        (pss_one (ps_expr (pe_bm PySem.F.plainAttrs_list PySem.F.slot_list_append PySem.F.type_list_append mt_append (pv 4) (pa_cons (pe_tup (pa_cons (pv 5) (pa_cons (pe_and (pv 6) (pe_one (pe_cmpR op_gt (pe_ix ix_tupH (pv 8) pe_int (fun _ _ => rfl)) pe_int (nomark _)))) pa_nil))) pa_nil))))))))
        (pss_one (ps_ret (pv 4))))), ?_⟩
    simp only [tVar, rIxTH, rIxLH, gTupH, line_le, HO.tup.injEq, HO.lst.injEq, List.length_cons, List.length_nil, at0, at1, rU, tOst, tTest, rIxL, rIxT, C8.tCut, cxOf_K, tC, tOp, tUn, tSeq, tAsg, tNext, tRet, tRetN, tDrop, tIfS, tNever, gName, gNil, gCons, gTup, gSub, tPar, rI, rI0, rU, rEq, rNe, tB, tAnd, tOr, tNot, tAndV, tOrV, tNotV, tIf, tTup, tLst, tNil, tCons, tCB, tCall, tMeth, tMake, tFld, sFld, tDGet, sDPut, tDisp, tPairs, tBreak, tCont, scal_ii, scal_bb, scal_ss, List.getElem?_cons_zero, List.getElem?_cons_succ, List.set_cons_zero, List.set_cons_succ, Option.some.injEq, exists_eq_left', exists_eq_left, exists_and_left, V.int.injEq, V.bl.injEq, V.ref.injEq, V.str.injEq, List.cons.injEq, and_true, true_and, Bool.true_eq, List.nil_append, List.append_nil, List.cons_append, exists_eq', and_self, reduceCtorEq, false_or, or_false, false_and, exists_false, exists_const, and_assoc, if_true, Bool.false_eq_true, if_false, Nat.reduceAdd, Nat.reduceLeDiff, Nat.zero_add, Nat.le_refl, forall_const, st_L_tight_rows]
    refine ⟨fun σ' H' => ∃ P R ys rs, σ' = [some (.ref p), some (.int n), some (.int u), some (.ref P), some (.ref R), none, none, none, none, none] ∧ Ext p H H' ∧ PenAt H' p l (c + 7) ∧ H R = none ∧ P ≠ R ∧ H' P = some (.lst ys) ∧ AllQ H' ys rs ∧ rs.length = n ∧ (∀ z ∈ rs, HwM.Bd 10 z) ∧ H' R = some (.lst []), ?_, ?_⟩
    · refine ⟨_, rfl, n, rfl, by omega, by omega, ?_⟩
      rw [Int.toNat_natCast]
      refine fun D hD => lc_range (lo := 0) (n := n) (D := D) (fun i H' => ∃ acc qs, H' D = some (.lst acc) ∧ acc.length = i ∧ qs.length = i ∧ AllQ H' acc qs ∧ (∀ q ∈ qs, HwM.Bd 10 q) ∧ Ext p H H' ∧ PenAt H' p l (c + 2 * i)) ⟨[], [], upd_same, rfl, rfl, .nil, by simp, .of (same_new hD), (hp.same (same_new hD)).mono (by omega)⟩ ?_ ?_
      · rintro i H2 hi ⟨acc, qs, hacc, hl, hl2, hall, hb, x2, p2⟩
        have nDp : D ≠ p := hp.ne hD
        have nDl : D ≠ l := hp.ne2 hD
        simp only [tVar, rIxTH, rIxLH, gTupH, line_le, HO.tup.injEq, HO.lst.injEq, List.length_cons, List.length_nil, at0, at1, rU, tOst, tTest, rIxL, rIxT, C8.tCut, cxOf_K, tC, tOp, tUn, tSeq, tAsg, tNext, tRet, tRetN, tDrop, tIfS, tNever, gName, gNil, gCons, gTup, gSub, tPar, rI, rI0, rU, rEq, rNe, tB, tAnd, tOr, tNot, tAndV, tOrV, tNotV, tIf, tTup, tLst, tNil, tCons, tCB, tCall, tMeth, tMake, tFld, sFld, tDGet, sDPut, tDisp, tPairs, tBreak, tCont, scal_ii, scal_bb, scal_ss, List.getElem?_cons_zero, List.getElem?_cons_succ, List.set_cons_zero, List.set_cons_succ, Option.some.injEq, exists_eq_left', exists_eq_left, exists_and_left, V.int.injEq, V.bl.injEq, V.ref.injEq, V.str.injEq, List.cons.injEq, and_true, true_and, Bool.true_eq, List.nil_append, List.append_nil, List.cons_append, exists_eq', and_self, reduceCtorEq, false_or, or_false, false_and, exists_false, exists_const, and_assoc, if_true, Bool.false_eq_true, if_false, Nat.reduceAdd, Nat.reduceLeDiff, Nat.zero_add, Nat.le_refl, forall_const, st_L_tight_rows, wipe, List.map_cons, List.map_nil]
        refine ⟨p, l, _, rfl, p2, by omega, fun H3 b q x3 p3 hb3 bq => ?_⟩
        have hacc3 := x3 _ _ nDp hacc
        refine ⟨acc, hacc3, by rw [hl]; exact line_le (by omega), acc ++ [.ref b], upd_same, by simp [hl], qs ++ [q], by simp [hl2], AllQ.updL (show AllQ H3 _ _ from Fa2.snoc (hall.ext p2 x3) ⟨b, rfl, hb3⟩) hacc3, ?_, ext_updD hD (x2.trans x3), (p3.put nDp nDl _).mono (by push_cast; omega)⟩
        intro z hz
        rcases List.mem_append.mp hz with h | h
        · exact hb z h
        · rw [List.mem_singleton.mp h]; exact bq
      · rintro H2 ⟨acc, qs, hacc, hl, hl2, hall, hb, x2, p2⟩
        intro R hR
        have s3 := same_new (o := HO.lst []) hR
        exact ⟨D, R, acc, qs, rfl, x2.trans (Ext.of s3), (p2.same s3).mono (by omega), ext_none x2 p2 hR, ne_of_none hacc hR, s3 _ _ hacc, hall.same s3, by omega, hb, upd_same⟩
    rintro σ' H1 ⟨P, R, ys, rs, rfl, x1, p1, hR0, hPR, hP, hy, lr, br, hR⟩
    refine ⟨fun σ' H' => ∃ acc es v5 v6 v7 v8, σ' = [some (.ref p), some (.int n), some (.int u), some (.ref P), some (.ref R), v5, v6, v7, v8, none] ∧ Ext p H H' ∧ PenAt H' p l (c + 1000) ∧ H' R = some (.lst acc) ∧ LRows H' n acc es ∧ acc.length ≤ u ∧ RBd 90 es, ?_, ?_⟩
    · refine ⟨_, rfl, _, rfl, _, rfl, p, l, c + 7, n, u, rfl, hn, hu1, hu, p1, by omega, fun H2 a xs ds a0 x2 p2 ha hw hl hb => ⟨a, rfl, ⟨_, SqL.of ha⟩, for_list (xs := xs) (fun i σ' H' => ∃ acc es v5 v6 v7 v8, σ' = [some (.ref p), some (.int n), some (.int u), some (.ref P), some (.ref R), v5, v6, v7, v8, none] ∧ Ext p H H' ∧ PenAt H' p l (c + 907 + i) ∧ H' P = some (.lst ys) ∧ AllQ H' ys rs ∧ H' a = some (.lst xs) ∧ LRows H' n xs ds ∧ H' R = some (.lst acc) ∧ LRows H' n acc es ∧ acc.length = i ∧ RBd 90 es) ?_ ?_ ?_ ?_⟩⟩
      · exact ⟨[], [], none, none, none, none, rfl, x1.trans x2, p2.mono (by omega), x2 _ _ (lst_noPen p1 hP) hP, hy.ext p1 x2, ha, hw, x2 _ _ (lst_noPen p1 hR) hR, .nil, rfl, RBd.nil⟩
      · rintro i σ' H' _ ⟨acc, es, v5, v6, v7, v8, _, _, _, _, _, ha, _⟩
        exact SqL.of ha
      · rintro i v σ' H3 hi ⟨acc, es, v5, v6, v7, v8, rfl, x3, p3, hP3, hy3, ha3, hw3, hR3, he3, hl3, hb3⟩
        obtain ⟨⟨q0, qs0, b0⟩, hd, t, f', rfl, ht, hf', lq0⟩ := Fa2.get hw3 hi
        have lq0 : qs0.length = n := lq0
        have li := ix_lt hi
        have b10 := hb _ (List.mem_of_getElem? hd)
        have aR : R ≠ a := fun z => by rw [z, a0] at hR; cases hR
        have pR : R ≠ p := lst_noPen p1 hR
        simp only [tVar, rIxTH, rIxLH, gTupH, line_le, HO.tup.injEq, HO.lst.injEq, List.length_cons, List.length_nil, at0, at1, rU, tOst, tTest, rIxL, rIxT, C8.tCut, cxOf_K, tC, tOp, tUn, tSeq, tAsg, tNext, tRet, tRetN, tDrop, tIfS, tNever, gName, gNil, gCons, gTup, gSub, tPar, rI, rI0, rU, rEq, rNe, tB, tAnd, tOr, tNot, tAndV, tOrV, tNotV, tIf, tTup, tLst, tNil, tCons, tCB, tCall, tMeth, tMake, tFld, sFld, tDGet, sDPut, tDisp, tPairs, tBreak, tCont, scal_ii, scal_bb, scal_ss, List.getElem?_cons_zero, List.getElem?_cons_succ, List.set_cons_zero, List.set_cons_succ, Option.some.injEq, exists_eq_left', exists_eq_left, exists_and_left, V.int.injEq, V.bl.injEq, V.ref.injEq, V.str.injEq, List.cons.injEq, and_true, true_and, Bool.true_eq, List.nil_append, List.append_nil, List.cons_append, exists_eq', and_self, reduceCtorEq, false_or, or_false, false_and, exists_false, exists_const, and_assoc, if_true, Bool.false_eq_true, if_false, Nat.reduceAdd, Nat.reduceLeDiff, Nat.zero_add, Nat.le_refl, forall_const, st_L_tight_rows]
        refine ⟨_, ht, rfl, _, _, rfl, _, _, rfl, rfl, ?_⟩
        refine ⟨f', P, q0, qs0, rs, ys, rfl, hf', hP3, hy3, by omega, by omega, fun z hz => (b10 z hz).mono (by decide), fun z hz => (br z hz).mono (by decide), fun H4 w s4 hw4 => ?_⟩
        have bw := worth_bd3 (by decide) (by omega) (by omega) b10 br
        refine pick4 (q1 := 0) (q2 := 0) (q3 := r12) (q4 := ri 3) qv0 qv0 rfl rfl (p3.same s4) (by omega) fun H5 b q x5 p5 hb5 hq => ?_
        have bd2 : HwM.Bd 2 q := few hq (all4 (bd0 (by decide)) (bd0 (by decide)) ⟨by decide, by decide⟩ ⟨by decide, by decide⟩)
        have x45 := (Ext.of (p := p) s4).trans x5
        obtain ⟨zs, hz1, hz2⟩ := hf'.ext p3 x45
        obtain ⟨z0, zt, rfl, ⟨e0, rfl, he0⟩, hzt⟩ : ∃ x0 xs, zs = x0 :: xs ∧ IsQ H5 x0 q0 ∧ AllQ H5 xs qs0 := by
          cases hz2 with
          | cons h1 h2 => exact ⟨_, _, rfl, h1, h2⟩
        have hw5 := x5 _ _ (tup_noPen (p3.same s4) hw4) hw4
        refine ⟨_, rfl, _, hz1, _, atI_nat (j := 0) rfl, e0, w, q0, worth q0 qs0 rs, rfl, he0, hw5, (b10 _ List.mem_cons_self).mono (by decide), bw.mono (by decide), fun a1 ha1 => ?_⟩
        have s1 := same_new (o := HO.tup (qv (q0 - worth q0 qs0 rs))) ha1
        have bm : HwM.Bd 84 (q0 - worth q0 qs0 rs) := (HwM.sub_bd (b10 _ List.mem_cons_self) bw).mono (by decide)
        refine ⟨a1, b, _, q, rfl, upd_same, s1 _ _ hb5, bm.mono (by decide), bd2.mono (by decide), fun a2 ha2 a3 hc3 => ?_⟩
        have s2 := same_new (o := HO.tup (qv (q0 - worth q0 qs0 rs + q))) ha2
        have s3 := same_new (o := HO.tup [V.ref a2]) hc3
        have lz := Fa2.len hzt
        refine ⟨_, rfl, 1, rfl, f', V.ref e0 :: zt, rfl, SqT.of (((s1.trans s2).trans s3) _ _ hz1), by rw [show (1 : Int) = ((1 : Nat) : Int) from rfl, HT.sIx_nat, List.length_cons]; omega, fun a4 ha4 => ?_⟩
        rw [show (1 : Int) = ((1 : Nat) : Int) from rfl, cutV_from, show List.drop 1 (V.ref e0 :: zt) = zt from rfl]
        have s4' := same_new (o := HO.tup zt) ha4
        refine cat_run (s4' _ _ upd_same) upd_same (by simp; omega) fun g H6 s6 hg => ?_
        have s16 := (((s1.trans s2).trans s3).trans s4').trans s6
        have x36 := x45.trans (Ext.of s16)
        have hR6 := x36 _ _ pR hR3
        have hfg : IsForm H6 g ((q0 - worth q0 qs0 rs + q) :: qs0) := ⟨_, hg, .cons ⟨a2, rfl, s6 _ _ (s4' _ _ (s3 _ _ upd_same))⟩ (hzt.same s16)⟩
        simp only [tBM, tVar, rIxTH, rIxLH, gTupH, line_le, HO.tup.injEq, HO.lst.injEq, List.length_cons, List.length_nil, at0, at1, rU, tOst, tTest, rIxL, rIxT, C8.tCut, cxOf_K, tC, tOp, tUn, tSeq, tAsg, tNext, tRet, tRetN, tDrop, tIfS, tNever, gName, gNil, gCons, gTup, gSub, tPar, rI, rI0, rU, rEq, rNe, tB, tAnd, tOr, tNot, tAndV, tOrV, tNotV, tIf, tTup, tLst, tNil, tCons, tCB, tCall, tMeth, tMake, tFld, sFld, tDGet, sDPut, tDisp, tPairs, tBreak, tCont, scal_ii, scal_bb, scal_ss, List.getElem?_cons_zero, List.getElem?_cons_succ, List.set_cons_zero, List.set_cons_succ, Option.some.injEq, exists_eq_left', exists_eq_left, exists_and_left, V.int.injEq, V.bl.injEq, V.ref.injEq, V.str.injEq, List.cons.injEq, and_true, true_and, Bool.true_eq, List.nil_append, List.append_nil, List.cons_append, exists_eq', and_self, reduceCtorEq, false_or, or_false, false_and, exists_false, exists_const, and_assoc, if_true, Bool.false_eq_true, if_false, Nat.reduceAdd, Nat.reduceLeDiff, Nat.zero_add, Nat.le_refl, forall_const, st_L_tight_rows]
        refine ⟨.inl ⟨rfl, acc, SqL.of hR6⟩, ?_⟩
        have fin : ∀ (b2 : Bool) (t1 : Addr), H6 t1 = none → rAppend (V.ref R) [V.ref t1] (upd H6 t1 (HO.tup [V.ref g, V.bl b2])) fun x H1 => Ext p H H1 ∧ PenAt H1 p l (c + 907 + ((i + 1 : Nat) : Int)) ∧ H1 P = some (HO.lst ys) ∧ AllQ H1 ys rs ∧ H1 a = some (HO.lst xs) ∧ LRows H1 n xs ds ∧ ∃ x, H1 R = some (HO.lst x) ∧ ∃ x_1, LRows H1 n x x_1 ∧ x.length = i + 1 ∧ RBd 90 x_1 := by
          intro b2 t1 ht1
          have st := same_new (o := HO.tup [V.ref g, V.bl b2]) ht1
          have x37 := x36.trans (Ext.of (p := p) st)
          have hR7 := st _ _ hR6
          refine ⟨R, acc, .ref t1, rfl, rfl, hR7, by rw [hl3]; exact line_le (by omega), ext_updD hR0 (x3.trans x37), ?_, ?_, AllQ.updL (hy3.ext p3 x37) hR7, ?_, LRows.updL (hw3.ext p3 x37) hR7, _, upd_same, es ++ [(q0 - worth q0 qs0 rs + q, qs0, b2)], ?_, by simp [hl3], hb3.app (RBd.one fun z hz => ?_)⟩
          · exact (((p5.same s16).same st).put (hp.ne hR0) (hp.ne2 hR0) _).mono (by push_cast; omega)
          · rw [upd_ne hPR]; exact x37 _ _ (lst_noPen p3 hP3) hP3
          · rw [upd_ne aR.symm]; exact x37 _ _ (lst_noPen p3 ha3) ha3
          · exact LRows.updL (show LRows _ _ _ _ from Fa2.snoc (he3.ext p3 x37) ⟨t1, g, rfl, upd_same, hfg.same st, lq0⟩) hR7
          · rcases List.mem_cons.mp hz with rfl | hz
            · exact (HwM.add_bd bm bd2).mono (by decide)
            · exact (b10 _ (List.mem_cons_of_mem _ hz)).mono (by decide)
        refine ite2 (fun _ => ⟨_, s16 _ _ hb5, _, atI_nat (j := 0) rfl, _, rfl, fun t1 ht1 => fin _ t1 ht1⟩) (fun _ t1 ht1 => fin false t1 ht1)
      · rintro σ' H3 ⟨acc, es, v5, v6, v7, v8, rfl, x3, p3, hP3, hy3, ha3, hw3, hR3, he3, hl3, hb3⟩
        exact ⟨acc, es, v5, v6, v7, v8, rfl, x3, p3.mono (by omega), hR3, he3, by omega, hb3⟩
    rintro σ' H2 ⟨acc, es, v5, v6, v7, v8, rfl, x2, p2, hR2, he2, hl2, hb2⟩
    exact ⟨_, rfl, k H2 R acc es hR0 x2 p2 hR2 he2 (by omega) hb2⟩


end HwL
end

section
namespace HwL
open PySem PySem.Spec PyProof.Rows L2 LamX HwP
variable {P : Program} {w : World} {K : PySem.W.Frag} {mg : Str → Option Value} {base : Heap}

/-! rows as plain data -/
def qD (q : Rat) : PyData := .tuple [.int q.num, .int (q.den : Int)]
def rowD (d : Rat × List Rat × Bool) : PyData := .tuple [.tuple ((d.1 :: d.2.1).map qD), .bool d.2.2]
def rowsD (ds : List (Rat × List Rat × Bool)) : PyData := .list (ds.map rowD)
theorem dp_q {H : Hp} {x : V} {q : Rat} (h : IsQ H x q) : Dp K H x (qD q) := by
  obtain ⟨b, rfl, hb⟩ := h
  exact .tup (SqT.of hb) (.cons (.int _) (.cons (.int _) .nil))
theorem dpAll_q {H : Hp} : ∀ {xs : List V} {qs : List Rat}, AllQ H xs qs → DpAll K H xs (qs.map qD) := by
  intro xs qs h
  unfold AllQ at h
  induction h with
  | nil => exact .nil
  | cons h _ ih => exact .cons (dp_q h) ih
theorem dp_row {H : Hp} {x : V} {n : Nat} {q : Rat} {qs : List Rat} {b : Bool} (h : LRow H x n q qs b) : Dp K H x (rowD (q, qs, b)) := by
  obtain ⟨t, f, rfl, ht, ⟨xs, hf, hx⟩, _⟩ := h
  exact .tup (SqT.of ht) (.cons (.tup (SqT.of hf) (dpAll_q hx)) (.cons (.bl b) .nil))
theorem dp_rows {H : Hp} {a : Addr} {n : Nat} {xs : List V} {ds : List (Rat × List Rat × Bool)} (ha : H a = some (.lst xs)) (h : LRows H n xs ds) : Dp K H (.ref a) (rowsD ds) := by
  refine .lst (SqL.of ha) ?_
  clear ha
  unfold LRows at h
  induction h with
  | nil => exact .nil
  | cons h _ ih => exact .cons (dp_row h) ih
theorem eqvAll_map {α : Type} [DecidableEq α] {f : α → PyData} (h : ∀ x y, PyData.eqv (f x) (f y) = decide (x = y)) : ∀ (xs ys : List α), PyData.eqvAll (xs.map f) (ys.map f) = decide (xs = ys)
  | [], [] => rfl
  | [], _ :: _ => rfl
  | _ :: _, [] => rfl
  | x :: xs, y :: ys => by
    show (PyData.eqv (f x) (f y) && PyData.eqvAll (xs.map f) (ys.map f)) = _
    rw [h, eqvAll_map h, ← Bool.decide_and]
    exact decide_eq_decide.mpr ⟨fun z => by rw [z.1, z.2], fun z => List.cons.inj z⟩
theorem eqv_q (q r : Rat) : PyData.eqv (qD q) (qD r) = decide (q = r) := by
  show ((q.num == r.num) && (((q.den : Int) == (r.den : Int)) && true)) = _
  rw [Bool.and_true, Bool.eq_iff_iff]
  simp only [Bool.and_eq_true, beq_iff_eq, decide_eq_true_eq]
  exact ⟨fun z => Rat.ext z.1 (Int.ofNat.inj z.2), fun z => by rw [z]; exact ⟨rfl, rfl⟩⟩
theorem eqv_row (d e : Rat × List Rat × Bool) : PyData.eqv (rowD d) (rowD e) = decide (d = e) := by
  show (PyData.eqvAll ((d.1 :: d.2.1).map qD) ((e.1 :: e.2.1).map qD) && ((d.2.2 == e.2.2) && true)) = _
  rw [eqvAll_map eqv_q, Bool.and_true, Bool.eq_iff_iff]
  simp only [Bool.and_eq_true, beq_iff_eq, decide_eq_true_eq]
  obtain ⟨q, qs, b⟩ := d
  obtain ⟨r, rs, c⟩ := e
  simp [and_assoc]
theorem eqv_rows (ds es : List (Rat × List Rat × Bool)) : PyData.eqv (rowsD ds) (rowsD es) = decide (ds = es) := eqvAll_map eqv_row ds es
theorem canLay_map {α : Type} {f : α → PyData} (h : ∀ x, (f x).canLay0 = true) : ∀ xs : List α, PyData.canLayAll0 (xs.map f) = true
  | [] => rfl
  | x :: xs => by simp [PyData.canLayAll0, h, canLay_map h xs]
theorem depth_map {α : Type} {f : α → PyData} {k : Nat} (h : ∀ x, (f x).depth ≤ k) : ∀ xs : List α, PyData.depthAll (xs.map f) ≤ k
  | [] => by simp [PyData.depthAll]
  | x :: xs => by
    have := h x
    have := depth_map h xs
    simp [PyData.depthAll]
    omega
theorem shaped_rows (ds : List (Rat × List Rat × Bool)) : SeqAt.shaped (rowsD ds) = true := by
  have c1 : ∀ q : Rat, (qD q).canLay0 = true := fun q => rfl
  have c2 : ∀ d : Rat × List Rat × Bool, (rowD d).canLay0 = true := fun d => by
    have := canLay_map c1 (d.1 :: d.2.1)
    unfold rowD
    simp only [PyData.canLay0, PyData.canLayAll0, this, Bool.and_true]
  have d1 : ∀ q : Rat, (qD q).depth ≤ 2 := fun q => by show (PyData.tuple [.int q.num, .int (q.den : Int)]).depth ≤ 2; simp [PyData.depth, PyData.depthAll]
  have d2 : ∀ d : Rat × List Rat × Bool, (rowD d).depth ≤ 4 := fun d => by
    have := depth_map d1 (d.1 :: d.2.1)
    unfold rowD
    simp only [PyData.depth, PyData.depthAll]
    omega
  have c3 := canLay_map c2 ds
  have d3 := depth_map d2 ds
  unfold SeqAt.shaped rowsD
  simp [PyData.canLay0, PyData.depth, c3]
  omega
theorem eq_rows {H : Hp} {a b : Addr} {n m : Nat} {xs ys : List V} {ds es : List (Rat × List Rat × Bool)} {Q : VK} (ha : H a = some (.lst xs)) (h1 : LRows H n xs ds) (hb : H b = some (.lst ys)) (h2 : LRows H m ys es) (k : Q (.bl (decide (ds = es))) H) : rEqD K (.ref a) (.ref b) H Q :=
  ⟨_, _, dp_rows ha h1, dp_rows hb h2, shaped_rows ds, shaped_rows es, by rw [eqv_rows]; exact k⟩
theorem ne_rows {H : Hp} {a b : Addr} {n m : Nat} {xs ys : List V} {ds es : List (Rat × List Rat × Bool)} {Q : VK} (ha : H a = some (.lst xs)) (h1 : LRows H n xs ds) (hb : H b = some (.lst ys)) (h2 : LRows H m ys es) (k : Q (.bl (!decide (ds = es))) H) : rNeD K (.ref a) (.ref b) H Q :=
  ⟨_, _, dp_rows ha h1, dp_rows hb h2, shaped_rows ds, shaped_rows es, by rw [eqv_rows]; exact k⟩
def spRowsE (m k j : Nat) : Sp := fun vs H Q _ => ∃ (p l : Addr) (c : Int) (n u : Nat), vs = [.ref p, .int n, .int u] ∧ n ≤ 3 ∧ 2 ≤ u ∧ u ≤ 5 ∧ PenAt H p l c ∧ c + k < 1000000 ∧
  ∀ H' a xs ds, H a = none → Ext p H H' → PenAt H' p l (c + k) → H' a = some (.lst xs) → LRows H' n xs ds → xs.length ≤ u + j → RBd m ds → Q (.ref a) H'
abbrev N_L_drawn_rows : List Str := ["_law_pen_here", "_law_size", "_law_many", "_law_sort", "_law_rows", "_law_form", "_law_strict", "_law_at_here"]
theorem sc_L_drawn_rows : FnScope N_L_drawn_rows ["_law_pen_here", "_law_size", "_law_many"] (defScope s_L_drawn_rows) := ⟨rfl, rfl, rfl, by decide +kernel, rfl, by decide +kernel, by decide +kernel⟩
theorem st_L_drawn_rows {v0 v1 v2 : V} : L2.start N_L_drawn_rows [v0, v1, v2] = [some v0, some v1, some v2, none, none, none, none, none] := rfl
theorem ok_L_drawn_rows {f : Addr} {fd : FuncData} (F : FD K s_L_drawn_rows "_law_drawn_rows" "_law_drawn_rows" f fd) (z_len : mg "len" = none) (g_L_draw : Gf P w K mg base "_law_draw" 1 ["_law_pen_here", "_law_many"] (spDraw)) (g_L_number_form : Gf P w K mg base "_law_number_form" 1 ["_law_one", "_law_size"] (spNumF)) (g_L_pick : Gf P w K mg base "_law_pick" 2 ["_law_pen_here", "_law_some"] (spPick)) (g_L_form_times : Gf P w K mg base "_law_form_times" 4 ["_law_one", "_law_by"] (spFT)) (g_L_minus_form : Gf P w K mg base "_law_minus_form" 1 ["_law_form"] (spMinusF)) (g_L_random_rows : Gf P w K mg base "_law_random_rows" 5 ["_law_pen_here", "_law_size", "_law_many"] (spRowsD 10 900 0)) (g_L_mixed_rows : Gf P w K mg base "_law_mixed_rows" 6 ["_law_pen_here", "_law_size", "_law_many"] (spRowsD 80 1000 1)) (g_L_tight_rows : Gf P w K mg base "_law_tight_rows" 6 ["_law_pen_here", "_law_size", "_law_many"] (spRowsD 90 1000 0)) : FnOk P w K mg base (L2.CX P w) 7 f fd ["_law_pen_here", "_law_size", "_law_many"] (spRowsE 100 1100 3) := by
  have nd := sc_L_drawn_rows.nd
  refine F.ok0 sc_L_drawn_rows (fun vs H Q E h => ?_) (fun cdv A outer s H vs Q E hr h => ?_)
  · obtain ⟨p, l, c, n, u, rfl, _⟩ := h
    rfl
  · obtain ⟨p, l, c, n, u, rfl, hn, hu1, hu, hp, hc, k⟩ := h
    refine ⟨_, (C8.pss_cut (ps_set (i := 3) nd rfl (Or.inl rfl) (pe_g g_L_draw hr (by decide) passL rfl (pa_cons (pv 0) (pa_cons pe_int pa_nil))))
        (C8.pss_cut (ps_if (pt_cmpR op_eq (pv 3) pe_int (nomark _)) (pss_one (ps_set (i := 4) nd rfl (Or.inl rfl) (pe_g g_L_random_rows hr (by decide) passL rfl (pa_cons (pv 0) (pa_cons (pv 1) (pa_cons (pv 2) pa_nil)))))) (pss_one (ps_if (pt_cmpR op_lt (pv 3) pe_int (nomark _)) (pss_one (ps_set (i := 4) nd rfl (Or.inl rfl) (pe_g g_L_mixed_rows hr (by decide) passL rfl (pa_cons (pv 0) (pa_cons (pv 1) (pa_cons (pe_op op_sub (pv 2) pe_int) pa_nil)))))) (pss_one (ps_set (i := 4) nd rfl (Or.inl rfl) (pe_g g_L_tight_rows hr (by decide) passL rfl (pa_cons (pv 0) (pa_cons (pv 1) (pa_cons (pv 2) pa_nil)))))))))
        (C8.pss_cut (ps_if (PW.pt (pw_and (pt_cmpR (op_neD hr.units) (pv 4) (pe_lst pa_nil) (nomark _)) (pw_and1 (pt_cmpR op_eq (pe_g g_L_draw hr (by decide) passL rfl (pa_cons (pv 0) (pa_cons pe_int pa_nil))) pe_int (nomark _))))) (pss_cons (ps_asg (pe_g g_L_pick hr (by decide) passL rfl (pa_cons (pv 0) (pa_cons (pv 4) pa_nil))) (pg_tupH rfl (pgs_cons (pg_name (i := 5) nd rfl (Or.inl rfl)) (pgs_cons (pg_name (i := 6) nd rfl (Or.inl rfl)) pgs_nil))))
        (pss_cons (ps_set (i := 5) nd rfl (Or.inl rfl) (pe_g g_L_pick hr (by decide) passL rfl (pa_cons (pv 0) (pa_cons (pe_lst (pa_cons (pv 5) (pa_cons (pe_g g_L_minus_form hr (by decide) passL rfl (pa_cons (pv 5) pa_nil)) (pa_cons (pe_g g_L_form_times hr (by decide) passL rfl (pa_cons (pv 5) (pa_cons (pe_tup (pa_cons pe_int (pa_cons pe_int pa_nil))) pa_nil))) pa_nil)))) pa_nil))))
        (pss_one (ps_set (i := 4) nd rfl (Or.inl rfl) (pe_op op_cat (pv 4) (pe_lst (pa_cons (pe_tup (pa_cons (pv 5) (pa_cons (pe_cmpR op_eq (pe_g g_L_draw hr (by decide) passL rfl (pa_cons (pv 0) (pa_cons pe_int pa_nil))) pe_int (nomark _)) pa_nil))) pa_nil))))))) pss_nil)
        (C8.pss_cut (ps_if (pt_cmpR op_eq (pe_g g_L_draw hr (by decide) passL rfl (pa_cons (pv 0) (pa_cons pe_int pa_nil))) pe_int (nomark _)) (pss_cons (ps_set (i := 5) nd rfl (Or.inl rfl) (pe_g g_L_number_form hr (by decide) passL rfl (pa_cons (pe_g g_L_pick hr (by decide) passL rfl (pa_cons (pv 0) (pa_cons (pe_lst (pa_cons (pe_tup (pa_cons pe_int (pa_cons pe_int pa_nil))) (pa_cons (pe_tup (pa_cons pe_int (pa_cons pe_int pa_nil))) (pa_cons (pe_tup (pa_cons (pe_un un_neg pe_int) (pa_cons pe_int pa_nil))) pa_nil)))) pa_nil))) (pa_cons (pv 1) pa_nil))))
        (pss_cons (ps_set (i := 7) nd rfl (Or.inl rfl) (pe_g g_L_draw hr (by decide) passL rfl (pa_cons (pv 0) (pa_cons (pe_op op_add (pe_callB call_len_seq (by rfl) z_len (by decide +kernel) (pa_cons (pv 4) pa_nil)) pe_int) pa_nil))))
        (pss_one (ps_set (i := 4) nd rfl (Or.inl rfl) (pe_op op_cat (pe_op op_cat (pe_slice sl_list (pv 4) po_none (po_some (pv 7))) (pe_lst (pa_cons (pe_tup (pa_cons (pv 5) (pa_cons (pe_cmpR op_eq (pe_g g_L_draw hr (by decide) passL rfl (pa_cons (pv 0) (pa_cons pe_int pa_nil))) pe_int (nomark _)) pa_nil))) pa_nil))) (pe_slice sl_list (pv 4) (po_some (pv 7)) po_none)))))) pss_nil)
        (pss_one (ps_ret (pv 4))))))), ?_⟩
    simp only [tVar, rIxTH, rIxLH, gTupH, line_le, HO.tup.injEq, HO.lst.injEq, List.length_cons, List.length_nil, at0, at1, rU, tOst, tTest, rIxL, rIxT, C8.tCut, cxOf_K, tC, tOp, tUn, tSeq, tAsg, tNext, tRet, tRetN, tDrop, tIfS, tNever, gName, gNil, gCons, gTup, gSub, tPar, rI, rI0, rU, rEq, rNe, tB, tAnd, tOr, tNot, tAndV, tOrV, tNotV, tIf, tTup, tLst, tNil, tCons, tCB, tCall, tMeth, tMake, tFld, sFld, tDGet, sDPut, tDisp, tPairs, tBreak, tCont, scal_ii, scal_bb, scal_ss, List.getElem?_cons_zero, List.getElem?_cons_succ, List.set_cons_zero, List.set_cons_succ, Option.some.injEq, exists_eq_left', exists_eq_left, exists_and_left, V.int.injEq, V.bl.injEq, V.ref.injEq, V.str.injEq, List.cons.injEq, and_true, true_and, Bool.true_eq, List.nil_append, List.append_nil, List.cons_append, exists_eq', and_self, reduceCtorEq, false_or, or_false, false_and, exists_false, exists_const, and_assoc, if_true, Bool.false_eq_true, if_false, Nat.reduceAdd, Nat.reduceLeDiff, Nat.zero_add, Nat.le_refl, forall_const, st_L_drawn_rows]
    refine ⟨fun σ' H' => ∃ r : Int, σ' = [some (.ref p), some (.int n), some (.int u), some (.int r), none, none, none, none] ∧ Ext p H H' ∧ PenAt H' p l (c + 1), ?_, ?_⟩
    · exact ⟨p, l, c, 4, rfl, hp, by omega, by decide, small_draw (m := 4) (by decide), fun H1 r x1 p1 r0 r1 => ⟨r, rfl, x1, p1⟩⟩
    rintro σ' H1 ⟨r, rfl, x1, p1⟩
    refine ⟨fun σ' H' => ∃ a xs ds, σ' = [some (.ref p), some (.int n), some (.int u), some (.int r), some (.ref a), none, none, none] ∧ H a = none ∧ Ext p H H' ∧ PenAt H' p l (c + 1001) ∧ H' a = some (.lst xs) ∧ LRows H' n xs ds ∧ xs.length ≤ u ∧ RBd 90 ds, ?_, ?_⟩
    · simp only [tVar, rIxTH, rIxLH, gTupH, line_le, HO.tup.injEq, HO.lst.injEq, List.length_cons, List.length_nil, at0, at1, rU, tOst, tTest, rIxL, rIxT, C8.tCut, cxOf_K, tC, tOp, tUn, tSeq, tAsg, tNext, tRet, tRetN, tDrop, tIfS, tNever, gName, gNil, gCons, gTup, gSub, tPar, rI, rI0, rU, rEq, rNe, tB, tAnd, tOr, tNot, tAndV, tOrV, tNotV, tIf, tTup, tLst, tNil, tCons, tCB, tCall, tMeth, tMake, tFld, sFld, tDGet, sDPut, tDisp, tPairs, tBreak, tCont, scal_ii, scal_bb, scal_ss, List.getElem?_cons_zero, List.getElem?_cons_succ, List.set_cons_zero, List.set_cons_succ, Option.some.injEq, exists_eq_left', exists_eq_left, exists_and_left, V.int.injEq, V.bl.injEq, V.ref.injEq, V.str.injEq, List.cons.injEq, and_true, true_and, Bool.true_eq, List.nil_append, List.append_nil, List.cons_append, exists_eq', and_self, reduceCtorEq, false_or, or_false, false_and, exists_false, exists_const, and_assoc, if_true, Bool.false_eq_true, if_false, Nat.reduceAdd, Nat.reduceLeDiff, Nat.zero_add, Nat.le_refl, forall_const, st_L_drawn_rows]
      have old : ∀ {H2 : Hp} {a : Addr}, H1 a = none → H a = none := fun {H2 a} h => ext_none x1 p1 h
      refine ite2 (fun _ => ?_) (fun _ => ite2 (fun _ => ?_) (fun _ => ?_))
      · exact ⟨p, l, c + 1, n, u, rfl, hn, by omega, hu, p1, by omega, fun H2 a xs ds a0 x2 p2 ha hw hl hb => ⟨a, rfl, ext_none x1 p1 a0, x1.trans x2, p2.mono (by omega), xs, ha, ds, hw, by omega, hb.mono (by decide)⟩⟩
      · refine ⟨p, l, c + 1, n, u - 1, by rw [show ((u : Int) - 1) = ((u - 1 : Nat) : Int) by omega], hn, by omega, by omega, p1, by omega, fun H2 a xs ds a0 x2 p2 ha hw hl hb => ⟨a, rfl, ext_none x1 p1 a0, x1.trans x2, p2.mono (by omega), xs, ha, ds, hw, by omega, hb.mono (by decide)⟩⟩
      · exact ⟨p, l, c + 1, n, u, rfl, hn, by omega, hu, p1, by omega, fun H2 a xs ds a0 x2 p2 ha hw hl hb => ⟨a, rfl, ext_none x1 p1 a0, x1.trans x2, p2.mono (by omega), xs, ha, ds, hw, by omega, hb⟩⟩
    rintro σ' H2 ⟨a, xs, ds, rfl, a0, x2, p2, ha, hw, hl, hb⟩
    refine ⟨fun σ' H' => ∃ a xs ds v5 v6, σ' = [some (.ref p), some (.int n), some (.int u), some (.int r), some (.ref a), v5, v6, none] ∧ H a = none ∧ Ext p H H' ∧ PenAt H' p l (c + 1010) ∧ H' a = some (.lst xs) ∧ LRows H' n xs ds ∧ xs.length ≤ u + 1 ∧ RBd 95 ds, ?_, ?_⟩
    · simp only [tVar, rIxTH, rIxLH, gTupH, line_le, HO.tup.injEq, HO.lst.injEq, List.length_cons, List.length_nil, at0, at1, rU, tOst, tTest, rIxL, rIxT, C8.tCut, cxOf_K, tC, tOp, tUn, tSeq, tAsg, tNext, tRet, tRetN, tDrop, tIfS, tNever, gName, gNil, gCons, gTup, gSub, tPar, rI, rI0, rU, rEq, rNe, tB, tAnd, tOr, tNot, tAndV, tOrV, tNotV, tIf, tTup, tLst, tNil, tCons, tCB, tCall, tMeth, tMake, tFld, sFld, tDGet, sDPut, tDisp, tPairs, tBreak, tCont, scal_ii, scal_bb, scal_ss, List.getElem?_cons_zero, List.getElem?_cons_succ, List.set_cons_zero, List.set_cons_succ, Option.some.injEq, exists_eq_left', exists_eq_left, exists_and_left, V.int.injEq, V.bl.injEq, V.ref.injEq, V.str.injEq, List.cons.injEq, and_true, true_and, Bool.true_eq, List.nil_append, List.append_nil, List.cons_append, exists_eq', and_self, reduceCtorEq, false_or, or_false, false_and, exists_false, exists_const, and_assoc, if_true, Bool.false_eq_true, if_false, Nat.reduceAdd, Nat.reduceLeDiff, Nat.zero_add, Nat.le_refl, forall_const, st_L_drawn_rows]
      intro z1 hz1
      have s0 := same_new (o := HO.lst []) hz1
      have stay : ∀ H3, Ext p H2 H3 → PenAt H3 p l (c + 1010) → H a = none ∧ Ext p H H3 ∧ PenAt H3 p l (c + 1010) ∧ ∃ x, H3 a = some (HO.lst x) ∧ ∃ x_1, LRows H3 n x x_1 ∧ x.length ≤ u + 1 ∧ RBd 95 x_1 := fun H3 x3 p3 => ⟨a0, x2.trans x3, p3, xs, x3 _ _ (lst_noPen p2 ha) ha, ds, hw.ext p2 x3, by omega, hb.mono (by decide)⟩
      refine ne_rows (s0 _ _ ha) (hw.same s0) upd_same (m := n) (es := []) .nil ⟨_, rfl, ite2 (fun hne => ?_) (fun _ => stay _ (Ext.of s0) ((p2.same s0).mono (by omega)))⟩
      have pos : 0 < xs.length := by
        rw [Fa2.len hw]
        cases ds with
        | nil => simp at hne
        | cons d ds => simp
      refine ⟨p, l, _, 4, rfl, p2.same s0, by omega, by decide, small_draw (m := 4) (by decide), fun H3 r3 x3 p3 _ _ => ⟨rfl, ite2 (fun _ => ?_) (fun _ => stay _ ((Ext.of s0).trans x3) (p3.mono (by omega)))⟩⟩
      have x23 := (Ext.of (p := p) s0).trans x3
      have ha3 := x23 _ _ (lst_noPen p2 ha) ha
      refine ⟨p, l, a, _, xs, rfl, p3, by omega, ha3, pos, by omega, fun H4 i v x4 p4 hv => ?_⟩
      have x24 := x23.trans x4
      obtain ⟨⟨q, qs, b⟩, hd, t, f', rfl, ht, hf, lq⟩ := Fa2.get (hw.ext p2 x24) hv
      have lq : qs.length = n := lq
      have b90 := hb _ (List.mem_of_getElem? hd)
      refine ⟨_, rfl, _, ht, rfl, _, _, rfl, _, _, rfl, rfl, ?_⟩
      refine ⟨f', q :: qs, rfl, hf, by simp; omega, fun z hz => (b90 z hz).mono (by decide), fun H5 g s5 hg t2 ht2 => ?_⟩
      have s6 := same_new (o := HO.tup [V.int 2, V.int 3]) ht2
      refine ⟨f', t2, q :: qs, r23, rfl, (hf.same s5).same s6, upd_same, by simp; omega, fun z hz => (b90 z hz).mono (by decide), ⟨by decide, by decide⟩, fun H6 h s7 hh l3 hl3 => ?_⟩
      have s8 := same_new (o := HO.lst [V.ref f', V.ref g, V.ref h]) hl3
      have s58 := ((s5.trans s6).trans s7).trans s8
      refine ⟨p, l, l3, _, _, rfl, p4.same s58, by omega, upd_same, by simp, by simp, fun H7 j v x7 p7 hv => ?_⟩
      obtain ⟨e, r0, rs0, rfl, he, le, be⟩ : ∃ e r0 rs0, v = .ref e ∧ IsForm H7 e (r0 :: rs0) ∧ rs0.length = n ∧ ∀ z ∈ r0 :: rs0, HwM.Bd 95 z := by
        match j, hv with
        | 0, e => exact ⟨f', q, qs, (Option.some.inj e).symm, (hf.same s58).ext (p4.same s58) x7, lq, fun z hz => (b90 z hz).mono (by decide)⟩
        | 1, e =>
          refine ⟨g, _, _, (Option.some.inj e).symm, (((hg.same s6).same s7).same s8).ext (p4.same s58) x7, by rw [List.length_map]; exact lq, fun z hz => ?_⟩
          obtain ⟨y, hy, rfl⟩ := List.mem_map.mp (show z ∈ (q :: qs).map (fun q => -q) from hz)
          exact (HwM.neg_bd (b90 y hy)).mono (by decide)
        | 2, e => exact ⟨h, _, _, (Option.some.inj e).symm, (hh.same s8).ext (p4.same s58) x7, by rw [List.length_map]; exact lq, fun z hz => (map_mul_bd (n := 2) (qs := q :: qs) (by decide) b90 ⟨by decide, by decide⟩ z hz).mono (by decide)⟩
      refine ⟨p, l, _, 2, rfl, p7, by omega, by decide, small_draw (m := 2) (by decide), fun H8 r8 x8 p8 _ _ => ⟨rfl, fun t9 ht9 y9 hy9 => ?_⟩⟩
      have s9 := same_new (o := HO.tup [V.ref e, V.bl (decide (V.int r8 = V.int 0))]) ht9
      have s10 := same_new (o := HO.lst [V.ref t9]) hy9
      have x78 := x8.trans (Ext.of (p := p) (s9.trans s10))
      have x210 := ((x24.trans (Ext.of s58)).trans x7).trans x78
      refine ⟨a, y9, _, _, rfl, rfl, x210 _ _ (lst_noPen p2 ha) ha, upd_same, by simp; exact line_le (by omega), fun y3 hy3 => ?_⟩
      have s11 := same_new (o := HO.lst (xs ++ [V.ref t9])) hy3
      have x211 := x210.trans (Ext.of s11)
      have pe := ((p8.same s9).same s10).same s11
      refine ⟨y3, rfl, ext_none (x2.trans x210) ((p8.same s9).same s10) hy3, x2.trans x211, pe.mono (by omega), _, upd_same, ds ++ [(r0, rs0, decide (V.int r8 = V.int 0))], Fa2.snoc (hw.ext p2 x211) ?_, by simp; omega, (hb.mono (by decide)).app (RBd.one be)⟩
      exact ⟨t9, e, rfl, s11 _ _ (s10 _ _ upd_same), ((((he.ext p7 x8).same s9).same s10).same s11), le⟩
    rintro σ' H3 ⟨a3, xs3, ds3, v5, v6, rfl, a30, x3, p3, ha3, hw3, hl3, hb3⟩
    refine ⟨fun σ' H' => ∃ a xs ds v5 v7, σ' = [some (.ref p), some (.int n), some (.int u), some (.int r), some (.ref a), v5, v6, v7] ∧ H a = none ∧ Ext p H H' ∧ PenAt H' p l (c + 1030) ∧ H' a = some (.lst xs) ∧ LRows H' n xs ds ∧ xs.length ≤ u + 2 ∧ RBd 95 ds, ?_, ?_⟩
    · simp only [tVar, rIxTH, rIxLH, gTupH, line_le, HO.tup.injEq, HO.lst.injEq, List.length_cons, List.length_nil, at0, at1, rU, tOst, tTest, rIxL, rIxT, C8.tCut, cxOf_K, tC, tOp, tUn, tSeq, tAsg, tNext, tRet, tRetN, tDrop, tIfS, tNever, gName, gNil, gCons, gTup, gSub, tPar, rI, rI0, rU, rEq, rNe, tB, tAnd, tOr, tNot, tAndV, tOrV, tNotV, tIf, tTup, tLst, tNil, tCons, tCB, tCall, tMeth, tMake, tFld, sFld, tDGet, sDPut, tDisp, tPairs, tBreak, tCont, scal_ii, scal_bb, scal_ss, List.getElem?_cons_zero, List.getElem?_cons_succ, List.set_cons_zero, List.set_cons_succ, Option.some.injEq, exists_eq_left', exists_eq_left, exists_and_left, V.int.injEq, V.bl.injEq, V.ref.injEq, V.str.injEq, List.cons.injEq, and_true, true_and, Bool.true_eq, List.nil_append, List.append_nil, List.cons_append, exists_eq', and_self, reduceCtorEq, false_or, or_false, false_and, exists_false, exists_const, and_assoc, if_true, Bool.false_eq_true, if_false, Nat.reduceAdd, Nat.reduceLeDiff, Nat.zero_add, Nat.le_refl, forall_const, st_L_drawn_rows, tSl, tPart, tNoPart, rSlL]
      refine ⟨p, l, _, 6, rfl, p3, by omega, by decide, small_draw (m := 6) (by decide), fun H4 r4 x4 p4 _ _ => ⟨rfl, ite2 (fun _ => ?_) (fun _ => ?_)⟩⟩
      · refine pick3 (q1 := 0) (q2 := ri 2) (q3 := rm12) qv0 rfl rfl p4 (by omega) fun H5 b q x5 p5 hb5 hq => ?_
        have bd2 : HwM.Bd 2 q := few hq (all3 (bd0 (by decide)) ⟨by decide, by decide⟩ ⟨by decide, by decide⟩)
        refine ⟨b, q, n, rfl, hb5, by omega, fun H6 f s6 hf => ?_⟩
        have x36 := (x4.trans x5).trans (Ext.of (p := p) s6)
        have ha6 := x36 _ _ (lst_noPen p3 ha3) ha3
        have hw6 := hw3.ext p3 x36
        refine ⟨xs3, .inl (SqL.of ha6), p, l, _, _, rfl, p5.same s6, by omega, by omega, small_draw (m := xs3.length + 1) (by omega), fun H7 j7 x7 p7 j0 j1 => ?_⟩
        obtain ⟨j, rfl⟩ : ∃ j : Nat, j7 = (j : Int) := ⟨j7.toNat, by omega⟩
        have x37 := x36.trans x7
        have ha7 := x37 _ _ (lst_noPen p3 ha3) ha3
        refine ⟨_, rfl, xs3, SqL.of ha7, fun y1 hy1 => ?_⟩
        rw [cutV_to]
        have s1 := same_new (o := HO.lst (xs3.take j)) hy1
        refine ⟨p, l, _, 2, rfl, p7.same s1, by omega, by decide, small_draw (m := 2) (by decide), fun H8 r8 x8 p8 _ _ => ⟨rfl, fun t9 ht9 y9 hy9 => ?_⟩⟩
        have s9 := same_new (o := HO.tup [V.ref f, V.bl (decide (V.int r8 = V.int 0))]) ht9
        have s10 := same_new (o := HO.lst [V.ref t9]) hy9
        have x810 := x8.trans (Ext.of (p := p) (s9.trans s10))
        have x310 := (x37.trans (Ext.of (p := p) s1)).trans x810
        refine ⟨y1, y9, _, _, rfl, rfl, x810 _ _ (p7.ne hy1) upd_same, upd_same, by simp; exact line_le (by omega), fun y3 hy3 => ?_⟩
        have s11 := same_new (o := HO.lst (xs3.take j ++ [V.ref t9])) hy3
        refine ⟨_, rfl, xs3, SqL.of (s11 _ _ (x310 _ _ (lst_noPen p3 ha3) ha3)), fun y4 hy4 => ?_⟩
        rw [cutV_from]
        have s12 := same_new (o := HO.lst (xs3.drop j)) hy4
        refine ⟨y3, y4, _, _, rfl, rfl, s12 _ _ upd_same, upd_same, by simp; exact line_le (by omega), fun y5 hy5 => ?_⟩
        have s13 := same_new (o := HO.lst (xs3.take j ++ [V.ref t9] ++ xs3.drop j)) hy5
        have x313 := x310.trans (Ext.of (p := p) ((s11.trans s12).trans s13))
        have pe := (((p8.same s9).same s10).same s11).same s12
        refine ⟨y5, rfl, ext_none (x3.trans (x310.trans (Ext.of (s11.trans s12)))) pe hy5, x3.trans x313, (pe.same s13).mono (by omega), _, upd_same, ds3.take j ++ [(q, List.replicate n 0, decide (V.int r8 = V.int 0))] ++ ds3.drop j, ?_, by simp; omega, ?_⟩
        · have hr : LRow _ (.ref t9) n q (List.replicate n 0) (decide (V.int r8 = V.int 0)) := ⟨t9, f, rfl, s13 _ _ (s12 _ _ (s11 _ _ (s10 _ _ upd_same))), (((((((hf.ext (p5.same s6) x7).same s1).ext (p7.same s1) x8).same s9).same s10).same s11).same s12).same s13, by simp⟩
          have hw9 := hw3.ext p3 x313
          exact Fa2.app (Fa2.app (fa2_take hw9 j) (.cons hr .nil)) (fa2_drop hw9 j)
        · refine RBd.app (RBd.app hb3.take (RBd.one fun z hz => ?_)) hb3.drop
          rcases List.mem_cons.mp hz with rfl | hz
          · exact bd2.mono (by decide)
          · rw [List.eq_of_mem_replicate hz]; exact bd0 (by decide)
      · exact ⟨a30, x3.trans x4, p4.mono (by omega), xs3, x4 _ _ (lst_noPen p3 ha3) ha3, ds3, hw3.ext p3 x4, by omega, hb3⟩
    rintro σ' H4 ⟨a4, xs4, ds4, v5, v7, rfl, a40, x4, p4, ha4, hw4, hl4, hb4⟩
    exact ⟨_, rfl, k H4 a4 xs4 ds4 a40 x4 (p4.mono (by omega)) ha4 hw4 (by omega) (hb4.mono (by decide))⟩


end HwL
end

section
namespace HwL
open PySem PySem.Spec PyProof.Rows L2 LamX HwP
variable {P : Program} {w : World} {K : PySem.W.Frag} {mg : Str → Option Value} {base : Heap}

theorem IsP.inst {CR CP : Addr} {H : Hp} {x : V} {q : Rat} {qs : List Rat} (h : IsP CR CP H x q qs) : Inst H CP x := by
  obtain ⟨a, dx, fs, rfl, h1, _⟩ := h
  exact ⟨a, dx, fs, rfl, h1⟩
theorem peq_run {CR CP : Addr} {H : Hp} {x y : V} {q r : Rat} {qs rs : List Rat} {Q : VK} {E : XK} (PC : PlaC K CP) (PI : PlaI K CP) (hx : IsP CR CP H x q qs) (hy : IsP CR CP H y r rs) (k : ∀ H', Same H H' → Q (.bl (decide (q = r ∧ qs = rs))) H') : rOwnEq K CP (spEqP K CR CP) E x y H Q :=
  ⟨hx.inst, ⟨.ref CP, isP_ty PC PI hy, by unfold PySem.W.notFirst; simp⟩, x, y, q, qs, rfl, hx, .inl ⟨r, rs, hy, k⟩⟩
def spPRight (CR CP CL : Addr) : Sp := fun vs H Q _ => ∃ (x : V) (b : Addr) (n : Nat) (ys : List V) (ds : List (Rat × List Rat × Bool)), vs = [x, .ref b, .int n] ∧ IsPlc CR CP CL H x n ds ∧ H b = some (.lst ys) ∧ LRows H n ys ds ∧ n ≤ 18 ∧ RBd 400 ds ∧ ∀ H', Same H H' → Q (.bl true) H'
abbrev N_L_place_right : List Str := ["_law_place", "_law_rows", "_law_size", "_law_told", "_law_row"]
theorem sc_L_place_right : FnScope N_L_place_right ["_law_place", "_law_rows", "_law_size"] (defScope s_L_place_right) := ⟨rfl, rfl, rfl, by decide +kernel, rfl, by decide +kernel, by decide +kernel⟩
theorem st_L_place_right {v0 v1 v2 : V} : L2.start N_L_place_right [v0, v1, v2] = [some v0, some v1, some v2, none, none] := rfl
theorem ok_L_place_right {f : Addr} {fd : FuncData} (F : FD K s_L_place_right "_law_place_right" "_law_place_right" f fd) {C_Ratio C_Plane C_Place : Addr} (PC : PlaC K C_Plane) (PI : PlaI K C_Plane) (PL : PlcC K C_Place) (LI : PlcI K C_Place) (z_isinstance : mg "isinstance" = none) (z_bool : mg "bool" = none) (z_zip : mg "zip" = none) (z_len : mg "len" = none) (z_tuple : mg "tuple" = none) (m_Place : mg "Place" = some (.ref C_Place)) (g_PlaneD_eqD : Ef P w K mg base C_Plane 4 (spEqP K C_Ratio C_Plane)) (g_L_as_plane : Gf P w K mg base "_law_as_plane" 9 ["_law_form"] (spAsP C_Ratio C_Plane)) (g_L_truth : Gf P w K mg base "_law_truth" 1 ["_law_value", "_law_due"] (fun vs H Q _ => ∃ a b : Bool, vs = [.bl a, .bl b] ∧ Q (.bl (decide (a = b))) H)) : FnOk P w K mg base (L2.CX P w) 10 f fd ["_law_place", "_law_rows", "_law_size"] (spPRight C_Ratio C_Plane C_Place) := by
  have nd := sc_L_place_right.nd
  refine F.ok0 sc_L_place_right (fun vs H Q E h => ?_) (fun cdv A outer s H vs Q E hr h => ?_)
  · obtain ⟨x, b, n, ys, ds, rfl, _⟩ := h
    rfl
  · obtain ⟨x, b, n, ys, ds, rfl, hx, hb, hw, hn, bd, k⟩ := h
    refine ⟨_, (C8.pss_cut (ps_if (PW.pt (pw_or (pt_not (pt_val (pe_callB (id := "isinstance") (r := rIsi K) (call_isiE rfl) (by rfl) z_isinstance (by decide +kernel) (pa_cons (pv 0) (pa_cons (pe_glob (v := .ref C_Place) rfl m_Place rfl) pa_nil))))) (pw_or (pt_not (pt_val (pe_callB (id := "isinstance") (r := rIsi K) (call_isiE rfl) (by rfl) z_isinstance (by decide +kernel) (pa_cons (pe_fld (pv 0) rfl) (pa_cons (pe_bltn (v := .ty "tuple") rfl z_tuple (by decide +kernel) rfl) pa_nil))))) (pw_or1 (pt_cmpR op_ne (pe_callB call_len_seq (by rfl) z_len (by decide +kernel) (pa_cons (pe_fld (pv 0) rfl) pa_nil)) (pe_callB call_len_seq (by rfl) z_len (by decide +kernel) (pa_cons (pv 1) pa_nil)) (nomark _)))))) (pss_one (ps_ret pe_bl)) pss_nil)
        (pss_cons (ps_for PassesOwn.never rfl (pi_zipM (by rfl) z_zip (pa_cons (pe_fld (pv 0) rfl) (pa_cons (pv 1) pa_nil))) (pg_tupH rfl (pgs_cons (pg_name (i := 3) nd rfl (Or.inl rfl)) (pgs_cons (pg_name (i := 4) nd rfl (Or.inl rfl)) pgs_nil))) (pss_cons (ps_if (PW.pt (pw_or (pt_not (pt_val (pe_callB (id := "isinstance") (r := rIsi K) (call_isiE rfl) (by rfl) z_isinstance (by decide +kernel) (pa_cons (pv 3) (pa_cons (pe_bltn (v := .ty "tuple") rfl z_tuple (by decide +kernel) rfl) pa_nil))))) (pw_or (pt_cmpR op_ne (pe_callB call_len_seq (by rfl) z_len (by decide +kernel) (pa_cons (pv 3) pa_nil)) pe_int (nomark _)) (pw_or1 (pt_not (pt_val (pe_g g_L_truth hr (by decide) passL rfl (pa_cons (pe_ix ix_tupH (pv 3) pe_int (fun _ _ => rfl)) (pa_cons (pe_ix ix_tupH (pv 4) pe_int (fun _ _ => rfl)) pa_nil))))))))) (pss_one (ps_ret pe_bl)) pss_nil)
        (pss_one (ps_if (pt_not (pt_cmpR (eq_o g_PlaneD_eqD hr (by decide) passL) (pe_ix ix_tupH (pv 3) pe_int (fun _ _ => rfl)) (pe_g g_L_as_plane hr (by decide) passL rfl (pa_cons (pe_ix ix_tupH (pv 4) pe_int (fun _ _ => rfl)) pa_nil)) (nomark _))) (pss_one (ps_ret pe_bl)) pss_nil))))
        (pss_one (ps_ret (pe_and (pe_cmpR op_eq (pe_fld (pv 0) rfl) (pv 2) (nomark _)) (pe_one (pe_not (pe_callB (id := "isinstance") (r := rIsi K) (call_isiE rfl) (by rfl) z_isinstance (by decide +kernel) (pa_cons (pe_fld (pv 0) rfl) (pa_cons (pe_bltn (v := .ty "bool") rfl z_bool (by decide +kernel) rfl) pa_nil)))))))))), ?_⟩
    obtain ⟨a, dx, t, xs, rfl, ha, ht, hr, hl⟩ := hx
    have l2 : List.lookup ("size" : Str) (plcF t n) = some (V.int n) := lkB (by decide) lkA
    have l1 : List.lookup ("rows" : Str) (plcF t n) = some (V.ref t) := lkA
    have tt : PySem.W.kitOne K (.type "tuple") (.type "tuple") = some true := kit_ty (by decide +kernel)
    have ccL : PySem.W.kitOne K (.ref C_Place) (.ref C_Place) = some true := by unfold PySem.W.kitOne; simp
    have lx := Fa2.len hr
    have ly := Fa2.len hw
    simp only [tVar, rIxTH, rIxLH, gTupH, line_le, HO.tup.injEq, HO.lst.injEq, List.length_cons, List.length_nil, at0, at1, rU, tOst, tTest, rIxL, rIxT, C8.tCut, cxOf_K, tC, tOp, tUn, tSeq, tAsg, tNext, tRet, tRetN, tDrop, tIfS, tNever, gName, gNil, gCons, gTup, gSub, tPar, rI, rI0, rU, rEq, rNe, tB, tAnd, tOr, tNot, tAndV, tOrV, tNotV, tIf, tTup, tLst, tNil, tCons, tCB, tCall, tMeth, tMake, tFld, sFld, tDGet, sDPut, tDisp, tPairs, tBreak, tCont, scal_ii, scal_bb, scal_ss, List.getElem?_cons_zero, List.getElem?_cons_succ, List.set_cons_zero, List.set_cons_succ, Option.some.injEq, exists_eq_left', exists_eq_left, exists_and_left, V.int.injEq, V.bl.injEq, V.ref.injEq, V.str.injEq, List.cons.injEq, and_true, true_and, Bool.true_eq, List.nil_append, List.append_nil, List.cons_append, exists_eq', and_self, reduceCtorEq, false_or, or_false, false_and, exists_false, exists_const, and_assoc, if_true, Bool.false_eq_true, if_false, Nat.reduceAdd, Nat.reduceLeDiff, Nat.zero_add, Nat.le_refl, forall_const, st_L_place_right, rIsi]
    refine ⟨fun σ' H' => H' = H ∧ σ' = [some (.ref a), some (.ref b), some (.int n), none, none], ⟨.ref C_Place, .ref C_Place, .own _, .base (.ins ha PL.cl LI.ha LI.hn LI.htk LI.hm), true, ccL, iteF ⟨_, _, _, ha, PL.cl, PL.nr, _, l1, .type "tuple", .type "tuple", .ty _, .base (.tup ht), true, tt, iteF ⟨_, _, _, ha, PL.cl, PL.nr, _, l1, ?_⟩⟩⟩, ?_⟩
    · exact ⟨t, rfl, xs, .inr (SqT.of ht), ys, .inl (SqL.of hb), iteF' (by rw [decide_eq_true (by omega)]; rfl) ⟨rfl, rfl⟩⟩
    rintro σ' H1 ⟨rfl, rfl⟩
    refine ⟨_, rfl, a, _, dx, _, .ref t, rfl, ha, PL.cl, PL.nr, l1, _, rfl, t, b, xs, ys, rfl, SqT.of ht, for_zipM (n := xs.length) (SqT.of ht) (.inl (SqL.of hb)) (by omega)
      (fun i σ' H' => Same H1 H' ∧ ∃ v3 v4, σ' = [some (.ref a), some (.ref b), some (.int n), v3, v4]) ⟨Same.refl _, none, none, rfl⟩ (fun i σ' H' h => h.1) ?_ ?_⟩
    · rintro i u v T σ' H3 hu hv ⟨s3, v3, v4, rfl⟩ hT
      obtain ⟨⟨q, qs, c⟩, hd, t1, pl, rfl, ht1, hp1, lq⟩ := Fa2.get hr hu
      obtain ⟨⟨q', qs', c'⟩, hd', t2, f, rfl, ht2, hf, lq'⟩ := Fa2.get hw hv
      rw [hd] at hd'
      cases hd'
      have s4 := same_new (o := HO.tup [V.ref t1, V.ref t2]) hT
      have s34 := s3.trans s4
      simp only [tVar, rIxTH, rIxLH, gTupH, line_le, HO.tup.injEq, HO.lst.injEq, List.length_cons, List.length_nil, at0, at1, rU, tOst, tTest, rIxL, rIxT, C8.tCut, cxOf_K, tC, tOp, tUn, tSeq, tAsg, tNext, tRet, tRetN, tDrop, tIfS, tNever, gName, gNil, gCons, gTup, gSub, tPar, rI, rI0, rU, rEq, rNe, tB, tAnd, tOr, tNot, tAndV, tOrV, tNotV, tIf, tTup, tLst, tNil, tCons, tCB, tCall, tMeth, tMake, tFld, sFld, tDGet, sDPut, tDisp, tPairs, tBreak, tCont, scal_ii, scal_bb, scal_ss, List.getElem?_cons_zero, List.getElem?_cons_succ, List.set_cons_zero, List.set_cons_succ, Option.some.injEq, exists_eq_left', exists_eq_left, exists_and_left, V.int.injEq, V.bl.injEq, V.ref.injEq, V.str.injEq, List.cons.injEq, and_true, true_and, Bool.true_eq, List.nil_append, List.append_nil, List.cons_append, exists_eq', and_self, reduceCtorEq, false_or, or_false, false_and, exists_false, exists_const, and_assoc, if_true, Bool.false_eq_true, if_false, Nat.reduceAdd, Nat.reduceLeDiff, Nat.zero_add, Nat.le_refl, forall_const, st_L_place_right, rIsi]
      refine ⟨_, upd_same, rfl, _, _, rfl, _, _, rfl, rfl, ?_⟩
      have hT1 := s34 _ _ ht1
      have hT2 := s34 _ _ ht2
      refine ⟨.type "tuple", .type "tuple", .ty _, .base (.tup hT1), true, tt, iteF ⟨t1, rfl, _, .inr (SqT.of hT1), iteF' rfl ⟨t1, rfl, _, hT1, _, atI_nat (j := 1) rfl, t2, rfl, _, hT2, _, atI_nat (j := 1) rfl, _, rfl, _, rfl, iteF' (by simp) ⟨t1, rfl, _, hT1, _, atI_nat (j := 0) rfl, t2, rfl, _, hT2, _, atI_nat (j := 0) rfl, ?_⟩⟩⟩⟩
      have lq : qs.length = n := lq
      refine ⟨f, q, qs, rfl, hf.same s34, by omega, bd _ (List.mem_of_getElem? hd), fun H5 z s5 hz => ?_⟩
      exact peq_run PC PI (hp1.same (s34.trans s5)) hz fun H6 s6 => ⟨_, rfl, iteF' (by simp) ((s34.trans s5).trans s6)⟩
    · rintro σ' H3 ⟨s3, v3, v4, rfl⟩
      simp only [tVar, rIxTH, rIxLH, gTupH, line_le, HO.tup.injEq, HO.lst.injEq, List.length_cons, List.length_nil, at0, at1, rU, tOst, tTest, rIxL, rIxT, C8.tCut, cxOf_K, tC, tOp, tUn, tSeq, tAsg, tNext, tRet, tRetN, tDrop, tIfS, tNever, gName, gNil, gCons, gTup, gSub, tPar, rI, rI0, rU, rEq, rNe, tB, tAnd, tOr, tNot, tAndV, tOrV, tNotV, tIf, tTup, tLst, tNil, tCons, tCB, tCall, tMeth, tMake, tFld, sFld, tDGet, sDPut, tDisp, tPairs, tBreak, tCont, scal_ii, scal_bb, scal_ss, List.getElem?_cons_zero, List.getElem?_cons_succ, List.set_cons_zero, List.set_cons_succ, Option.some.injEq, exists_eq_left', exists_eq_left, exists_and_left, V.int.injEq, V.bl.injEq, V.ref.injEq, V.str.injEq, List.cons.injEq, and_true, true_and, Bool.true_eq, List.nil_append, List.append_nil, List.cons_append, exists_eq', and_self, reduceCtorEq, false_or, or_false, false_and, exists_false, exists_const, and_assoc, if_true, Bool.false_eq_true, if_false, Nat.reduceAdd, Nat.reduceLeDiff, Nat.zero_add, Nat.le_refl, forall_const, st_L_place_right, rIsi]
      have ha3 := s3 _ _ ha
      exact ⟨_, _, _, ha3, PL.cl, PL.ns, _, l2, rfl, iteT' (by simp) ⟨_, _, _, ha3, PL.cl, PL.ns, _, l2, .type "int", .type "bool", .ty _, .base (.int _), false, kit_ty (by decide +kernel), k _ s3⟩⟩


end HwL
end

section
namespace HwL
open PySem PySem.Spec PyProof.Rows L2 LamX HwP
variable {P : Program} {w : World} {K : PySem.W.Frag} {mg : Str → Option Value} {base : Heap}

/-- a point as the law keeps it: a list, none of R -/
def IsLP (H : Hp) (R : Addr) (n : Nat) (x : V) (rs : List Rat) : Prop := ∃ P ys, x = .ref P ∧ P ≠ R ∧ H P = some (.lst ys) ∧ AllQ H ys rs ∧ rs.length = n ∧ ∀ z ∈ rs, HwM.Bd 600 z
theorem IsLP.same {H H' : Hp} {R : Addr} {n : Nat} {x : V} {rs : List Rat} (h : IsLP H R n x rs) (e : Same H H') : IsLP H' R n x rs := by
  obtain ⟨P, ys, h1, h2, h3, h4, h5⟩ := h
  exact ⟨P, ys, h1, h2, e _ _ h3, h4.same e, h5⟩
theorem IsLP.ext {H H' : Hp} {R : Addr} {n : Nat} {x : V} {rs : List Rat} {p l : Addr} {c : Int} (h : IsLP H R n x rs) (hp : PenAt H p l c) (e : Ext p H H') : IsLP H' R n x rs := by
  obtain ⟨P, ys, h1, h2, h3, h4, h5⟩ := h
  exact ⟨P, ys, h1, h2, e _ _ (lst_noPen hp h3) h3, h4.ext hp e, h5⟩
theorem IsLP.updR {H : Hp} {R : Addr} {n : Nat} {x : V} {rs : List Rat} {acc : List V} {o : HO} (h : IsLP H R n x rs) (hR : H R = some (.lst acc)) : IsLP (upd H R o) R n x rs := by
  obtain ⟨P, ys, h1, h2, h3, h4, h5⟩ := h
  exact ⟨P, ys, h1, h2, by rw [upd_ne h2]; exact h3, h4.updL hR, h5⟩
def LPs (H : Hp) (R : Addr) (n : Nat) (xs : List V) (ps : List (List Rat)) : Prop := Fa2 (IsLP H R n) xs ps
theorem lookup_in {env : Env} {x : Str} : ∀ {names : List (Str × NameKind)}, names.lookup x = some .cell ∨ names.lookup x = some .free →
    (names.map fun (n, k) => if (k == NameKind.free && env.scope.kind == .function && env.kindOf n == some .cell) then (n, NameKind.cell) else (n, k)).lookup x = some .cell ∨
    (names.map fun (n, k) => if (k == NameKind.free && env.scope.kind == .function && env.kindOf n == some .cell) then (n, NameKind.cell) else (n, k)).lookup x = some .free
  | [], h => by rcases h with h | h <;> cases h
  | (n, k) :: r, h => by
    have ih := lookup_in (env := env) (x := x) (names := r)
    show List.lookup x ((if (k == NameKind.free && env.scope.kind == .function && env.kindOf n == some .cell) = true then (n, NameKind.cell) else (n, k)) :: _) = _ ∨ List.lookup x ((if (k == NameKind.free && env.scope.kind == .function && env.kindOf n == some .cell) = true then (n, NameKind.cell) else (n, k)) :: _) = _
    cases hx : x == n with
    | true =>
      simp only [List.lookup_cons, hx] at h
      split
      · exact .inl (by simp only [List.lookup_cons, hx])
      · rcases h with h | h
        · exact .inl (by simp only [List.lookup_cons, hx]; exact h)
        · exact .inr (by simp only [List.lookup_cons, hx]; exact h)
    | false =>
      simp only [List.lookup_cons, hx] at h
      have ih := ih h
      split
      · simp only [List.lookup_cons, hx]; exact ih
      · simp only [List.lookup_cons, hx]; exact ih
theorem blk_in {N : List Str} {sc scope : Scope} {own : List (Str × Nat)} {cl : List (Str × Addr)} {C : Addr} {env : Env} (h : BlkOk N sc scope own) : BlkOk N (compEnvC sc cl C env).scope scope own :=
  ⟨h.kind, h.uniq, h.ix, fun y hy e => lookup_in (h.free y hy e), h.own⟩
/-- small fractions for all letters -/
theorem little_lc {σ : L2.St} {j m n : Nat} {Q : VK} {H : Hp} {p l : Addr} {c : Int} (h0 : σ[0]? = some (some (.ref p))) (hj : σ[j]? = some (some (.int (n : Int)))) (hm : m ≠ 0) (hp : PenAt H p l c) (hc : c < 9000000) (hn : n ≤ 18)
    (k : ∀ H' D acc qs, Ext p H H' → PenAt H' p l (c + 2 * n) → H D = none → H' D = some (.lst acc) → AllQ H' acc qs → qs.length = n → (∀ z ∈ qs, HwM.Bd 10 z) → Q (.ref D) H') :
    tLc (iRng1 (tCons (tVar j) tNil)) (gName m) tYes (tCall spLittle [] C8.E0 (tCons (tVar 0) tNil)) [m] σ H Q := by
  refine ⟨_, hj, n, rfl, by omega, by omega, ?_⟩
  rw [Int.toNat_natCast]
  refine fun D hD => lc_range (lo := 0) (n := n) (D := D) (fun i H' => ∃ acc qs, H' D = some (.lst acc) ∧ acc.length = i ∧ qs.length = i ∧ AllQ H' acc qs ∧ (∀ q ∈ qs, HwM.Bd 10 q) ∧ Ext p H H' ∧ PenAt H' p l (c + 2 * i)) ⟨[], [], upd_same, rfl, rfl, .nil, by simp, .of (same_new hD), (hp.same (same_new hD)).mono (by omega)⟩ ?_ ?_
  · rintro i H2 hi ⟨acc, qs, hacc, hl, hl2, hall, hb, x2, p2⟩
    have nDp : D ≠ p := hp.ne hD
    have nDl : D ≠ l := hp.ne2 hD
    simp only [wipe, List.map_cons, List.map_nil, gName, List.set_set, true_and, tYes, if_true]
    refine ⟨_, by rw [List.getElem?_set_ne hm]; exact h0, ?_⟩
    refine ⟨p, l, _, rfl, p2, by omega, fun H3 b q x3 p3 hb3 bq => ?_⟩
    have hacc3 := x3 _ _ nDp hacc
    refine ⟨acc, hacc3, by rw [hl]; exact line_le (by omega), acc ++ [.ref b], qs ++ [q], upd_same, by simp [hl], by simp [hl2], AllQ.updL (show AllQ H3 _ _ from Fa2.snoc (hall.ext p2 x3) ⟨b, rfl, hb3⟩) hacc3, ?_, ext_updD hD (x2.trans x3), (p3.put nDp nDl _).mono (by push_cast; omega)⟩
    intro z hz
    rcases List.mem_append.mp hz with h | h
    · exact hb z h
    · rw [List.mem_singleton.mp h]; exact bq
  · rintro H2 ⟨acc, qs, hacc, hl, hl2, hall, hb, x2, p2⟩
    exact k H2 D acc qs x2 p2 hD hacc hall hl2 hb
theorem shaped_nats (ks : List Nat) : SeqAt.shaped (.list (ks.map fun k : Nat => PyData.int (k : Int))) = true := by
  have c1 : ∀ k : Nat, (PyData.int (k : Int)).canLay0 = true := fun k => rfl
  have d1 : ∀ k : Nat, (PyData.int (k : Int)).depth ≤ 1 := fun k => by simp [PyData.depth]
  have c3 := canLay_map c1 ks
  have d3 := depth_map d1 ks
  unfold SeqAt.shaped
  simp [PyData.canLay0, PyData.depth, c3]
  omega
theorem dp_nats {H : Hp} : ∀ ks : List Nat, DpAll K H (ks.map fun k : Nat => V.int (k : Int)) (ks.map fun k : Nat => PyData.int (k : Int))
  | [] => .nil
  | k :: ks => .cons (.int _) (dp_nats ks)
theorem ne_nats {H : Hp} {a b : Addr} {ks : List Nat} {Q : VK} (ha : H a = some (.lst (ks.map fun k : Nat => V.int (k : Int)))) (hb : H b = some (.lst [])) (k : Q (.bl (!decide (ks = []))) H) : rNeD K (.ref a) (.ref b) H Q := by
  refine ⟨_, _, .lst (SqL.of ha) (dp_nats ks), .lst (SqL.of hb) .nil, shaped_nats ks, by rfl, ?_⟩
  cases ks with
  | nil => exact k
  | cons z zs => exact k
theorem fa2_set {α β : Type} {R : α → β → Prop} {as : List α} {bs : List β} {a : α} {b : β} (h : Fa2 R as bs) (k : R a b) : ∀ i, Fa2 R (as.set i a) (bs.set i b) := by
  induction h with
  | nil => intro i; exact .nil
  | cons h t ih => intro i; cases i with
    | zero => exact .cons k t
    | succ i => exact .cons h (ih i)
theorem ixN_nat {n k : Nat} (h : k < n) : ixN n (k : Int) = some k := by
  unfold ixN
  rw [if_pos (by omega), if_pos (by omega)]
  simp
def spPts : Sp := fun vs H Q _ => ∃ (p l b : Addr) (c : Int) (n : Nat) (ys : List V) (ds : List (Rat × List Rat × Bool)), vs = [.ref p, .ref b, .int n] ∧ n ≤ 3 ∧ PenAt H p l c ∧ c + 200 < 1000000 ∧ H b = some (.lst ys) ∧ LRows H n ys ds ∧ ys.length ≤ 12 ∧ RBd 100 ds ∧
  ∀ H' R xs ps, Ext p H H' → PenAt H' p l (c + 200) → H' R = some (.lst xs) → LPs H' R n xs ps → xs.length ≤ 20 → Q (.ref R) H'
abbrev N_L_points : List Str := ["_law_pen_here", "_law_rows", "_law_size", "_law_out", "_law_k", "_law_form", "_law_strict", "_law_letters", "_law_point", "_law_slope", "_law_gap", "_law_letter"]
theorem sc_L_points : FnScope N_L_points ["_law_pen_here", "_law_rows", "_law_size"] (defScope s_L_points) := ⟨rfl, rfl, rfl, by decide +kernel, rfl, by decide +kernel, by decide +kernel⟩
theorem st_L_points {v0 v1 v2 : V} : L2.start N_L_points [v0, v1, v2] = [some v0, some v1, some v2, none, none, none, none, none, none, none, none, none] := rfl
theorem ok_L_points {f : Addr} {fd : FuncData} (F : FD K s_L_points "_law_points" "_law_points" f fd) (z_range : mg "range" = none) (g_L_plus : Gf P w K mg base "_law_plus" 3 ["_law_one", "_law_two"] (spQ2 (fun q r => q + r))) (g_L_times : Gf P w K mg base "_law_times" 3 ["_law_one", "_law_two"] (spQ2 (fun q r => q * r))) (g_L_q : Gf P w K mg base "_law_q" 2 ["_law_top", "_law_bottom"] (spQ)) (g_L_at : Gf P w K mg base "_law_at" 4 ["_law_form", "_law_point"] (spLAt)) (g_L_little : Gf P w K mg base "_law_little" 3 ["_law_pen_here"] (spLittle)) (g_L_pick : Gf P w K mg base "_law_pick" 2 ["_law_pen_here", "_law_some"] (spPick)) : FnOk P w K mg base (L2.CX P w) 5 f fd ["_law_pen_here", "_law_rows", "_law_size"] (spPts) := by
  have nd := sc_L_points.nd
  refine F.ok0 sc_L_points (fun vs H Q E h => ?_) (fun cdv A outer s H vs Q E hr h => ?_)
  · obtain ⟨p, l, b, c, n, ys, ds, rfl, _⟩ := h
    rfl
  · obtain ⟨p, l, b, c, n, ys, ds, rfl, hn, hp, hc, hb, hw, hl, bd, k⟩ := h
    refine ⟨_, (C8.pss_cut (ps_setLc (i := 3) (own := [("_law_k", 4)]) rfl nd rfl rfl (sw_true rfl rfl rfl (by decide +kernel)) (pi_range1 rfl z_range (pa_cons pe_int pa_nil)) (blkOk_by (own := [("_law_k", 4)]) (N := N_L_points) (sc := defScope s_L_points) (by decide +kernel)) (fun _ _ _ _ _ => (pg_name (i := 4) nd rfl (Or.inl rfl))) (fun _ _ _ _ _ => pts_nil) (fun _ _ _ _ _ => (pe_lc (own := [("_law_letter", 11)]) rfl nd (pi_range1 rfl z_range (pa_cons (pv 2) pa_nil)) (blk_in (blkOk_by (own := [("_law_letter", 11)]) (N := N_L_points) (sc := { kind := ScopeKind.function, names := [(".0", NameKind.local), ("_law_k", NameKind.local), ("range", NameKind.globalImplicit), ("_law_pen_here", NameKind.free), ("_law_size", NameKind.free)], isGenerator := false, isCoroutine := false }) (by decide +kernel))) (fun _ _ _ _ _ => (pg_name (i := 11) nd rfl (Or.inl rfl))) (fun _ _ _ _ _ => pts_nil) (fun _ _ _ _ _ => (pe_g g_L_little hr (by decide) passL rfl (pa_cons (pv 0) pa_nil))))))
        (C8.pss_cut (ps_for PassesOwn.never rfl (pi_list (pv 1)) (pg_tupH rfl (pgs_cons (pg_name (i := 5) nd rfl (Or.inr rfl)) (pgs_cons (pg_name (i := 6) nd rfl (Or.inl rfl)) pgs_nil))) (pss_cons (ps_setLc (i := 7) (own := [("_law_k", 4)]) rfl nd rfl rfl (sw_true rfl rfl rfl (by decide +kernel)) (pi_range1 rfl z_range (pa_cons (pv 2) pa_nil)) (blkOk_by (own := [("_law_k", 4)]) (N := N_L_points) (sc := defScope s_L_points) (by decide +kernel)) (fun _ _ _ _ _ => (pg_name (i := 4) nd rfl (Or.inl rfl))) (fun _ _ _ _ _ => pts_one (pt_cmpR op_ne (pe_ix ix_tupH (pe_ix ix_tupH (pv 5) (pe_op op_add (pv 4) pe_int) (fun _ _ => rfl)) pe_int (fun _ _ => rfl)) pe_int (nomark _))) (fun _ _ _ _ _ => (pv 4)))
        (pss_one (ps_if (pt_cmpR (op_neD hr.units) (pv 7) (pe_lst pa_nil) (nomark _)) (pss_cons (ps_par (i := 4) (j := 8) (by rfl) nd rfl rfl (by decide) rfl rfl (pa_cons (pe_g g_L_pick hr (by decide) passL rfl (pa_cons (pv 0) (pa_cons (pv 7) pa_nil))) (pa_cons (pe_lc (own := [("_law_letter", 11)]) rfl nd (pi_range1 rfl z_range (pa_cons (pv 2) pa_nil)) (blkOk_by (own := [("_law_letter", 11)]) (N := N_L_points) (sc := defScope s_L_points) (by decide +kernel)) (fun _ _ _ _ _ => (pg_name (i := 11) nd rfl (Or.inl rfl))) (fun _ _ _ _ _ => pts_nil) (fun _ _ _ _ _ => (pe_g g_L_little hr (by decide) passL rfl (pa_cons (pv 0) pa_nil)))) pa_nil)) (by rfl))
        (pss_cons (ps_set (i := 9) nd rfl (Or.inl rfl) (pe_ix ix_tupH (pv 5) (pe_op op_add (pv 4) pe_int) (fun _ _ => rfl)))
        (pss_cons (ps_set (i := 10) nd rfl (Or.inl rfl) (pe_g g_L_times hr (by decide) passL rfl (pa_cons (pe_g g_L_at hr (by decide) passL rfl (pa_cons (pv 5) (pa_cons (pv 8) pa_nil))) (pa_cons (pe_g g_L_q hr (by decide) passL rfl (pa_cons (pe_un un_neg (pe_ix ix_tupH (pv 9) pe_int (fun _ _ => rfl))) (pa_cons (pe_ix ix_tupH (pv 9) pe_int (fun _ _ => rfl)) pa_nil))) pa_nil))))
        (pss_cons (ps_asg (pe_g g_L_plus hr (by decide) passL rfl (pa_cons (pe_ix ix_list (pv 8) (pv 4) (fun _ _ => rfl)) (pa_cons (pv 10) pa_nil))) (pg_sub (pv 8) (pv 4) set_list))
        (pss_one (ps_expr (pe_bm PySem.F.plainAttrs_list PySem.F.slot_list_append PySem.F.type_list_append mt_append (pv 3) (pa_cons (pv 8) pa_nil)))))))) pss_nil))))
        (pss_one (ps_ret (pv 3))))), ?_⟩
    simp only [tVar, rIxTH, rIxLH, gTupH, line_le, HO.tup.injEq, HO.lst.injEq, List.length_cons, List.length_nil, at0, at1, rU, tOst, tTest, rIxL, rIxT, C8.tCut, cxOf_K, tC, tOp, tUn, tSeq, tAsg, tNext, tRet, tRetN, tDrop, tIfS, tNever, gName, gNil, gCons, gTup, gSub, tPar, rI, rI0, rU, rEq, rNe, tB, tAnd, tOr, tNot, tAndV, tOrV, tNotV, tIf, tTup, tLst, tNil, tCons, tCB, tCall, tMeth, tMake, tFld, sFld, tDGet, sDPut, tDisp, tPairs, tBreak, tCont, scal_ii, scal_bb, scal_ss, List.getElem?_cons_zero, List.getElem?_cons_succ, List.set_cons_zero, List.set_cons_succ, Option.some.injEq, exists_eq_left', exists_eq_left, exists_and_left, V.int.injEq, V.bl.injEq, V.ref.injEq, V.str.injEq, List.cons.injEq, and_true, true_and, Bool.true_eq, List.nil_append, List.append_nil, List.cons_append, exists_eq', and_self, reduceCtorEq, false_or, or_false, false_and, exists_false, exists_const, and_assoc, if_true, Bool.false_eq_true, if_false, Nat.reduceAdd, Nat.reduceLeDiff, Nat.zero_add, Nat.le_refl, forall_const, st_L_points]
    refine ⟨fun σ' H' => ∃ R xs ps, σ' = [some (.ref p), some (.ref b), some (.int n), some (.ref R), none, none, none, none, none, none, none, none] ∧ H R = none ∧ Ext p H H' ∧ PenAt H' p l (c + 30) ∧ H' R = some (.lst xs) ∧ LPs H' R n xs ps ∧ xs.length = 3, ?_, ?_⟩
    · refine ⟨3, rfl, by omega, by omega, ?_⟩
      rw [show (3 : Int).toNat = 3 from rfl]
      refine fun D hD => lc_range (lo := 0) (n := 3) (D := D) (fun i H' => ∃ acc ps, H' D = some (.lst acc) ∧ acc.length = i ∧ LPs H' D n acc ps ∧ Ext p H H' ∧ PenAt H' p l (c + 10 * i)) ⟨[], [], upd_same, rfl, .nil, .of (same_new hD), (hp.same (same_new hD)).mono (by omega)⟩ ?_ ?_
      · rintro i H2 hi ⟨acc, ps, hacc, hl1, hall, x2, p2⟩
        have nDp : D ≠ p := hp.ne hD
        have nDl : D ≠ l := hp.ne2 hD
        simp only [tVar, rIxTH, rIxLH, gTupH, line_le, HO.tup.injEq, HO.lst.injEq, List.length_cons, List.length_nil, at0, at1, rU, tOst, tTest, rIxL, rIxT, C8.tCut, cxOf_K, tC, tOp, tUn, tSeq, tAsg, tNext, tRet, tRetN, tDrop, tIfS, tNever, gName, gNil, gCons, gTup, gSub, tPar, rI, rI0, rU, rEq, rNe, tB, tAnd, tOr, tNot, tAndV, tOrV, tNotV, tIf, tTup, tLst, tNil, tCons, tCB, tCall, tMeth, tMake, tFld, sFld, tDGet, sDPut, tDisp, tPairs, tBreak, tCont, scal_ii, scal_bb, scal_ss, List.getElem?_cons_zero, List.getElem?_cons_succ, List.set_cons_zero, List.set_cons_succ, Option.some.injEq, exists_eq_left', exists_eq_left, exists_and_left, V.int.injEq, V.bl.injEq, V.ref.injEq, V.str.injEq, List.cons.injEq, and_true, true_and, Bool.true_eq, List.nil_append, List.append_nil, List.cons_append, exists_eq', and_self, reduceCtorEq, false_or, or_false, false_and, exists_false, exists_const, and_assoc, if_true, Bool.false_eq_true, if_false, Nat.reduceAdd, Nat.reduceLeDiff, Nat.zero_add, Nat.le_refl, forall_const, st_L_points, wipe, List.map_cons, List.map_nil, tYes]
        refine little_lc (n := n) (j := 2) (m := 11) rfl rfl (by decide) p2 (by omega) (by omega) fun H3 E1 ac qs x3 p3 hE hac hq lq bq => ?_
        have hacc3 := x3 _ _ nDp hacc
        have nE : E1 ≠ D := fun z => by rw [z, hacc] at hE; cases hE
        refine ⟨acc, hacc3, by rw [hl1]; exact line_le (by omega), acc ++ [.ref E1], upd_same, by simp [hl1], ps ++ [qs], ?_, ext_updD hD (x2.trans x3), (p3.put nDp nDl _).mono (by push_cast; omega)⟩
        exact Fa2.snoc (Fa2.mono hall fun _ _ z => (z.ext p2 x3).updR hacc3) (IsLP.updR ⟨E1, ac, rfl, nE, hac, hq, lq, fun z hz => (bq z hz).mono (by decide)⟩ hacc3)
      · rintro H2 ⟨acc, ps, hacc, hl1, hall, x2, p2⟩
        exact ⟨D, acc, ps, rfl, hD, x2, p2.mono (by omega), hacc, hall, hl1⟩
    rintro σ' H1 ⟨R, xs, ps, rfl, R0, x1, p1, hR, hx, l3⟩
    have hb1 := x1 _ _ (lst_noPen hp hb) hb
    have hw1 := hw.ext hp x1
    have bR : R ≠ b := fun z => by rw [z, hb] at R0; cases R0
    refine ⟨fun σ' H' => ∃ xs ps v4 v5 v6 v7 v8 v9 v10, σ' = [some (.ref p), some (.ref b), some (.int n), some (.ref R), v4, v5, v6, v7, v8, v9, v10, none] ∧ Ext p H H' ∧ PenAt H' p l (c + 200) ∧ H' R = some (.lst xs) ∧ LPs H' R n xs ps ∧ xs.length ≤ 20, ?_, ?_⟩
    · refine ⟨.ref b, rfl, b, rfl, ⟨_, SqL.of hb1⟩, for_list (xs := ys) (fun i σ' H' => ∃ xs ps v4 v5 v6 v7 v8 v9 v10, σ' = [some (.ref p), some (.ref b), some (.int n), some (.ref R), v4, v5, v6, v7, v8, v9, v10, none] ∧ Ext p H H' ∧ PenAt H' p l (c + 30 + 14 * i) ∧ H' R = some (.lst xs) ∧ LPs H' R n xs ps ∧ xs.length ≤ 3 + i) ?_ ?_ ?_ ?_⟩
      · exact ⟨xs, ps, none, none, none, none, none, none, none, rfl, x1, p1.mono (by omega), hR, hx, by omega⟩
      · rintro i σ' H' _ ⟨_, _, _, _, _, _, _, _, _, _, x2, _⟩
        exact SqL.of (x2 _ _ (lst_noPen hp hb) hb)
      · rintro i v σ' H3 hi ⟨xs, ps, v4, v5, v6, v7, v8, v9, v10, rfl, x3, p3, hR3, hx3, l3⟩
        obtain ⟨⟨q0, qs0, b0⟩, hd, t, f', rfl, ht, hf', lq0⟩ := Fa2.get (hw.ext hp x3) hi
        have lq0 : qs0.length = n := lq0
        have li := ix_lt hi
        have b100 := bd _ (List.mem_of_getElem? hd)
        have hR3p : R ≠ p := lst_noPen p3 hR3
        simp only [tVar, rIxTH, rIxLH, gTupH, line_le, HO.tup.injEq, HO.lst.injEq, List.length_cons, List.length_nil, at0, at1, rU, tOst, tTest, rIxL, rIxT, C8.tCut, cxOf_K, tC, tOp, tUn, tSeq, tAsg, tNext, tRet, tRetN, tDrop, tIfS, tNever, gName, gNil, gCons, gTup, gSub, tPar, rI, rI0, rU, rEq, rNe, tB, tAnd, tOr, tNot, tAndV, tOrV, tNotV, tIf, tTup, tLst, tNil, tCons, tCB, tCall, tMeth, tMake, tFld, sFld, tDGet, sDPut, tDisp, tPairs, tBreak, tCont, scal_ii, scal_bb, scal_ss, List.getElem?_cons_zero, List.getElem?_cons_succ, List.set_cons_zero, List.set_cons_succ, Option.some.injEq, exists_eq_left', exists_eq_left, exists_and_left, V.int.injEq, V.bl.injEq, V.ref.injEq, V.str.injEq, List.cons.injEq, and_true, true_and, Bool.true_eq, List.nil_append, List.append_nil, List.cons_append, exists_eq', and_self, reduceCtorEq, false_or, or_false, false_and, exists_false, exists_const, and_assoc, if_true, Bool.false_eq_true, if_false, Nat.reduceAdd, Nat.reduceLeDiff, Nat.zero_add, Nat.le_refl, forall_const, st_L_points]
        refine ⟨_, ht, rfl, _, _, rfl, _, _, rfl, rfl, ?_⟩
        refine ⟨_, rfl, n, rfl, by omega, by omega, ?_⟩
        rw [Int.toNat_natCast]
        refine fun D hD => lc_range (lo := 0) (n := n) (D := D) (fun i H' => ∃ ks : List Nat, H' D = some (.lst (ks.map fun k : Nat => V.int (k : Int))) ∧ ks.length ≤ i ∧ (∀ k ∈ ks, ∃ s, qs0[k]? = some s ∧ s.num ≠ 0) ∧ Same H3 H') ⟨[], upd_same, by simp, by simp, same_new hD⟩ ?_ ?_
        · rintro j H4 hj ⟨ks, hks, lk, hk, s4⟩
          simp only [tVar, rIxTH, rIxLH, gTupH, line_le, HO.tup.injEq, HO.lst.injEq, List.length_cons, List.length_nil, at0, at1, rU, tOst, tTest, rIxL, rIxT, C8.tCut, cxOf_K, tC, tOp, tUn, tSeq, tAsg, tNext, tRet, tRetN, tDrop, tIfS, tNever, gName, gNil, gCons, gTup, gSub, tPar, rI, rI0, rU, rEq, rNe, tB, tAnd, tOr, tNot, tAndV, tOrV, tNotV, tIf, tTup, tLst, tNil, tCons, tCB, tCall, tMeth, tMake, tFld, sFld, tDGet, sDPut, tDisp, tPairs, tBreak, tCont, scal_ii, scal_bb, scal_ss, List.getElem?_cons_zero, List.getElem?_cons_succ, List.set_cons_zero, List.set_cons_succ, Option.some.injEq, exists_eq_left', exists_eq_left, exists_and_left, V.int.injEq, V.bl.injEq, V.ref.injEq, V.str.injEq, List.cons.injEq, and_true, true_and, Bool.true_eq, List.nil_append, List.append_nil, List.cons_append, exists_eq', and_self, reduceCtorEq, false_or, or_false, false_and, exists_false, exists_const, and_assoc, if_true, Bool.false_eq_true, if_false, Nat.reduceAdd, Nat.reduceLeDiff, Nat.zero_add, Nat.le_refl, forall_const, st_L_points, wipe, List.map_cons, List.map_nil]
          obtain ⟨zs, hz1, hz2⟩ := hf'.same s4
          have lz := Fa2.len hz2
          rw [List.length_cons] at lz
          have hzj : zs[j + 1]? = some (zs[j + 1]'(by omega)) := List.getElem?_eq_getElem (by omega)
          obtain ⟨s, hs, e, he, heq⟩ := Fa2.get hz2 hzj
          rw [he] at hzj
          have hs : qs0[j]? = some s := hs
          refine ⟨zs, hz1, _, by rw [show (0 + (j : Int) + 1) = ((j + 1 : Nat) : Int) by omega]; exact atI_nat hzj, e, rfl, _, heq, _, atI_nat (j := 0) rfl, rfl, ?_⟩
          refine ite2 (fun h => ?_) (fun h => ⟨ks, hks, by omega, hk, s4⟩)
          refine ⟨_, hks, by rw [List.length_map]; exact line_le (by omega), ks ++ [j], by rw [upd_same, List.map_append, Int.zero_add]; rfl, by simp; omega, fun k hkm => ?_, same_updL hD s4⟩
          rcases List.mem_append.mp hkm with h1 | h1
          · exact hk k h1
          · rw [List.mem_singleton.mp h1]
            exact ⟨s, hs, fun z => by rw [z] at h; simp at h⟩
        · rintro H4 ⟨ks, hks, lk, hk, s4⟩
          intro z1 hz1
          have s0 := same_new (o := HO.lst []) hz1
          have s34 := s4.trans s0
          refine ne_nats (s0 _ _ hks) upd_same ⟨_, rfl, ite2 (fun hne => ?_) (fun _ => ?_)⟩
          · have pos : 0 < ks.length := by
              cases ks with
              | nil => simp at hne
              | cons d ds => simp
            refine ⟨p, l, D, _, _, rfl, p3.same s34, by omega, s0 _ _ hks, by rw [List.length_map]; exact pos, by rw [List.length_map]; omega, fun H6 i6 v x6 p6 hv => ?_⟩
            obtain ⟨kk, hkk, rfl⟩ : ∃ kk : Nat, kk ∈ ks ∧ v = V.int (kk : Int) := by
              rw [List.getElem?_map] at hv
              cases e : ks[i6]? with
              | none => rw [e] at hv; cases hv
              | some z => rw [e] at hv; exact ⟨z, List.mem_of_getElem? e, (Option.some.inj hv).symm⟩
            obtain ⟨sl, hsl, hs0⟩ := hk kk hkk
            refine little_lc (j := 2) (m := 11) (n := n) rfl rfl (by decide) p6 (by omega) (by omega) fun H7 P ac qs x7 p7 hP hac hq lq bq => ?_
            have x37 := ((Ext.of (p := p) s34).trans x6).trans x7
            obtain ⟨zs, hz1, hz2⟩ := hf'.ext p3 x37
            have hk1 : (q0 :: qs0)[kk + 1]? = some sl := hsl
            have lz : zs.length = (q0 :: qs0).length := Fa2.len hz2
            have lk1 := ix_lt hk1
            have hzj : zs[kk + 1]? = some (zs[kk + 1]'(by omega)) := List.getElem?_eq_getElem (by omega)
            obtain ⟨s, hs, e, he, heq⟩ := Fa2.get hz2 hzj
            rw [hk1] at hs
            cases hs
            rw [he] at hzj
            have bs := b100 _ (List.mem_of_getElem? hk1)
            have bw := worth_bd3 (by decide) (by omega) (by omega) b100 bq
            refine ⟨_, rfl, f', rfl, zs, hz1, _, by rw [show ((kk : Int) + 1) = ((kk + 1 : Nat) : Int) by omega]; exact atI_nat hzj, f', P, q0, qs0, qs, ac, rfl, ⟨zs, hz1, hz2⟩, hac, hq, by omega, by omega, fun z hz => (b100 z hz).mono (by decide), fun z hz => (bq z hz).mono (by decide), fun H8 w s8 hw8 => ?_⟩
            have he8 := s8 _ _ heq
            refine ⟨e, rfl, _, he8, _, atI_nat (j := 1) rfl, _, rfl, e, rfl, _, he8, _, atI_nat (j := 0) rfl, -(sl.den : Int), sl.num, rfl, hs0, ?_, ?_, fun a9 ha9 => ?_⟩
            · rw [Int.natAbs_neg, Int.natAbs_natCast]; exact HwM.lt_mono bs.2 (by decide)
            · exact HwM.lt_mono bs.1 (by decide)
            have br : HwM.Bd 100 (Rat.divInt (-(sl.den : Int)) sl.num) := HwM.divInt_bd (by decide) (by rw [Int.natAbs_neg, Int.natAbs_natCast]; exact bs.2) bs.1
            have s9 := same_new (o := HO.tup (qv (Rat.divInt (-(sl.den : Int)) sl.num))) ha9
            refine ⟨w, a9, _, _, rfl, s9 _ _ hw8, upd_same, bw.mono (by decide), br.mono (by decide), fun a10 ha10 => ?_⟩
            have bg := HwM.mul_bd (by decide) bw br
            have s10 := same_new (o := HO.tup (qv (worth q0 qs0 qs * Rat.divInt (-(sl.den : Int)) sl.num))) ha10
            have s810 := (s8.trans s9).trans s10
            have kn : kk < qs0.length := ix_lt hsl
            have la := Fa2.len hq
            have hak : ac[kk]? = some (ac[kk]'(by omega)) := List.getElem?_eq_getElem (by omega)
            obtain ⟨s2, hs2, e2, he2, heq2⟩ := Fa2.get hq hak
            rw [he2] at hak
            have bs2 := bq _ (List.mem_of_getElem? hs2)
            refine ⟨P, rfl, ac, kk, rfl, SqL.of (s810 _ _ hac), _, atI_nat hak, e2, a10, s2, _, rfl, s810 _ _ heq2, upd_same, bs2.mono (by decide), bg.mono (by decide), fun a11 ha11 => ?_⟩
            have s11 := same_new (o := HO.tup (qv (s2 + worth q0 qs0 qs * Rat.divInt (-(sl.den : Int)) sl.num))) ha11
            have s811 := s810.trans s11
            have b11 : HwM.Bd 600 (s2 + worth q0 qs0 qs * Rat.divInt (-(sl.den : Int)) sl.num) := (HwM.add_bd bs2 bg).mono (by decide)
            have hac11 := s811 _ _ hac
            refine ⟨P, ac, kk, kk, rfl, rfl, hac11, ixN_nat (by omega), ?_⟩
            have x311 := x37.trans (Ext.of (p := p) s811)
            have x36 := (Ext.of (p := p) s34).trans x6
            have hR6 := x36 _ _ hR3p hR3
            have PR : P ≠ R := fun z => by rw [z, hR6] at hP; cases hP
            have hR11 := x311 _ _ hR3p hR3
            have P3 : H3 P = none := by
              cases e : H3 P with
              | none => rfl
              | some o =>
                have := x36 P o (fun z => by
                  obtain ⟨o2, ho2⟩ := p6.some
                  rw [z, ho2] at hP
                  cases hP) e
                rw [hP] at this
                cases this
            have nP : P ≠ p := fun z => by
              obtain ⟨o2, ho2⟩ := p6.some
              rw [z, ho2] at hP
              cases hP
            have nPl : P ≠ l := p6.ne2 hP
            have hR12' : ∀ Hx : Hp, Hx R = some (HO.lst xs) → upd Hx P (HO.lst (ac.set kk (V.ref a11))) R = some (HO.lst xs) := fun Hx h => by rw [upd_ne PR.symm]; exact h
            have hR12 := hR12' _ hR11
            have x312 := ext_updD (o := HO.lst (ac.set kk (V.ref a11))) P3 x311
            have p12 := (p7.same s811).put nP nPl (HO.lst (ac.set kk (V.ref a11)))
            simp only [tBM, tVar, rIxTH, rIxLH, gTupH, line_le, HO.tup.injEq, HO.lst.injEq, List.length_cons, List.length_nil, at0, at1, rU, tOst, tTest, rIxL, rIxT, C8.tCut, cxOf_K, tC, tOp, tUn, tSeq, tAsg, tNext, tRet, tRetN, tDrop, tIfS, tNever, gName, gNil, gCons, gTup, gSub, tPar, rI, rI0, rU, rEq, rNe, tB, tAnd, tOr, tNot, tAndV, tOrV, tNotV, tIf, tTup, tLst, tNil, tCons, tCB, tCall, tMeth, tMake, tFld, sFld, tDGet, sDPut, tDisp, tPairs, tBreak, tCont, scal_ii, scal_bb, scal_ss, List.getElem?_cons_zero, List.getElem?_cons_succ, List.set_cons_zero, List.set_cons_succ, Option.some.injEq, exists_eq_left', exists_eq_left, exists_and_left, V.int.injEq, V.bl.injEq, V.ref.injEq, V.str.injEq, List.cons.injEq, and_true, true_and, Bool.true_eq, List.nil_append, List.append_nil, List.cons_append, exists_eq', and_self, reduceCtorEq, false_or, or_false, false_and, exists_false, exists_const, and_assoc, if_true, Bool.false_eq_true, if_false, Nat.reduceAdd, Nat.reduceLeDiff, Nat.zero_add, Nat.le_refl, forall_const, st_L_points]
            refine ⟨.inl ⟨rfl, xs, SqL.of hR12⟩, ?_⟩
            refine ⟨R, xs, .ref P, rfl, rfl, hR12, line_le (by omega), ext_updD R0 (x3.trans x312), (p12.put (lst_noPen p3 hR3) (hp.ne2 R0) _).mono (by push_cast; omega), _, upd_same, ps ++ [qs.set kk (s2 + worth q0 qs0 qs * Rat.divInt (-(sl.den : Int)) sl.num)], ?_, by simp; omega⟩
            refine Fa2.snoc (Fa2.mono hx3 fun _ _ z => (z.ext p3 x312).updR hR12) (IsLP.updR ⟨P, _, rfl, PR, upd_same, AllQ.updL (show AllQ _ _ _ from fa2_set (hq.same s811) ⟨a11, rfl, upd_same⟩ kk) hac11, by rw [List.length_set]; exact lq, fun z hz => ?_⟩ hR12)
            rcases List.mem_or_eq_of_mem_set hz with h | rfl
            · exact (bq z h).mono (by decide)
            · exact b11
          · exact ⟨x3.trans (Ext.of s34), (p3.same s34).mono (by omega), xs, s34 _ _ hR3, ps, Fa2.mono hx3 fun _ _ z => z.same s34, by omega⟩
      · rintro σ' H3 ⟨xs, ps, v4, v5, v6, v7, v8, v9, v10, rfl, x3, p3, hR3, hx3, l3⟩
        exact ⟨xs, ps, v4, v5, v6, v7, v8, v9, v10, rfl, x3, p3.mono (by omega), hR3, hx3, by omega⟩
    rintro σ' H2 ⟨xs, ps, v4, v5, v6, v7, v8, v9, v10, rfl, x2, p2, hR2, hx2, l2⟩
    exact ⟨_, rfl, k H2 R xs ps x2 p2 hR2 hx2 l2⟩


end HwL
end

section
namespace HwL
open PySem PySem.Spec PyProof.Rows L2 LamX HwP
variable {P : Program} {w : World} {K : PySem.W.Frag} {mg : Str → Option Value} {base : Heap}

theorem fa_ints {C : Addr} {H : Hp} : ∀ zs : List Int, AllA C H (zs.map V.int) (zs.map (fun z : Int => (z : Rat)))
  | [] => .nil
  | z :: zs => .cons (.inr ⟨z, rfl, rfl⟩) (fa_ints zs)
section
variable {CR CP CL : Addr} {H H' : Hp} {p l : Addr} {c : Int}
theorem isR_ext {x : V} {q : Rat} (h : IsR CR H x q) (hp : PenAt H p l c) (e : Ext p H H') : IsR CR H' x q := by
  obtain ⟨a, dx, rfl, ha⟩ := h
  exact ⟨a, dx, rfl, e _ _ (ins_noPen hp ha) ha⟩
theorem isP_ext {x : V} {q : Rat} {qs : List Rat} (h : IsP CR CP H x q qs) (hp : PenAt H p l c) (e : Ext p H H') : IsP CR CP H' x q qs := by
  obtain ⟨a, dx, fs, rfl, h1, v0, t, ys, r, rfl, k1, k2, k3, k4⟩ := h
  exact ⟨a, dx, _, rfl, e _ _ (ins_noPen hp h1) h1, v0, t, ys, r, rfl, isR_ext k1 hp e, e _ _ (tup_noPen hp k2) k2, Fa2.mono k3 fun _ _ z => isR_ext z hp e, e _ _ (tup_noPen hp k4) k4⟩
theorem isRow_ext {x : V} {n : Nat} {q : Rat} {qs : List Rat} {b : Bool} (h : IsRow CR CP H x n q qs b) (hp : PenAt H p l c) (e : Ext p H H') : IsRow CR CP H' x n q qs b := by
  obtain ⟨t, pl, h1, h2, h3, h4⟩ := h
  exact ⟨t, pl, h1, e _ _ (tup_noPen hp h2) h2, isP_ext h3 hp e, h4⟩
theorem rows_ext {n : Nat} {xs : List V} {ds : List (Rat × List Rat × Bool)} (h : Rows CR CP H n xs ds) (hp : PenAt H p l c) (e : Ext p H H') : Rows CR CP H' n xs ds := Fa2.mono h fun _ _ z => isRow_ext z hp e
theorem isPlc_ext {x : V} {n : Nat} {ds : List (Rat × List Rat × Bool)} (h : IsPlc CR CP CL H x n ds) (hp : PenAt H p l c) (e : Ext p H H') : IsPlc CR CP CL H' x n ds := by
  obtain ⟨a, dx, t, xs, h1, h2, h3, h4, h5⟩ := h
  exact ⟨a, dx, t, xs, h1, e _ _ (ins_noPen hp h2) h2, e _ _ (tup_noPen hp h3) h3, rows_ext h4 hp e, h5⟩
end
theorem plcF_no {t : Addr} {n : Int} {m : Str} (h1 : (m == ("rows" : Str)) = false) (h2 : (m == ("size" : Str)) = false) : List.lookup m (plcF t n) = none := by
  unfold plcF
  simp [List.lookup, h1, h2]
theorem RBd.closed {k : Nat} {ds : List (Rat × List Rat × Bool)} (h : RBd k ds) : RBd k (ds.map fun d => (d.1, d.2.1, false)) := fun d hd => by
  obtain ⟨e, he, rfl⟩ := List.mem_map.mp hd
  exact h e he
theorem AllR.as {C : Addr} {H : Hp} {xs : List V} {qs : List Rat} (h : AllR C H xs qs) : AllA C H xs qs := Fa2.mono h fun _ _ z => .inl z
def spBel (CR CP CL : Addr) : Sp := fun vs H Q _ => ∃ (p l b : Addr) (x : V) (c : Int) (n : Nat) (ys : List V) (ds : List (Rat × List Rat × Bool)), vs = [.ref p, x, .ref b, .int n] ∧ n ≤ 3 ∧ PenAt H p l c ∧ c + 300 < 1000000 ∧ IsPlc CR CP CL H x n ds ∧ H b = some (.lst ys) ∧ LRows H n ys ds ∧ ys.length ≤ 12 ∧ RBd 100 ds ∧
  ∀ H', Ext p H H' → PenAt H' p l (c + 300) → Q (.bl true) H'
abbrev N_L_belongs_right : List Str := ["_law_pen_here", "_law_place", "_law_rows", "_law_size", "_law_point", "_law_told", "_law_whole", "_law_due", "_law_letter", "_law_part"]
theorem sc_L_belongs_right : FnScope N_L_belongs_right ["_law_pen_here", "_law_place", "_law_rows", "_law_size"] (defScope s_L_belongs_right) := ⟨rfl, rfl, rfl, by decide +kernel, rfl, by decide +kernel, by decide +kernel⟩
theorem st_L_belongs_right {v0 v1 v2 v3 : V} : L2.start N_L_belongs_right [v0, v1, v2, v3] = [some v0, some v1, some v2, some v3, none, none, none, none, none, none] := rfl
theorem ok_L_belongs_right {f : Addr} {fd : FuncData} (F : FD K s_L_belongs_right "_law_belongs_right" "_law_belongs_right" f fd) {C_Ratio C_Plane C_Place C_BadNumber C_BadGiven : Addr} (z_tuple : mg "tuple" = none) (z_range : mg "range" = none) (z_list : mg "list" = none) (g_L_truth : Gf P w K mg base "_law_truth" 1 ["_law_value", "_law_due"] (fun vs H Q _ => ∃ a b : Bool, vs = [.bl a, .bl b] ∧ Q (.bl (decide (a = b))) H)) (g_Place_holds : Mf P w K mg base C_Place "holds" 9 ["self", "point"] (spHolds K C_Ratio C_Plane C_Place C_BadGiven (fun b => b))) (g_L_holds : Gf P w K mg base "_law_holds" 5 ["_law_rows", "_law_point"] (spLHolds)) (g_L_draw : Gf P w K mg base "_law_draw" 1 ["_law_pen_here", "_law_many"] (spDraw)) (g_L_points : Gf P w K mg base "_law_points" 5 ["_law_pen_here", "_law_rows", "_law_size"] (spPts)) (g_L_closed : Gf P w K mg base "_law_closed" 1 ["_law_rows"] (spLClosed)) (g_Place_closed_holds : Mf P w K mg base C_Place "closed_holds" 9 ["self", "point"] (spHolds K C_Ratio C_Plane C_Place C_BadGiven (fun _ => false))) (g_Ratio : Kf P w K mg base "Ratio" C_Ratio 3 ["self", "top", "bottom"] [] (spInit C_Ratio C_BadNumber)) : FnOk P w K mg base (L2.CX P w) 10 f fd ["_law_pen_here", "_law_place", "_law_rows", "_law_size"] (spBel C_Ratio C_Plane C_Place) := by
  have nd := sc_L_belongs_right.nd
  refine F.ok0 sc_L_belongs_right (fun vs H Q E h => ?_) (fun cdv A outer s H vs Q E hr h => ?_)
  · obtain ⟨p, l, b, x, c, n, ys, ds, rfl, _⟩ := h
    rfl
  · obtain ⟨p, l, b, x, c, n, ys, ds, rfl, hn, hp, hc, hx, hb, hw, hl, bd, k⟩ := h
    refine ⟨_, (C8.pss_cut (ps_for PassesOwn.never rfl (pi_list (pe_g g_L_points hr (by decide) passL rfl (pa_cons (pv 0) (pa_cons (pv 2) (pa_cons (pv 3) pa_nil))))) (pg_name (i := 4) nd rfl (Or.inl rfl)) (pss_cons (ps_set (i := 5) nd rfl (Or.inl rfl) (pe_callTy call_tuple_of (by rfl) z_tuple (by decide +kernel) (pa_cons (pe_lc (own := [("_law_part", 9)]) rfl nd (pi_list (pv 4)) (blkOk_by (own := [("_law_part", 9)]) (N := N_L_belongs_right) (sc := defScope s_L_belongs_right) (by decide +kernel)) (fun _ _ _ _ _ => (pg_name (i := 9) nd rfl (Or.inl rfl))) (fun _ _ _ _ _ => pts_nil) (fun _ _ _ _ _ => (pe_k g_Ratio hr (by decide) passL rfl (pa_cons (pe_ix ix_tupH (pv 9) pe_int (fun _ _ => rfl)) (pa_cons (pe_ix ix_tupH (pv 9) pe_int (fun _ _ => rfl)) pa_nil))))) pa_nil)))
        (pss_cons (ps_if (pt_not (pt_val (pe_g g_L_truth hr (by decide) passL rfl (pa_cons (pe_m g_Place_holds hr (by decide) passL (pv 1) (pa_cons (pv 5) pa_nil)) (pa_cons (pe_g g_L_holds hr (by decide) passL rfl (pa_cons (pv 2) (pa_cons (pv 4) pa_nil))) pa_nil))))) (pss_one (ps_ret pe_bl)) pss_nil)
        (pss_one (ps_if (pt_not (pt_val (pe_g g_L_truth hr (by decide) passL rfl (pa_cons (pe_m g_Place_closed_holds hr (by decide) passL (pv 1) (pa_cons (pe_callTy call_list_of (by rfl) z_list (by decide +kernel) (pa_cons (pv 5) pa_nil)) pa_nil)) (pa_cons (pe_g g_L_holds hr (by decide) passL rfl (pa_cons (pe_g g_L_closed hr (by decide) passL rfl (pa_cons (pv 2) pa_nil)) (pa_cons (pv 4) pa_nil))) pa_nil))))) (pss_one (ps_ret pe_bl)) pss_nil)))))
        (C8.pss_cut (ps_setLc (i := 6) (own := [("_law_letter", 8)]) rfl nd rfl rfl (sw_true rfl rfl rfl (by decide +kernel)) (pi_range1 rfl z_range (pa_cons (pv 3) pa_nil)) (blkOk_by (own := [("_law_letter", 8)]) (N := N_L_belongs_right) (sc := defScope s_L_belongs_right) (by decide +kernel)) (fun _ _ _ _ _ => (pg_name (i := 8) nd rfl (Or.inl rfl))) (fun _ _ _ _ _ => pts_nil) (fun _ _ _ _ _ => (pe_op op_sub (pe_g g_L_draw hr (by decide) passL rfl (pa_cons (pv 0) (pa_cons pe_int pa_nil))) pe_int)))
        (C8.pss_cut (ps_set (i := 7) nd rfl (Or.inl rfl) (pe_g g_L_holds hr (by decide) passL rfl (pa_cons (pv 2) (pa_cons (pe_lc (own := [("_law_part", 9)]) rfl nd (pi_list (pv 6)) (blkOk_by (own := [("_law_part", 9)]) (N := N_L_belongs_right) (sc := defScope s_L_belongs_right) (by decide +kernel)) (fun _ _ _ _ _ => (pg_name (i := 9) nd rfl (Or.inl rfl))) (fun _ _ _ _ _ => pts_nil) (fun _ _ _ _ _ => (pe_tup (pa_cons (pv 9) (pa_cons pe_int pa_nil))))) pa_nil))))
        (pss_one (ps_ret (pe_and (pe_g g_L_truth hr (by decide) passL rfl (pa_cons (pe_m g_Place_holds hr (by decide) passL (pv 1) (pa_cons (pv 6) pa_nil)) (pa_cons (pv 7) pa_nil))) (pe_one (pe_g g_L_truth hr (by decide) passL rfl (pa_cons (pe_m g_Place_holds hr (by decide) passL (pv 1) (pa_cons (pe_callTy call_tuple_of (by rfl) z_tuple (by decide +kernel) (pa_cons (pv 6) pa_nil)) pa_nil)) (pa_cons (pv 7) pa_nil)))))))))), ?_⟩
    obtain ⟨xa, xd, xt, xxs, rfl, hxa, _⟩ := id hx
    have nh : ∀ {t : Addr} {n : Int}, List.lookup ("holds" : Str) (plcF t n) = none := fun {t n} => plcF_no (by decide) (by decide)
    have nc : ∀ {t : Addr} {n : Int}, List.lookup ("closed_holds" : Str) (plcF t n) = none := fun {t n} => plcF_no (by decide) (by decide)
    have hxn := ins_noPen hp hxa
    have bd190 : RBd 190 ds := bd.mono (by decide)
    simp only [tVar, rIxTH, rIxLH, gTupH, line_le, HO.tup.injEq, HO.lst.injEq, List.length_cons, List.length_nil, at0, at1, rU, tOst, tTest, rIxL, rIxT, C8.tCut, cxOf_K, tC, tOp, tUn, tSeq, tAsg, tNext, tRet, tRetN, tDrop, tIfS, tNever, gName, gNil, gCons, gTup, gSub, tPar, rI, rI0, rU, rEq, rNe, tB, tAnd, tOr, tNot, tAndV, tOrV, tNotV, tIf, tTup, tLst, tNil, tCons, tCB, tCall, tMeth, tMake, tFld, sFld, tDGet, sDPut, tDisp, tPairs, tBreak, tCont, scal_ii, scal_bb, scal_ss, List.getElem?_cons_zero, List.getElem?_cons_succ, List.set_cons_zero, List.set_cons_succ, Option.some.injEq, exists_eq_left', exists_eq_left, exists_and_left, V.int.injEq, V.bl.injEq, V.ref.injEq, V.str.injEq, List.cons.injEq, and_true, true_and, Bool.true_eq, List.nil_append, List.append_nil, List.cons_append, exists_eq', and_self, reduceCtorEq, false_or, or_false, false_and, exists_false, exists_const, and_assoc, if_true, Bool.false_eq_true, if_false, Nat.reduceAdd, Nat.reduceLeDiff, Nat.zero_add, Nat.le_refl, forall_const, st_L_belongs_right]
    refine ⟨fun σ' H' => ∃ v4 v5, σ' = [some (.ref p), some (.ref xa), some (.ref b), some (.int n), v4, v5, none, none, none, none] ∧ Ext p H H' ∧ PenAt H' p l (c + 200), ?_, ?_⟩
    · refine ⟨_, rfl, _, rfl, _, rfl, p, l, b, c, n, ys, ds, rfl, hn, hp, by omega, hb, hw, hl, bd, fun H2 R xs ps x2 p2 hR hx2 l20 => ⟨R, rfl, ⟨_, SqL.of hR⟩, for_list (xs := xs) (fun i σ' H' => ∃ v4 v5, σ' = [some (.ref p), some (.ref xa), some (.ref b), some (.int n), v4, v5, none, none, none, none] ∧ Same H2 H') ⟨none, none, rfl, Same.refl _⟩ (fun i σ' H' _ ⟨_, _, _, s⟩ => SqL.of (s _ _ hR)) ?_ ?_⟩⟩
      · rintro i v σ' H3 hi ⟨v4, v5, rfl, s3⟩
        obtain ⟨rs, hrs, P, ws, rfl, PR, hP, hq, lq, bq⟩ := Fa2.get hx2 hi
        have x03 := x2.trans (Ext.of (p := p) s3)
        have hP3 := s3 _ _ hP
        have hq3 := hq.same s3
        have lw := Fa2.len hq
        simp only [tVar, rIxTH, rIxLH, gTupH, line_le, HO.tup.injEq, HO.lst.injEq, List.length_cons, List.length_nil, at0, at1, rU, tOst, tTest, rIxL, rIxT, C8.tCut, cxOf_K, tC, tOp, tUn, tSeq, tAsg, tNext, tRet, tRetN, tDrop, tIfS, tNever, gName, gNil, gCons, gTup, gSub, tPar, rI, rI0, rU, rEq, rNe, tB, tAnd, tOr, tNot, tAndV, tOrV, tNotV, tIf, tTup, tLst, tNil, tCons, tCB, tCall, tMeth, tMake, tFld, sFld, tDGet, sDPut, tDisp, tPairs, tBreak, tCont, scal_ii, scal_bb, scal_ss, List.getElem?_cons_zero, List.getElem?_cons_succ, List.set_cons_zero, List.set_cons_succ, Option.some.injEq, exists_eq_left', exists_eq_left, exists_and_left, V.int.injEq, V.bl.injEq, V.ref.injEq, V.str.injEq, List.cons.injEq, and_true, true_and, Bool.true_eq, List.nil_append, List.append_nil, List.cons_append, exists_eq', and_self, reduceCtorEq, false_or, or_false, false_and, exists_false, exists_const, and_assoc, if_true, Bool.false_eq_true, if_false, Nat.reduceAdd, Nat.reduceLeDiff, Nat.zero_add, Nat.le_refl, forall_const, st_L_belongs_right]
        refine ⟨.ref P, rfl, P, rfl, ⟨_, SqL.of hP3⟩, fun D hD => lc_list (K := K) (a := P) (xs := ws) (fun i H' => Same H3 H' ∧ ∃ acc, H' D = some (.lst acc) ∧ acc.length = i ∧ AllR C_Ratio H' acc (rs.take i)) ⟨same_new hD, [], upd_same, rfl, .nil⟩ (fun i H' _ h => SqL.of (h.1 _ _ hP3)) ?_ ?_⟩
        · rintro j y H4 hj ⟨s4, acc, hacc, hl3, hall⟩
          obtain ⟨r, hr, e, rfl, he⟩ := Fa2.get hq3 hj
          have he4 := s4 _ _ he
          have br := bq _ (List.mem_of_getElem? hr)
          have lj := ix_lt hj
          simp only [tVar, rIxTH, rIxLH, gTupH, line_le, HO.tup.injEq, HO.lst.injEq, List.length_cons, List.length_nil, at0, at1, rU, tOst, tTest, rIxL, rIxT, C8.tCut, cxOf_K, tC, tOp, tUn, tSeq, tAsg, tNext, tRet, tRetN, tDrop, tIfS, tNever, gName, gNil, gCons, gTup, gSub, tPar, rI, rI0, rU, rEq, rNe, tB, tAnd, tOr, tNot, tAndV, tOrV, tNotV, tIf, tTup, tLst, tNil, tCons, tCB, tCall, tMeth, tMake, tFld, sFld, tDGet, sDPut, tDisp, tPairs, tBreak, tCont, scal_ii, scal_bb, scal_ss, List.getElem?_cons_zero, List.getElem?_cons_succ, List.set_cons_zero, List.set_cons_succ, Option.some.injEq, exists_eq_left', exists_eq_left, exists_and_left, V.int.injEq, V.bl.injEq, V.ref.injEq, V.str.injEq, List.cons.injEq, and_true, true_and, Bool.true_eq, List.nil_append, List.append_nil, List.cons_append, exists_eq', and_self, reduceCtorEq, false_or, or_false, false_and, exists_false, exists_const, and_assoc, if_true, Bool.false_eq_true, if_false, Nat.reduceAdd, Nat.reduceLeDiff, Nat.zero_add, Nat.le_refl, forall_const, st_L_belongs_right, wipe, List.map_cons, List.map_nil, tYes]
          refine ⟨_, he4, _, atI_nat (j := 0) rfl, _, he4, _, atI_nat (j := 1) rfl, made_rat2 (by rw [Int.natAbs_natCast]; exact HwM.lt_mono br.2 (by decide)) (fun _ H5 y5 s5 hy5 => ?_) fun z => absurd z (HwM.den_ne r)⟩
          rw [HwM.self_eq] at hy5
          have hD5 := s5 _ _ hacc
          refine ⟨acc, hD5, by rw [hl3]; exact line_le (by omega), same_updL hD (s4.trans s5), _, upd_same, by simp [hl3], ?_⟩
          rw [take_snoc hr]
          exact AllR.updL (Fa2.snoc (hall.same s5) hy5) hD5
        · rintro H4 ⟨s4, acc, hacc, hl3, hall⟩
          rw [lw, List.take_length] at hall
          have s24 := s3.trans s4
          have hx4 := isPlc_ext hx hp (x2.trans (Ext.of s24))
          have hxa4 := (x2.trans (Ext.of (p := p) s24)) _ _ hxn hxa
          have hb4 := (x2.trans (Ext.of (p := p) s24)) _ _ (lst_noPen hp hb) hb
          have hw4 := hw.ext hp (x2.trans (Ext.of s24))
          refine ⟨D, rfl, acc, .inl ⟨SqL.of hacc, fun l1 hl1 => ?_⟩⟩
          have s5 := same_new (o := HO.tup acc) hl1
          refine ⟨_, _, s5 _ _ hxa4, nh, ?_⟩
          refine ⟨_, _, n, ds, rfl, hx4.same s5, .inl ⟨rs, ⟨l1, acc, rfl, .inr upd_same, (hall.same s5).as⟩, lq, hn, bd190, bq, fun H6 s6 => ?_⟩⟩
          have s46 := s5.trans s6
          refine ⟨b, P, ys, ws, n, ds, rs, rfl, s46 _ _ hb4, hw4.same s46, (s4.trans s46) _ _ hP3, (hq3.same s4).same s46, lq, hn, bd190, bq, fun H7 s7 => ?_⟩
          refine ⟨_, rfl, _, rfl, iteF' (by rw [decide_eq_true rfl]; rfl) ?_⟩
          have s47 := s46.trans s7
          refine ⟨_, _, s47 _ _ hxa4, nc, acc, .inr (SqT.of ((s6.trans s7) _ _ upd_same)), fun l2 hl2 => ?_⟩
          have s8 := same_new (o := HO.lst acc) hl2
          have s48 := s47.trans s8
          refine ⟨_, _, n, ds, rfl, hx4.same s48, .inl ⟨rs, ⟨l2, acc, rfl, .inl upd_same, (hall.same s48).as⟩, lq, hn, bd190, bq, fun H9 s9 => ?_⟩⟩
          have s49 := s48.trans s9
          refine ⟨b, ys, n, ds, rfl, s49 _ _ hb4, hw4.same s49, by omega, fun H10 cl zs s10 hcl hz => ?_⟩
          have s410 := s49.trans s10
          refine ⟨cl, P, zs, ws, n, _, rs, rfl, hcl, hz, (s4.trans s410) _ _ hP3, (hq3.same s4).same s410, lq, hn, bd190.closed, bq, fun H11 s11 => ?_⟩
          refine ⟨_, rfl, _, rfl, iteF' (by rw [decide_eq_true (by rw [List.all_map]; rfl)]; rfl) ?_⟩
          exact s3.trans ((s4.trans s410).trans s11)
      · rintro σ' H3 ⟨v4, v5, rfl, s3⟩
        exact ⟨v4, v5, rfl, x2.trans (Ext.of s3), p2.same s3⟩
    rintro σ' H1 ⟨v4, v5, rfl, x1, p1⟩
    have hx1 := isPlc_ext hx hp x1
    have hb1 := x1 _ _ (lst_noPen hp hb) hb
    have hw1 := hw.ext hp x1
    refine ⟨fun σ' H' => ∃ (D : Addr) (zs : List Int), σ' = [some (.ref p), some (.ref xa), some (.ref b), some (.int n), v4, v5, some (.ref D), none, none, none] ∧ H' D = some (.lst (zs.map V.int)) ∧ zs.length = n ∧ (∀ z ∈ zs, z.natAbs ≤ 4) ∧ Ext p H1 H' ∧ PenAt H' p l (c + 250), ?_, ?_⟩
    · refine ⟨_, rfl, n, rfl, by omega, by omega, ?_⟩
      rw [Int.toNat_natCast]
      refine fun D hD => lc_range (lo := 0) (n := n) (D := D) (fun i H' => ∃ zs : List Int, H' D = some (.lst (zs.map V.int)) ∧ zs.length = i ∧ (∀ z ∈ zs, z.natAbs ≤ 4) ∧ Ext p H1 H' ∧ PenAt H' p l (c + 200 + i)) ⟨[], upd_same, rfl, by simp, .of (same_new hD), (p1.same (same_new hD)).mono (by omega)⟩ ?_ ?_
      · rintro i H2 hi ⟨zs, hzs, lz, hz, x2, p2⟩
        have nDp : D ≠ p := p1.ne hD
        have nDl : D ≠ l := p1.ne2 hD
        simp only [tVar, rIxTH, rIxLH, gTupH, line_le, HO.tup.injEq, HO.lst.injEq, List.length_cons, List.length_nil, at0, at1, rU, tOst, tTest, rIxL, rIxT, C8.tCut, cxOf_K, tC, tOp, tUn, tSeq, tAsg, tNext, tRet, tRetN, tDrop, tIfS, tNever, gName, gNil, gCons, gTup, gSub, tPar, rI, rI0, rU, rEq, rNe, tB, tAnd, tOr, tNot, tAndV, tOrV, tNotV, tIf, tTup, tLst, tNil, tCons, tCB, tCall, tMeth, tMake, tFld, sFld, tDGet, sDPut, tDisp, tPairs, tBreak, tCont, scal_ii, scal_bb, scal_ss, List.getElem?_cons_zero, List.getElem?_cons_succ, List.set_cons_zero, List.set_cons_succ, Option.some.injEq, exists_eq_left', exists_eq_left, exists_and_left, V.int.injEq, V.bl.injEq, V.ref.injEq, V.str.injEq, List.cons.injEq, and_true, true_and, Bool.true_eq, List.nil_append, List.append_nil, List.cons_append, exists_eq', and_self, reduceCtorEq, false_or, or_false, false_and, exists_false, exists_const, and_assoc, if_true, Bool.false_eq_true, if_false, Nat.reduceAdd, Nat.reduceLeDiff, Nat.zero_add, Nat.le_refl, forall_const, st_L_belongs_right, wipe, List.map_cons, List.map_nil, tYes]
        refine ⟨p, l, _, 9, rfl, p2, by omega, by decide, small_draw (m := 9) (by decide), fun H3 r x3 p3 r0 r1 => ?_⟩
        have hD3 := x3 _ _ nDp hzs
        refine ⟨r, rfl, _, hD3, by rw [List.length_map]; exact line_le (by omega), zs ++ [r - 4], by rw [upd_same, List.map_append]; rfl, by simp [lz], fun z hz' => ?_, ext_updD hD (x2.trans x3), (p3.put nDp nDl _).mono (by push_cast; omega)⟩
        rcases List.mem_append.mp hz' with h | h
        · exact hz z h
        · rw [List.mem_singleton.mp h]; omega
      · rintro H2 ⟨zs, hzs, lz, hz, x2, p2⟩
        exact ⟨D, zs, rfl, hzs, lz, hz, x2, p2.mono (by omega)⟩
    rintro σ' H2 ⟨D, zs, rfl, hD, lz, hz, x2, p2⟩
    have hx2 := isPlc_ext hx1 p1 x2
    have hb2 := x2 _ _ (lst_noPen p1 hb1) hb1
    have hw2 := hw1.ext p1 x2
    have bz : ∀ z ∈ zs.map (fun z : Int => (z : Rat)), HwM.Bd 600 z := fun z hm => by
      obtain ⟨y, hy, rfl⟩ := List.mem_map.mp hm
      have := hz y hy
      exact (HwM.int_bd (n := 3) (by decide) (by omega)).mono (by decide)
    refine ⟨fun σ' H' => σ' = [some (.ref p), some (.ref xa), some (.ref b), some (.int n), v4, v5, some (.ref D), some (.bl (ds.all (inRow (zs.map fun z : Int => (z : Rat))))), none, none] ∧ Same H2 H', ?_, ?_⟩
    · simp only [tVar, rIxTH, rIxLH, gTupH, line_le, HO.tup.injEq, HO.lst.injEq, List.length_cons, List.length_nil, at0, at1, rU, tOst, tTest, rIxL, rIxT, C8.tCut, cxOf_K, tC, tOp, tUn, tSeq, tAsg, tNext, tRet, tRetN, tDrop, tIfS, tNever, gName, gNil, gCons, gTup, gSub, tPar, rI, rI0, rU, rEq, rNe, tB, tAnd, tOr, tNot, tAndV, tOrV, tNotV, tIf, tTup, tLst, tNil, tCons, tCB, tCall, tMeth, tMake, tFld, sFld, tDGet, sDPut, tDisp, tPairs, tBreak, tCont, scal_ii, scal_bb, scal_ss, List.getElem?_cons_zero, List.getElem?_cons_succ, List.set_cons_zero, List.set_cons_succ, Option.some.injEq, exists_eq_left', exists_eq_left, exists_and_left, V.int.injEq, V.bl.injEq, V.ref.injEq, V.str.injEq, List.cons.injEq, and_true, true_and, Bool.true_eq, List.nil_append, List.append_nil, List.cons_append, exists_eq', and_self, reduceCtorEq, false_or, or_false, false_and, exists_false, exists_const, and_assoc, if_true, Bool.false_eq_true, if_false, Nat.reduceAdd, Nat.reduceLeDiff, Nat.zero_add, Nat.le_refl, forall_const, st_L_belongs_right]
      refine ⟨.ref D, rfl, D, rfl, ⟨_, SqL.of hD⟩, fun E1 hE => lc_list (K := K) (a := D) (xs := zs.map V.int) (fun i H' => Same H2 H' ∧ ∃ acc, H' E1 = some (.lst acc) ∧ acc.length = i ∧ AllQ H' acc ((zs.map fun z : Int => (z : Rat)).take i)) ⟨same_new hE, [], upd_same, rfl, .nil⟩ (fun i H' _ h => SqL.of (h.1 _ _ hD)) ?_ ?_⟩
      · rintro j y H4 hj ⟨s4, acc, hacc, hl3, hall⟩
        obtain ⟨z, hzj, rfl⟩ : ∃ z, zs[j]? = some z ∧ y = V.int z := by
          rw [List.getElem?_map] at hj
          cases e : zs[j]? with
          | none => rw [e] at hj; cases hj
          | some z => rw [e] at hj; exact ⟨z, rfl, (Option.some.inj hj).symm⟩
        have lj := ix_lt hzj
        simp only [tVar, rIxTH, rIxLH, gTupH, line_le, HO.tup.injEq, HO.lst.injEq, List.length_cons, List.length_nil, at0, at1, rU, tOst, tTest, rIxL, rIxT, C8.tCut, cxOf_K, tC, tOp, tUn, tSeq, tAsg, tNext, tRet, tRetN, tDrop, tIfS, tNever, gName, gNil, gCons, gTup, gSub, tPar, rI, rI0, rU, rEq, rNe, tB, tAnd, tOr, tNot, tAndV, tOrV, tNotV, tIf, tTup, tLst, tNil, tCons, tCB, tCall, tMeth, tMake, tFld, sFld, tDGet, sDPut, tDisp, tPairs, tBreak, tCont, scal_ii, scal_bb, scal_ss, List.getElem?_cons_zero, List.getElem?_cons_succ, List.set_cons_zero, List.set_cons_succ, Option.some.injEq, exists_eq_left', exists_eq_left, exists_and_left, V.int.injEq, V.bl.injEq, V.ref.injEq, V.str.injEq, List.cons.injEq, and_true, true_and, Bool.true_eq, List.nil_append, List.append_nil, List.cons_append, exists_eq', and_self, reduceCtorEq, false_or, or_false, false_and, exists_false, exists_const, and_assoc, if_true, Bool.false_eq_true, if_false, Nat.reduceAdd, Nat.reduceLeDiff, Nat.zero_add, Nat.le_refl, forall_const, st_L_belongs_right, wipe, List.map_cons, List.map_nil, tYes]
        intro t1 ht1
        have s1 := same_new (o := HO.tup [V.int z, V.int 1]) ht1
        have hD1 := s1 _ _ hacc
        refine ⟨acc, hD1, by rw [hl3]; exact line_le (by omega), same_updL hE (s4.trans s1), _, upd_same, by simp [hl3], ?_⟩
        rw [take_snoc (a := (z : Rat)) (by rw [List.getElem?_map, hzj]; rfl)]
        exact AllQ.updL (show AllQ _ _ _ from Fa2.snoc (hall.same s1) ⟨t1, rfl, by rw [upd_same, qv_int]⟩) hD1
      · rintro H4 ⟨s4, acc, hacc, hl3, hall⟩
        rw [List.length_map, show zs.length = (zs.map fun z : Int => (z : Rat)).length by simp, List.take_length] at hall
        refine ⟨b, E1, ys, acc, n, ds, _, rfl, s4 _ _ hb2, hw2.same s4, hacc, hall, by simp; exact lz, hn, fun d hd z hz => (bd d hd z hz).mono (by decide), bz, fun H5 s5 => ⟨rfl, s4.trans s5⟩⟩
    rintro σ' H3 ⟨rfl, s3⟩
    have hx3 := hx2.same s3
    have hD3 := s3 _ _ hD
    have hxa3 : H3 xa = some (.ins C_Place xd (plcF xt n)) := s3 _ _ (x2 _ _ (ins_noPen p1 (x1 _ _ hxn hxa)) (x1 _ _ hxn hxa))
    simp only [tVar, rIxTH, rIxLH, gTupH, line_le, HO.tup.injEq, HO.lst.injEq, List.length_cons, List.length_nil, at0, at1, rU, tOst, tTest, rIxL, rIxT, C8.tCut, cxOf_K, tC, tOp, tUn, tSeq, tAsg, tNext, tRet, tRetN, tDrop, tIfS, tNever, gName, gNil, gCons, gTup, gSub, tPar, rI, rI0, rU, rEq, rNe, tB, tAnd, tOr, tNot, tAndV, tOrV, tNotV, tIf, tTup, tLst, tNil, tCons, tCB, tCall, tMeth, tMake, tFld, sFld, tDGet, sDPut, tDisp, tPairs, tBreak, tCont, scal_ii, scal_bb, scal_ss, List.getElem?_cons_zero, List.getElem?_cons_succ, List.set_cons_zero, List.set_cons_succ, Option.some.injEq, exists_eq_left', exists_eq_left, exists_and_left, V.int.injEq, V.bl.injEq, V.ref.injEq, V.str.injEq, List.cons.injEq, and_true, true_and, Bool.true_eq, List.nil_append, List.append_nil, List.cons_append, exists_eq', and_self, reduceCtorEq, false_or, or_false, false_and, exists_false, exists_const, and_assoc, if_true, Bool.false_eq_true, if_false, Nat.reduceAdd, Nat.reduceLeDiff, Nat.zero_add, Nat.le_refl, forall_const, st_L_belongs_right]
    refine ⟨_, _, hxa3, nh, ?_⟩
    refine ⟨_, _, n, ds, rfl, hx3, .inl ⟨_, ⟨D, _, rfl, .inl hD3, fa_ints zs⟩, by simp; exact lz, hn, bd190, bz, fun H4 s4 => ?_⟩⟩
    refine ⟨_, rfl, iteT' (decide_eq_true rfl) ⟨_, _, s4 _ _ hxa3, nh, _, .inl ⟨SqL.of (s4 _ _ hD3), fun l1 hl1 => ?_⟩⟩⟩
    have s5 := same_new (o := HO.tup (zs.map V.int)) hl1
    refine ⟨_, _, n, ds, rfl, (hx3.same s4).same s5, .inl ⟨_, ⟨l1, _, rfl, .inr upd_same, fa_ints zs⟩, by simp; exact lz, hn, bd190, bz, fun H6 s6 => ⟨_, rfl, ?_⟩⟩⟩
    rw [decide_eq_true rfl]
    exact k H6 (((x1.trans x2).trans (Ext.of s3)).trans (Ext.of ((s4.trans s5).trans s6))) (((p2.same s3).same ((s4.trans s5).trans s6)).mono (by omega))


end HwL
end

section
namespace HwL
open PySem PySem.Spec PyProof.Rows L2 LamX HwP
variable {P : Program} {w : World} {K : PySem.W.Frag} {mg : Str → Option Value} {base : Heap}

theorem bent_runG {jf jp : Nat} {H : Hp} {a p l : Addr} {c : Int} {zs : List Rat} {j : Nat} {w : Rat} {Q : VK} {σ : L2.St} (hp : PenAt H p l c) (hc : c < 1000000) (fa : IsForm H a zs) (hj : zs[j]? = some w) (hl : zs.length ≤ 7) (bz : ∀ z ∈ zs, HwM.Bd 140 z) (h0 : σ[0]? = some (some (.ref p))) (h1 : σ[jf]? = some (some (.ref a))) (h4 : σ[jp]? = some (some (.int j)))
    (k : ∀ H' e r rs, Ext p H H' → PenAt H' p l (c + 3) → IsForm H' e (r :: rs) → rs.length + 1 = zs.length → r :: rs ≠ zs → (∀ z ∈ r :: rs, HwM.Bd 400 z) → Q (.ref e) H') :
    tSl (rSlT K) (tVar jf) tNoPart (tPart (tVar jp)) σ H fun x H1 => ∃ v, σ[jf]? = some (some v) ∧ ∃ v1, σ[jp]? = some (some v1) ∧ ∃ p, v = V.ref p ∧ ∃ x1 x2, v1 = V.int x2 ∧ H1 p = some (HO.tup x1) ∧ ∃ x3, atI x1 x2 = some x3 ∧ ∃ v, σ[0]? = some (some v) ∧
      spLitNot [v] H1 (fun x4 H1 => spQ2 (fun q r => q + r) [x3, x4] H1 (fun x5 H1 => ∀ (p : Addr), H1 p = none → rCatA K x (V.ref p) (upd H1 p (HO.tup [x5])) fun x H1 =>
        tSl (rSlT K) (tVar jf) (tPart (tOp (rI0 fun i j => V.int (i + j)) (tVar jp) (tC (V.int 1)))) tNoPart σ H1 fun y H2 => rCatA K x y H2 Q) C8.E0) C8.E0 := by
  obtain ⟨xs, ha, hxs⟩ := id fa
  have lf := Fa2.len hxs
  obtain ⟨x3, hx3, g, rfl, hg⟩ : ∃ x3, xs[j]? = some x3 ∧ IsQ H x3 w := by
    obtain ⟨hlt, e⟩ := List.getElem?_eq_some_iff.mp hj
    refine ⟨xs[j]'(by omega), List.getElem?_eq_getElem (by omega), ?_⟩
    obtain ⟨w', e1, e2⟩ := Fa2.get hxs (List.getElem?_eq_getElem (show j < xs.length by omega))
    rw [hj] at e1
    cases e1
    exact e2
  refine ⟨_, h1, _, h4, j, rfl, a, xs, rfl, SqT.of ha, ?_, fun p1 hp1 => ?_⟩
  · rw [HT.sIx_nat]
    have := ix_lt hx3
    omega
  rw [cutV_to]
  have s1 := same_new (o := HO.tup (xs.take j)) hp1
  refine ⟨_, h1, _, h4, a, rfl, xs, j, rfl, s1 _ _ ha, .ref g, atI_nat hx3, _, h0, ?_⟩
  refine ⟨p, l, c, rfl, hp.same s1, by omega, fun H2 b u x2 p2 hb bu un => ?_⟩
  have x02 := (Ext.of s1).trans x2
  have hg2 : H2 g = some (.tup (qv w)) := by
    obtain ⟨g', e, e2⟩ := (show IsQ H (.ref g) w from ⟨g, rfl, hg⟩).ext hp x02
    cases e
    exact e2
  have bw := bz w (List.mem_of_getElem? hj)
  refine ⟨g, b, w, u, rfl, hg2, hb, bw.mono (by decide), bu.mono (by decide), fun p3 hp3 p4 hp4 => ?_⟩
  have s3 := same_new (o := HO.tup (qv (w + u))) hp3
  have s4 := same_new (o := HO.tup [V.ref p3]) hp4
  have s34 := s3.trans s4
  have hp1' : H2 p1 = some (.tup (xs.take j)) := x2 _ _ (fun z => by rw [z] at hp1; obtain ⟨o, ho⟩ := hp.some; rw [ho] at hp1; cases hp1) upd_same
  refine cat_run (s34 _ _ hp1') upd_same (by simp; omega) fun p5 H5 s5 hp5 => ?_
  have ha2 : H2 a = some (.tup xs) := x02 _ _ (tup_noPen hp ha) ha
  have s35 := s34.trans s5
  refine ⟨_, h1, _, h4, j, 1, rfl, rfl, (j : Int) + 1, rfl, a, _, rfl, SqT.of (s35 _ _ ha2), ?_, fun p6 hp6 => ?_⟩
  · rw [show ((j : Int) + 1) = ((j + 1 : Nat) : Int) by omega, HT.sIx_nat]
    have := ix_lt hx3
    omega
  rw [show ((j : Int) + 1) = ((j + 1 : Nat) : Int) by omega, cutV_from]
  have s6 := same_new (o := HO.tup (xs.drop (j + 1))) hp6
  refine cat_run (s6 _ _ hp5) upd_same (by simp; omega) fun p7 H7 s7 hp7 => ?_
  have s37 := (s35.trans s6).trans s7
  have hx2 := (hxs.ext hp x02).same s37
  have e1 : IsQ H7 (.ref p3) (w + u) := ⟨p3, rfl, s7 _ _ (s6 _ _ (s5 _ _ (s4 _ _ upd_same)))⟩
  have f7 : IsForm H7 p7 ((zs.take j ++ [w + u]) ++ zs.drop (j + 1)) := ⟨_, hp7, ((fa_take hx2 j).app (.cons e1 .nil)).app (fa_drop hx2 (j + 1))⟩
  have jl : j < zs.length := ix_lt hj
  have ne : (zs.take j ++ [w + u]) ++ zs.drop (j + 1) ≠ zs := fun z => by
    have e : ((zs.take j ++ [w + u]) ++ zs.drop (j + 1))[j]? = some (w + u) := by
      rw [List.append_assoc, List.getElem?_append_right (by simp; omega)]
      simp [Nat.min_eq_left (Nat.le_of_lt jl)]
    rw [z, hj] at e
    have := Option.some.inj e
    exact un (by grind)
  have ll : ((zs.take j ++ [w + u]) ++ zs.drop (j + 1)).length = zs.length := by simp; omega
  have bb : ∀ z ∈ (zs.take j ++ [w + u]) ++ zs.drop (j + 1), HwM.Bd 400 z := by
    intro z hz
    rcases List.mem_append.mp hz with hz | hz
    · rcases List.mem_append.mp hz with hz | hz
      · exact (bz z (List.mem_of_mem_take hz)).mono (by decide)
      · rw [List.mem_singleton.mp hz]; exact (HwM.add_bd bw bu).mono (by decide)
    · exact (bz z (List.mem_of_mem_drop hz)).mono (by decide)
  generalize ((zs.take j ++ [w + u]) ++ zs.drop (j + 1)) = ws at f7 ne ll bb
  cases ws with
  | nil => simp at ll; omega
  | cons r rs => exact k H7 p7 r rs (x02.trans (Ext.of s37)) (p2.same s37) f7 (by simpa using ll) ne bb
theorem mid_ne {α : Type} {xs : List α} {i : Nat} {d e : α} (h : xs[i]? = some d) (n : e ≠ d) : xs.take i ++ [e] ++ xs.drop (i + 1) ≠ xs := fun z => by
  have li := ix_lt h
  have g : (xs.take i ++ [e] ++ xs.drop (i + 1))[i]? = some e := by
    rw [List.append_assoc, List.getElem?_append_right (by rw [List.length_take]; omega), List.length_take, show i - min i xs.length = 0 by omega]
    rfl
  rw [z, h] at g
  exact n (Option.some.inj g).symm
theorem out_ne {α : Type} {xs : List α} {i : Nat} {d : α} (h : xs[i]? = some d) : xs.take i ++ xs.drop (i + 1) ≠ xs := fun z => by
  have li := ix_lt h
  have := congrArg List.length z
  rw [List.length_append, List.length_take, List.length_drop] at this
  omega
theorem put_row {b f : Addr} {n j : Nat} {H : Hp} {ys : List V} {ds : List (Rat × List Rat × Bool)} {c2 : Bool} {q : Rat} {qs : List Rat} {Q : VK} {σ : L2.St} (hb : H b = some (.lst ys)) (hw : LRows H n ys ds) (hl : ys.length ≤ 12) (hj : j < ys.length) (hf : IsForm H f (q :: qs)) (lq : qs.length = n)
    (h1 : σ[1]? = some (some (.ref b))) (h2 : σ[2]? = some (some (.int (j : Int)))) (k : ∀ H' a zs, Same H H' → H' a = some (.lst zs) → LRows H' n zs (ds.take j ++ [(q, qs, c2)] ++ ds.drop (j + 1)) → zs.length ≤ 12 → Q (.ref a) H') :
    tSl (rSlL K) (tVar 1) tNoPart (tPart (tVar 2)) σ H fun x H1 => ∀ t, H1 t = none → ∀ y, upd H1 t (HO.tup [V.ref f, V.bl c2]) y = none → rCat x (V.ref y) (upd (upd H1 t (HO.tup [V.ref f, V.bl c2])) y (HO.lst [V.ref t])) fun x H1 =>
      tSl (rSlL K) (tVar 1) (tPart (tOp (rI0 fun i j => V.int (i + j)) (tVar 2) (tC (V.int 1)))) tNoPart σ H1 fun y H2 => rCat x y H2 Q := by
  refine ⟨_, h1, _, h2, j, rfl, b, ys, rfl, SqL.of hb, fun y1 hy1 => ?_⟩
  rw [cutV_to]
  have s1 := same_new (o := HO.lst (ys.take j)) hy1
  intro t ht y2 hy2
  have st := same_new (o := HO.tup [V.ref f, V.bl c2]) ht
  have sy := same_new (o := HO.lst [V.ref t]) hy2
  refine ⟨y1, y2, _, _, rfl, rfl, sy _ _ (st _ _ upd_same), upd_same, by simp; exact line_le (by omega), fun y3 hy3 => ?_⟩
  have s3 := same_new (o := HO.lst (ys.take j ++ [V.ref t])) hy3
  have s13 := ((s1.trans st).trans sy).trans s3
  refine ⟨_, h1, _, h2, j, 1, rfl, rfl, (j : Int) + 1, rfl, b, ys, rfl, SqL.of (s13 _ _ hb), fun y4 hy4 => ?_⟩
  rw [show ((j : Int) + 1) = ((j + 1 : Nat) : Int) by omega, cutV_from]
  have s4 := same_new (o := HO.lst (ys.drop (j + 1))) hy4
  refine ⟨y3, y4, _, _, rfl, rfl, s4 _ _ upd_same, upd_same, by simp; exact line_le (by omega), fun y5 hy5 => ?_⟩
  have s5 := same_new (o := HO.lst (ys.take j ++ [V.ref t] ++ ys.drop (j + 1))) hy5
  have s15 := (s13.trans s4).trans s5
  refine k _ y5 _ s15 upd_same ?_ (by simp; omega)
  have hr : LRow _ (.ref t) n q qs c2 := ⟨t, f, rfl, s5 _ _ (s4 _ _ (s3 _ _ (sy _ _ upd_same))), hf.same s15, lq⟩
  have hw9 := hw.same s15
  exact Fa2.app (Fa2.app (fa2_take hw9 j) (.cons hr .nil)) (fa2_drop hw9 (j + 1))
def spBent : Sp := fun vs H Q _ => ∃ (p l b : Addr) (c : Int) (n : Nat) (ys : List V) (ds : List (Rat × List Rat × Bool)), vs = [.ref p, .ref b] ∧ n ≤ 3 ∧ PenAt H p l c ∧ c + 20 < 1000000 ∧ H b = some (.lst ys) ∧ LRows H n ys ds ∧ 0 < ys.length ∧ ys.length ≤ 12 ∧ RBd 100 ds ∧
  ∀ H' a zs es, Ext p H H' → PenAt H' p l (c + 20) → H' a = some (.lst zs) → LRows H' n zs es → es ≠ ds → zs.length ≤ 12 → RBd 400 es → Q (.ref a) H'
abbrev N_L_bent : List Str := ["_law_pen_here", "_law_rows", "_law_at_here", "_law_sort", "_law_form", "_law_strict", "_law_place"]
theorem sc_L_bent : FnScope N_L_bent ["_law_pen_here", "_law_rows"] (defScope s_L_bent) := ⟨rfl, rfl, rfl, by decide +kernel, rfl, by decide +kernel, by decide +kernel⟩
theorem st_L_bent {v0 v1 : V} : L2.start N_L_bent [v0, v1] = [some v0, some v1, none, none, none, none, none] := rfl
theorem ok_L_bent {f : Addr} {fd : FuncData} (F : FD K s_L_bent "_law_bent" "_law_bent" f fd) (z_len : mg "len" = none) (g_L_plus : Gf P w K mg base "_law_plus" 3 ["_law_one", "_law_two"] (spQ2 (fun q r => q + r))) (g_L_little_not : Gf P w K mg base "_law_little_not" 3 ["_law_pen_here"] (spLitNot)) (g_L_draw : Gf P w K mg base "_law_draw" 1 ["_law_pen_here", "_law_many"] (spDraw)) : FnOk P w K mg base (L2.CX P w) 4 f fd ["_law_pen_here", "_law_rows"] (spBent) := by
  have nd := sc_L_bent.nd
  refine F.ok0 sc_L_bent (fun vs H Q E h => ?_) (fun cdv A outer s H vs Q E hr h => ?_)
  · obtain ⟨p, l, b, c, n, ys, ds, rfl, _⟩ := h
    rfl
  · obtain ⟨p, l, b, c, n, ys, ds, rfl, hn, hp, hc, hb, hw, pos, hl, bd, k⟩ := h
    refine ⟨_, (C8.pss_cut (ps_par (i := 2) (j := 3) (by rfl) nd rfl rfl (by decide) rfl rfl (pa_cons (pe_g g_L_draw hr (by decide) passL rfl (pa_cons (pv 0) (pa_cons (pe_callB call_len_seq (by rfl) z_len (by decide +kernel) (pa_cons (pv 1) pa_nil)) pa_nil))) (pa_cons (pe_g g_L_draw hr (by decide) passL rfl (pa_cons (pv 0) (pa_cons pe_int pa_nil))) pa_nil)) (by rfl))
        (C8.pss_cut (ps_asg (pe_ix ix_list (pv 1) (pv 2) (fun _ _ => rfl)) (pg_tupH rfl (pgs_cons (pg_name (i := 4) nd rfl (Or.inl rfl)) (pgs_cons (pg_name (i := 5) nd rfl (Or.inl rfl)) pgs_nil))))
        (C8.pss_cut (ps_if (pt_cmpR op_eq (pv 3) pe_int (nomark _)) (pss_one (ps_ret (pe_op op_cat (pe_op op_cat (pe_slice sl_list (pv 1) po_none (po_some (pv 2))) (pe_lst (pa_cons (pe_tup (pa_cons (pv 4) (pa_cons (pe_not (pv 5)) pa_nil))) pa_nil))) (pe_slice sl_list (pv 1) (po_some (pe_op op_add (pv 2) pe_int)) po_none)))) pss_nil)
        (C8.pss_cut (ps_if (pt_cmpR op_eq (pv 3) pe_int (nomark _)) (pss_one (ps_ret (pe_op op_cat (pe_slice sl_list (pv 1) po_none (po_some (pv 2))) (pe_slice sl_list (pv 1) (po_some (pe_op op_add (pv 2) pe_int)) po_none)))) pss_nil)
        (C8.pss_cut (ps_set (i := 6) nd rfl (Or.inl rfl) (pe_g g_L_draw hr (by decide) passL rfl (pa_cons (pv 0) (pa_cons (pe_callB call_len_seq (by rfl) z_len (by decide +kernel) (pa_cons (pv 4) pa_nil)) pa_nil))))
        (C8.pss_cut (ps_set (i := 4) nd rfl (Or.inl rfl) (pe_op op_catA (pe_op op_catA (pe_slice sl_tup (pv 4) po_none (po_some (pv 6))) (pe_tup (pa_cons (pe_g g_L_plus hr (by decide) passL rfl (pa_cons (pe_ix ix_tupH (pv 4) (pv 6) (fun _ _ => rfl)) (pa_cons (pe_g g_L_little_not hr (by decide) passL rfl (pa_cons (pv 0) pa_nil)) pa_nil))) pa_nil))) (pe_slice sl_tup (pv 4) (po_some (pe_op op_add (pv 6) pe_int)) po_none)))
        (pss_one (ps_ret (pe_op op_cat (pe_op op_cat (pe_slice sl_list (pv 1) po_none (po_some (pv 2))) (pe_lst (pa_cons (pe_tup (pa_cons (pv 4) (pa_cons (pv 5) pa_nil))) pa_nil))) (pe_slice sl_list (pv 1) (po_some (pe_op op_add (pv 2) pe_int)) po_none)))))))))), ?_⟩
    simp only [tVar, rIxTH, rIxLH, gTupH, line_le, HO.tup.injEq, HO.lst.injEq, List.length_cons, List.length_nil, at0, at1, rU, tOst, tTest, rIxL, rIxT, C8.tCut, cxOf_K, tC, tOp, tUn, tSeq, tAsg, tNext, tRet, tRetN, tDrop, tIfS, tNever, gName, gNil, gCons, gTup, gSub, tPar, rI, rI0, rU, rEq, rNe, tB, tAnd, tOr, tNot, tAndV, tOrV, tNotV, tIf, tTup, tLst, tNil, tCons, tCB, tCall, tMeth, tMake, tFld, sFld, tDGet, sDPut, tDisp, tPairs, tBreak, tCont, scal_ii, scal_bb, scal_ss, List.getElem?_cons_zero, List.getElem?_cons_succ, List.set_cons_zero, List.set_cons_succ, Option.some.injEq, exists_eq_left', exists_eq_left, exists_and_left, V.int.injEq, V.bl.injEq, V.ref.injEq, V.str.injEq, List.cons.injEq, and_true, true_and, Bool.true_eq, List.nil_append, List.append_nil, List.cons_append, exists_eq', and_self, reduceCtorEq, false_or, or_false, false_and, exists_false, exists_const, and_assoc, if_true, Bool.false_eq_true, if_false, Nat.reduceAdd, Nat.reduceLeDiff, Nat.zero_add, Nat.le_refl, forall_const, st_L_bent]
    refine ⟨fun σ' H' => ∃ (j : Nat) (r : Int), σ' = [some (.ref p), some (.ref b), some (.int j), some (.int r), none, none, none] ∧ j < ys.length ∧ Ext p H H' ∧ PenAt H' p l (c + 2), ?_, ?_⟩
    · refine ⟨ys, .inl (SqL.of hb), p, l, c, _, rfl, hp, by omega, by omega, small_draw (m := ys.length) (by omega), fun H1 j x1 p1 j0 j1 => ?_⟩
      refine ⟨p, l, _, 3, rfl, p1, by omega, by decide, small_draw (m := 3) (by decide), fun H2 r x2 p2 _ _ => ?_⟩
      exact ⟨j.toNat, r, by rw [Int.toNat_of_nonneg j0], by omega, x1.trans x2, p2.mono (by omega)⟩
    rintro σ' H1 ⟨j, r, rfl, hj, x1, p1⟩
    have hb1 := x1 _ _ (lst_noPen hp hb) hb
    have hw1 := hw.ext hp x1
    have hyj : ys[j]? = some (ys[j]'hj) := List.getElem?_eq_getElem hj
    obtain ⟨⟨q, qs, c1⟩, hd, t, f, hte, ht, hf, lq⟩ := Fa2.get hw1 hyj
    rw [hte] at hyj
    have lq : qs.length = n := lq
    have b100 : ∀ z ∈ q :: qs, HwM.Bd 100 z := bd _ (List.mem_of_getElem? hd)
    refine ⟨fun σ' H' => σ' = [some (.ref p), some (.ref b), some (.int j), some (.int r), some (.ref f), some (.bl c1), none] ∧ H' = H1, ?_, ?_⟩
    · refine ⟨_, rfl, _, rfl, b, rfl, ys, j, rfl, SqL.of hb1, _, atI_nat hyj, t, rfl, _, ht, rfl, _, _, rfl, _, _, rfl, rfl, rfl, rfl⟩
    rintro σ' H2 ⟨rfl, rfl⟩
    refine ⟨fun σ' H' => σ' = [some (.ref p), some (.ref b), some (.int j), some (.int r), some (.ref f), some (.bl c1), none] ∧ H' = H2, ?_, ?_⟩
    · simp only [tVar, rIxTH, rIxLH, gTupH, line_le, HO.tup.injEq, HO.lst.injEq, List.length_cons, List.length_nil, at0, at1, rU, tOst, tTest, rIxL, rIxT, C8.tCut, cxOf_K, tC, tOp, tUn, tSeq, tAsg, tNext, tRet, tRetN, tDrop, tIfS, tNever, gName, gNil, gCons, gTup, gSub, tPar, rI, rI0, rU, rEq, rNe, tB, tAnd, tOr, tNot, tAndV, tOrV, tNotV, tIf, tTup, tLst, tNil, tCons, tCB, tCall, tMeth, tMake, tFld, sFld, tDGet, sDPut, tDisp, tPairs, tBreak, tCont, scal_ii, scal_bb, scal_ss, List.getElem?_cons_zero, List.getElem?_cons_succ, List.set_cons_zero, List.set_cons_succ, Option.some.injEq, exists_eq_left', exists_eq_left, exists_and_left, V.int.injEq, V.bl.injEq, V.ref.injEq, V.str.injEq, List.cons.injEq, and_true, true_and, Bool.true_eq, List.nil_append, List.append_nil, List.cons_append, exists_eq', and_self, reduceCtorEq, false_or, or_false, false_and, exists_false, exists_const, and_assoc, if_true, Bool.false_eq_true, if_false, Nat.reduceAdd, Nat.reduceLeDiff, Nat.zero_add, Nat.le_refl, forall_const, st_L_bent]
      refine ite2 (fun _ => ?_) (fun _ => trivial)
      refine put_row hb1 hw1 hl hj hf lq rfl rfl fun H' a zs s ha hz lz => k H' a zs _ (x1.trans (Ext.of s)) ((p1.same s).mono (by omega)) ha hz (mid_ne hd fun z => ?_) lz (RBd.app (RBd.app ((bd.mono (by decide)).take) (RBd.one fun z hz => (b100 z hz).mono (by decide))) ((bd.mono (by decide)).drop))
      have := congrArg (fun d => d.2.2) z
      cases c1 <;> cases this
    rintro σ' H3 ⟨rfl, rfl⟩
    refine ⟨fun σ' H' => σ' = [some (.ref p), some (.ref b), some (.int j), some (.int r), some (.ref f), some (.bl c1), none] ∧ H' = H3, ?_, ?_⟩
    · simp only [tVar, rIxTH, rIxLH, gTupH, line_le, HO.tup.injEq, HO.lst.injEq, List.length_cons, List.length_nil, at0, at1, rU, tOst, tTest, rIxL, rIxT, C8.tCut, cxOf_K, tC, tOp, tUn, tSeq, tAsg, tNext, tRet, tRetN, tDrop, tIfS, tNever, gName, gNil, gCons, gTup, gSub, tPar, rI, rI0, rU, rEq, rNe, tB, tAnd, tOr, tNot, tAndV, tOrV, tNotV, tIf, tTup, tLst, tNil, tCons, tCB, tCall, tMeth, tMake, tFld, sFld, tDGet, sDPut, tDisp, tPairs, tBreak, tCont, scal_ii, scal_bb, scal_ss, List.getElem?_cons_zero, List.getElem?_cons_succ, List.set_cons_zero, List.set_cons_succ, Option.some.injEq, exists_eq_left', exists_eq_left, exists_and_left, V.int.injEq, V.bl.injEq, V.ref.injEq, V.str.injEq, List.cons.injEq, and_true, true_and, Bool.true_eq, List.nil_append, List.append_nil, List.cons_append, exists_eq', and_self, reduceCtorEq, false_or, or_false, false_and, exists_false, exists_const, and_assoc, if_true, Bool.false_eq_true, if_false, Nat.reduceAdd, Nat.reduceLeDiff, Nat.zero_add, Nat.le_refl, forall_const, st_L_bent, tSl, tPart, tNoPart, rSlL]
      refine ite2 (fun _ => ?_) (fun _ => trivial)
      refine ⟨ys, SqL.of hb1, fun y1 hy1 => ?_⟩
      rw [cutV_to]
      have s1 := same_new (o := HO.lst (ys.take j)) hy1
      refine ⟨ys, SqL.of (s1 _ _ hb1), fun y2 hy2 => ?_⟩
      rw [show ((j : Int) + 1) = ((j + 1 : Nat) : Int) by omega, cutV_from] at *
      have s2 := same_new (o := HO.lst (ys.drop (j + 1))) hy2
      refine ⟨y1, y2, _, _, rfl, rfl, s2 _ _ upd_same, upd_same, by simp; exact line_le (by omega), fun y3 hy3 => ?_⟩
      have s3 := same_new (o := HO.lst (ys.take j ++ ys.drop (j + 1))) hy3
      have s13 := (s1.trans s2).trans s3
      have hw9 := hw1.same s13
      exact k _ y3 _ _ (x1.trans (Ext.of s13)) ((p1.same s13).mono (by omega)) upd_same (Fa2.app (fa2_take hw9 j) (fa2_drop hw9 (j + 1))) (out_ne hd) (by simp; omega) (RBd.app ((bd.mono (by decide)).take) ((bd.mono (by decide)).drop))
    rintro σ' H4 ⟨rfl, rfl⟩
    refine ⟨fun σ' H' => ∃ m : Nat, σ' = [some (.ref p), some (.ref b), some (.int j), some (.int r), some (.ref f), some (.bl c1), some (.int m)] ∧ m < (q :: qs).length ∧ Ext p H4 H' ∧ PenAt H' p l (c + 3), ?_, ?_⟩
    · obtain ⟨zs, hz1, hz2⟩ := id hf
      have lz : zs.length = (q :: qs).length := Fa2.len hz2
      simp only [tVar, rIxTH, rIxLH, gTupH, line_le, HO.tup.injEq, HO.lst.injEq, List.length_cons, List.length_nil, at0, at1, rU, tOst, tTest, rIxL, rIxT, C8.tCut, cxOf_K, tC, tOp, tUn, tSeq, tAsg, tNext, tRet, tRetN, tDrop, tIfS, tNever, gName, gNil, gCons, gTup, gSub, tPar, rI, rI0, rU, rEq, rNe, tB, tAnd, tOr, tNot, tAndV, tOrV, tNotV, tIf, tTup, tLst, tNil, tCons, tCB, tCall, tMeth, tMake, tFld, sFld, tDGet, sDPut, tDisp, tPairs, tBreak, tCont, scal_ii, scal_bb, scal_ss, List.getElem?_cons_zero, List.getElem?_cons_succ, List.set_cons_zero, List.set_cons_succ, Option.some.injEq, exists_eq_left', exists_eq_left, exists_and_left, V.int.injEq, V.bl.injEq, V.ref.injEq, V.str.injEq, List.cons.injEq, and_true, true_and, Bool.true_eq, List.nil_append, List.append_nil, List.cons_append, exists_eq', and_self, reduceCtorEq, false_or, or_false, false_and, exists_false, exists_const, and_assoc, if_true, Bool.false_eq_true, if_false, Nat.reduceAdd, Nat.reduceLeDiff, Nat.zero_add, Nat.le_refl, forall_const, st_L_bent]
      refine ⟨zs, .inr (SqT.of hz1), p, l, _, _, rfl, p1, by omega, by rw [List.length_cons] at lz; omega, small_draw (m := zs.length) (by rw [List.length_cons] at lz; omega), fun H5 m x5 p5 m0 m1 => ⟨m.toNat, by rw [Int.toNat_of_nonneg m0], by rw [List.length_cons] at lz; omega, x5, p5.mono (by omega)⟩⟩
    rintro σ' H5 ⟨m, rfl, hm, x5, p5⟩
    refine ⟨fun σ' H' => ∃ g q' qs', σ' = [some (.ref p), some (.ref b), some (.int j), some (.int r), some (.ref g), some (.bl c1), some (.int m)] ∧ Ext p H5 H' ∧ PenAt H' p l (c + 6) ∧ IsForm H' g (q' :: qs') ∧ qs'.length + 1 = (q :: qs).length ∧ q' :: qs' ≠ q :: qs ∧ ∀ z ∈ q' :: qs', HwM.Bd 400 z, ?_, ?_⟩
    · refine bent_runG (jf := 4) (jp := 6) p5 (by omega) (hf.ext p1 x5) (List.getElem?_eq_getElem hm) (by rw [List.length_cons]; omega) (fun z hz => (b100 z hz).mono (by decide)) (by rfl) (by rfl) (by rfl) fun H6 e r' rs' x6 p6 he le ne be => ?_
      exact ⟨e, r', rs', rfl, x6, p6.mono (by omega), he, le, ne, be⟩
    rintro σ' H6 ⟨g, q', qs', rfl, x6, p6, hg, lg, ng, bg⟩
    simp only [tVar, rIxTH, rIxLH, gTupH, line_le, HO.tup.injEq, HO.lst.injEq, List.length_cons, List.length_nil, at0, at1, rU, tOst, tTest, rIxL, rIxT, C8.tCut, cxOf_K, tC, tOp, tUn, tSeq, tAsg, tNext, tRet, tRetN, tDrop, tIfS, tNever, gName, gNil, gCons, gTup, gSub, tPar, rI, rI0, rU, rEq, rNe, tB, tAnd, tOr, tNot, tAndV, tOrV, tNotV, tIf, tTup, tLst, tNil, tCons, tCB, tCall, tMeth, tMake, tFld, sFld, tDGet, sDPut, tDisp, tPairs, tBreak, tCont, scal_ii, scal_bb, scal_ss, List.getElem?_cons_zero, List.getElem?_cons_succ, List.set_cons_zero, List.set_cons_succ, Option.some.injEq, exists_eq_left', exists_eq_left, exists_and_left, V.int.injEq, V.bl.injEq, V.ref.injEq, V.str.injEq, List.cons.injEq, and_true, true_and, Bool.true_eq, List.nil_append, List.append_nil, List.cons_append, exists_eq', and_self, reduceCtorEq, false_or, or_false, false_and, exists_false, exists_const, and_assoc, if_true, Bool.false_eq_true, if_false, Nat.reduceAdd, Nat.reduceLeDiff, Nat.zero_add, Nat.le_refl, forall_const, st_L_bent]
    have x16 := (x1.trans x5).trans x6
    refine put_row (x16 _ _ (lst_noPen hp hb) hb) (hw.ext hp x16) hl hj hg (by rw [List.length_cons] at lg; omega) rfl rfl fun H' a zs s ha hz lz => k H' a zs _ (x16.trans (Ext.of s)) ((p6.same s).mono (by omega)) ha hz (mid_ne hd fun z => ng ?_) lz (RBd.app (RBd.app ((bd.mono (by decide)).take) (RBd.one bg)) ((bd.mono (by decide)).drop))
    have e1 := congrArg (fun d => d.1) z
    have e2 := congrArg (fun d => d.2.1) z
    exact List.cons_eq_cons.mpr ⟨e1, e2⟩


end HwL
end

section
namespace HwL
open PySem PySem.Spec PyProof.Rows L2 LamX HwP
variable {P : Program} {w : World} {K : PySem.W.Frag} {mg : Str → Option Value} {base : Heap}

/-- all that is kept: tuples, lists, objects -/
def Keep (H H' : Hp) : Prop := ∀ b o, H b = some o → ((∃ xs, o = .tup xs) ∨ (∃ xs, o = .lst xs) ∨ ∃ x y z, o = .ins x y z) → H' b = some o
theorem Keep.same {H H' : Hp} (s : Same H H') : Keep H H' := fun b o e _ => s b o e
theorem Keep.ext {H H' : Hp} {p l : Addr} {c : Int} (hp : PenAt H p l c) (x : Ext p H H') : Keep H H' := fun b o e k => x b o (fun z => by
  obtain ⟨cs, i, dg, m, f, h1, _⟩ := hp
  rw [z, h1] at e
  cases e
  rcases k with ⟨_, k⟩ | ⟨_, k⟩ | ⟨_, _, _, k⟩ <;> cases k) e
theorem Keep.extN {H H' : Hp} (x : ExtN H H') : Keep H H' := fun b o e k => x b o e fun ps z => by
  subst z
  rcases k with ⟨_, k⟩ | ⟨_, k⟩ | ⟨_, _, _, k⟩ <;> cases k
theorem Keep.trans {H H1 H2 : Hp} (a : Keep H H1) (b : Keep H1 H2) : Keep H H2 := fun c o e k => b c o (a c o e k) k
theorem Keep.refl {H : Hp} : Keep H H := fun _ _ e _ => e
section
variable {CR CP CL : Addr} {H H' : Hp} (kp : Keep H H')
include kp
theorem kTup {a : Addr} {xs : List V} (h : H a = some (.tup xs)) : H' a = some (.tup xs) := kp _ _ h (.inl ⟨_, rfl⟩)
theorem kLst {a : Addr} {xs : List V} (h : H a = some (.lst xs)) : H' a = some (.lst xs) := kp _ _ h (.inr (.inl ⟨_, rfl⟩))
theorem kIns {a C dx : Addr} {fs : List (Str × V)} (h : H a = some (.ins C dx fs)) : H' a = some (.ins C dx fs) := kp _ _ h (.inr (.inr ⟨_, _, _, rfl⟩))
theorem kR {x : V} {q : Rat} (h : IsR CR H x q) : IsR CR H' x q := by
  obtain ⟨a, dx, rfl, ha⟩ := h
  exact ⟨a, dx, rfl, kIns kp ha⟩
theorem kP {x : V} {q : Rat} {qs : List Rat} (h : IsP CR CP H x q qs) : IsP CR CP H' x q qs := by
  obtain ⟨a, dx, fs, rfl, h1, v0, t, ys, r, rfl, k1, k2, k3, k4⟩ := h
  exact ⟨a, dx, _, rfl, kIns kp h1, v0, t, ys, r, rfl, kR kp k1, kTup kp k2, Fa2.mono k3 fun _ _ z => kR kp z, kTup kp k4⟩
theorem kRow {x : V} {n : Nat} {q : Rat} {qs : List Rat} {b : Bool} (h : IsRow CR CP H x n q qs b) : IsRow CR CP H' x n q qs b := by
  obtain ⟨t, pl, h1, h2, h3, h4⟩ := h
  exact ⟨t, pl, h1, kTup kp h2, kP kp h3, h4⟩
theorem kRows {n : Nat} {xs : List V} {ds : List (Rat × List Rat × Bool)} (h : Rows CR CP H n xs ds) : Rows CR CP H' n xs ds := Fa2.mono h fun _ _ z => kRow kp z
theorem kPlc {x : V} {n : Nat} {ds : List (Rat × List Rat × Bool)} (h : IsPlc CR CP CL H x n ds) : IsPlc CR CP CL H' x n ds := by
  obtain ⟨a, dx, t, xs, h1, h2, h3, h4, h5⟩ := h
  exact ⟨a, dx, t, xs, h1, kIns kp h2, kTup kp h3, kRows kp h4, h5⟩
end
/-- what is no row of size n -/
inductive OddRow (CR CP : Addr) (H : Hp) (n : Nat) : V → Prop
  | non : OddRow CR CP H n .non
  | five : OddRow CR CP H n (.int 5)
  | one {a : Addr} {u : V} (h : H a = some (.tup [u])) : OddRow CR CP H n (.ref a)
  | sec {a : Addr} {u : V} {q : Rat} {qs : List Rat} (h : H a = some (.tup [u, .int 1])) (p : IsP CR CP H u q qs) (l : qs.length = n) : OddRow CR CP H n (.ref a)
  | lst {a : Addr} {xs : List V} (h : H a = some (.lst xs)) : OddRow CR CP H n (.ref a)
  | wide {a : Addr} {u v : V} {q : Rat} {qs : List Rat} (h : H a = some (.tup [u, v])) (p : IsP CR CP H u q qs) (l : qs.length ≠ n) : OddRow CR CP H n (.ref a)
  | fst {a : Addr} {b : Bool} {v : V} (h : H a = some (.tup [.bl b, v])) : OddRow CR CP H n (.ref a)
  | three {a : Addr} {u v w : V} (h : H a = some (.tup [u, v, w])) : OddRow CR CP H n (.ref a)
theorem OddRow.keep {CR CP : Addr} {H H' : Hp} {n : Nat} {v : V} (h : OddRow CR CP H n v) (kp : Keep H H') : OddRow CR CP H' n v := by
  cases h with
  | non => exact .non
  | five => exact .five
  | one h => exact .one (kTup kp h)
  | sec h p l => exact .sec (kTup kp h) (kP kp p) l
  | lst h => exact .lst (kLst kp h)
  | wide h p l => exact .wide (kTup kp h) (kP kp p) l
  | fst h => exact .fst (kTup kp h)
  | three h => exact .three (kTup kp h)
theorem OddRow.no {CR CP : Addr} {H : Hp} {n : Nat} {v : V} (kB : PySem.W.kitOne K (.type "bool") (.ref CP) = some false) (h : OddRow CR CP H n v) : NoRow K CR CP H n v := by
  cases h with
  | non => exact .kind (.base .non) (kit_ty (by decide +kernel))
  | five => exact .kind (.base (.int _)) (kit_ty (by decide +kernel))
  | one h => exact .len h (by simp)
  | sec h p l => exact .second h p l (.base (.int _)) (kit_ty (by decide +kernel))
  | lst h => exact .kind (.base (.lst h)) (kit_ty (by decide +kernel))
  | wide h p l => exact .size h p l
  | fst h => exact .first h (.base (.bl _)) kB
  | three h => exact .len h (by simp)
/-- what is no size -/
inductive OddN : V → PyData → Prop
  | m1 : OddN (.int (-1)) (.int (-1))
  | tr : OddN (.bl true) (.bool true)
  | non : OddN .non .none
  | s1 : OddN (.str "1") (.str "1")
theorem OddN.rep {H : Hp} {v : V} {d : PyData} (h : OddN v d) : RepOK K H v d := by
  cases h with
  | m1 => exact .m1
  | tr => exact .bl true
  | non => exact .non
  | s1 => exact .s1
theorem OddN.ty {C : Addr} {v : V} {d : PyData} (R : RatC K C) (h : OddN v d) : ∃ i, (∀ H : Hp, Ty K C H v i false) ∧ ((∃ m : Int, v = .int m ∧ i = true ∧ m < 0) ∨ i = false) := by
  cases h with
  | m1 => exact ⟨_, fun H => ty_int R _, .inl ⟨_, rfl, rfl, by omega⟩⟩
  | tr => exact ⟨_, fun H => ty_bl R _, .inr rfl⟩
  | non => exact ⟨_, fun H => ty_non R, .inr rfl⟩
  | s1 => exact ⟨_, fun H => ty_str R _, .inr rfl⟩
/-- what is no point of size n -/
inductive OddPt (H : Hp) (n : Nat) : V → Prop
  | non : OddPt H n .non
  | s1 : OddPt H n (.str "1")
  | ones {a : Addr} {xs : List V} (h : H a = some (.lst xs)) (l : xs.length ≠ n) : OddPt H n (.ref a)
  | nons {a : Addr} {m : Nat} (h : H a = some (.lst (List.replicate m .non))) (m1 : 1 ≤ m) (m9 : m ≤ 9) : OddPt H n (.ref a)
theorem OddPt.keep {H H' : Hp} {n : Nat} {v : V} (h : OddPt H n v) (kp : Keep H H') : OddPt H' n v := by
  cases h with
  | non => exact .non
  | s1 => exact .s1
  | ones h l => exact .ones (kLst kp h) l
  | nons h a b => exact .nons (kLst kp h) a b
theorem OddPt.no {C : Addr} {H : Hp} {n : Nat} {v : V} (R : RatC K C) (h : OddPt H n v) : NoPt K C H v n := by
  cases h with
  | non => exact .inl rfl
  | s1 => exact .inr (.inl ⟨_, rfl⟩)
  | ones h l => exact .inr (.inr ⟨_, _, rfl, .inl h, .inl l⟩)
  | nons h a b =>
    rename_i a0 m
    have fz : (List.replicate m false).all id = false := by
      cases m with
      | zero => omega
      | succ m => rw [List.replicate_succ, List.all_cons]; rfl
    exact .inr (.inr ⟨_, _, rfl, .inl h, .inr ⟨by rw [List.length_replicate]; omega, List.replicate m false, fa_rep ⟨false, false, rfl, fun H' s' => ty_non R⟩ m, fz⟩⟩)
theorem flat_one (v : V) (n : Nat) : (List.replicate n [v]).flatten = List.replicate n v := by
  induction n with
  | zero => rfl
  | succ n ih => rw [List.replicate_succ, List.flatten_cons, ih, List.replicate_succ]; rfl
theorem tabs_ext {T : List (Addr × Str)} {H H' : Hp} {p l : Addr} {c : Int} (t : Tabs T H) (hp : PenAt H p l c) (e : Ext p H H') : Tabs T H' := by
  obtain ⟨cs, i, dg, n, f, h1, _⟩ := hp
  exact tabs_at t h1 (fun ps z => by cases z) (fun c q z => by unfold CodeO at z; cases z) e
/-- rows of texts and integers as data -/
def vD : V → PyData
  | .int i => .int i
  | .str s => .str s
  | _ => .none
def flatV : V → Bool
  | .int _ => true
  | .str s => PyData.strOk s
  | _ => false
def rowT (zs : List V) : PyData := .tuple (zs.map vD)
theorem dp_vs {H : Hp} : ∀ zs : List V, zs.all flatV = true → DpAll K H zs (zs.map vD)
  | [], _ => .nil
  | z :: zs, h => by
    rw [List.all_cons, Bool.and_eq_true] at h
    refine .cons ?_ (dp_vs zs h.2)
    cases z <;> first | (cases h.1; done) | exact .int _ | exact .str _
theorem lay_vs : ∀ {zs : List V}, zs.all flatV = true → PyData.canLayAll0 (zs.map vD) = true
  | [], _ => rfl
  | z :: zs, h => by
    rw [List.all_cons, Bool.and_eq_true] at h
    have ih := lay_vs h.2
    have hz := h.1
    cases z with
    | int i => simp [PyData.canLayAll0, PyData.canLay0, vD, ih]
    | str s =>
      simp [PyData.canLayAll0, PyData.canLay0, vD, ih]
      exact hz
    | _ => cases hz
theorem dep_vs (zs : List V) : PyData.depthAll (zs.map vD) ≤ 1 := depth_map (fun x => by cases x <;> simp [vD, PyData.depth]) zs
theorem shaped_vs {zs : List (List V)} (h : (zs.all fun z => z.all flatV) = true) : SeqAt.shaped (.list (zs.map rowT)) = true := by
  have h1 : PyData.canLayAll0 (zs.map rowT) = true := by
    induction zs with
    | nil => rfl
    | cons z zs ih =>
      rw [List.all_cons, Bool.and_eq_true] at h
      simp [PyData.canLayAll0, PyData.canLay0, ih h.2, rowT, lay_vs h.1]
  have h2 : PyData.depthAll (zs.map rowT) ≤ 2 := depth_map (fun x => by
    have := dep_vs x
    simp [rowT, PyData.depth]
    omega) zs
  unfold SeqAt.shaped
  simp [PyData.canLay0, PyData.depth, h1]
  omega
def AllV (H : Hp) (vs : List V) (zss : List (List V)) : Prop := Fa2 (fun v zs => ∃ a, v = .ref a ∧ H a = some (.tup zs)) vs zss
theorem AllV.same {H H' : Hp} {vs : List V} {zss : List (List V)} (h : AllV H vs zss) (e : Same H H') : AllV H' vs zss := Fa2.mono h fun _ _ ⟨a, h1, h2⟩ => ⟨a, h1, e _ _ h2⟩
theorem AllV.updL {D : Addr} {H : Hp} {vs acc : List V} {zss : List (List V)} {o : HO} (h : AllV H vs zss) (hD : H D = some (.lst acc)) : AllV (upd H D o) vs zss := Fa2.mono h fun _ _ ⟨a, h1, h2⟩ => ⟨a, h1, by rw [upd_ne (fun z => by rw [z, hD] at h2; cases h2)]; exact h2⟩
theorem AllV.dp {H : Hp} {vs : List V} {zss : List (List V)} (h : AllV H vs zss) (hz : (zss.all fun z => z.all flatV) = true) : DpAll K H vs (zss.map rowT) := by
  unfold AllV at h
  induction h with
  | nil => exact .nil
  | cons h _ ih =>
    rw [List.all_cons, Bool.and_eq_true] at hz
    obtain ⟨a, rfl, h2⟩ := h
    exact .cons (.tup (SqT.of h2) (dp_vs _ hz.1)) (ih hz.2)
theorem nosize_plc {CR CP CL CB CX a : Addr} {H : Hp} {y : V} {i r : Bool} {xs : List V} {Q : VK} {E : XK} (hl : Sq0 H a xs) (le : xs.length ≤ 100) (hT : ∀ H', Same H H' → Ty K CR H' y i r) (hb : (∃ n : Int, y = .int n ∧ i = true ∧ n < 0) ∨ i = false) (ke : Bad2 CB H E "size" y) (x dx : Addr) (hx : H x = none) (hd : H dx = none) (hne : dx ≠ x) :
    spPlcI K CR CP CL CB CX [.ref x, .ref a, y] (upd (upd H dx (.own x)) x (.ins CL dx [])) (fun v H2 => v = .non ∧ Q (.ref x) H2) E := by
  have sm : Same H (upd (upd H dx (.own x)) x (.ins CL dx [])) := fun c o e => by rw [upd_ne (ne_of_none e hx), upd_ne (ne_of_none e hd)]; exact e
  exact ⟨x, dx, a, y, xs, i, r, rfl, upd_same, hl.same sm, le, hT _ sm, .inr (.inl ⟨hb, fun H' d e1 e2 => ke H' d (sm.trans e1) e2⟩)⟩
theorem same_at {H : Hp} {p : Addr} {o : HO} (_ : Same H (upd H p o)) : upd H p o p = some o := upd_same
theorem at_heapV {H0 H : Hp} {R : Hp → Prop} {a b : Addr} {cs ds : List V} {dt : List (List V)} (S : Same H0 H) (c : H a = some (.lst cs)) (r : AllV H ds dt) (d : H b = some (.lst ds)) (k : ∀ G, Same H0 G → G a = some (.lst cs) → AllV G ds dt → G b = some (.lst ds) → R G) : R H := k H S c r d
def dueV (m j : Nat) (nd : PyData) : List (List V) := [[.str "number", .str "size", .str nd.shown], [.str "place", .int (j : Int)], [.str "place", .int ((m : Int) + j)], [.str "given", .str "point"], [.str "given", .str "point"]]
theorem cut_at {vs : List V} {j : Nat} {o : V} (hj : j ≤ vs.length) : (vs.take j ++ [o] ++ vs.drop j ++ [V.non])[j]? = some o := by
  have l : (vs.take j).length = j := by rw [List.length_take]; omega
  rw [List.append_assoc, List.append_assoc, List.getElem?_append_right (by omega), l, Nat.sub_self]
  rfl
theorem cut_take {vs : List V} {j : Nat} {o : V} (hj : j ≤ vs.length) : (vs.take j ++ [o] ++ vs.drop j ++ [V.non]).take j = vs.take j := by
  have l : (vs.take j).length = j := by rw [List.length_take]; omega
  rw [List.append_assoc, List.append_assoc, List.take_append_of_le_length (by omega), List.take_of_length_le (by omega)]
def spRefus3 (K : PySem.W.Frag) (CR CP CL : Addr) (T : List (Addr × Str)) : Sp := fun vs H Q _ => ∃ (p l b : Addr) (x : V) (c : Int) (n : Nat) (ys : List V) (ds : List (Rat × List Rat × Bool)), vs = [.ref p, x, .ref b, .int n] ∧ n ≤ 3 ∧ PenAt H p l c ∧ c + 100 < 1000000 ∧ IsPlc CR CP CL H x n ds ∧ H b = some (.lst ys) ∧ LRows H n ys ds ∧ ys.length ≤ 12 ∧ RBd 100 ds ∧ Tabs T H ∧
  ∀ H', Q (.bl true) H'
abbrev N_L_refusals_right : List Str := ["_law_pen_here", "_law_place", "_law_rows", "_law_size", "_law_good", "_law_plane", "_law_wide", "_law_odd", "_law_at_here", "_law_no_size", "_law_bent_here", "_law_no_point", "_law_calls", "_law_due", "_law_form", "_law_strict", "_law_call"]
theorem sc_L_refusals_right : FnScope N_L_refusals_right ["_law_pen_here", "_law_place", "_law_rows", "_law_size"] (defScope s_L_refusals_right) := ⟨rfl, rfl, rfl, by decide +kernel, rfl, by decide +kernel, by decide +kernel⟩
theorem st_L_refusals_right {v0 v1 v2 v3 : V} : L2.start N_L_refusals_right [v0, v1, v2, v3] = [some v0, some v1, some v2, some v3, none, none, none, none, none, none, none, none, none, none, none, none, none] := rfl
theorem ok_L_refusals_right {f : Addr} {fd : FuncData} (F : FD K s_L_refusals_right "_law_refusals_right" "_law_refusals_right" f fd) {C_Ratio C_Plane C_Place C_BadNumber C_BadGiven C_BadPlace : Addr} (R : RatC K C_Ratio) (PC : PlaC K C_Plane) (PI : PlaI K C_Plane) (PL : PlcC K C_Place) (RX : RefX3 K mg C_BadNumber C_BadGiven C_BadPlace) (kB : PySem.W.kitOne K (.type "bool") (.ref C_Plane) = some false) {gR : Addr} {fdR : FuncData} {T : List (Addr × Str)} {PT cL : Addr} (F_ref : FD K s_L_refused "_law_refused" "_law_refused" gR fdR) (B_ref : Binds K fdR ["_law_call"] []) (m_ref : mg "_law_refused" = some (.ref gR)) (TB : TabB base mg cL PT) (hcode : fd.code = .ref cL) (hmT : (PT, ("_law_refusals_right" : Str) ++ ".<locals>." ++ "<lambda>") ∈ T) (huT : ∀ p ∈ T, p.1 = PT → p.2 = ("_law_refusals_right" : Str) ++ ".<locals>." ++ "<lambda>") (z_len : mg "len" = none) (z_repr : mg "repr" = none) (z_max : mg "max" = none) (g_Place_closed_holds : Mf P w K mg base C_Place "closed_holds" 9 ["self", "point"] (spHolds K C_Ratio C_Plane C_Place C_BadGiven (fun _ => false))) (g_Place_holds : Mf P w K mg base C_Place "holds" 9 ["self", "point"] (spHolds K C_Ratio C_Plane C_Place C_BadGiven (fun b => b))) (g_Place_with_rows : Mf P w K mg base C_Place "with_rows" 6 ["self", "rows"] (spWith K C_Ratio C_Plane C_Place C_BadPlace)) (g_Place : Kf P w K mg base "Place" C_Place 4 ["self", "rows", "size"] [] (spPlcI K C_Ratio C_Plane C_Place C_BadNumber C_BadPlace)) (g_L_pick : Gf P w K mg base "_law_pick" 2 ["_law_pen_here", "_law_some"] (spPick)) (g_L_draw : Gf P w K mg base "_law_draw" 1 ["_law_pen_here", "_law_many"] (spDraw)) (g_L_as_plane : Gf P w K mg base "_law_as_plane" 9 ["_law_form"] (spAsP C_Ratio C_Plane)) (g_L_number_form : Gf P w K mg base "_law_number_form" 1 ["_law_one", "_law_size"] (spNumF)) : FnG P w K mg base (L2.CX P w) 12 f fd ["_law_pen_here", "_law_place", "_law_rows", "_law_size"] (spRefus3 K C_Ratio C_Plane C_Place T) := by
  have nd := sc_L_refusals_right.nd
  refine F.okG sc_L_refusals_right (fun vs H Q E h => ?_) (fun A outer s H vs Q E hr hgd h => ?_)
  · obtain ⟨p, l, b, x, c, n, ys, ds, rfl, _⟩ := h
    rfl
  · obtain ⟨p, l, b, x, c, n, ys, ds, rfl, hn, hp, hc, hx, hb, hw, hl, bd, hT, k⟩ := h
    refine ⟨_, (C8.pss_cut (ps_set (i := 4) nd rfl (Or.inr rfl) (pe_lc (own := [("_law_form", 14), ("_law_strict", 15)]) rfl nd (pi_list (pv 2)) (blkOk_by (own := [("_law_form", 14), ("_law_strict", 15)]) (N := N_L_refusals_right) (sc := defScope s_L_refusals_right) (by decide +kernel)) (fun _ _ _ _ _ => (pg_tupH (n := 2) rfl (pgs_cons (pg_name (i := 14) nd rfl (Or.inl rfl)) (pgs_cons (pg_name (i := 15) nd rfl (Or.inl rfl)) pgs_nil)))) (fun _ _ _ _ _ => pts_nil) (fun _ _ _ _ _ => (pe_tup (pa_cons (pe_g g_L_as_plane hr (by decide) passL rfl (pa_cons (pv 14) pa_nil)) (pa_cons (pv 15) pa_nil))))))
        (C8.pss_cut (ps_set (i := 5) nd rfl (Or.inl rfl) (pe_g g_L_as_plane hr (by decide) passL rfl (pa_cons (pe_g g_L_number_form hr (by decide) passL rfl (pa_cons (pe_tup (pa_cons pe_int (pa_cons pe_int pa_nil))) (pa_cons (pv 3) pa_nil))) pa_nil)))
        (C8.pss_cut (ps_set (i := 6) nd rfl (Or.inl rfl) (pe_g g_L_as_plane hr (by decide) passL rfl (pa_cons (pe_g g_L_number_form hr (by decide) passL rfl (pa_cons (pe_tup (pa_cons pe_int (pa_cons pe_int pa_nil))) (pa_cons (pe_op op_add (pv 3) pe_int) pa_nil))) pa_nil)))
        (C8.pss_cut (ps_set (i := 7) nd rfl (Or.inl rfl) (pe_g g_L_pick hr (by decide) passL rfl (pa_cons (pv 0) (pa_cons (pe_lst (pa_cons pe_non (pa_cons pe_int (pa_cons (pe_tup (pa_cons (pv 5) pa_nil)) (pa_cons (pe_tup (pa_cons (pv 5) (pa_cons pe_int pa_nil))) (pa_cons (pe_lst (pa_cons (pv 5) (pa_cons pe_bl pa_nil))) (pa_cons (pe_tup (pa_cons (pv 6) (pa_cons pe_bl pa_nil))) (pa_cons (pe_tup (pa_cons pe_bl (pa_cons (pv 5) pa_nil))) (pa_cons (pe_tup (pa_cons (pv 5) (pa_cons pe_bl (pa_cons pe_int pa_nil)))) pa_nil))))))))) pa_nil))))
        (C8.pss_cut (ps_asg (pe_tup (pa_cons (pe_g g_L_draw hr (by decide) passL rfl (pa_cons (pv 0) (pa_cons (pe_op op_add (pe_callB call_len_seq (by rfl) z_len (by decide +kernel) (pa_cons (pv 4) pa_nil)) pe_int) pa_nil))) (pa_cons (pe_g g_L_pick hr (by decide) passL rfl (pa_cons (pv 0) (pa_cons (pe_lst (pa_cons (pe_un un_neg pe_int) (pa_cons pe_bl (pa_cons pe_non (pa_cons pe_str pa_nil))))) pa_nil))) pa_nil))) (pg_tupH rfl (pgs_cons (pg_name (i := 8) nd rfl (Or.inl rfl)) (pgs_cons (pg_name (i := 9) nd rfl (Or.inr rfl)) pgs_nil))))
        (C8.pss_cut (ps_set (i := 10) nd rfl (Or.inr rfl) (pe_op op_cat (pe_op op_cat (pe_op op_cat (pe_slice sl_list (pv 4) po_none (po_some (pv 8))) (pe_lst (pa_cons (pv 7) pa_nil))) (pe_slice sl_list (pv 4) (po_some (pv 8)) po_none)) (pe_lst (pa_cons pe_non pa_nil))))
        (C8.pss_cut (ps_set (i := 11) nd rfl (Or.inr rfl) (pe_g g_L_pick hr (by decide) passL rfl (pa_cons (pv 0) (pa_cons (pe_lst (pa_cons (pe_op op_rep (pe_lst (pa_cons pe_int pa_nil)) (pe_op op_add (pv 3) pe_int)) (pa_cons pe_non (pa_cons (pe_op op_rep (pe_lst (pa_cons pe_non pa_nil)) (pe_callB (call_max2 rfl) (by rfl) z_max (by decide +kernel) (pa_cons pe_int (pa_cons (pv 3) pa_nil)))) (pa_cons pe_str pa_nil))))) pa_nil))))
        (pss_cons (ps_set (i := 12) nd rfl (Or.inl rfl) (pe_lst (pa_cons (pe_lamV TB hcode hmT huT (lamS_by (sc := defScope s_L_refusals_right) (by decide +kernel)) rfl) (pa_cons (pe_lamV TB hcode hmT huT (lamS_by (sc := defScope s_L_refusals_right) (by decide +kernel)) rfl) (pa_cons (pe_lamV TB hcode hmT huT (lamS_by (sc := defScope s_L_refusals_right) (by decide +kernel)) rfl) (pa_cons (pe_lamV TB hcode hmT huT (lamS_by (sc := defScope s_L_refusals_right) (by decide +kernel)) rfl) (pa_cons (pe_lamV TB hcode hmT huT (lamS_by (sc := defScope s_L_refusals_right) (by decide +kernel)) rfl) pa_nil)))))))
        (pss_cons (ps_set (i := 13) nd rfl (Or.inl rfl) (pe_lst (pa_cons (pe_tup (pa_cons pe_str (pa_cons pe_str (pa_cons (pe_callB (id := "repr") (r := rRepr K) (call_reprD rfl hgd hr.units) (by rfl) z_repr (by decide +kernel) (pa_cons (pv 9) pa_nil)) pa_nil)))) (pa_cons (pe_tup (pa_cons pe_str (pa_cons (pv 8) pa_nil))) (pa_cons (pe_tup (pa_cons pe_str (pa_cons (pe_op op_add (pe_callB call_len_seq (by rfl) z_len (by decide +kernel) (pa_cons (pv 4) pa_nil)) (pv 8)) pa_nil))) pa_nil)))))
        (pss_one (ps_ret (pe_cmpR (op_eqD hr.units) (pe_lcI (own := [("_law_call", 16)]) rfl nd (pi_list (pv 12)) (blkOk_by (own := [("_law_call", 16)]) (N := N_L_refusals_right) (sc := defScope s_L_refusals_right) (by decide +kernel)) (fun _ _ _ _ _ => (pg_name (i := 16) nd rfl (Or.inl rfl))) (fun _ σI _ _ _ _ _ II hI => (pe_refF (k := 9) (σY := fun _ => σI) F_ref B_ref rfl m_ref sc_L_refused rfl (Or.inl rfl) (RX.gives hgd hr.u200 _) (hr.mono (by decide)) (cells_blk II hI) ⟨rfl, rfl, rfl, rfl, rfl⟩ (pa_cons (pv 16) pa_nil)))) (pe_op op_cat (pv 13) (pe_op op_rep (pe_lst (pa_cons (pe_tup (pa_cons pe_str (pa_cons pe_str pa_nil))) pa_nil)) pe_int)) (nomark _))))))))))))), ?_⟩
    obtain ⟨xa, xd, xt, xxs, rfl, hxa, _⟩ := id hx
    simp only [tVar, rIxTH, rIxLH, gTupH, line_le, HO.tup.injEq, HO.lst.injEq, List.length_cons, List.length_nil, at0, at1, rU, tOst, tTest, rIxL, rIxT, C8.tCut, cxOf_K, tC, tOp, tUn, tSeq, tAsg, tNext, tRet, tRetN, tDrop, tIfS, tNever, gName, gNil, gCons, gTup, gSub, tPar, rI, rI0, rU, rEq, rNe, tB, tAnd, tOr, tNot, tAndV, tOrV, tNotV, tIf, tTup, tLst, tNil, tCons, tCB, tCall, tMeth, tMake, tFld, sFld, tDGet, sDPut, tDisp, tPairs, tBreak, tCont, scal_ii, scal_bb, scal_ss, List.getElem?_cons_zero, List.getElem?_cons_succ, List.set_cons_zero, List.set_cons_succ, Option.some.injEq, exists_eq_left', exists_eq_left, exists_and_left, V.int.injEq, V.bl.injEq, V.ref.injEq, V.str.injEq, List.cons.injEq, and_true, true_and, Bool.true_eq, List.nil_append, List.append_nil, List.cons_append, exists_eq', and_self, reduceCtorEq, false_or, or_false, false_and, exists_false, exists_const, and_assoc, if_true, Bool.false_eq_true, if_false, Nat.reduceAdd, Nat.reduceLeDiff, Nat.zero_add, Nat.le_refl, forall_const, st_L_refusals_right]
    have lw := Fa2.len hw
    refine ⟨fun σ' H' => ∃ g vs, σ' = [some (.ref p), some (.ref xa), some (.ref b), some (.int n), some (.ref g), none, none, none, none, none, none, none, none, none, none, none, none] ∧ Same H H' ∧ H' g = some (.lst vs) ∧ Rows C_Ratio C_Plane H' n vs ds, ?_, ?_⟩
    · refine ⟨.ref b, rfl, b, rfl, ⟨_, SqL.of hb⟩, fun D hD => lc_list (K := K) (a := b) (xs := ys) (fun i H' => Same H H' ∧ ∃ acc, H' D = some (.lst acc) ∧ acc.length = i ∧ Rows C_Ratio C_Plane H' n acc (ds.take i)) ⟨same_new hD, [], upd_same, rfl, .nil⟩ (fun i H' _ h => SqL.of (h.1 _ _ hb)) ?_ ?_⟩
      · rintro i v H2 hi ⟨s2, acc, hacc, hl3, hall⟩
        obtain ⟨⟨q, qs, b1⟩, hd, t, f', rfl, ht, hf, lq⟩ := Fa2.get hw hi
        have li := ix_lt hi
        simp only [tVar, rIxTH, rIxLH, gTupH, line_le, HO.tup.injEq, HO.lst.injEq, List.length_cons, List.length_nil, at0, at1, rU, tOst, tTest, rIxL, rIxT, C8.tCut, cxOf_K, tC, tOp, tUn, tSeq, tAsg, tNext, tRet, tRetN, tDrop, tIfS, tNever, gName, gNil, gCons, gTup, gSub, tPar, rI, rI0, rU, rEq, rNe, tB, tAnd, tOr, tNot, tAndV, tOrV, tNotV, tIf, tTup, tLst, tNil, tCons, tCB, tCall, tMeth, tMake, tFld, sFld, tDGet, sDPut, tDisp, tPairs, tBreak, tCont, scal_ii, scal_bb, scal_ss, List.getElem?_cons_zero, List.getElem?_cons_succ, List.set_cons_zero, List.set_cons_succ, Option.some.injEq, exists_eq_left', exists_eq_left, exists_and_left, V.int.injEq, V.bl.injEq, V.ref.injEq, V.str.injEq, List.cons.injEq, and_true, true_and, Bool.true_eq, List.nil_append, List.append_nil, List.cons_append, exists_eq', and_self, reduceCtorEq, false_or, or_false, false_and, exists_false, exists_const, and_assoc, if_true, Bool.false_eq_true, if_false, Nat.reduceAdd, Nat.reduceLeDiff, Nat.zero_add, Nat.le_refl, forall_const, st_L_refusals_right, wipe, List.map_cons, List.map_nil, tYes]
        have lq : qs.length = n := lq
        refine ⟨_, s2 _ _ ht, rfl, _, _, rfl, _, _, rfl, rfl, ?_⟩
        refine ⟨f', q, qs, rfl, hf.same s2, by omega, fun z hz => (bd _ (List.mem_of_getElem? hd) z hz).mono (by decide), fun H3 z s3 hz p1 hp1 => ?_⟩
        have s1 := same_new (o := HO.tup [z, V.bl b1]) hp1
        have hD1 := s1 _ _ (s3 _ _ hacc)
        refine ⟨acc, hD1, by rw [hl3]; exact Nat.lt_of_le_of_lt (show i ≤ 60 by omega) (by decide), same_updL hD ((s2.trans s3).trans s1), _, upd_same, by simp [hl3], ?_⟩
        rw [take_snoc hd]
        exact Rows.updL (show Rows _ _ _ _ _ _ from Fa2.snoc ((hall.same s3).same s1) ⟨p1, z, rfl, upd_same, hz.same s1, lq⟩) hD1
      · rintro H2 ⟨s2, acc, hacc, hl3, hall⟩
        rw [lw, List.take_length] at hall
        exact ⟨D, acc, rfl, s2, hacc, hall⟩
    rintro σ' H1 ⟨g, vs, rfl, s1, hg, hr⟩
    have lv := Fa2.len hr
    have q1 : ∀ m : Nat, ∀ z ∈ (ri 1 : Rat) :: List.replicate m 0, HwM.Bd 400 z := fun m z hz => by
      rcases List.mem_cons.mp hz with rfl | hz
      · exact ⟨by decide, by decide⟩
      · rw [List.eq_of_mem_replicate hz]; exact bd0 (by decide)
    refine ⟨fun σ' H' => ∃ pl, σ' = [some (.ref p), some (.ref xa), some (.ref b), some (.int n), some (.ref g), some pl, none, none, none, none, none, none, none, none, none, none, none] ∧ Same H1 H' ∧ IsP C_Ratio C_Plane H' pl (ri 1) (List.replicate n 0), ?_, ?_⟩
    · intro t1 ht1
      have st := same_new (o := HO.tup [V.int 1, V.int 1]) ht1
      refine ⟨_, rfl, t1, ri 1, n, rfl, upd_same, by omega, fun H2 f s2 hf => ⟨f, ri 1, _, rfl, hf, by simp; omega, q1 n, fun H3 z s3 hz => ⟨z, rfl, (st.trans s2).trans s3, hz⟩⟩⟩
    rintro σ' H2 ⟨pl, rfl, s2, hpl⟩
    refine ⟨fun σ' H' => ∃ wd, σ' = [some (.ref p), some (.ref xa), some (.ref b), some (.int n), some (.ref g), some pl, some wd, none, none, none, none, none, none, none, none, none, none] ∧ Same H2 H' ∧ IsP C_Ratio C_Plane H' wd (ri 1) (List.replicate (n + 1) 0), ?_, ?_⟩
    · intro t1 ht1
      have st := same_new (o := HO.tup [V.int 1, V.int 1]) ht1
      refine ⟨_, rfl, n, rfl, t1, ri 1, n + 1, by push_cast; rfl, upd_same, by omega, fun H3 f s3 hf => ⟨f, ri 1, _, rfl, hf, by simp; omega, q1 (n + 1), fun H4 z s4 hz => ⟨z, rfl, (st.trans s3).trans s4, hz⟩⟩⟩
    rintro σ' H3 ⟨wd, rfl, s3, hwd⟩
    have s03 := (s1.trans s2).trans s3
    have p3 := hp.same s03
    have hpl3 := hpl.same s3
    have hg3 := s3 _ _ (s2 _ _ hg)
    have hr3 := (hr.same s2).same s3
    have hx3 := hx.same s03
    have T3 := hT.ext s03
    refine ⟨fun σ' H' => ∃ od, σ' = [some (.ref p), some (.ref xa), some (.ref b), some (.int n), some (.ref g), some pl, some wd, some od, none, none, none, none, none, none, none, none, none] ∧ Ext p H3 H' ∧ PenAt H' p l (c + 1) ∧ OddRow C_Ratio C_Plane H' n od, ?_, ?_⟩
    · simp only [tVar, rIxTH, rIxLH, gTupH, line_le, HO.tup.injEq, HO.lst.injEq, List.length_cons, List.length_nil, at0, at1, rU, tOst, tTest, rIxL, rIxT, C8.tCut, cxOf_K, tC, tOp, tUn, tSeq, tAsg, tNext, tRet, tRetN, tDrop, tIfS, tNever, gName, gNil, gCons, gTup, gSub, tPar, rI, rI0, rU, rEq, rNe, tB, tAnd, tOr, tNot, tAndV, tOrV, tNotV, tIf, tTup, tLst, tNil, tCons, tCB, tCall, tMeth, tMake, tFld, sFld, tDGet, sDPut, tDisp, tPairs, tBreak, tCont, scal_ii, scal_bb, scal_ss, List.getElem?_cons_zero, List.getElem?_cons_succ, List.set_cons_zero, List.set_cons_succ, Option.some.injEq, exists_eq_left', exists_eq_left, exists_and_left, V.int.injEq, V.bl.injEq, V.ref.injEq, V.str.injEq, List.cons.injEq, and_true, true_and, Bool.true_eq, List.nil_append, List.append_nil, List.cons_append, exists_eq', and_self, reduceCtorEq, false_or, or_false, false_and, exists_false, exists_const, and_assoc, if_true, Bool.false_eq_true, if_false, Nat.reduceAdd, Nat.reduceLeDiff, Nat.zero_add, Nat.le_refl, forall_const, st_L_refusals_right]
      intro a1 h1 a2 h2 a3 h3 a4 h4 a5 h5 a6 h6 a7 h7
      have u1 := same_new (o := HO.tup [pl]) h1
      have u2 := same_new (o := HO.tup [pl, V.int 1]) h2
      have u3 := same_new (o := HO.lst [pl, V.bl true]) h3
      have u4 := same_new (o := HO.tup [wd, V.bl true]) h4
      have u5 := same_new (o := HO.tup [V.bl true, pl]) h5
      have u6 := same_new (o := HO.tup [pl, V.bl true, V.int 1]) h6
      have u7 := same_new (o := HO.lst [V.non, V.int 5, V.ref a1, V.ref a2, V.ref a3, V.ref a4, V.ref a5, V.ref a6]) h7
      have v67 := u6.trans u7
      have v57 := u5.trans v67
      have v47 := u4.trans v57
      have v37 := u3.trans v47
      have v27 := u2.trans v37
      have v17 := u1.trans v27
      refine ⟨p, l, a7, c, _, rfl, p3.same v17, by omega, upd_same, Nat.succ_pos _, Nat.le_of_ble_eq_true rfl, fun H4 i v x4 p4 hi => ⟨(Ext.of v17).trans x4, p4, ?_⟩⟩
      have kx : Keep _ H4 := Keep.ext (p3.same v17) x4
      have o1 : OddRow C_Ratio C_Plane H4 n (.ref a1) := .one (kTup kx (v27 _ _ upd_same))
      have o2 : OddRow C_Ratio C_Plane H4 n (.ref a2) := .sec (kTup kx (v37 _ _ upd_same)) (kP kx (hpl3.same v17)) (by simp)
      have o3 : OddRow C_Ratio C_Plane H4 n (.ref a3) := .lst (kLst kx (v47 _ _ upd_same))
      have o4 : OddRow C_Ratio C_Plane H4 n (.ref a4) := .wide (kTup kx (v57 _ _ upd_same)) (kP kx (hwd.same v17)) (by simp)
      have o5 : OddRow C_Ratio C_Plane H4 n (.ref a5) := .fst (kTup kx (v67 _ _ upd_same))
      have o6 : OddRow C_Ratio C_Plane H4 n (.ref a6) := .three (kTup kx (u7 _ _ upd_same))
      have hm := List.mem_of_getElem? hi
      simp only [List.mem_cons, List.not_mem_nil, or_false] at hm
      rcases hm with rfl | rfl | rfl | rfl | rfl | rfl | rfl | rfl
      · exact .non
      · exact .five
      · exact o1
      · exact o2
      · exact o3
      · exact o4
      · exact o5
      · exact o6
    rintro σ' H4 ⟨od, rfl, x4, p4, hod⟩
    have k4 := Keep.ext p3 x4
    have hg4 := kLst k4 hg3
    have hr4 := kRows k4 hr3
    have hx4 := kPlc k4 hx3
    have T4 := tabs_ext T3 p3 x4
    refine ⟨fun σ' H' => ∃ (j : Nat) (nsz : V) (nd : PyData), σ' = [some (.ref p), some (.ref xa), some (.ref b), some (.int n), some (.ref g), some pl, some wd, some od, some (.int j), some nsz, none, none, none, none, none, none, none] ∧ j ≤ vs.length ∧ Ext p H4 H' ∧ PenAt H' p l (c + 3) ∧ OddN nsz nd, ?_, ?_⟩
    · simp only [tVar, rIxTH, rIxLH, gTupH, line_le, HO.tup.injEq, HO.lst.injEq, List.length_cons, List.length_nil, at0, at1, rU, tOst, tTest, rIxL, rIxT, C8.tCut, cxOf_K, tC, tOp, tUn, tSeq, tAsg, tNext, tRet, tRetN, tDrop, tIfS, tNever, gName, gNil, gCons, gTup, gSub, tPar, rI, rI0, rU, rEq, rNe, tB, tAnd, tOr, tNot, tAndV, tOrV, tNotV, tIf, tTup, tLst, tNil, tCons, tCB, tCall, tMeth, tMake, tFld, sFld, tDGet, sDPut, tDisp, tPairs, tBreak, tCont, scal_ii, scal_bb, scal_ss, List.getElem?_cons_zero, List.getElem?_cons_succ, List.set_cons_zero, List.set_cons_succ, Option.some.injEq, exists_eq_left', exists_eq_left, exists_and_left, V.int.injEq, V.bl.injEq, V.ref.injEq, V.str.injEq, List.cons.injEq, and_true, true_and, Bool.true_eq, List.nil_append, List.append_nil, List.cons_append, exists_eq', and_self, reduceCtorEq, false_or, or_false, false_and, exists_false, exists_const, and_assoc, if_true, Bool.false_eq_true, if_false, Nat.reduceAdd, Nat.reduceLeDiff, Nat.zero_add, Nat.le_refl, forall_const, st_L_refusals_right]
      refine ⟨vs, .inl (SqL.of hg4), p, l, _, _, rfl, p4, by omega, by omega, small_draw (m := vs.length + 1) (by omega), fun H5 j x5 p5 j0 j1 => ?_⟩
      intro a1 h1
      have u1 := same_new (o := HO.lst [V.int (-1), V.bl true, V.non, V.str "1"]) h1
      refine ⟨p, l, a1, _, _, rfl, p5.same u1, by omega, upd_same, Nat.succ_pos _, Nat.le_of_ble_eq_true rfl, fun H6 i v x6 p6 hi => ?_⟩
      obtain ⟨nd, hnd⟩ : ∃ nd, OddN v nd := by
        have hm := List.mem_of_getElem? hi
        simp only [List.mem_cons, List.not_mem_nil, or_false] at hm
        rcases hm with rfl | rfl | rfl | rfl
        · exact ⟨_, .m1⟩
        · exact ⟨_, .tr⟩
        · exact ⟨_, .non⟩
        · exact ⟨_, .s1⟩
      intro a2 h2
      have u2 := same_new (o := HO.tup [V.int j, v]) h2
      exact ⟨_, upd_same, rfl, _, _, rfl, _, _, rfl, rfl, j.toNat, by rw [Int.toNat_of_nonneg j0], by omega, ((x5.trans (Ext.of u1)).trans x6).trans (Ext.of u2), (p6.same u2).mono (by omega), nd, hnd⟩
    rintro σ' H5 ⟨j, nsz, nd, rfl, hj, x5, p5, hnd⟩
    have k5 := Keep.ext p4 x5
    have hg5 := kLst k5 hg4
    have hr5 := kRows k5 hr4
    have hx5 := kPlc k5 hx4
    have hod5 := hod.keep k5
    have T5 := tabs_ext T4 p4 x5
    refine ⟨fun σ' H' => ∃ bh, σ' = [some (.ref p), some (.ref xa), some (.ref b), some (.int n), some (.ref g), some pl, some wd, some od, some (.int j), some nsz, some (.ref bh), none, none, none, none, none, none] ∧ Same H5 H' ∧ H' bh = some (.lst (vs.take j ++ [od] ++ vs.drop j ++ [.non])), ?_, ?_⟩
    · simp only [tVar, rIxTH, rIxLH, gTupH, line_le, HO.tup.injEq, HO.lst.injEq, List.length_cons, List.length_nil, at0, at1, rU, tOst, tTest, rIxL, rIxT, C8.tCut, cxOf_K, tC, tOp, tUn, tSeq, tAsg, tNext, tRet, tRetN, tDrop, tIfS, tNever, gName, gNil, gCons, gTup, gSub, tPar, rI, rI0, rU, rEq, rNe, tB, tAnd, tOr, tNot, tAndV, tOrV, tNotV, tIf, tTup, tLst, tNil, tCons, tCB, tCall, tMeth, tMake, tFld, sFld, tDGet, sDPut, tDisp, tPairs, tBreak, tCont, scal_ii, scal_bb, scal_ss, List.getElem?_cons_zero, List.getElem?_cons_succ, List.set_cons_zero, List.set_cons_succ, Option.some.injEq, exists_eq_left', exists_eq_left, exists_and_left, V.int.injEq, V.bl.injEq, V.ref.injEq, V.str.injEq, List.cons.injEq, and_true, true_and, Bool.true_eq, List.nil_append, List.append_nil, List.cons_append, exists_eq', and_self, reduceCtorEq, false_or, or_false, false_and, exists_false, exists_const, and_assoc, if_true, Bool.false_eq_true, if_false, Nat.reduceAdd, Nat.reduceLeDiff, Nat.zero_add, Nat.le_refl, forall_const, st_L_refusals_right, tSl, tPart, tNoPart, rSlL]
      refine ⟨vs, SqL.of hg5, fun y1 hy1 => ?_⟩
      rw [cutV_to]
      have u1 := same_new (o := HO.lst (vs.take j)) hy1
      intro y2 hy2
      have u2 := same_new (o := HO.lst [od]) hy2
      refine ⟨y1, y2, _, _, rfl, rfl, u2 _ _ upd_same, upd_same, by simp; exact line_le (by omega), fun y3 hy3 => ?_⟩
      have u3 := same_new (o := HO.lst (vs.take j ++ [od])) hy3
      have u13 := (u1.trans u2).trans u3
      refine ⟨vs, SqL.of (u13 _ _ hg5), fun y4 hy4 => ?_⟩
      rw [cutV_from]
      have u4 := same_new (o := HO.lst (vs.drop j)) hy4
      refine ⟨y3, y4, _, _, rfl, rfl, u4 _ _ upd_same, upd_same, by simp; exact line_le (by omega), fun y5 hy5 => ?_⟩
      have u5 := same_new (o := HO.lst (vs.take j ++ [od] ++ vs.drop j)) hy5
      intro y6 hy6
      have u6 := same_new (o := HO.lst [V.non]) hy6
      refine ⟨y5, y6, _, _, rfl, rfl, u6 _ _ upd_same, upd_same, by simp; exact line_le (by omega), fun y7 hy7 => ?_⟩
      have u7 := same_new (o := HO.lst (vs.take j ++ [od] ++ vs.drop j ++ [V.non])) hy7
      exact ⟨y7, rfl, (((u13.trans u4).trans u5).trans u6).trans u7, upd_same⟩
    rintro σ' H6 ⟨bh, rfl, s6, hbh⟩
    have p6 := p5.same s6
    have T6 := T5.ext s6
    refine ⟨fun σ' H' => ∃ np, σ' = [some (.ref p), some (.ref xa), some (.ref b), some (.int n), some (.ref g), some pl, some wd, some od, some (.int j), some nsz, some (.ref bh), some np, none, none, none, none, none] ∧ Ext p H6 H' ∧ PenAt H' p l (c + 4) ∧ OddPt H' n np, ?_, ?_⟩
    · simp only [tVar, rIxTH, rIxLH, gTupH, line_le, HO.tup.injEq, HO.lst.injEq, List.length_cons, List.length_nil, at0, at1, rU, tOst, tTest, rIxL, rIxT, C8.tCut, cxOf_K, tC, tOp, tUn, tSeq, tAsg, tNext, tRet, tRetN, tDrop, tIfS, tNever, gName, gNil, gCons, gTup, gSub, tPar, rI, rI0, rU, rEq, rNe, tB, tAnd, tOr, tNot, tAndV, tOrV, tNotV, tIf, tTup, tLst, tNil, tCons, tCB, tCall, tMeth, tMake, tFld, sFld, tDGet, sDPut, tDisp, tPairs, tBreak, tCont, scal_ii, scal_bb, scal_ss, List.getElem?_cons_zero, List.getElem?_cons_succ, List.set_cons_zero, List.set_cons_succ, Option.some.injEq, exists_eq_left', exists_eq_left, exists_and_left, V.int.injEq, V.bl.injEq, V.ref.injEq, V.str.injEq, List.cons.injEq, and_true, true_and, Bool.true_eq, List.nil_append, List.append_nil, List.cons_append, exists_eq', and_self, reduceCtorEq, false_or, or_false, false_and, exists_false, exists_const, and_assoc, if_true, Bool.false_eq_true, if_false, Nat.reduceAdd, Nat.reduceLeDiff, Nat.zero_add, Nat.le_refl, forall_const, st_L_refusals_right]
      intro a1 h1
      refine ⟨a1, (n : Int) + 1, [.int 1], rfl, rfl, upd_same, by omega, by omega, line_le (by rw [List.length_cons, List.length_nil]; omega), fun a2 h2 => ?_⟩
      rw [flat_one]
      have u1 := same_new (o := HO.lst [V.int 1]) h1
      have u2 := same_new (o := HO.lst (List.replicate ((n : Int) + 1).toNat (V.int 1))) h2
      intro a3 h3
      have u3 := same_new (o := HO.lst [V.non]) h3
      obtain ⟨m, em, m1, m6⟩ : ∃ m : Nat, (if (n : Int) > 1 then (n : Int) else 1) = (m : Int) ∧ 1 ≤ m ∧ m ≤ 6 := by
        split
        · exact ⟨n, rfl, by omega, by omega⟩
        · exact ⟨1, rfl, by omega, by omega⟩
      rw [em]
      refine ⟨a3, (m : Int), [.non], rfl, rfl, upd_same, by omega, by omega, line_le (by rw [List.length_cons, List.length_nil]; omega), fun a4 h4 => ?_⟩
      rw [flat_one, Int.toNat_natCast]
      have u4 := same_new (o := HO.lst (List.replicate m V.non)) h4
      intro a5 h5
      have u5 := same_new (o := HO.lst [V.ref a2, V.non, V.ref a4, V.str "1"]) h5
      have u15 := (((u1.trans u2).trans u3).trans u4).trans u5
      refine ⟨p, l, a5, _, _, rfl, p6.same u15, by omega, upd_same, Nat.succ_pos _, Nat.le_of_ble_eq_true rfl, fun H7 i v x7 p7 hi => ⟨(Ext.of u15).trans x7, p7.mono (by omega), ?_⟩⟩
      have kx : Keep _ H7 := Keep.ext (p6.same u15) x7
      have o1 : OddPt H7 n (.ref a2) := .ones (kLst kx (u5 _ _ (u4 _ _ (u3 _ _ upd_same)))) (by rw [List.length_replicate]; omega)
      have o2 : OddPt H7 n (.ref a4) := .nons (kLst kx (u5 _ _ upd_same)) m1 (by omega)
      have hm := List.mem_of_getElem? hi
      simp only [List.mem_cons, List.not_mem_nil, or_false] at hm
      rcases hm with rfl | rfl | rfl | rfl
      · exact o1
      · exact .non
      · exact o2
      · exact .s1
    rintro σ' H7 ⟨np, rfl, x7, p7, hnp⟩
    have k7 := (Keep.same s6).trans (Keep.ext p6 x7)
    have hg7 := kLst k7 hg5
    have hr7 := kRows k7 hr5
    have hx7 := kPlc k7 hx5
    have hod7 := hod5.keep k7
    have hbh7 := kLst (Keep.ext p6 x7) hbh
    have T7 := tabs_ext T6 p6 x7
    have hxa7 := kIns k7 (kIns k5 (kIns k4 (s03 _ _ hxa)))
    simp only [tVar, rIxTH, rIxLH, gTupH, line_le, HO.tup.injEq, HO.lst.injEq, List.length_cons, List.length_nil, at0, at1, rU, tOst, tTest, rIxL, rIxT, C8.tCut, cxOf_K, tC, tOp, tUn, tSeq, tAsg, tNext, tRet, tRetN, tDrop, tIfS, tNever, gName, gNil, gCons, gTup, gSub, tPar, rI, rI0, rU, rEq, rNe, tB, tAnd, tOr, tNot, tAndV, tOrV, tNotV, tIf, tTup, tLst, tNil, tCons, tCB, tCall, tMeth, tMake, tFld, sFld, tDGet, sDPut, tDisp, tPairs, tBreak, tCont, scal_ii, scal_bb, scal_ss, List.getElem?_cons_zero, List.getElem?_cons_succ, List.set_cons_zero, List.set_cons_succ, Option.some.injEq, exists_eq_left', exists_eq_left, exists_and_left, V.int.injEq, V.bl.injEq, V.ref.injEq, V.str.injEq, List.cons.injEq, and_true, true_and, Bool.true_eq, List.nil_append, List.append_nil, List.cons_append, exists_eq', and_self, reduceCtorEq, false_or, or_false, false_and, exists_false, exists_const, and_assoc, if_true, Bool.false_eq_true, if_false, Nat.reduceAdd, Nat.reduceLeDiff, Nat.zero_add, Nat.le_refl, forall_const, st_L_refusals_right, tLamV]
    refine ⟨T7, fun f1 G1 e1 T8 k1 => ⟨T8, fun f2 G2 e2 T9 k2 => ⟨T9, fun f3 G3 e3 T10 k3 => ⟨T10, fun f4 G4 e4 T11 k4 => ⟨T11, fun f5 G5 e5 T12 k5 => ?_⟩⟩⟩⟩⟩
    have E4 := e5
    have E3 := e4.trans E4
    have E2 := e3.trans E3
    have E1 := e2.trans E2
    have E0 := e1.trans E1
    replace k1 := k1.extN E1
    replace k2 := k2.extN E2
    replace k3 := k3.extN E3
    replace k4 := k4.extN E4
    have kE := Keep.extN E0
    have hgE := kLst kE hg7
    have hrE := kRows kE hr7
    have hxE := kPlc kE hx7
    have hxaE := kIns kE hxa7
    have hodE := hod7.keep kE
    have hbhE := kLst kE hbh7
    have hnpE := hnp.keep kE
    clear k7 hg7 hr7 hx7 hod7 hbh7 e1 e2 e3 e4 e5 E1 E2 E3 E4 T8 T9 T10 T11
    intro c1 hc1
    have u1 := same_new (o := HO.lst [V.ref f1, V.ref f2, V.ref f3, V.ref f4, V.ref f5]) hc1
    refine hnd.rep.run ?_
    intro d1 hd1
    have u2 := same_new (o := HO.tup [V.str "number", V.str "size", V.str nd.shown]) hd1
    intro d2 hd2
    have u3 := same_new (o := HO.tup [V.str "place", V.int (j : Int)]) hd2
    have u13 := (u1.trans u2).trans u3
    refine ⟨vs, .inl (SqL.of (u13 _ _ hgE)), fun d3 hd3 dd hdd => ?_⟩
    have u4 := same_new (o := HO.tup [V.str "place", V.int ((vs.length : Int) + j)]) hd3
    have u5 := same_new (o := HO.lst [V.ref d1, V.ref d2, V.ref d3]) hdd
    have u15 := (u13.trans u4).trans u5
    have hcalls := u5 _ _ (u4 _ _ (u3 _ _ (u2 _ _ (upd_same (H := G5) (a := c1) (o := HO.lst [V.ref f1, V.ref f2, V.ref f3, V.ref f4, V.ref f5])))))
    have hrows : AllV _ [V.ref d1, V.ref d2, V.ref d3] ((dueV vs.length j nd).take 3) := .cons ⟨_, rfl, u5 _ _ (u4 _ _ (u3 _ _ upd_same))⟩ (.cons ⟨_, rfl, u5 _ _ (u4 _ _ upd_same)⟩ (.cons ⟨_, rfl, u5 _ _ upd_same⟩ .nil))
    have hdl := same_at u5
    generalize upd (upd (upd (upd (upd G5 c1 (HO.lst [V.ref f1, V.ref f2, V.ref f3, V.ref f4, V.ref f5])) d1 (HO.tup [V.str "number", V.str "size", V.str nd.shown])) d2 (HO.tup [V.str "place", V.int (j : Int)])) d3 (HO.tup [V.str "place", V.int ((vs.length : Int) + j)])) dd (HO.lst [V.ref d1, V.ref d2, V.ref d3]) = G at u15 hcalls hrows hdl ⊢
    have SG := u15
    have hc2 := hcalls
    have hr2 := hrows
    have hd2' := hdl
    clear u15 hcalls hrows hdl u5 u4 u13 u3 u2 u1 hdd hd3 hd2 hd1 hc1
    replace hgE := SG _ _ hgE
    replace hrE := hrE.same SG
    replace hxE := hxE.same SG
    replace hxaE := SG _ _ hxaE
    replace hodE := hodE.keep (Keep.same SG)
    replace hbhE := SG _ _ hbhE
    replace hnpE := hnpE.keep (Keep.same SG)
    replace k1 := LamK.same k1 SG
    replace k2 := LamK.same k2 SG
    replace k3 := LamK.same k3 SG
    replace k4 := LamK.same k4 SG
    replace k5 := LamK.same k5 SG
    clear SG
    have blen : (vs.take j ++ [od] ++ vs.drop j ++ [V.non]).length ≤ 20 := by simp; omega
    have nh : ∀ {t : Addr} {n : Int}, List.lookup ("holds" : Str) (plcF t n) = none := fun {t n} => plcF_no (by decide) (by decide)
    have nc : ∀ {t : Addr} {n : Int}, List.lookup ("closed_holds" : Str) (plcF t n) = none := fun {t n} => plcF_no (by decide) (by decide)
    have nw : ∀ {t : Addr} {n : Int}, List.lookup ("with_rows" : Str) (plcF t n) = none := fun {t n} => plcF_no (by decide) (by decide)
    refine ⟨_, rfl, c1, rfl, ⟨_, SqL.of hc2⟩, fun D hD => lc_list (K := K) (a := c1) (xs := [V.ref f1, V.ref f2, V.ref f3, V.ref f4, V.ref f5]) (fun i H' => Same G H' ∧ ∃ acc, H' D = some (.lst acc) ∧ acc.length = i ∧ AllV H' acc ((dueV vs.length j nd).take i)) ⟨same_new hD, [], upd_same, rfl, .nil⟩ (fun i H' _ h => SqL.of (h.1 _ _ hc2)) ?_ ?_⟩
    · rintro i v H2 hi ⟨s2, acc, hacc, hl3, hall⟩
      have i5 := ix_lt hi
      have big : acc.length < sizeLine := by rw [hl3]; exact Nat.lt_of_lt_of_le (show i < 5 from i5) (by decide)
      have fin : ∀ (zs : List V), (dueV vs.length j nd)[i]? = some zs → ∀ (H' : Hp) (a' : Addr), Same H2 H' → H' a' = some (.tup zs) → ∃ acc, H' D = some (HO.lst acc) ∧ acc.length < sizeLine ∧ Same G (upd H' D (HO.lst (acc ++ [V.ref a']))) ∧ ∃ acc1, upd H' D (HO.lst (acc ++ [V.ref a'])) D = some (HO.lst acc1) ∧ acc1.length = i + 1 ∧ AllV (upd H' D (HO.lst (acc ++ [V.ref a']))) acc1 ((dueV vs.length j nd).take (i + 1)) := by
        intro zs hz H' a' s' ha'
        have hD3 := s' _ _ hacc
        refine ⟨acc, hD3, big, same_updL hD (s2.trans s'), _, upd_same, by simp [hl3], ?_⟩
        rw [take_snoc hz]
        exact AllV.updL (show AllV _ _ _ from Fa2.snoc (hall.same s') ⟨a', rfl, ha'⟩) hD3
      simp only [tVar, rIxTH, rIxLH, gTupH, line_le, HO.tup.injEq, HO.lst.injEq, List.length_cons, List.length_nil, at0, at1, rU, tOst, tTest, rIxL, rIxT, C8.tCut, cxOf_K, tC, tOp, tUn, tSeq, tAsg, tNext, tRet, tRetN, tDrop, tIfS, tNever, gName, gNil, gCons, gTup, gSub, tPar, rI, rI0, rU, rEq, rNe, tB, tAnd, tOr, tNot, tAndV, tOrV, tNotV, tIf, tTup, tLst, tNil, tCons, tCB, tCall, tMeth, tMake, tFld, sFld, tDGet, sDPut, tDisp, tPairs, tBreak, tCont, scal_ii, scal_bb, scal_ss, List.getElem?_cons_zero, List.getElem?_cons_succ, List.set_cons_zero, List.set_cons_succ, Option.some.injEq, exists_eq_left', exists_eq_left, exists_and_left, V.int.injEq, V.bl.injEq, V.ref.injEq, V.str.injEq, List.cons.injEq, and_true, true_and, Bool.true_eq, List.nil_append, List.append_nil, List.cons_append, exists_eq', and_self, reduceCtorEq, false_or, or_false, false_and, exists_false, exists_const, and_assoc, if_true, Bool.false_eq_true, if_false, Nat.reduceAdd, Nat.reduceLeDiff, Nat.zero_add, Nat.le_refl, forall_const, st_L_refusals_right, wipe, List.map_cons, List.map_nil, tYes, tRefV]
      obtain rfl | rfl | rfl | rfl | rfl : i = 0 ∨ i = 1 ∨ i = 2 ∨ i = 3 ∨ i = 4 := by have : i < 5 := i5; omega
      · cases hi
        refine ⟨_, rfl, _, LamK.same k1 s2, _, ⟨(lamS_by (sc := defScope s_L_refusals_right) (by decide +kernel)), fun _ _ _ _ _ => rfl, fun _ _ _ _ E _ _ hr => (pe_k g_Place hr (by decide) (passX rfl rfl rfl rfl) rfl (pa_cons (pv 10) (pa_cons (pv 9) pa_nil)))⟩, tref_in3 [.str "number", .str "size", .str nd.shown] (fun H0 Q0 E s0 bad badg badp => ?_) (fin [.str "number", .str "size", .str nd.shown] rfl)⟩
        have sG := s2.trans s0
        simp only [tVar, rIxTH, rIxLH, gTupH, line_le, HO.tup.injEq, HO.lst.injEq, List.length_cons, List.length_nil, at0, at1, rU, tOst, tTest, rIxL, rIxT, C8.tCut, cxOf_K, tC, tOp, tUn, tSeq, tAsg, tNext, tRet, tRetN, tDrop, tIfS, tNever, gName, gNil, gCons, gTup, gSub, tPar, rI, rI0, rU, rEq, rNe, tB, tAnd, tOr, tNot, tAndV, tOrV, tNotV, tIf, tTup, tLst, tNil, tCons, tCB, tCall, tMeth, tMake, tFld, sFld, tDGet, sDPut, tDisp, tPairs, tBreak, tCont, scal_ii, scal_bb, scal_ss, List.getElem?_cons_zero, List.getElem?_cons_succ, List.set_cons_zero, List.set_cons_succ, Option.some.injEq, exists_eq_left', exists_eq_left, exists_and_left, V.int.injEq, V.bl.injEq, V.ref.injEq, V.str.injEq, List.cons.injEq, and_true, true_and, Bool.true_eq, List.nil_append, List.append_nil, List.cons_append, exists_eq', and_self, reduceCtorEq, false_or, or_false, false_and, exists_false, exists_const, and_assoc, if_true, Bool.false_eq_true, if_false, Nat.reduceAdd, Nat.reduceLeDiff, Nat.zero_add, Nat.le_refl, forall_const, st_L_refusals_right]
        obtain ⟨i, tyf, hb⟩ := hnd.ty (C := C_Ratio) R
        exact nosize_plc (.inl (sG _ _ hbhE)) (by omega) (fun H' _ => tyf H') hb (bad "size" nsz nd rfl fun H' _ => hnd.rep)
      · cases hi
        refine ⟨_, rfl, _, LamK.same k2 s2, _, ⟨(lamS_by (sc := defScope s_L_refusals_right) (by decide +kernel)), fun _ _ _ _ _ => rfl, fun _ _ _ _ E _ _ hr => (pe_k g_Place hr (by decide) (passX rfl rfl rfl rfl) rfl (pa_cons (pv 10) (pa_cons (pv 3) pa_nil)))⟩, tref_in3 [.str "place", .int (j : Int)] (fun H0 Q0 E s0 bad badg badp => ?_) (fin [.str "place", .int (j : Int)] rfl)⟩
        have sG := s2.trans s0
        simp only [tVar, rIxTH, rIxLH, gTupH, line_le, HO.tup.injEq, HO.lst.injEq, List.length_cons, List.length_nil, at0, at1, rU, tOst, tTest, rIxL, rIxT, C8.tCut, cxOf_K, tC, tOp, tUn, tSeq, tAsg, tNext, tRet, tRetN, tDrop, tIfS, tNever, gName, gNil, gCons, gTup, gSub, tPar, rI, rI0, rU, rEq, rNe, tB, tAnd, tOr, tNot, tAndV, tOrV, tNotV, tIf, tTup, tLst, tNil, tCons, tCB, tCall, tMeth, tMake, tFld, sFld, tDGet, sDPut, tDisp, tPairs, tBreak, tCont, scal_ii, scal_bb, scal_ss, List.getElem?_cons_zero, List.getElem?_cons_succ, List.set_cons_zero, List.set_cons_succ, Option.some.injEq, exists_eq_left', exists_eq_left, exists_and_left, V.int.injEq, V.bl.injEq, V.ref.injEq, V.str.injEq, List.cons.injEq, and_true, true_and, Bool.true_eq, List.nil_append, List.append_nil, List.cons_append, exists_eq', and_self, reduceCtorEq, false_or, or_false, false_and, exists_false, exists_const, and_assoc, if_true, Bool.false_eq_true, if_false, Nat.reduceAdd, Nat.reduceLeDiff, Nat.zero_add, Nat.le_refl, forall_const, st_L_refusals_right]
        exact bad_plc R (.inl (sG _ _ hbhE)) (by omega) (cut_at hj) (by rw [cut_take hj]; exact fa2_take (hrE.same sG) j) (fun H' s' => (hodE.keep (Keep.same (sG.trans s'))).no kB) (badp _ rfl)
      · cases hi
        refine ⟨_, rfl, _, LamK.same k3 s2, _, ⟨(lamS_by (sc := defScope s_L_refusals_right) (by decide +kernel)), fun _ _ _ _ _ => rfl, fun _ _ _ _ E _ _ hr => (pe_m g_Place_with_rows hr (by decide) (passX rfl rfl rfl rfl) (pe_k g_Place hr (by decide) (passX rfl rfl rfl rfl) rfl (pa_cons (pv 4) (pa_cons (pv 3) pa_nil))) (pa_cons (pv 10) pa_nil))⟩, tref_in3 [.str "place", .int ((vs.length : Int) + j)] (fun H0 Q0 E s0 bad badg badp => ?_) (fin [.str "place", .int ((vs.length : Int) + j)] rfl)⟩
        have sG := s2.trans s0
        simp only [tVar, rIxTH, rIxLH, gTupH, line_le, HO.tup.injEq, HO.lst.injEq, List.length_cons, List.length_nil, at0, at1, rU, tOst, tTest, rIxL, rIxT, C8.tCut, cxOf_K, tC, tOp, tUn, tSeq, tAsg, tNext, tRet, tRetN, tDrop, tIfS, tNever, gName, gNil, gCons, gTup, gSub, tPar, rI, rI0, rU, rEq, rNe, tB, tAnd, tOr, tNot, tAndV, tOrV, tNotV, tIf, tTup, tLst, tNil, tCons, tCB, tCall, tMeth, tMake, tFld, sFld, tDGet, sDPut, tDisp, tPairs, tBreak, tCont, scal_ii, scal_bb, scal_ss, List.getElem?_cons_zero, List.getElem?_cons_succ, List.set_cons_zero, List.set_cons_succ, Option.some.injEq, exists_eq_left', exists_eq_left, exists_and_left, V.int.injEq, V.bl.injEq, V.ref.injEq, V.str.injEq, List.cons.injEq, and_true, true_and, Bool.true_eq, List.nil_append, List.append_nil, List.cons_append, exists_eq', and_self, reduceCtorEq, false_or, or_false, false_and, exists_false, exists_const, and_assoc, if_true, Bool.false_eq_true, if_false, Nat.reduceAdd, Nat.reduceLeDiff, Nat.zero_add, Nat.le_refl, forall_const, st_L_refusals_right]
        refine made_plc R (.inl (sG _ _ hgE)) (by omega) (hrE.same sG) fun H' y s' hy => ?_
        obtain ⟨ya, yd, yt, yxs, e, hya, _⟩ := id hy
        cases e
        have sH := sG.trans s'
        refine ⟨_, _, hya, nw, _, bh, n, ds, _, rfl, hy, by omega, .inl (sH _ _ hbhE), .inr ⟨j, od, ds.take j, cut_at hj, by rw [cut_take hj]; exact fa2_take (hrE.same sH) j, fun H'' s'' => (hodE.keep (Keep.same (sH.trans s''))).no kB, fun H'' d e1 e2 => badp ((ds.length + j : Nat) : Int) (by rw [lv]; push_cast; rfl) H'' d (s'.trans e1) e2⟩⟩
      · cases hi
        refine ⟨_, rfl, _, LamK.same k4 s2, _, ⟨(lamS_by (sc := defScope s_L_refusals_right) (by decide +kernel)), fun _ _ _ _ _ => rfl, fun _ _ _ _ E _ _ hr => (pe_m g_Place_holds hr (by decide) (passX rfl rfl rfl rfl) (pv 1) (pa_cons (pv 11) pa_nil))⟩, tref_in3 [.str "given", .str "point"] (fun H0 Q0 E s0 bad badg badp => ?_) (fin [.str "given", .str "point"] rfl)⟩
        have sG := s2.trans s0
        simp only [tVar, rIxTH, rIxLH, gTupH, line_le, HO.tup.injEq, HO.lst.injEq, List.length_cons, List.length_nil, at0, at1, rU, tOst, tTest, rIxL, rIxT, C8.tCut, cxOf_K, tC, tOp, tUn, tSeq, tAsg, tNext, tRet, tRetN, tDrop, tIfS, tNever, gName, gNil, gCons, gTup, gSub, tPar, rI, rI0, rU, rEq, rNe, tB, tAnd, tOr, tNot, tAndV, tOrV, tNotV, tIf, tTup, tLst, tNil, tCons, tCB, tCall, tMeth, tMake, tFld, sFld, tDGet, sDPut, tDisp, tPairs, tBreak, tCont, scal_ii, scal_bb, scal_ss, List.getElem?_cons_zero, List.getElem?_cons_succ, List.set_cons_zero, List.set_cons_succ, Option.some.injEq, exists_eq_left', exists_eq_left, exists_and_left, V.int.injEq, V.bl.injEq, V.ref.injEq, V.str.injEq, List.cons.injEq, and_true, true_and, Bool.true_eq, List.nil_append, List.append_nil, List.cons_append, exists_eq', and_self, reduceCtorEq, false_or, or_false, false_and, exists_false, exists_const, and_assoc, if_true, Bool.false_eq_true, if_false, Nat.reduceAdd, Nat.reduceLeDiff, Nat.zero_add, Nat.le_refl, forall_const, st_L_refusals_right]
        exact ⟨_, _, sG _ _ hxaE, nh, _, _, n, ds, rfl, hxE.same sG, .inr ⟨(hnpE.keep (Keep.same sG)).no R, badg "point" rfl⟩⟩
      · cases hi
        refine ⟨_, rfl, _, LamK.same k5 s2, _, ⟨(lamS_by (sc := defScope s_L_refusals_right) (by decide +kernel)), fun _ _ _ _ _ => rfl, fun _ _ _ _ E _ _ hr => (pe_m g_Place_closed_holds hr (by decide) (passX rfl rfl rfl rfl) (pv 1) (pa_cons (pv 11) pa_nil))⟩, tref_in3 [.str "given", .str "point"] (fun H0 Q0 E s0 bad badg badp => ?_) (fin [.str "given", .str "point"] rfl)⟩
        have sG := s2.trans s0
        simp only [tVar, rIxTH, rIxLH, gTupH, line_le, HO.tup.injEq, HO.lst.injEq, List.length_cons, List.length_nil, at0, at1, rU, tOst, tTest, rIxL, rIxT, C8.tCut, cxOf_K, tC, tOp, tUn, tSeq, tAsg, tNext, tRet, tRetN, tDrop, tIfS, tNever, gName, gNil, gCons, gTup, gSub, tPar, rI, rI0, rU, rEq, rNe, tB, tAnd, tOr, tNot, tAndV, tOrV, tNotV, tIf, tTup, tLst, tNil, tCons, tCB, tCall, tMeth, tMake, tFld, sFld, tDGet, sDPut, tDisp, tPairs, tBreak, tCont, scal_ii, scal_bb, scal_ss, List.getElem?_cons_zero, List.getElem?_cons_succ, List.set_cons_zero, List.set_cons_succ, Option.some.injEq, exists_eq_left', exists_eq_left, exists_and_left, V.int.injEq, V.bl.injEq, V.ref.injEq, V.str.injEq, List.cons.injEq, and_true, true_and, Bool.true_eq, List.nil_append, List.append_nil, List.cons_append, exists_eq', and_self, reduceCtorEq, false_or, or_false, false_and, exists_false, exists_const, and_assoc, if_true, Bool.false_eq_true, if_false, Nat.reduceAdd, Nat.reduceLeDiff, Nat.zero_add, Nat.le_refl, forall_const, st_L_refusals_right]
        exact ⟨_, _, sG _ _ hxaE, nc, _, _, n, ds, rfl, hxE.same sG, .inr ⟨(hnpE.keep (Keep.same sG)).no R, badg "point" rfl⟩⟩
    · rintro H2 ⟨s2, acc, hacc, hl3, hall⟩
      rw [List.take_of_length_le (Nat.le_of_ble_eq_true rfl)] at hall
      intro g1 hg1
      have u1 := same_new (o := HO.tup [V.str "given", V.str "point"]) hg1
      intro g2 hg2
      have u2 := same_new (o := HO.lst [V.ref g1]) hg2
      refine ⟨g2, 2, [V.ref g1], rfl, rfl, upd_same, by decide, by decide, line_le (Nat.le_of_ble_eq_true rfl), fun g3 hg3 => ?_⟩
      have u3 := same_new (o := HO.lst (List.replicate (2 : Int).toNat [V.ref g1]).flatten) hg3
      have u13 := (u1.trans u2).trans u3
      refine ⟨dd, g3, [V.ref d1, V.ref d2, V.ref d3], [V.ref g1, V.ref g1], rfl, rfl, u13 _ _ (s2 _ _ hd2'), upd_same, line_le (Nat.le_of_ble_eq_true rfl), fun g4 hg4 => ?_⟩
      have u4 := same_new (o := HO.lst ([V.ref d1, V.ref d2, V.ref d3] ++ [V.ref g1, V.ref g1])) hg4
      have u14 := u13.trans u4
      have okn := (OddN.rep (K := K) (H := G) hnd).ok
      have fl : ((dueV vs.length j nd).all fun z => z.all flatV) = true := by
        simp only [dueV, List.all_cons, List.all_nil, flatV, okn, Bool.and_true, Bool.true_and]
        decide +kernel
      have hall2 : AllV (upd (upd (upd (upd H2 g1 (HO.tup [V.str "given", V.str "point"])) g2 (HO.lst [V.ref g1])) g3 (HO.lst (List.replicate (2 : Int).toNat [V.ref g1]).flatten)) g4 (HO.lst ([V.ref d1, V.ref d2, V.ref d3] ++ [V.ref g1, V.ref g1]))) [V.ref d1, V.ref d2, V.ref d3, V.ref g1, V.ref g1] (dueV vs.length j nd) := by
        have gg : ∃ a, V.ref g1 = .ref a ∧ upd (upd (upd (upd H2 g1 (HO.tup [V.str "given", V.str "point"])) g2 (HO.lst [V.ref g1])) g3 (HO.lst (List.replicate (2 : Int).toNat [V.ref g1]).flatten)) g4 (HO.lst ([V.ref d1, V.ref d2, V.ref d3] ++ [V.ref g1, V.ref g1])) a = some (.tup [.str "given", .str "point"]) := ⟨g1, rfl, u4 _ _ (u3 _ _ (u2 _ _ upd_same))⟩
        exact Fa2.app (as := [V.ref d1, V.ref d2, V.ref d3]) ((hr2.same s2).same u14) (.cons gg (.cons gg .nil))
      refine eq_same (d := .list ((dueV vs.length j nd).map rowT)) (.lst (SqL.of (u14 _ _ hacc)) ((hall.same u14).dp fl)) (.lst (SqL.of upd_same) (hall2.dp fl)) (shaped_vs fl) ?_
      exact k _


end HwL
end

section
namespace HwL
open PySem PySem.Spec PyProof.Rows L2 LamX HwP
variable {P : Program} {w : World} {K : PySem.W.Frag} {mg : Str → Option Value} {base : Heap}

theorem isPlc_updL {CR CP CL D : Addr} {H : Hp} {x : V} {n : Nat} {ds : List (Rat × List Rat × Bool)} {acc : List V} {o : HO} (h : IsPlc CR CP CL H x n ds) (hD : H D = some (.lst acc)) : IsPlc CR CP CL (upd H D o) x n ds := by
  obtain ⟨a, dx, t, xs, h1, h2, h3, h4, h5⟩ := h
  exact ⟨a, dx, t, xs, h1, by rw [upd_ne (fun z => by rw [z, hD] at h2; cases h2)]; exact h2, by rw [upd_ne (fun z => by rw [z, hD] at h3; cases h3)]; exact h3, h4.updL hD, h5⟩
/-- the pen, the rows and the tables -/
structure LS (T : List (Addr × Str)) (H : Hp) (p l : Addr) (c : Int) (n : Nat) (a : Addr) (ys : List V) (ds : List (Rat × List Rat × Bool)) : Prop where
  pen : PenAt H p l c
  at_ : H a = some (.lst ys)
  rows : LRows H n ys ds
  tabs : Tabs T H
section
variable {T : List (Addr × Str)} {H H' : Hp} {p l a : Addr} {c : Int} {n : Nat} {ys : List V} {ds : List (Rat × List Rat × Bool)}
theorem LS.same (h : LS T H p l c n a ys ds) (s : Same H H') : LS T H' p l c n a ys ds := ⟨h.pen.same s, s _ _ h.at_, h.rows.same s, h.tabs.ext s⟩
theorem LS.ext {d : Int} (h : LS T H p l c n a ys ds) (x : Ext p H H') (pn : PenAt H' p l d) : LS T H' p l d n a ys ds := ⟨pn, x _ _ (lst_noPen h.pen h.at_) h.at_, h.rows.ext h.pen x, tabs_ext h.tabs h.pen x⟩
theorem LS.mono {d : Int} (h : LS T H p l c n a ys ds) (e : c ≤ d) : LS T H p l d n a ys ds := ⟨h.pen.mono e, h.at_, h.rows, h.tabs⟩
theorem LS.updL {D : Addr} {acc zs : List V} (h : LS T H p l c n a ys ds) (hD : H D = some (.lst acc)) (nl : D ≠ l) (na : D ≠ a) : LS T (upd H D (.lst zs)) p l c n a ys ds :=
  ⟨h.pen.put (lst_noPen h.pen hD) nl _, by rw [upd_ne na.symm]; exact h.at_, h.rows.updL hD, tabs_at h.tabs hD (fun ps z => by cases z) (fun c q z => by unfold CodeO at z; cases z) fun b u n e => by rw [upd_ne n]; exact e⟩
end
/-- .. and the two places -/
structure LS2 (K : PySem.W.Frag) (CR CP CL : Addr) (T : List (Addr × Str)) (H : Hp) (p l : Addr) (c : Int) (n : Nat) (a : Addr) (ys : List V) (ds : List (Rat × List Rat × Bool)) (pa k0 : Addr) (vs : List V) (m : Addr) (ms : List V) (es : List (Rat × List Rat × Bool)) (z : V) : Prop where
  ls : LS T H p l c n a ys ds
  pl : IsPlc CR CP CL H (.ref pa) n ds
  ke : H k0 = some (.lst vs)
  kr : Rows CR CP H n vs ds
  mo : H m = some (.lst ms)
  mr : LRows H n ms es
  wi : IsPlc CR CP CL H z n (ds ++ es)
section
variable {CR CP CL : Addr} {T : List (Addr × Str)} {H H' : Hp} {p l a pa k0 m : Addr} {c : Int} {n : Nat} {ys vs ms : List V} {ds es : List (Rat × List Rat × Bool)} {z : V}
theorem LS2.same (h : LS2 K CR CP CL T H p l c n a ys ds pa k0 vs m ms es z) (s : Same H H') : LS2 K CR CP CL T H' p l c n a ys ds pa k0 vs m ms es z :=
  ⟨h.ls.same s, h.pl.same s, s _ _ h.ke, h.kr.same s, s _ _ h.mo, h.mr.same s, h.wi.same s⟩
theorem LS2.ext {d : Int} (h : LS2 K CR CP CL T H p l c n a ys ds pa k0 vs m ms es z) (x : Ext p H H') (pn : PenAt H' p l d) : LS2 K CR CP CL T H' p l d n a ys ds pa k0 vs m ms es z :=
  ⟨h.ls.ext x pn, isPlc_ext h.pl h.ls.pen x, x _ _ (lst_noPen h.ls.pen h.ke) h.ke, rows_ext h.kr h.ls.pen x, x _ _ (lst_noPen h.ls.pen h.mo) h.mo, h.mr.ext h.ls.pen x, isPlc_ext h.wi h.ls.pen x⟩
end
theorem plc_run {CR CP CL : Addr} {H : Hp} {x y : V} {n m : Nat} {ds es : List (Rat × List Rat × Bool)} {Q : VK} {E : XK} (PL : PlcC K CL) (LI : PlcI K CL) (hx : IsPlc CR CP CL H x n ds) (hy : IsPlc CR CP CL H y m es) (k : ∀ H', Same H H' → Q (.bl (decide (n = m ∧ ds = es))) H') : rOwnEq K CL (spEqL K CR CP CL) E x y H Q := by
  obtain ⟨a, dx, t, xs, rfl, ha, _⟩ := id hx
  obtain ⟨b, dy, u, zs, rfl, hb, _⟩ := id hy
  exact ⟨⟨a, dx, _, rfl, ha⟩, ⟨.ref CL, .base (.ins hb PL.cl LI.ha LI.hn LI.htk LI.hm), by unfold PySem.W.notFirst; simp⟩, _, _, n, ds, rfl, hx, .inl ⟨m, es, hy, k⟩⟩
theorem plc_no {CR CP CL : Addr} {H : Hp} {x : V} {b : Addr} {ws : List V} {n : Nat} {ds : List (Rat × List Rat × Bool)} {Q : VK} {E : XK} (hx : IsPlc CR CP CL H x n ds) (hb : H b = some (.lst ws)) (kL : PySem.W.kitOne K (.type "list") (.ref CL) = some false) (nL : PySem.W.notFirst K CL (.type "list") = true) (k : Q (.bl false) H) : rOwnEq K CL (spEqL K CR CP CL) E x (.ref b) H Q := by
  obtain ⟨a, dx, t, xs, rfl, ha, _⟩ := id hx
  exact ⟨⟨a, dx, _, rfl, ha⟩, ⟨.type "list", .base (.lst hb), nL⟩, _, _, n, ds, rfl, hx, .inr ⟨.type "list", .base (.lst hb), kL, k⟩⟩
theorem fa2_rev {α β : Type} {R : α → β → Prop} {as : List α} {bs : List β} (h : Fa2 R as bs) : Fa2 R as.reverse bs.reverse := by
  induction h with
  | nil => exact .nil
  | cons h _ ih => rw [List.reverse_cons, List.reverse_cons]; exact Fa2.snoc ih h
def spLaw7 (K : PySem.W.Frag) (T : List (Addr × Str)) : Sp := fun vs H Q _ => ∃ (a : Addr) (ns : List Int), vs = [.ref a] ∧ SqL K H a (ns.map V.int) ∧ ns.length ≤ 63 ∧ Tabs T H ∧ ∀ H', Q (.bl true) H'
abbrev N_law : List Str := ["_law_script", "_law_pen_here", "_law_size", "_law_rows", "_law_given", "_law_place", "_law_kept", "_law_more", "_law_behind", "_law_wide", "_law_form", "_law_strict"]
theorem sc_law : FnScope N_law ["_law_script"] (defScope s_law) := ⟨rfl, rfl, rfl, by decide +kernel, rfl, by decide +kernel, by decide +kernel⟩
theorem st_law {v0 : V} : L2.start N_law [v0] = [some v0, none, none, none, none, none, none, none, none, none, none, none] := rfl
theorem ok_law {f : Addr} {fd : FuncData} (F : FD K s_law "law" "law" f fd) {C_Ratio C_Plane C_Place C_BadNumber C_BadPlace : Addr} {T : List (Addr × Str)} (RA : RatC K C_Ratio) (PL : PlcC K C_Place) (LI : PlcI K C_Place) (kL : PySem.W.kitOne K (.type "list") (.ref C_Place) = some false) (nL : PySem.W.notFirst K C_Place (.type "list") = true) (z_tuple : mg "tuple" = none) (z_list : mg "list" = none) (g_L_refusals_right : Gg P w K mg base "_law_refusals_right" 12 ["_law_pen_here", "_law_place", "_law_rows", "_law_size"] (spRefus3 K C_Ratio C_Plane C_Place T)) (g_PlaceD_eqD : Ef P w K mg base C_Place 7 (spEqL K C_Ratio C_Plane C_Place)) (g_L_as_place : Gf P w K mg base "_law_as_place" 10 ["_law_rows", "_law_size"] (spAsPlc C_Ratio C_Plane C_Place)) (g_L_bent : Gf P w K mg base "_law_bent" 4 ["_law_pen_here", "_law_rows"] (spBent)) (g_Place : Kf P w K mg base "Place" C_Place 4 ["self", "rows", "size"] [] (spPlcI K C_Ratio C_Plane C_Place C_BadNumber C_BadPlace)) (g_L_place_right : Gf P w K mg base "_law_place_right" 10 ["_law_place", "_law_rows", "_law_size"] (spPRight C_Ratio C_Plane C_Place)) (g_Place_with_rows : Mf P w K mg base C_Place "with_rows" 6 ["self", "rows"] (spWith K C_Ratio C_Plane C_Place C_BadPlace)) (g_L_pick : Gf P w K mg base "_law_pick" 2 ["_law_pen_here", "_law_some"] (spPick)) (g_L_as_plane : Gf P w K mg base "_law_as_plane" 9 ["_law_form"] (spAsP C_Ratio C_Plane)) (g_L_drawn_rows : Gf P w K mg base "_law_drawn_rows" 7 ["_law_pen_here", "_law_size", "_law_many"] (spRowsE 100 1100 3)) (g_L_belongs_right : Gf P w K mg base "_law_belongs_right" 10 ["_law_pen_here", "_law_place", "_law_rows", "_law_size"] (spBel C_Ratio C_Plane C_Place)) (g_L_draw : Gf P w K mg base "_law_draw" 1 ["_law_pen_here", "_law_many"] (spDraw)) (g_L_pen : Gf P w K mg base "_law_pen" 1 ["_law_script"] (spPen K)) : FnG P w K mg base (L2.CX P w) 13 f fd ["_law_script"] (spLaw7 K T) := by
  have nd := sc_law.nd
  refine F.okG sc_law (fun vs H Q E h => ?_) (fun A outer s H vs Q E hr hgd h => ?_)
  · obtain ⟨a, ns, rfl, _⟩ := h
    rfl
  · obtain ⟨a, ns, rfl, hS, hlen, hT, k⟩ := h
    refine ⟨_, (C8.pss_cut (ps_set (i := 1) nd rfl (Or.inl rfl) (pe_g g_L_pen hr (by decide) passL rfl (pa_cons (pv 0) pa_nil)))
        (C8.pss_cut (ps_set (i := 2) nd rfl (Or.inl rfl) (pe_g g_L_draw hr (by decide) passL rfl (pa_cons (pv 1) (pa_cons pe_int pa_nil))))
        (C8.pss_cut (ps_set (i := 3) nd rfl (Or.inl rfl) (pe_g g_L_drawn_rows hr (by decide) passL rfl (pa_cons (pv 1) (pa_cons (pv 2) (pa_cons pe_int pa_nil)))))
        (C8.pss_cut (ps_setLc (i := 4) (own := [("_law_form", 10), ("_law_strict", 11)]) rfl nd rfl rfl (sw_true rfl rfl rfl (by decide +kernel)) (pi_list (pv 3)) (blkOk_by (own := [("_law_form", 10), ("_law_strict", 11)]) (N := N_law) (sc := defScope s_law) (by decide +kernel)) (fun _ _ _ _ _ => (pg_tupH (n := 2) rfl (pgs_cons (pg_name (i := 10) nd rfl (Or.inl rfl)) (pgs_cons (pg_name (i := 11) nd rfl (Or.inl rfl)) pgs_nil)))) (fun _ _ _ _ _ => pts_nil) (fun _ _ _ _ _ => (pe_tup (pa_cons (pe_g g_L_as_plane hr (by decide) passL rfl (pa_cons (pv 10) pa_nil)) (pa_cons (pv 11) pa_nil)))))
        (C8.pss_cut (ps_par (i := 5) (j := 6) (by rfl) nd rfl rfl (by decide) rfl rfl (pa_cons (pe_k g_Place hr (by decide) passL rfl (pa_cons (pe_g g_L_pick hr (by decide) passL rfl (pa_cons (pv 1) (pa_cons (pe_lst (pa_cons (pv 4) (pa_cons (pe_callTy call_tuple_of (by rfl) z_tuple (by decide +kernel) (pa_cons (pv 4) pa_nil)) pa_nil))) pa_nil))) (pa_cons (pv 2) pa_nil))) (pa_cons (pe_callTy call_list_of (by rfl) z_list (by decide +kernel) (pa_cons (pv 4) pa_nil)) pa_nil)) (by rfl))
        (C8.pss_cut (ps_expr (pe_bm PySem.F.plainAttrs_list PySem.F.slot_list_append PySem.F.type_list_append mt_append (pv 4) (pa_cons pe_non pa_nil)))
        (C8.pss_cut (ps_if (PW.pt (pw_or (pt_not (pt_val (pe_g g_L_place_right hr (by decide) passL rfl (pa_cons (pv 5) (pa_cons (pv 3) (pa_cons (pv 2) pa_nil)))))) (pw_or1 (pt_not (pt_val (pe_g g_L_belongs_right hr (by decide) passL rfl (pa_cons (pv 1) (pa_cons (pv 5) (pa_cons (pv 3) (pa_cons (pv 2) pa_nil)))))))))) (pss_one (ps_ret pe_bl)) pss_nil)
        (C8.pss_cut (ps_set (i := 7) nd rfl (Or.inl rfl) (pe_g g_L_drawn_rows hr (by decide) passL rfl (pa_cons (pv 1) (pa_cons (pv 2) (pa_cons pe_int pa_nil)))))
        (C8.pss_cut (ps_setLc (i := 8) (own := [("_law_form", 10), ("_law_strict", 11)]) rfl nd rfl rfl (sw_true rfl rfl rfl (by decide +kernel)) (pi_list (pv 7)) (blkOk_by (own := [("_law_form", 10), ("_law_strict", 11)]) (N := N_law) (sc := defScope s_law) (by decide +kernel)) (fun _ _ _ _ _ => (pg_tupH (n := 2) rfl (pgs_cons (pg_name (i := 10) nd rfl (Or.inl rfl)) (pgs_cons (pg_name (i := 11) nd rfl (Or.inl rfl)) pgs_nil)))) (fun _ _ _ _ _ => pts_nil) (fun _ _ _ _ _ => (pe_tup (pa_cons (pe_g g_L_as_plane hr (by decide) passL rfl (pa_cons (pv 10) pa_nil)) (pa_cons (pv 11) pa_nil)))))
        (C8.pss_cut (ps_set (i := 9) nd rfl (Or.inl rfl) (pe_m g_Place_with_rows hr (by decide) passL (pv 5) (pa_cons (pe_g g_L_pick hr (by decide) passL rfl (pa_cons (pv 1) (pa_cons (pe_lst (pa_cons (pv 8) (pa_cons (pe_callTy call_tuple_of (by rfl) z_tuple (by decide +kernel) (pa_cons (pv 8) pa_nil)) pa_nil))) pa_nil))) pa_nil)))
        (C8.pss_cut (ps_expr (pe_bm PySem.F.plainAttrs_list PySem.F.slot_list_append PySem.F.type_list_append mt_append (pv 8) (pa_cons pe_non pa_nil)))
        (C8.pss_cut (ps_if (PW.pt (pw_or (pt_not (pt_val (pe_g g_L_place_right hr (by decide) passL rfl (pa_cons (pv 9) (pa_cons (pe_op op_cat (pv 3) (pv 7)) (pa_cons (pv 2) pa_nil)))))) (pw_or1 (pt_not (pt_val (pe_g g_L_place_right hr (by decide) passL rfl (pa_cons (pv 5) (pa_cons (pv 3) (pa_cons (pv 2) pa_nil))))))))) (pss_one (ps_ret pe_bl)) pss_nil)
        (C8.pss_cut (ps_if (pt_not (pt_val (pe_g g_L_place_right hr (by decide) passL rfl (pa_cons (pe_m g_Place_with_rows hr (by decide) passL (pv 5) (pa_cons (pe_fld (pv 5) rfl) pa_nil)) (pa_cons (pe_op op_cat (pv 3) (pv 3)) (pa_cons (pv 2) pa_nil)))))) (pss_one (ps_ret pe_bl)) pss_nil)
        (C8.pss_cut (ps_if (PW.pt (pw_or (pt_not (pt_cmpR (eq_o g_PlaceD_eqD hr (by decide) passL) (pv 5) (pe_k g_Place hr (by decide) passL rfl (pa_cons (pv 6) (pa_cons (pv 2) pa_nil))) (nomark _))) (pw_or (pt_cmpR (eq_o g_PlaceD_eqD hr (by decide) passL) (pv 5) (pv 3) (nomark _)) (pw_or1 (pt_cmpR op_ne (pe_cmpR (eq_o g_PlaceD_eqD hr (by decide) passL) (pv 9) (pv 5) (nomark _)) (pe_cmpR (op_eqD hr.units) (pv 7) (pe_lst pa_nil) (nomark _)) (nomark _)))))) (pss_one (ps_ret pe_bl)) pss_nil)
        (C8.pss_cut (ps_if (PW.pt (pw_and (pt_cmpR (op_eqD hr.units) (pv 3) (pe_lst pa_nil) (nomark _)) (pw_and (pt_cmpR op_ne (pv 2) pe_int (nomark _)) (pw_and1 (pt_cmpR (eq_o g_PlaceD_eqD hr (by decide) passL) (pv 5) (pe_k g_Place hr (by decide) passL rfl (pa_cons (pe_lst pa_nil) (pa_cons (pe_op op_sub (pv 2) pe_int) pa_nil))) (nomark _)))))) (pss_one (ps_ret pe_bl)) pss_nil)
        (C8.pss_cut (ps_if (PW.pt (pw_and (pt_cmpR (op_neD hr.units) (pv 3) (pe_lst pa_nil) (nomark _)) (pw_and1 (pt_cmpR (eq_o g_PlaceD_eqD hr (by decide) passL) (pv 5) (pe_g g_L_as_place hr (by decide) passL rfl (pa_cons (pe_g g_L_bent hr (by decide) passL rfl (pa_cons (pv 1) (pa_cons (pv 3) pa_nil))) (pa_cons (pv 2) pa_nil))) (nomark _))))) (pss_one (ps_ret pe_bl)) pss_nil)
        (C8.pss_cut (ps_if (pt_cmpR op_ne (pe_cmpR (eq_o g_PlaceD_eqD hr (by decide) passL) (pv 5) (pe_g g_L_as_place hr (by decide) passL rfl (pa_cons (pe_revL (pv 3)) (pa_cons (pv 2) pa_nil))) (nomark _)) (pe_cmpR (op_eqD hr.units) (pv 3) (pe_revL (pv 3)) (nomark _)) (nomark _)) (pss_one (ps_ret pe_bl)) pss_nil)
        (pss_one (ps_ret (pe_gg g_L_refusals_right hr hgd (by decide) passL rfl (pa_cons (pv 1) (pa_cons (pv 5) (pa_cons (pv 3) (pa_cons (pv 2) pa_nil)))))))))))))))))))))))), ?_⟩
    simp only [tVar, rIxTH, rIxLH, gTupH, line_le, HO.tup.injEq, HO.lst.injEq, List.length_cons, List.length_nil, at0, at1, rU, tOst, tTest, rIxL, rIxT, C8.tCut, cxOf_K, tC, tOp, tUn, tSeq, tAsg, tNext, tRet, tRetN, tDrop, tIfS, tNever, gName, gNil, gCons, gTup, gSub, tPar, rI, rI0, rU, rEq, rNe, tB, tAnd, tOr, tNot, tAndV, tOrV, tNotV, tIf, tTup, tLst, tNil, tCons, tCB, tCall, tMeth, tMake, tFld, sFld, tDGet, sDPut, tDisp, tPairs, tBreak, tCont, scal_ii, scal_bb, scal_ss, List.getElem?_cons_zero, List.getElem?_cons_succ, List.set_cons_zero, List.set_cons_succ, Option.some.injEq, exists_eq_left', exists_eq_left, exists_and_left, V.int.injEq, V.bl.injEq, V.ref.injEq, V.str.injEq, List.cons.injEq, and_true, true_and, Bool.true_eq, List.nil_append, List.append_nil, List.cons_append, exists_eq', and_self, reduceCtorEq, false_or, or_false, false_and, exists_false, exists_const, and_assoc, if_true, Bool.false_eq_true, if_false, Nat.reduceAdd, Nat.reduceLeDiff, Nat.zero_add, Nat.le_refl, forall_const, st_law]
    refine ⟨fun σ' H' => ∃ p l, σ' = [some (.ref a), some (.ref p), none, none, none, none, none, none, none, none, none, none] ∧ PenAt H' p l 0 ∧ Tabs T H', ?_, ?_⟩
    · exact ⟨a, ns, rfl, hS, hlen, fun H0 p l s0 hp0 hpen => ⟨p, l, rfl, hpen, hT.ext s0⟩⟩
    rintro σ' H1 ⟨p, l, rfl, p1, T1⟩
    refine ⟨fun σ' H' => ∃ n : Nat, σ' = [some (.ref a), some (.ref p), some (.int n), none, none, none, none, none, none, none, none, none] ∧ n ≤ 3 ∧ PenAt H' p l 1 ∧ Tabs T H', ?_, ?_⟩
    · refine ⟨_, rfl, p, l, 0, _, rfl, p1, by omega, by decide, small_draw (m := 4) (by decide), fun H2 u x2 p2 u0 u1 => ?_⟩
      exact ⟨u.toNat, by rw [Int.toNat_of_nonneg u0]; rfl, by omega, p2, tabs_ext T1 p1 x2⟩
    rintro σ' H2 ⟨n, rfl, hn, p2, T2⟩
    refine ⟨fun σ' H' => ∃ R ys ds, σ' = [some (.ref a), some (.ref p), some (.int n), some (.ref R), none, none, none, none, none, none, none, none] ∧ LS T H' p l 1101 n R ys ds ∧ ys.length ≤ 8 ∧ RBd 100 ds, ?_, ?_⟩
    · refine ⟨_, rfl, _, rfl, p, l, 1, n, 5, rfl, hn, by omega, by omega, p2, by omega, fun H3 R ys ds R0 x3 p3 hR hw ll bd => ⟨R, ys, ds, rfl, ⟨p3, hR, hw, tabs_ext T2 p2 x3⟩, ll, bd⟩⟩
    rintro σ' H3 ⟨R, ys, ds, rfl, L3, ll, bd⟩
    have lds := Fa2.len L3.rows
    refine ⟨fun σ' H' => ∃ G vs, σ' = [some (.ref a), some (.ref p), some (.int n), some (.ref R), some (.ref G), none, none, none, none, none, none, none] ∧ LS T H' p l 1101 n R ys ds ∧ H' G = some (.lst vs) ∧ Rows C_Ratio C_Plane H' n vs ds ∧ G ≠ R ∧ G ≠ l, ?_, ?_⟩
    · refine ⟨.ref R, rfl, R, rfl, ⟨_, SqL.of L3.at_⟩, fun D hD => lc_list (K := K) (a := R) (xs := ys) (fun i H' => Same H3 H' ∧ ∃ acc, H' D = some (.lst acc) ∧ acc.length = i ∧ Rows C_Ratio C_Plane H' n acc (ds.take i)) ⟨same_new hD, [], upd_same, rfl, .nil⟩ (fun i H' _ h => SqL.of (h.1 _ _ L3.at_)) ?_ ?_⟩
      · rintro i v G2 hi ⟨s2, acc, hacc, hl3, hall⟩
        obtain ⟨⟨q, qs, b1⟩, hd, t, f', rfl, ht, hf, lq⟩ := Fa2.get L3.rows hi
        have li := ix_lt hi
        simp only [tVar, rIxTH, rIxLH, gTupH, line_le, HO.tup.injEq, HO.lst.injEq, List.length_cons, List.length_nil, at0, at1, rU, tOst, tTest, rIxL, rIxT, C8.tCut, cxOf_K, tC, tOp, tUn, tSeq, tAsg, tNext, tRet, tRetN, tDrop, tIfS, tNever, gName, gNil, gCons, gTup, gSub, tPar, rI, rI0, rU, rEq, rNe, tB, tAnd, tOr, tNot, tAndV, tOrV, tNotV, tIf, tTup, tLst, tNil, tCons, tCB, tCall, tMeth, tMake, tFld, sFld, tDGet, sDPut, tDisp, tPairs, tBreak, tCont, scal_ii, scal_bb, scal_ss, List.getElem?_cons_zero, List.getElem?_cons_succ, List.set_cons_zero, List.set_cons_succ, Option.some.injEq, exists_eq_left', exists_eq_left, exists_and_left, V.int.injEq, V.bl.injEq, V.ref.injEq, V.str.injEq, List.cons.injEq, and_true, true_and, Bool.true_eq, List.nil_append, List.append_nil, List.cons_append, exists_eq', and_self, reduceCtorEq, false_or, or_false, false_and, exists_false, exists_const, and_assoc, if_true, Bool.false_eq_true, if_false, Nat.reduceAdd, Nat.reduceLeDiff, Nat.zero_add, Nat.le_refl, forall_const, st_law, wipe, List.map_cons, List.map_nil, tYes]
        have lq : qs.length = n := lq
        refine ⟨_, s2 _ _ ht, rfl, _, _, rfl, _, _, rfl, rfl, ?_⟩
        refine ⟨f', q, qs, rfl, hf.same s2, by omega, fun z hz => (bd _ (List.mem_of_getElem? hd) z hz).mono (by decide), fun G3 z s3 hz q1 hq1 => ?_⟩
        have s1 := same_new (o := HO.tup [z, V.bl b1]) hq1
        have hD1 := s1 _ _ (s3 _ _ hacc)
        refine ⟨acc, hD1, by rw [hl3]; exact Nat.lt_of_le_of_lt (show i ≤ 60 by omega) (by decide), same_updL hD ((s2.trans s3).trans s1), _, upd_same, by simp [hl3], ?_⟩
        rw [take_snoc hd]
        exact Rows.updL (show Rows _ _ _ _ _ _ from Fa2.snoc ((hall.same s3).same s1) ⟨q1, z, rfl, upd_same, hz.same s1, lq⟩) hD1
      · rintro G2 ⟨s2, acc, hacc, hl3, hall⟩
        rw [Fa2.len L3.rows, List.take_length] at hall
        exact ⟨D, acc, rfl, L3.same s2, hacc, hall, fun z => by (rw [z, L3.at_] at hD; cases hD), L3.pen.ne2 hD⟩
    rintro σ' H4 ⟨G, vs, rfl, L4, hG, hr4, GR, Gl⟩
    have lv := Fa2.len hr4
    refine ⟨fun σ' H' => ∃ pa K0, σ' = [some (.ref a), some (.ref p), some (.int n), some (.ref R), some (.ref G), some (.ref pa), some (.ref K0), none, none, none, none, none] ∧ LS T H' p l 1102 n R ys ds ∧ IsPlc C_Ratio C_Plane C_Place H' (.ref pa) n ds ∧ H' K0 = some (.lst vs) ∧ Rows C_Ratio C_Plane H' n vs ds ∧ H' G = some (.lst vs) ∧ K0 ≠ G, ?_, ?_⟩
    · simp only [tVar, rIxTH, rIxLH, gTupH, line_le, HO.tup.injEq, HO.lst.injEq, List.length_cons, List.length_nil, at0, at1, rU, tOst, tTest, rIxL, rIxT, C8.tCut, cxOf_K, tC, tOp, tUn, tSeq, tAsg, tNext, tRet, tRetN, tDrop, tIfS, tNever, gName, gNil, gCons, gTup, gSub, tPar, rI, rI0, rU, rEq, rNe, tB, tAnd, tOr, tNot, tAndV, tOrV, tNotV, tIf, tTup, tLst, tNil, tCons, tCB, tCall, tMeth, tMake, tFld, sFld, tDGet, sDPut, tDisp, tPairs, tBreak, tCont, scal_ii, scal_bb, scal_ss, List.getElem?_cons_zero, List.getElem?_cons_succ, List.set_cons_zero, List.set_cons_succ, Option.some.injEq, exists_eq_left', exists_eq_left, exists_and_left, V.int.injEq, V.bl.injEq, V.ref.injEq, V.str.injEq, List.cons.injEq, and_true, true_and, Bool.true_eq, List.nil_append, List.append_nil, List.cons_append, exists_eq', and_self, reduceCtorEq, false_or, or_false, false_and, exists_false, exists_const, and_assoc, if_true, Bool.false_eq_true, if_false, Nat.reduceAdd, Nat.reduceLeDiff, Nat.zero_add, Nat.le_refl, forall_const, st_law]
      refine ⟨vs, .inl ⟨SqL.of hG, fun t1 ht1 c1 hc1 => ?_⟩⟩
      have u1 := same_new (o := HO.tup vs) ht1
      have u2 := same_new (o := HO.lst [V.ref G, V.ref t1]) hc1
      have u12 := u1.trans u2
      have L5 := L4.same u12
      refine ⟨p, l, c1, _, _, rfl, L5.pen, by omega, upd_same, by simp, by simp, fun H5 i v x5 p5 hv => ?_⟩
      have x45 := (Ext.of (p := p) u12).trans x5
      have L6 := L5.ext x5 p5
      have hG5 := x45 _ _ (lst_noPen L4.pen hG) hG
      have ht5 : H5 t1 = some (.tup vs) := x5 _ _ (L4.pen.ne ht1) (u2 _ _ upd_same)
      have hr5 := rows_ext hr4 L4.pen x45
      obtain ⟨e, rfl, he⟩ : ∃ e, v = .ref e ∧ Sq0 H5 e vs := by
        match i, hv with
        | 0, h => exact ⟨G, (Option.some.inj h).symm, .inl hG5⟩
        | 1, h => exact ⟨t1, (Option.some.inj h).symm, .inr ht5⟩
      refine made_plc RA he (by omega) hr5 fun H6 pa s6 hP => ?_
      refine ⟨vs, .inl (SqL.of (s6 _ _ hG5)), fun K0 hK0 => ?_⟩
      have u7 := same_new (o := HO.lst vs) hK0
      have s67 := s6.trans u7
      exact ⟨(L6.same s67).mono (by omega), hP.same u7, upd_same, hr5.same s67, s67 _ _ hG5, fun z => by (rw [z, s6 _ _ hG5] at hK0; cases hK0)⟩
    rintro σ' H5 ⟨pa, K0, rfl, L5, hP5, hK5, hr5, hG5, KG⟩
    refine ⟨fun σ' H' => σ' = [some (.ref a), some (.ref p), some (.int n), some (.ref R), some (.ref G), some (.ref pa), some (.ref K0), none, none, none, none, none] ∧ LS T H' p l 1102 n R ys ds ∧ IsPlc C_Ratio C_Plane C_Place H' (.ref pa) n ds ∧ H' K0 = some (.lst vs) ∧ Rows C_Ratio C_Plane H' n vs ds, ?_, ?_⟩
    · simp only [tBM, tVar, rIxTH, rIxLH, gTupH, line_le, HO.tup.injEq, HO.lst.injEq, List.length_cons, List.length_nil, at0, at1, rU, tOst, tTest, rIxL, rIxT, C8.tCut, cxOf_K, tC, tOp, tUn, tSeq, tAsg, tNext, tRet, tRetN, tDrop, tIfS, tNever, gName, gNil, gCons, gTup, gSub, tPar, rI, rI0, rU, rEq, rNe, tB, tAnd, tOr, tNot, tAndV, tOrV, tNotV, tIf, tTup, tLst, tNil, tCons, tCB, tCall, tMeth, tMake, tFld, sFld, tDGet, sDPut, tDisp, tPairs, tBreak, tCont, scal_ii, scal_bb, scal_ss, List.getElem?_cons_zero, List.getElem?_cons_succ, List.set_cons_zero, List.set_cons_succ, Option.some.injEq, exists_eq_left', exists_eq_left, exists_and_left, V.int.injEq, V.bl.injEq, V.ref.injEq, V.str.injEq, List.cons.injEq, and_true, true_and, Bool.true_eq, List.nil_append, List.append_nil, List.cons_append, exists_eq', and_self, reduceCtorEq, false_or, or_false, false_and, exists_false, exists_const, and_assoc, if_true, Bool.false_eq_true, if_false, Nat.reduceAdd, Nat.reduceLeDiff, Nat.zero_add, Nat.le_refl, forall_const, st_law]
      refine ⟨.inl ⟨rfl, vs, SqL.of hG5⟩, ?_⟩
      exact ⟨G, vs, .non, rfl, rfl, hG5, line_le (by omega), L5.updL hG5 Gl GR, isPlc_updL hP5 hG5, by rw [upd_ne KG]; exact hK5, hr5.updL hG5⟩
    rintro σ' H6 ⟨rfl, L6, hP6, hK6, hr6⟩
    refine ⟨fun σ' H' => σ' = [some (.ref a), some (.ref p), some (.int n), some (.ref R), some (.ref G), some (.ref pa), some (.ref K0), none, none, none, none, none] ∧ LS T H' p l 1402 n R ys ds ∧ IsPlc C_Ratio C_Plane C_Place H' (.ref pa) n ds ∧ H' K0 = some (.lst vs) ∧ Rows C_Ratio C_Plane H' n vs ds, ?_, ?_⟩
    · simp only [tVar, rIxTH, rIxLH, gTupH, line_le, HO.tup.injEq, HO.lst.injEq, List.length_cons, List.length_nil, at0, at1, rU, tOst, tTest, rIxL, rIxT, C8.tCut, cxOf_K, tC, tOp, tUn, tSeq, tAsg, tNext, tRet, tRetN, tDrop, tIfS, tNever, gName, gNil, gCons, gTup, gSub, tPar, rI, rI0, rU, rEq, rNe, tB, tAnd, tOr, tNot, tAndV, tOrV, tNotV, tIf, tTup, tLst, tNil, tCons, tCB, tCall, tMeth, tMake, tFld, sFld, tDGet, sDPut, tDisp, tPairs, tBreak, tCont, scal_ii, scal_bb, scal_ss, List.getElem?_cons_zero, List.getElem?_cons_succ, List.set_cons_zero, List.set_cons_succ, Option.some.injEq, exists_eq_left', exists_eq_left, exists_and_left, V.int.injEq, V.bl.injEq, V.ref.injEq, V.str.injEq, List.cons.injEq, and_true, true_and, Bool.true_eq, List.nil_append, List.append_nil, List.cons_append, exists_eq', and_self, reduceCtorEq, false_or, or_false, false_and, exists_false, exists_const, and_assoc, if_true, Bool.false_eq_true, if_false, Nat.reduceAdd, Nat.reduceLeDiff, Nat.zero_add, Nat.le_refl, forall_const, st_law]
      refine ⟨.ref pa, R, n, ys, ds, rfl, hP6, L6.at_, L6.rows, by omega, bd.mono (by decide), fun H7 s7 => ⟨_, rfl, iteF ?_⟩⟩
      have L7 := L6.same s7
      refine ⟨p, l, R, .ref pa, 1102, n, ys, ds, rfl, hn, L7.pen, by omega, hP6.same s7, L7.at_, L7.rows, by omega, bd, fun H8 x8 p8 => ⟨_, rfl, iteF ?_⟩⟩
      exact ⟨(L7.ext x8 p8).mono (by omega), isPlc_ext (hP6.same s7) L7.pen x8, x8 _ _ (lst_noPen L7.pen (s7 _ _ hK6)) (s7 _ _ hK6), rows_ext (hr6.same s7) L7.pen x8⟩
    rintro σ' H7 ⟨rfl, L7, hP7, hK7, hr7⟩
    refine ⟨fun σ' H' => ∃ M ms es, σ' = [some (.ref a), some (.ref p), some (.int n), some (.ref R), some (.ref G), some (.ref pa), some (.ref K0), some (.ref M), none, none, none, none] ∧ LS T H' p l 2502 n R ys ds ∧ IsPlc C_Ratio C_Plane C_Place H' (.ref pa) n ds ∧ H' K0 = some (.lst vs) ∧ Rows C_Ratio C_Plane H' n vs ds ∧ H' M = some (.lst ms) ∧ LRows H' n ms es ∧ ms.length ≤ 5 ∧ RBd 100 es, ?_, ?_⟩
    · exact ⟨_, rfl, _, rfl, p, l, 1402, n, 2, rfl, hn, by omega, by omega, L7.pen, by omega, fun H8 M ms es M0 x8 p8 hM hmw lm bm => ⟨M, ms, es, rfl, (L7.ext x8 p8).mono (by omega), isPlc_ext hP7 L7.pen x8, x8 _ _ (lst_noPen L7.pen hK7) hK7, rows_ext hr7 L7.pen x8, hM, hmw, by omega, bm⟩⟩
    rintro σ' H8 ⟨M, ms, es, rfl, L8, hP8, hK8, hr8, hM8, hmw8, lm, bm⟩
    refine ⟨fun σ' H' => ∃ B ws, σ' = [some (.ref a), some (.ref p), some (.int n), some (.ref R), some (.ref G), some (.ref pa), some (.ref K0), some (.ref M), some (.ref B), none, none, none] ∧ LS T H' p l 2502 n R ys ds ∧ IsPlc C_Ratio C_Plane C_Place H' (.ref pa) n ds ∧ H' K0 = some (.lst vs) ∧ Rows C_Ratio C_Plane H' n vs ds ∧ H' M = some (.lst ms) ∧ LRows H' n ms es ∧ H' B = some (.lst ws) ∧ Rows C_Ratio C_Plane H' n ws es ∧ B ≠ R ∧ B ≠ l ∧ B ≠ K0 ∧ B ≠ M, ?_, ?_⟩
    · refine ⟨.ref M, rfl, M, rfl, ⟨_, SqL.of hM8⟩, fun D hD => lc_list (K := K) (a := M) (xs := ms) (fun i H' => Same H8 H' ∧ ∃ acc, H' D = some (.lst acc) ∧ acc.length = i ∧ Rows C_Ratio C_Plane H' n acc (es.take i)) ⟨same_new hD, [], upd_same, rfl, .nil⟩ (fun i H' _ h => SqL.of (h.1 _ _ hM8)) ?_ ?_⟩
      · rintro i v G2 hi ⟨s2, acc, hacc, hl3, hall⟩
        obtain ⟨⟨q, qs, b1⟩, hd, t, f', rfl, ht, hf, lq⟩ := Fa2.get hmw8 hi
        have li := ix_lt hi
        simp only [tVar, rIxTH, rIxLH, gTupH, line_le, HO.tup.injEq, HO.lst.injEq, List.length_cons, List.length_nil, at0, at1, rU, tOst, tTest, rIxL, rIxT, C8.tCut, cxOf_K, tC, tOp, tUn, tSeq, tAsg, tNext, tRet, tRetN, tDrop, tIfS, tNever, gName, gNil, gCons, gTup, gSub, tPar, rI, rI0, rU, rEq, rNe, tB, tAnd, tOr, tNot, tAndV, tOrV, tNotV, tIf, tTup, tLst, tNil, tCons, tCB, tCall, tMeth, tMake, tFld, sFld, tDGet, sDPut, tDisp, tPairs, tBreak, tCont, scal_ii, scal_bb, scal_ss, List.getElem?_cons_zero, List.getElem?_cons_succ, List.set_cons_zero, List.set_cons_succ, Option.some.injEq, exists_eq_left', exists_eq_left, exists_and_left, V.int.injEq, V.bl.injEq, V.ref.injEq, V.str.injEq, List.cons.injEq, and_true, true_and, Bool.true_eq, List.nil_append, List.append_nil, List.cons_append, exists_eq', and_self, reduceCtorEq, false_or, or_false, false_and, exists_false, exists_const, and_assoc, if_true, Bool.false_eq_true, if_false, Nat.reduceAdd, Nat.reduceLeDiff, Nat.zero_add, Nat.le_refl, forall_const, st_law, wipe, List.map_cons, List.map_nil, tYes]
        have lq : qs.length = n := lq
        refine ⟨_, s2 _ _ ht, rfl, _, _, rfl, _, _, rfl, rfl, ?_⟩
        refine ⟨f', q, qs, rfl, hf.same s2, by omega, fun z hz => (bm _ (List.mem_of_getElem? hd) z hz).mono (by decide), fun G3 z s3 hz q1 hq1 => ?_⟩
        have s1 := same_new (o := HO.tup [z, V.bl b1]) hq1
        have hD1 := s1 _ _ (s3 _ _ hacc)
        refine ⟨acc, hD1, by rw [hl3]; exact Nat.lt_of_le_of_lt (show i ≤ 60 by omega) (by decide), same_updL hD ((s2.trans s3).trans s1), _, upd_same, by simp [hl3], ?_⟩
        rw [take_snoc hd]
        exact Rows.updL (show Rows _ _ _ _ _ _ from Fa2.snoc ((hall.same s3).same s1) ⟨q1, z, rfl, upd_same, hz.same s1, lq⟩) hD1
      · rintro G2 ⟨s2, acc, hacc, hl3, hall⟩
        rw [Fa2.len hmw8, List.take_length] at hall
        exact ⟨D, acc, rfl, L8.same s2, hP8.same s2, s2 _ _ hK8, hr8.same s2, s2 _ _ hM8, hmw8.same s2, hacc, hall, fun z => by (rw [z, L8.at_] at hD; cases hD), L8.pen.ne2 hD, fun z => by (rw [z, hK8] at hD; cases hD), fun z => by (rw [z, hM8] at hD; cases hD)⟩
    rintro σ' H9 ⟨B, ws, rfl, L9, hP9, hK9, hr9, hM9, hmw9, hB9, hrB9, BR, Bl, BK, BM⟩
    have lw := Fa2.len hrB9
    have les := Fa2.len hmw9
    refine ⟨fun σ' H' => ∃ z, σ' = [some (.ref a), some (.ref p), some (.int n), some (.ref R), some (.ref G), some (.ref pa), some (.ref K0), some (.ref M), some (.ref B), some z, none, none] ∧ LS2 K C_Ratio C_Plane C_Place T H' p l 2503 n R ys ds pa K0 vs M ms es z ∧ H' B = some (.lst ws), ?_, ?_⟩
    · obtain ⟨xa, xd, xt, xxs, e, hxa, _⟩ := id hP9
      cases e
      have nw : ∀ {t : Addr} {n : Int}, List.lookup ("with_rows" : Str) (plcF t n) = none := fun {t n} => plcF_no (by decide) (by decide)
      simp only [tVar, rIxTH, rIxLH, gTupH, line_le, HO.tup.injEq, HO.lst.injEq, List.length_cons, List.length_nil, at0, at1, rU, tOst, tTest, rIxL, rIxT, C8.tCut, cxOf_K, tC, tOp, tUn, tSeq, tAsg, tNext, tRet, tRetN, tDrop, tIfS, tNever, gName, gNil, gCons, gTup, gSub, tPar, rI, rI0, rU, rEq, rNe, tB, tAnd, tOr, tNot, tAndV, tOrV, tNotV, tIf, tTup, tLst, tNil, tCons, tCB, tCall, tMeth, tMake, tFld, sFld, tDGet, sDPut, tDisp, tPairs, tBreak, tCont, scal_ii, scal_bb, scal_ss, List.getElem?_cons_zero, List.getElem?_cons_succ, List.set_cons_zero, List.set_cons_succ, Option.some.injEq, exists_eq_left', exists_eq_left, exists_and_left, V.int.injEq, V.bl.injEq, V.ref.injEq, V.str.injEq, List.cons.injEq, and_true, true_and, Bool.true_eq, List.nil_append, List.append_nil, List.cons_append, exists_eq', and_self, reduceCtorEq, false_or, or_false, false_and, exists_false, exists_const, and_assoc, if_true, Bool.false_eq_true, if_false, Nat.reduceAdd, Nat.reduceLeDiff, Nat.zero_add, Nat.le_refl, forall_const, st_law]
      refine ⟨_, _, hxa, nw, ?_⟩
      refine ⟨ws, .inl ⟨SqL.of hB9, fun t1 ht1 c1 hc1 => ?_⟩⟩
      have u1 := same_new (o := HO.tup ws) ht1
      have u2 := same_new (o := HO.lst [V.ref B, V.ref t1]) hc1
      have u12 := u1.trans u2
      have L10 := L9.same u12
      refine ⟨p, l, c1, _, _, rfl, L10.pen, by omega, upd_same, by simp, by simp, fun H5 i v x5 p5 hv => ?_⟩
      have x45 := (Ext.of (p := p) u12).trans x5
      have hB5 := x45 _ _ (lst_noPen L9.pen hB9) hB9
      have ht5 : H5 t1 = some (.tup ws) := x5 _ _ (L9.pen.ne ht1) (u2 _ _ upd_same)
      obtain ⟨e, rfl, he⟩ : ∃ e, v = .ref e ∧ Sq0 H5 e ws := by
        match i, hv with
        | 0, h => exact ⟨B, (Option.some.inj h).symm, .inl hB5⟩
        | 1, h => exact ⟨t1, (Option.some.inj h).symm, .inr ht5⟩
      refine ⟨_, e, n, ds, ws, rfl, isPlc_ext hP9 L9.pen x45, by omega, he, .inl ⟨es, rows_ext hrB9 L9.pen x45, fun H6 z s6 hz => ?_⟩⟩
      exact ⟨⟨((L10.ext x5 p5).same s6).mono (by omega), (isPlc_ext hP9 L9.pen x45).same s6, s6 _ _ (x45 _ _ (lst_noPen L9.pen hK9) hK9), (rows_ext hr9 L9.pen x45).same s6, s6 _ _ (x45 _ _ (lst_noPen L9.pen hM9) hM9), (hmw9.ext L9.pen x45).same s6, hz⟩, s6 _ _ hB5⟩
    rintro σ' H10 ⟨z, rfl, N10, hB10⟩
    refine ⟨fun σ' H' => σ' = [some (.ref a), some (.ref p), some (.int n), some (.ref R), some (.ref G), some (.ref pa), some (.ref K0), some (.ref M), some (.ref B), some z, none, none] ∧ LS2 K C_Ratio C_Plane C_Place T H' p l 2503 n R ys ds pa K0 vs M ms es z, ?_, ?_⟩
    · simp only [tBM, tVar, rIxTH, rIxLH, gTupH, line_le, HO.tup.injEq, HO.lst.injEq, List.length_cons, List.length_nil, at0, at1, rU, tOst, tTest, rIxL, rIxT, C8.tCut, cxOf_K, tC, tOp, tUn, tSeq, tAsg, tNext, tRet, tRetN, tDrop, tIfS, tNever, gName, gNil, gCons, gTup, gSub, tPar, rI, rI0, rU, rEq, rNe, tB, tAnd, tOr, tNot, tAndV, tOrV, tNotV, tIf, tTup, tLst, tNil, tCons, tCB, tCall, tMeth, tMake, tFld, sFld, tDGet, sDPut, tDisp, tPairs, tBreak, tCont, scal_ii, scal_bb, scal_ss, List.getElem?_cons_zero, List.getElem?_cons_succ, List.set_cons_zero, List.set_cons_succ, Option.some.injEq, exists_eq_left', exists_eq_left, exists_and_left, V.int.injEq, V.bl.injEq, V.ref.injEq, V.str.injEq, List.cons.injEq, and_true, true_and, Bool.true_eq, List.nil_append, List.append_nil, List.cons_append, exists_eq', and_self, reduceCtorEq, false_or, or_false, false_and, exists_false, exists_const, and_assoc, if_true, Bool.false_eq_true, if_false, Nat.reduceAdd, Nat.reduceLeDiff, Nat.zero_add, Nat.le_refl, forall_const, st_law]
      refine ⟨.inl ⟨rfl, ws, SqL.of hB10⟩, ?_⟩
      exact ⟨B, ws, .non, rfl, rfl, hB10, line_le (by omega), ⟨N10.ls.updL hB10 Bl BR, isPlc_updL N10.pl hB10, by rw [upd_ne BK.symm]; exact N10.ke, N10.kr.updL hB10, by rw [upd_ne BM.symm]; exact N10.mo, N10.mr.updL hB10, isPlc_updL N10.wi hB10⟩⟩
    rintro σ' H11 ⟨rfl, N11⟩
    have hwm : ∀ {H : Hp} {cat : Addr}, LRows H n ys ds → LRows H n ms es → LRows H n (ys ++ ms) (ds ++ es) := fun {H cat} h1 h2 => Fa2.app h1 h2
    refine ⟨fun σ' H' => σ' = [some (.ref a), some (.ref p), some (.int n), some (.ref R), some (.ref G), some (.ref pa), some (.ref K0), some (.ref M), some (.ref B), some z, none, none] ∧ LS2 K C_Ratio C_Plane C_Place T H' p l 2503 n R ys ds pa K0 vs M ms es z, ?_, ?_⟩
    · simp only [tVar, rIxTH, rIxLH, gTupH, line_le, HO.tup.injEq, HO.lst.injEq, List.length_cons, List.length_nil, at0, at1, rU, tOst, tTest, rIxL, rIxT, C8.tCut, cxOf_K, tC, tOp, tUn, tSeq, tAsg, tNext, tRet, tRetN, tDrop, tIfS, tNever, gName, gNil, gCons, gTup, gSub, tPar, rI, rI0, rU, rEq, rNe, tB, tAnd, tOr, tNot, tAndV, tOrV, tNotV, tIf, tTup, tLst, tNil, tCons, tCB, tCall, tMeth, tMake, tFld, sFld, tDGet, sDPut, tDisp, tPairs, tBreak, tCont, scal_ii, scal_bb, scal_ss, List.getElem?_cons_zero, List.getElem?_cons_succ, List.set_cons_zero, List.set_cons_succ, Option.some.injEq, exists_eq_left', exists_eq_left, exists_and_left, V.int.injEq, V.bl.injEq, V.ref.injEq, V.str.injEq, List.cons.injEq, and_true, true_and, Bool.true_eq, List.nil_append, List.append_nil, List.cons_append, exists_eq', and_self, reduceCtorEq, false_or, or_false, false_and, exists_false, exists_const, and_assoc, if_true, Bool.false_eq_true, if_false, Nat.reduceAdd, Nat.reduceLeDiff, Nat.zero_add, Nat.le_refl, forall_const, st_law]
      refine ⟨R, M, _, _, rfl, rfl, N11.ls.at_, N11.mo, line_le (by omega), fun c1 hc1 => ?_⟩
      have u1 := same_new (o := HO.lst (ys ++ ms)) hc1
      have N12 := N11.same u1
      refine ⟨z, c1, n, _, _, rfl, N12.wi, upd_same, Fa2.app N12.ls.rows N12.mr, by omega, RBd.app (bd.mono (by decide)) (bm.mono (by decide)), fun H13 s13 => ⟨_, rfl, iteF ?_⟩⟩
      have N13 := N12.same s13
      exact ⟨.ref pa, R, n, ys, ds, rfl, N13.pl, N13.ls.at_, N13.ls.rows, by omega, bd.mono (by decide), fun H14 s14 => ⟨_, rfl, iteF (N13.same s14)⟩⟩
    rintro σ' H12 ⟨rfl, N12⟩
    refine ⟨fun σ' H' => σ' = [some (.ref a), some (.ref p), some (.int n), some (.ref R), some (.ref G), some (.ref pa), some (.ref K0), some (.ref M), some (.ref B), some z, none, none] ∧ LS2 K C_Ratio C_Plane C_Place T H' p l 2503 n R ys ds pa K0 vs M ms es z, ?_, ?_⟩
    · obtain ⟨xa, xd, xt, xxs, e, hxa, hxt, hxr, hxl⟩ := id N12.pl
      cases e
      have nw : ∀ {t : Addr} {n : Int}, List.lookup ("with_rows" : Str) (plcF t n) = none := fun {t n} => plcF_no (by decide) (by decide)
      have l1 : List.lookup ("rows" : Str) (plcF xt n) = some (V.ref xt) := lkA
      have lxx := Fa2.len hxr
      simp only [tVar, rIxTH, rIxLH, gTupH, line_le, HO.tup.injEq, HO.lst.injEq, List.length_cons, List.length_nil, at0, at1, rU, tOst, tTest, rIxL, rIxT, C8.tCut, cxOf_K, tC, tOp, tUn, tSeq, tAsg, tNext, tRet, tRetN, tDrop, tIfS, tNever, gName, gNil, gCons, gTup, gSub, tPar, rI, rI0, rU, rEq, rNe, tB, tAnd, tOr, tNot, tAndV, tOrV, tNotV, tIf, tTup, tLst, tNil, tCons, tCB, tCall, tMeth, tMake, tFld, sFld, tDGet, sDPut, tDisp, tPairs, tBreak, tCont, scal_ii, scal_bb, scal_ss, List.getElem?_cons_zero, List.getElem?_cons_succ, List.set_cons_zero, List.set_cons_succ, Option.some.injEq, exists_eq_left', exists_eq_left, exists_and_left, V.int.injEq, V.bl.injEq, V.ref.injEq, V.str.injEq, List.cons.injEq, and_true, true_and, Bool.true_eq, List.nil_append, List.append_nil, List.cons_append, exists_eq', and_self, reduceCtorEq, false_or, or_false, false_and, exists_false, exists_const, and_assoc, if_true, Bool.false_eq_true, if_false, Nat.reduceAdd, Nat.reduceLeDiff, Nat.zero_add, Nat.le_refl, forall_const, st_law]
      refine ⟨_, _, hxa, nw, _, _, _, hxa, PL.cl, PL.nr, _, l1, _, xt, n, ds, xxs, rfl, N12.pl, by omega, .inr hxt, .inl ⟨ds, hxr, fun H13 y s13 hy => ?_⟩⟩
      have N13 := N12.same s13
      refine ⟨R, R, _, _, rfl, rfl, N13.ls.at_, N13.ls.at_, line_le (by omega), fun c1 hc1 => ?_⟩
      have u1 := same_new (o := HO.lst (ys ++ ys)) hc1
      have N14 := N13.same u1
      exact ⟨y, c1, n, _, _, rfl, hy.same u1, upd_same, Fa2.app N14.ls.rows N14.ls.rows, by omega, RBd.app (bd.mono (by decide)) (bd.mono (by decide)), fun H15 s15 => ⟨_, rfl, iteF (N14.same s15)⟩⟩
    rintro σ' H13 ⟨rfl, N13⟩
    refine ⟨fun σ' H' => σ' = [some (.ref a), some (.ref p), some (.int n), some (.ref R), some (.ref G), some (.ref pa), some (.ref K0), some (.ref M), some (.ref B), some z, none, none] ∧ LS2 K C_Ratio C_Plane C_Place T H' p l 2503 n R ys ds pa K0 vs M ms es z, ?_, ?_⟩
    · simp only [tVar, rIxTH, rIxLH, gTupH, line_le, HO.tup.injEq, HO.lst.injEq, List.length_cons, List.length_nil, at0, at1, rU, tOst, tTest, rIxL, rIxT, C8.tCut, cxOf_K, tC, tOp, tUn, tSeq, tAsg, tNext, tRet, tRetN, tDrop, tIfS, tNever, gName, gNil, gCons, gTup, gSub, tPar, rI, rI0, rU, rEq, rNe, tB, tAnd, tOr, tNot, tAndV, tOrV, tNotV, tIf, tTup, tLst, tNil, tCons, tCB, tCall, tMeth, tMake, tFld, sFld, tDGet, sDPut, tDisp, tPairs, tBreak, tCont, scal_ii, scal_bb, scal_ss, List.getElem?_cons_zero, List.getElem?_cons_succ, List.set_cons_zero, List.set_cons_succ, Option.some.injEq, exists_eq_left', exists_eq_left, exists_and_left, V.int.injEq, V.bl.injEq, V.ref.injEq, V.str.injEq, List.cons.injEq, and_true, true_and, Bool.true_eq, List.nil_append, List.append_nil, List.cons_append, exists_eq', and_self, reduceCtorEq, false_or, or_false, false_and, exists_false, exists_const, and_assoc, if_true, Bool.false_eq_true, if_false, Nat.reduceAdd, Nat.reduceLeDiff, Nat.zero_add, Nat.le_refl, forall_const, st_law]
      refine made_plc RA (.inl N13.ke) (by omega) N13.kr fun H14 y s14 hy => ?_
      have N14 := N13.same s14
      refine plc_run PL LI N14.pl hy fun H15 s15 => ⟨_, rfl, iteF' (by simp) ?_⟩
      have N15 := N14.same s15
      refine plc_no N15.pl N15.ls.at_ kL nL ⟨_, rfl, iteF ?_⟩
      refine plc_run PL LI N15.wi N15.pl fun H16 s16 => ?_
      have N16 := N15.same s16
      intro c1 hc1
      have u1 := same_new (o := HO.lst []) hc1
      have N17 := N16.same u1
      refine eq_rows N17.mo N17.mr upd_same (m := n) (es := []) .nil ?_
      have e : decide (n = n ∧ ds ++ es = ds) = decide (es = []) := decide_eq_decide.mpr ⟨fun z => by simpa using z.2, fun z => ⟨rfl, by rw [z, List.append_nil]⟩⟩
      rw [e]
      exact ⟨rfl, iteF' (by simp) N17⟩
    rintro σ' H14 ⟨rfl, N14⟩
    refine ⟨fun σ' H' => σ' = [some (.ref a), some (.ref p), some (.int n), some (.ref R), some (.ref G), some (.ref pa), some (.ref K0), some (.ref M), some (.ref B), some z, none, none] ∧ LS2 K C_Ratio C_Plane C_Place T H' p l 2503 n R ys ds pa K0 vs M ms es z, ?_, ?_⟩
    · simp only [tVar, rIxTH, rIxLH, gTupH, line_le, HO.tup.injEq, HO.lst.injEq, List.length_cons, List.length_nil, at0, at1, rU, tOst, tTest, rIxL, rIxT, C8.tCut, cxOf_K, tC, tOp, tUn, tSeq, tAsg, tNext, tRet, tRetN, tDrop, tIfS, tNever, gName, gNil, gCons, gTup, gSub, tPar, rI, rI0, rU, rEq, rNe, tB, tAnd, tOr, tNot, tAndV, tOrV, tNotV, tIf, tTup, tLst, tNil, tCons, tCB, tCall, tMeth, tMake, tFld, sFld, tDGet, sDPut, tDisp, tPairs, tBreak, tCont, scal_ii, scal_bb, scal_ss, List.getElem?_cons_zero, List.getElem?_cons_succ, List.set_cons_zero, List.set_cons_succ, Option.some.injEq, exists_eq_left', exists_eq_left, exists_and_left, V.int.injEq, V.bl.injEq, V.ref.injEq, V.str.injEq, List.cons.injEq, and_true, true_and, Bool.true_eq, List.nil_append, List.append_nil, List.cons_append, exists_eq', and_self, reduceCtorEq, false_or, or_false, false_and, exists_false, exists_const, and_assoc, if_true, Bool.false_eq_true, if_false, Nat.reduceAdd, Nat.reduceLeDiff, Nat.zero_add, Nat.le_refl, forall_const, st_law]
      intro c1 hc1
      have u1 := same_new (o := HO.lst []) hc1
      have N15 := N14.same u1
      refine eq_rows N15.ls.at_ N15.ls.rows upd_same (m := n) (es := []) .nil ⟨_, rfl, ite2 (fun _ => ite2 (fun h0 => ?_) fun _ => N15) fun _ => N15⟩
      intro c2 hc2
      have hn0 : n ≠ 0 := fun z => by subst z; simp at h0
      have u2 := same_new (o := HO.lst []) hc2
      rw [show ((n : Int) - 1) = ((n - 1 : Nat) : Int) by omega]
      refine made_plc RA (.inl upd_same) (by simp) (ds := []) .nil fun H16 y s16 hy => ?_
      have N16 := (N15.same u2).same s16
      exact plc_run PL LI N16.pl hy fun H17 s17 => ⟨_, rfl, iteF' (decide_eq_false fun z => by have := z.1; omega) (N16.same s17)⟩
    rintro σ' H15 ⟨rfl, N15⟩
    refine ⟨fun σ' H' => σ' = [some (.ref a), some (.ref p), some (.int n), some (.ref R), some (.ref G), some (.ref pa), some (.ref K0), some (.ref M), some (.ref B), some z, none, none] ∧ LS2 K C_Ratio C_Plane C_Place T H' p l 2600 n R ys ds pa K0 vs M ms es z, ?_, ?_⟩
    · simp only [tVar, rIxTH, rIxLH, gTupH, line_le, HO.tup.injEq, HO.lst.injEq, List.length_cons, List.length_nil, at0, at1, rU, tOst, tTest, rIxL, rIxT, C8.tCut, cxOf_K, tC, tOp, tUn, tSeq, tAsg, tNext, tRet, tRetN, tDrop, tIfS, tNever, gName, gNil, gCons, gTup, gSub, tPar, rI, rI0, rU, rEq, rNe, tB, tAnd, tOr, tNot, tAndV, tOrV, tNotV, tIf, tTup, tLst, tNil, tCons, tCB, tCall, tMeth, tMake, tFld, sFld, tDGet, sDPut, tDisp, tPairs, tBreak, tCont, scal_ii, scal_bb, scal_ss, List.getElem?_cons_zero, List.getElem?_cons_succ, List.set_cons_zero, List.set_cons_succ, Option.some.injEq, exists_eq_left', exists_eq_left, exists_and_left, V.int.injEq, V.bl.injEq, V.ref.injEq, V.str.injEq, List.cons.injEq, and_true, true_and, Bool.true_eq, List.nil_append, List.append_nil, List.cons_append, exists_eq', and_self, reduceCtorEq, false_or, or_false, false_and, exists_false, exists_const, and_assoc, if_true, Bool.false_eq_true, if_false, Nat.reduceAdd, Nat.reduceLeDiff, Nat.zero_add, Nat.le_refl, forall_const, st_law]
      intro c1 hc1
      have u1 := same_new (o := HO.lst []) hc1
      have N16 := N15.same u1
      refine ne_rows N16.ls.at_ N16.ls.rows upd_same (m := n) (es := []) .nil ⟨_, rfl, ite2 (fun h0 => ?_) fun _ => ⟨N16.ls.mono (by omega), N16.pl, N16.ke, N16.kr, N16.mo, N16.mr, N16.wi⟩⟩
      have pos : 0 < ys.length := by
        rw [lds]
        cases ds with
        | nil => simp at h0
        | cons d ds => simp
      refine ⟨p, l, R, _, n, ys, ds, rfl, hn, N16.ls.pen, by omega, N16.ls.at_, N16.ls.rows, pos, by omega, bd, fun H17 b1 zs bs x17 p17 hb1 hz1 ne lz bb => ?_⟩
      have N17 := N16.ext x17 p17
      refine ⟨b1, n, zs, bs, rfl, hb1, hz1, by omega, by omega, bb, fun H18 y s18 hy => ?_⟩
      have N18 := N17.same s18
      refine plc_run PL LI N18.pl hy fun H19 s19 => ⟨_, rfl, iteF' (decide_eq_false fun z => ne z.2.symm) ?_⟩
      have N19 := N18.same s19
      exact ⟨N19.ls.mono (by omega), N19.pl, N19.ke, N19.kr, N19.mo, N19.mr, N19.wi⟩
    rintro σ' H16 ⟨rfl, N16⟩
    refine ⟨fun σ' H' => σ' = [some (.ref a), some (.ref p), some (.int n), some (.ref R), some (.ref G), some (.ref pa), some (.ref K0), some (.ref M), some (.ref B), some z, none, none] ∧ LS2 K C_Ratio C_Plane C_Place T H' p l 2600 n R ys ds pa K0 vs M ms es z, ?_, ?_⟩
    · simp only [tVar, rIxTH, rIxLH, gTupH, line_le, HO.tup.injEq, HO.lst.injEq, List.length_cons, List.length_nil, at0, at1, rU, tOst, tTest, rIxL, rIxT, C8.tCut, cxOf_K, tC, tOp, tUn, tSeq, tAsg, tNext, tRet, tRetN, tDrop, tIfS, tNever, gName, gNil, gCons, gTup, gSub, tPar, rI, rI0, rU, rEq, rNe, tB, tAnd, tOr, tNot, tAndV, tOrV, tNotV, tIf, tTup, tLst, tNil, tCons, tCB, tCall, tMeth, tMake, tFld, sFld, tDGet, sDPut, tDisp, tPairs, tBreak, tCont, scal_ii, scal_bb, scal_ss, List.getElem?_cons_zero, List.getElem?_cons_succ, List.set_cons_zero, List.set_cons_succ, Option.some.injEq, exists_eq_left', exists_eq_left, exists_and_left, V.int.injEq, V.bl.injEq, V.ref.injEq, V.str.injEq, List.cons.injEq, and_true, true_and, Bool.true_eq, List.nil_append, List.append_nil, List.cons_append, exists_eq', and_self, reduceCtorEq, false_or, or_false, false_and, exists_false, exists_const, and_assoc, if_true, Bool.false_eq_true, if_false, Nat.reduceAdd, Nat.reduceLeDiff, Nat.zero_add, Nat.le_refl, forall_const, st_law, tRevL]
      refine ⟨ys, SqL.of N16.ls.at_, fun c1 hc1 => ?_⟩
      have u1 := same_new (o := HO.lst ys.reverse) hc1
      have N17 := N16.same u1
      refine ⟨c1, n, ys.reverse, ds.reverse, rfl, upd_same, fa2_rev N17.ls.rows, by rw [List.length_reverse]; omega, by omega, fun d hd => (bd.mono (by decide)) d (List.mem_reverse.mp hd), fun H18 y s18 hy => ?_⟩
      have N18 := N17.same s18
      refine plc_run PL LI N18.pl hy fun H19 s19 => ?_
      have N19 := N18.same s19
      refine ⟨ys, SqL.of N19.ls.at_, fun c2 hc2 => ?_⟩
      have u2 := same_new (o := HO.lst ys.reverse) hc2
      have N20 := N19.same u2
      refine eq_rows N20.ls.at_ N20.ls.rows upd_same (fa2_rev N20.ls.rows) ?_
      have e : decide (n = n ∧ ds = ds.reverse) = decide (ds = ds.reverse) := decide_eq_decide.mpr ⟨fun z => z.2, fun z => ⟨rfl, z⟩⟩
      rw [e]
      exact ⟨rfl, iteF' (by simp) N20⟩
    rintro σ' H17 ⟨rfl, N17⟩
    simp only [tVar, rIxTH, rIxLH, gTupH, line_le, HO.tup.injEq, HO.lst.injEq, List.length_cons, List.length_nil, at0, at1, rU, tOst, tTest, rIxL, rIxT, C8.tCut, cxOf_K, tC, tOp, tUn, tSeq, tAsg, tNext, tRet, tRetN, tDrop, tIfS, tNever, gName, gNil, gCons, gTup, gSub, tPar, rI, rI0, rU, rEq, rNe, tB, tAnd, tOr, tNot, tAndV, tOrV, tNotV, tIf, tTup, tLst, tNil, tCons, tCB, tCall, tMeth, tMake, tFld, sFld, tDGet, sDPut, tDisp, tPairs, tBreak, tCont, scal_ii, scal_bb, scal_ss, List.getElem?_cons_zero, List.getElem?_cons_succ, List.set_cons_zero, List.set_cons_succ, Option.some.injEq, exists_eq_left', exists_eq_left, exists_and_left, V.int.injEq, V.bl.injEq, V.ref.injEq, V.str.injEq, List.cons.injEq, and_true, true_and, Bool.true_eq, List.nil_append, List.append_nil, List.cons_append, exists_eq', and_self, reduceCtorEq, false_or, or_false, false_and, exists_false, exists_const, and_assoc, if_true, Bool.false_eq_true, if_false, Nat.reduceAdd, Nat.reduceLeDiff, Nat.zero_add, Nat.le_refl, forall_const, st_law]
    exact ⟨p, l, R, .ref pa, 2600, n, ys, ds, rfl, hn, N17.ls.pen, by omega, N17.pl, N17.ls.at_, N17.ls.rows, by omega, bd, N17.ls.tabs, k⟩


end HwL
end

section
namespace HwL
open PySem PySem.Spec PyProof.Rows L2 LamX HwP
variable {P : Program} {w : World} {K : PySem.W.Frag} {mg : Str → Option Value} {base : Heap}

theorem noCX {P : Program} {w : World} {H : Hp} {s : Shared} {e : Value} {s' : Shared} (z : L2.CX P w [] H s (fun _ _ _ => False) e s') : False := by
  obtain ⟨_, _, _, _, _, _, _, _, _, _, _, _, q⟩ := z
  exact q
theorem plcIB_ok {K : PySem.W.Frag} {C : Addr} (h : plcIB K C = true) : PlcI K C := by
  obtain ⟨h1, h⟩ := He.ba h
  obtain ⟨h2, h⟩ := He.ba h
  obtain ⟨h3, h4⟩ := He.ba h
  exact ⟨He.eqO_ok h1, He.eqO_ok h2, of_decide_eq_true h3, of_decide_eq_true h4⟩
abbrev TS (K : PySem.W.Frag) : List (Addr × Str) := [((He.cT K ("_law_refusals_right", none)).2, ("_law_refusals_right" : Str) ++ ".<locals>." ++ "<lambda>")]
theorem facts {w : World} {K : PySem.W.Frag} {h : Heap} {mg : Str → Option Value} {f : Addr} (X : K.In h) (G : h.Ns mainGlobals mg) (hfa : mg ("law" : Str) = some (.ref f)) (c : He.SaysX faL fnL [] tfL exL w h K) :
    LawG PySem.Challenge.rw_hingeworks_k07_places_and_what_belongs w K 13 63 "_law_script" mg f h := by
  have cd := c.t.d
  have exx : ∀ (i : Nat) {b : Bool}, [HwH.bfunB K "gcd" "math.gcd", HwH.bfunB K "lcm" "math.lcm", ratB K (He.ga K "Ratio"), HwH.oexB K (He.ga K "BadNumber"), HwH.oexB K (He.ga K "BadGiven"), HwH.oexB K (He.ga K "BadPlace"), decide (PySem.W.exmOne K (.ref (He.ga K "BadGiven")) (.ref (He.ga K "BadNumber")) = some false), decide (PySem.W.exmOne K (.ref (He.ga K "BadPlace")) (.ref (He.ga K "BadNumber")) = some false), decide (PySem.W.exmOne K (.ref (He.ga K "BadPlace")) (.ref (He.ga K "BadGiven")) = some false), decide (PySem.W.kitOne K (.type "bool") (.ref (He.ga K "Plane")) = some false), decide (PySem.W.kitOne K (.type "list") (.ref (He.ga K "Place")) = some false), decide (PySem.W.notFirst K (He.ga K "Place") (.type "list") = true), plaIB K (He.ga K "Plane"), plcIB K (He.ga K "Place"), HwH.xrB K (He.ga K "BadNumber") "what" "number", HwH.xrB K (He.ga K "BadGiven") "what" "what", HwH.xrB K (He.ga K "BadPlace") "row" "row", HwH.xrB K (He.ga K "TooLarge") "what" "many", HwH.xrB K (He.ga K "TooLarge") "limit" "limit", HwH.iniB K (He.ga K "BadNumber"), HwH.opB K (He.ga K "Ratio") .Add, HwH.opB K (He.ga K "Ratio") .Sub, HwH.opB K (He.ga K "Ratio") .Mult, HwH.spcB K (He.ga K "Ratio") "__neg__", HwH.spcB K (He.ga K "Ratio") "__eq__", HwH.opB K (He.ga K "Plane") .Add, HwH.opB K (He.ga K "Plane") .Sub, HwH.spcB K (He.ga K "Plane") "__neg__", HwH.opB K (He.ga K "Plane") .Mult, HwH.spcB K (He.ga K "Plane") "__eq__", HwH.iniB K (He.ga K "BadGiven"), HwH.iniB K (He.ga K "BadPlace"), HwH.spcB K (He.ga K "Place") "__eq__"][i]? = some b → b = true := fun i b e => List.all_eq_true.mp c.more _ (List.mem_of_getElem? e)
  have m__law_pen : mg "_law_pen" = some (.ref (He.ga K "_law_pen")) := He.glo_ok X G (cd.fact 0 (f := .glo "_law_pen") rfl)
  have m__law_draw : mg "_law_draw" = some (.ref (He.ga K "_law_draw")) := He.glo_ok X G (cd.fact 1 (f := .glo "_law_draw") rfl)
  have m__law_pick : mg "_law_pick" = some (.ref (He.ga K "_law_pick")) := He.glo_ok X G (cd.fact 2 (f := .glo "_law_pick") rfl)
  have m_is_integer : mg "is_integer" = some (.ref (He.ga K "is_integer")) := He.glo_ok X G (cd.fact 3 (f := .glo "is_integer") rfl)
  have m_is_ratio : mg "is_ratio" = some (.ref (He.ga K "is_ratio")) := He.glo_ok X G (cd.fact 4 (f := .glo "is_ratio") rfl)
  have m_as_ratio : mg "as_ratio" = some (.ref (He.ga K "as_ratio")) := He.glo_ok X G (cd.fact 5 (f := .glo "as_ratio") rfl)
  have m_as_ratios : mg "as_ratios" = some (.ref (He.ga K "as_ratios")) := He.glo_ok X G (cd.fact 6 (f := .glo "as_ratios") rfl)
  have m_least_whole : mg "least_whole" = some (.ref (He.ga K "least_whole")) := He.glo_ok X G (cd.fact 7 (f := .glo "least_whole") rfl)
  have m_check_sizes : mg "check_sizes" = some (.ref (He.ga K "check_sizes")) := He.glo_ok X G (cd.fact 8 (f := .glo "check_sizes") rfl)
  have m_check_size : mg "check_size" = some (.ref (He.ga K "check_size")) := He.glo_ok X G (cd.fact 9 (f := .glo "check_size") rfl)
  have m_check_point : mg "check_point" = some (.ref (He.ga K "check_point")) := He.glo_ok X G (cd.fact 10 (f := .glo "check_point") rfl)
  have m_mixed_ratio : mg "mixed_ratio" = some (.ref (He.ga K "mixed_ratio")) := He.glo_ok X G (cd.fact 11 (f := .glo "mixed_ratio") rfl)
  have m__law_gcd : mg "_law_gcd" = some (.ref (He.ga K "_law_gcd")) := He.glo_ok X G (cd.fact 12 (f := .glo "_law_gcd") rfl)
  have m__law_q : mg "_law_q" = some (.ref (He.ga K "_law_q")) := He.glo_ok X G (cd.fact 13 (f := .glo "_law_q") rfl)
  have m__law_plus : mg "_law_plus" = some (.ref (He.ga K "_law_plus")) := He.glo_ok X G (cd.fact 14 (f := .glo "_law_plus") rfl)
  have m__law_minus : mg "_law_minus" = some (.ref (He.ga K "_law_minus")) := He.glo_ok X G (cd.fact 15 (f := .glo "_law_minus") rfl)
  have m__law_times : mg "_law_times" = some (.ref (He.ga K "_law_times")) := He.glo_ok X G (cd.fact 16 (f := .glo "_law_times") rfl)
  have m__law_form_less : mg "_law_form_less" = some (.ref (He.ga K "_law_form_less")) := He.glo_ok X G (cd.fact 17 (f := .glo "_law_form_less") rfl)
  have m__law_form_times : mg "_law_form_times" = some (.ref (He.ga K "_law_form_times")) := He.glo_ok X G (cd.fact 18 (f := .glo "_law_form_times") rfl)
  have m__law_at : mg "_law_at" = some (.ref (He.ga K "_law_at")) := He.glo_ok X G (cd.fact 19 (f := .glo "_law_at") rfl)
  have m__law_truth : mg "_law_truth" = some (.ref (He.ga K "_law_truth")) := He.glo_ok X G (cd.fact 20 (f := .glo "_law_truth") rfl)
  have m__law_minus_form : mg "_law_minus_form" = some (.ref (He.ga K "_law_minus_form")) := He.glo_ok X G (cd.fact 21 (f := .glo "_law_minus_form") rfl)
  have m__law_number_form : mg "_law_number_form" = some (.ref (He.ga K "_law_number_form")) := He.glo_ok X G (cd.fact 22 (f := .glo "_law_number_form") rfl)
  have m__law_as_plane : mg "_law_as_plane" = some (.ref (He.ga K "_law_as_plane")) := He.glo_ok X G (cd.fact 23 (f := .glo "_law_as_plane") rfl)
  have m__law_little : mg "_law_little" = some (.ref (He.ga K "_law_little")) := He.glo_ok X G (cd.fact 24 (f := .glo "_law_little") rfl)
  have m__law_little_not : mg "_law_little_not" = some (.ref (He.ga K "_law_little_not")) := He.glo_ok X G (cd.fact 25 (f := .glo "_law_little_not") rfl)
  have m__law_drawn_form : mg "_law_drawn_form" = some (.ref (He.ga K "_law_drawn_form")) := He.glo_ok X G (cd.fact 26 (f := .glo "_law_drawn_form") rfl)
  have m_is_row : mg "is_row" = some (.ref (He.ga K "is_row")) := He.glo_ok X G (cd.fact 27 (f := .glo "is_row") rfl)
  have m_row_holds : mg "row_holds" = some (.ref (He.ga K "row_holds")) := He.glo_ok X G (cd.fact 28 (f := .glo "row_holds") rfl)
  have m__law_holds : mg "_law_holds" = some (.ref (He.ga K "_law_holds")) := He.glo_ok X G (cd.fact 29 (f := .glo "_law_holds") rfl)
  have m__law_closed : mg "_law_closed" = some (.ref (He.ga K "_law_closed")) := He.glo_ok X G (cd.fact 30 (f := .glo "_law_closed") rfl)
  have m__law_as_place : mg "_law_as_place" = some (.ref (He.ga K "_law_as_place")) := He.glo_ok X G (cd.fact 31 (f := .glo "_law_as_place") rfl)
  have m__law_random_rows : mg "_law_random_rows" = some (.ref (He.ga K "_law_random_rows")) := He.glo_ok X G (cd.fact 32 (f := .glo "_law_random_rows") rfl)
  have m__law_mixed_rows : mg "_law_mixed_rows" = some (.ref (He.ga K "_law_mixed_rows")) := He.glo_ok X G (cd.fact 33 (f := .glo "_law_mixed_rows") rfl)
  have m__law_tight_rows : mg "_law_tight_rows" = some (.ref (He.ga K "_law_tight_rows")) := He.glo_ok X G (cd.fact 34 (f := .glo "_law_tight_rows") rfl)
  have m__law_drawn_rows : mg "_law_drawn_rows" = some (.ref (He.ga K "_law_drawn_rows")) := He.glo_ok X G (cd.fact 35 (f := .glo "_law_drawn_rows") rfl)
  have m__law_place_right : mg "_law_place_right" = some (.ref (He.ga K "_law_place_right")) := He.glo_ok X G (cd.fact 36 (f := .glo "_law_place_right") rfl)
  have m__law_points : mg "_law_points" = some (.ref (He.ga K "_law_points")) := He.glo_ok X G (cd.fact 37 (f := .glo "_law_points") rfl)
  have m__law_belongs_right : mg "_law_belongs_right" = some (.ref (He.ga K "_law_belongs_right")) := He.glo_ok X G (cd.fact 38 (f := .glo "_law_belongs_right") rfl)
  have m__law_bent : mg "_law_bent" = some (.ref (He.ga K "_law_bent")) := He.glo_ok X G (cd.fact 39 (f := .glo "_law_bent") rfl)
  have m__law_refusals_right : mg "_law_refusals_right" = some (.ref (He.ga K "_law_refusals_right")) := He.glo_ok X G (cd.fact 40 (f := .glo "_law_refusals_right") rfl)
  have m_law : mg "law" = some (.ref (He.ga K "law")) := He.glo_ok X G (cd.fact 41 (f := .glo "law") rfl)
  have m__law_refused : mg "_law_refused" = some (.ref (He.ga K "_law_refused")) := He.glo_ok X G (cd.fact 42 (f := .glo "_law_refused") rfl)
  have m_BadNumber : mg "BadNumber" = some (.ref (He.ga K "BadNumber")) := He.glo_ok X G (cd.fact 43 (f := .glo "BadNumber") rfl)
  have m_Ratio : mg "Ratio" = some (.ref (He.ga K "Ratio")) := He.glo_ok X G (cd.fact 44 (f := .glo "Ratio") rfl)
  have m_Plane : mg "Plane" = some (.ref (He.ga K "Plane")) := He.glo_ok X G (cd.fact 45 (f := .glo "Plane") rfl)
  have m_BadGiven : mg "BadGiven" = some (.ref (He.ga K "BadGiven")) := He.glo_ok X G (cd.fact 46 (f := .glo "BadGiven") rfl)
  have m_BadPlace : mg "BadPlace" = some (.ref (He.ga K "BadPlace")) := He.glo_ok X G (cd.fact 47 (f := .glo "BadPlace") rfl)
  have m_Place : mg "Place" = some (.ref (He.ga K "Place")) := He.glo_ok X G (cd.fact 48 (f := .glo "Place") rfl)
  have z_list : mg "list" = none := He.free_ok X G (cd.fact 49 (f := .free "list") rfl)
  have z_int : mg "int" = none := He.free_ok X G (cd.fact 50 (f := .free "int") rfl)
  have z_len : mg "len" = none := He.free_ok X G (cd.fact 51 (f := .free "len") rfl)
  have m_gcd : mg "gcd" = some (.builtin "math.gcd") := HwH.bfunB_ok X G (exx 0 rfl)
  have z_isinstance : mg "isinstance" = none := He.free_ok X G (cd.fact 52 (f := .free "isinstance") rfl)
  have z_bool : mg "bool" = none := He.free_ok X G (cd.fact 53 (f := .free "bool") rfl)
  have z_tuple : mg "tuple" = none := He.free_ok X G (cd.fact 54 (f := .free "tuple") rfl)
  have m_lcm : mg "lcm" = some (.builtin "math.lcm") := HwH.bfunB_ok X G (exx 1 rfl)
  have z_all : mg "all" = none := He.free_ok X G (cd.fact 55 (f := .free "all") rfl)
  have z_zip : mg "zip" = none := He.free_ok X G (cd.fact 56 (f := .free "zip") rfl)
  have z_range : mg "range" = none := He.free_ok X G (cd.fact 57 (f := .free "range") rfl)
  have z_abs : mg "abs" = none := He.free_ok X G (cd.fact 58 (f := .free "abs") rfl)
  have z_enumerate : mg "enumerate" = none := He.free_ok X G (cd.fact 59 (f := .free "enumerate") rfl)
  have z_repr : mg "repr" = none := He.free_ok X G (cd.fact 60 (f := .free "repr") rfl)
  have z_max : mg "max" = none := He.free_ok X G (cd.fact 61 (f := .free "max") rfl)
  have m_EmptyPlace : mg "EmptyPlace" = some (.ref (He.ga K "EmptyPlace")) := He.glo_ok X G (cd.fact 78 (f := .glo "EmptyPlace") rfl)
  have m_TooLarge : mg "TooLarge" = some (.ref (He.ga K "TooLarge")) := He.glo_ok X G (cd.fact 79 (f := .glo "TooLarge") rfl)
  obtain ⟨fd_L_pen, F0_L_pen⟩ := cd.def_ 0 rfl
  have F_L_pen : FunD K "_law_pen" "_law_pen" (defArgs s_L_pen) (defBody s_L_pen) (defScope s_L_pen) [] [] (He.ga K "_law_pen") fd_L_pen := F0_L_pen
  have B_L_pen : Binds K fd_L_pen ["_law_script"] [] := F_L_pen.bindsN fun _ _ _ _ _ _ us hl => match us, hl with | [_], _ => rfl
  obtain ⟨fd_L_draw, F0_L_draw⟩ := cd.def_ 1 rfl
  have F_L_draw : FunD K "_law_draw" "_law_draw" (defArgs s_L_draw) (defBody s_L_draw) (defScope s_L_draw) [] [] (He.ga K "_law_draw") fd_L_draw := F0_L_draw
  have B_L_draw : Binds K fd_L_draw ["_law_pen_here", "_law_many"] [] := F_L_draw.bindsN fun _ _ _ _ _ _ us hl => match us, hl with | [_, _], _ => rfl
  obtain ⟨fd_L_pick, F0_L_pick⟩ := cd.def_ 2 rfl
  have F_L_pick : FunD K "_law_pick" "_law_pick" (defArgs s_L_pick) (defBody s_L_pick) (defScope s_L_pick) [] [] (He.ga K "_law_pick") fd_L_pick := F0_L_pick
  have B_L_pick : Binds K fd_L_pick ["_law_pen_here", "_law_some"] [] := F_L_pick.bindsN fun _ _ _ _ _ _ us hl => match us, hl with | [_, _], _ => rfl
  obtain ⟨fd_BadNumberD_initD, F0_BadNumberD_initD⟩ := cd.def_ 3 rfl
  have F_BadNumberD_initD : FunD K "__init__" "BadNumber.__init__" (defArgs s_BadNumberD_initD) (defBody s_BadNumberD_initD) (defScope s_BadNumberD_initD) [] [] (He.ma K (He.ga K "BadNumber") "__init__") fd_BadNumberD_initD := F0_BadNumberD_initD
  have B_BadNumberD_initD : Binds K fd_BadNumberD_initD ["self", "what", "number"] [] := F_BadNumberD_initD.bindsN fun _ _ _ _ _ _ us hl => match us, hl with | [_, _, _], _ => rfl
  obtain ⟨fd_RatioD_initD, F0_RatioD_initD⟩ := cd.def_ 4 rfl
  have F_RatioD_initD : FunD K "__init__" "Ratio.__init__" (defArgs s_RatioD_initD) (defBody s_RatioD_initD) (defScope s_RatioD_initD) [.int 1] [] (He.ma K (He.ga K "Ratio") "__init__") fd_RatioD_initD := F0_RatioD_initD
  obtain ⟨ds0_RatioD_initD, V0_RatioD_initD, B0_RatioD_initD⟩ := F_RatioD_initD.binds1 (ps := ["self", "top", "bottom"]) 2 0 (by simp) (by rfl) fun T kV doc pm an cdv ct us its hu hi => match us, hu, its, hi with | [_, _], _, [_], _ => ⟨_, rfl, rfl⟩
  obtain ⟨ds1_RatioD_initD, V1_RatioD_initD, B1_RatioD_initD⟩ := F_RatioD_initD.binds1 (ps := ["self", "top", "bottom"]) 3 1 (by simp) (by rfl) fun T kV doc pm an cdv ct us its hu hi => match us, hu, its, hi with | [_, _, _], _, [_], _ => ⟨_, rfl, rfl⟩
  obtain ⟨fd_is_integer, F0_is_integer⟩ := cd.def_ 5 rfl
  have F_is_integer : FunD K "is_integer" "is_integer" (defArgs s_is_integer) (defBody s_is_integer) (defScope s_is_integer) [] [] (He.ga K "is_integer") fd_is_integer := F0_is_integer
  have B_is_integer : Binds K fd_is_integer ["value"] [] := F_is_integer.bindsN fun _ _ _ _ _ _ us hl => match us, hl with | [_], _ => rfl
  obtain ⟨fd_is_ratio, F0_is_ratio⟩ := cd.def_ 6 rfl
  have F_is_ratio : FunD K "is_ratio" "is_ratio" (defArgs s_is_ratio) (defBody s_is_ratio) (defScope s_is_ratio) [] [] (He.ga K "is_ratio") fd_is_ratio := F0_is_ratio
  have B_is_ratio : Binds K fd_is_ratio ["value"] [] := F_is_ratio.bindsN fun _ _ _ _ _ _ us hl => match us, hl with | [_], _ => rfl
  obtain ⟨fd_as_ratio, F0_as_ratio⟩ := cd.def_ 7 rfl
  have F_as_ratio : FunD K "as_ratio" "as_ratio" (defArgs s_as_ratio) (defBody s_as_ratio) (defScope s_as_ratio) [] [] (He.ga K "as_ratio") fd_as_ratio := F0_as_ratio
  have B_as_ratio : Binds K fd_as_ratio ["value"] [] := F_as_ratio.bindsN fun _ _ _ _ _ _ us hl => match us, hl with | [_], _ => rfl
  obtain ⟨fd_RatioD_addD, F0_RatioD_addD⟩ := cd.def_ 8 rfl
  have F_RatioD_addD : FunD K "__add__" "Ratio.__add__" (defArgs s_RatioD_addD) (defBody s_RatioD_addD) (defScope s_RatioD_addD) [] [] (He.ma K (He.ga K "Ratio") "__add__") fd_RatioD_addD := F0_RatioD_addD
  have B_RatioD_addD : Binds K fd_RatioD_addD ["self", "other"] [] := F_RatioD_addD.bindsN fun _ _ _ _ _ _ us hl => match us, hl with | [_, _], _ => rfl
  obtain ⟨fd_RatioD_subD, F0_RatioD_subD⟩ := cd.def_ 9 rfl
  have F_RatioD_subD : FunD K "__sub__" "Ratio.__sub__" (defArgs s_RatioD_subD) (defBody s_RatioD_subD) (defScope s_RatioD_subD) [] [] (He.ma K (He.ga K "Ratio") "__sub__") fd_RatioD_subD := F0_RatioD_subD
  have B_RatioD_subD : Binds K fd_RatioD_subD ["self", "other"] [] := F_RatioD_subD.bindsN fun _ _ _ _ _ _ us hl => match us, hl with | [_, _], _ => rfl
  obtain ⟨fd_RatioD_mulD, F0_RatioD_mulD⟩ := cd.def_ 10 rfl
  have F_RatioD_mulD : FunD K "__mul__" "Ratio.__mul__" (defArgs s_RatioD_mulD) (defBody s_RatioD_mulD) (defScope s_RatioD_mulD) [] [] (He.ma K (He.ga K "Ratio") "__mul__") fd_RatioD_mulD := F0_RatioD_mulD
  have B_RatioD_mulD : Binds K fd_RatioD_mulD ["self", "other"] [] := F_RatioD_mulD.bindsN fun _ _ _ _ _ _ us hl => match us, hl with | [_, _], _ => rfl
  obtain ⟨fd_RatioD_negD, F0_RatioD_negD⟩ := cd.def_ 11 rfl
  have F_RatioD_negD : FunD K "__neg__" "Ratio.__neg__" (defArgs s_RatioD_negD) (defBody s_RatioD_negD) (defScope s_RatioD_negD) [] [] (He.ma K (He.ga K "Ratio") "__neg__") fd_RatioD_negD := F0_RatioD_negD
  have B_RatioD_negD : Binds K fd_RatioD_negD ["self"] [] := F_RatioD_negD.bindsN fun _ _ _ _ _ _ us hl => match us, hl with | [_], _ => rfl
  obtain ⟨fd_RatioD_eqD, F0_RatioD_eqD⟩ := cd.def_ 12 rfl
  have F_RatioD_eqD : FunD K "__eq__" "Ratio.__eq__" (defArgs s_RatioD_eqD) (defBody s_RatioD_eqD) (defScope s_RatioD_eqD) [] [] (He.ma K (He.ga K "Ratio") "__eq__") fd_RatioD_eqD := F0_RatioD_eqD
  have B_RatioD_eqD : Binds K fd_RatioD_eqD ["self", "other"] [] := F_RatioD_eqD.bindsN fun _ _ _ _ _ _ us hl => match us, hl with | [_, _], _ => rfl
  obtain ⟨fd_Ratio_compared, F0_Ratio_compared⟩ := cd.def_ 13 rfl
  have F_Ratio_compared : FunD K "compared" "Ratio.compared" (defArgs s_Ratio_compared) (defBody s_Ratio_compared) (defScope s_Ratio_compared) [] [] (He.ma K (He.ga K "Ratio") "compared") fd_Ratio_compared := F0_Ratio_compared
  have B_Ratio_compared : Binds K fd_Ratio_compared ["self", "other"] [] := F_Ratio_compared.bindsN fun _ _ _ _ _ _ us hl => match us, hl with | [_, _], _ => rfl
  obtain ⟨fd_as_ratios, F0_as_ratios⟩ := cd.def_ 14 rfl
  have F_as_ratios : FunD K "as_ratios" "as_ratios" (defArgs s_as_ratios) (defBody s_as_ratios) (defScope s_as_ratios) [] [] (He.ga K "as_ratios") fd_as_ratios := F0_as_ratios
  have B_as_ratios : Binds K fd_as_ratios ["values"] [] := F_as_ratios.bindsN fun _ _ _ _ _ _ us hl => match us, hl with | [_], _ => rfl
  obtain ⟨fd_least_whole, F0_least_whole⟩ := cd.def_ 15 rfl
  have F_least_whole : FunD K "least_whole" "least_whole" (defArgs s_least_whole) (defBody s_least_whole) (defScope s_least_whole) [] [] (He.ga K "least_whole") fd_least_whole := F0_least_whole
  have B_least_whole : Binds K fd_least_whole ["ratios"] [] := F_least_whole.bindsN fun _ _ _ _ _ _ us hl => match us, hl with | [_], _ => rfl
  obtain ⟨fd_PlaneD_initD, F0_PlaneD_initD⟩ := cd.def_ 16 rfl
  have F_PlaneD_initD : FunD K "__init__" "Plane.__init__" (defArgs s_PlaneD_initD) (defBody s_PlaneD_initD) (defScope s_PlaneD_initD) [] [] (He.ma K (He.ga K "Plane") "__init__") fd_PlaneD_initD := F0_PlaneD_initD
  have B_PlaneD_initD : Binds K fd_PlaneD_initD ["self", "fixed", "slopes"] [] := F_PlaneD_initD.bindsN fun _ _ _ _ _ _ us hl => match us, hl with | [_, _, _], _ => rfl
  obtain ⟨fd_check_sizes, F0_check_sizes⟩ := cd.def_ 17 rfl
  have F_check_sizes : FunD K "check_sizes" "check_sizes" (defArgs s_check_sizes) (defBody s_check_sizes) (defScope s_check_sizes) [] [] (He.ga K "check_sizes") fd_check_sizes := F0_check_sizes
  have B_check_sizes : Binds K fd_check_sizes ["one", "other"] [] := F_check_sizes.bindsN fun _ _ _ _ _ _ us hl => match us, hl with | [_, _], _ => rfl
  obtain ⟨fd_check_size, F0_check_size⟩ := cd.def_ 18 rfl
  have F_check_size : FunD K "check_size" "check_size" (defArgs s_check_size) (defBody s_check_size) (defScope s_check_size) [] [] (He.ga K "check_size") fd_check_size := F0_check_size
  have B_check_size : Binds K fd_check_size ["size"] [] := F_check_size.bindsN fun _ _ _ _ _ _ us hl => match us, hl with | [_], _ => rfl
  obtain ⟨fd_PlaneD_addD, F0_PlaneD_addD⟩ := cd.def_ 19 rfl
  have F_PlaneD_addD : FunD K "__add__" "Plane.__add__" (defArgs s_PlaneD_addD) (defBody s_PlaneD_addD) (defScope s_PlaneD_addD) [] [] (He.ma K (He.ga K "Plane") "__add__") fd_PlaneD_addD := F0_PlaneD_addD
  have B_PlaneD_addD : Binds K fd_PlaneD_addD ["self", "other"] [] := F_PlaneD_addD.bindsN fun _ _ _ _ _ _ us hl => match us, hl with | [_, _], _ => rfl
  obtain ⟨fd_PlaneD_subD, F0_PlaneD_subD⟩ := cd.def_ 20 rfl
  have F_PlaneD_subD : FunD K "__sub__" "Plane.__sub__" (defArgs s_PlaneD_subD) (defBody s_PlaneD_subD) (defScope s_PlaneD_subD) [] [] (He.ma K (He.ga K "Plane") "__sub__") fd_PlaneD_subD := F0_PlaneD_subD
  have B_PlaneD_subD : Binds K fd_PlaneD_subD ["self", "other"] [] := F_PlaneD_subD.bindsN fun _ _ _ _ _ _ us hl => match us, hl with | [_, _], _ => rfl
  obtain ⟨fd_PlaneD_negD, F0_PlaneD_negD⟩ := cd.def_ 21 rfl
  have F_PlaneD_negD : FunD K "__neg__" "Plane.__neg__" (defArgs s_PlaneD_negD) (defBody s_PlaneD_negD) (defScope s_PlaneD_negD) [] [] (He.ma K (He.ga K "Plane") "__neg__") fd_PlaneD_negD := F0_PlaneD_negD
  have B_PlaneD_negD : Binds K fd_PlaneD_negD ["self"] [] := F_PlaneD_negD.bindsN fun _ _ _ _ _ _ us hl => match us, hl with | [_], _ => rfl
  obtain ⟨fd_PlaneD_mulD, F0_PlaneD_mulD⟩ := cd.def_ 22 rfl
  have F_PlaneD_mulD : FunD K "__mul__" "Plane.__mul__" (defArgs s_PlaneD_mulD) (defBody s_PlaneD_mulD) (defScope s_PlaneD_mulD) [] [] (He.ma K (He.ga K "Plane") "__mul__") fd_PlaneD_mulD := F0_PlaneD_mulD
  have B_PlaneD_mulD : Binds K fd_PlaneD_mulD ["self", "other"] [] := F_PlaneD_mulD.bindsN fun _ _ _ _ _ _ us hl => match us, hl with | [_, _], _ => rfl
  obtain ⟨fd_PlaneD_eqD, F0_PlaneD_eqD⟩ := cd.def_ 23 rfl
  have F_PlaneD_eqD : FunD K "__eq__" "Plane.__eq__" (defArgs s_PlaneD_eqD) (defBody s_PlaneD_eqD) (defScope s_PlaneD_eqD) [] [] (He.ma K (He.ga K "Plane") "__eq__") fd_PlaneD_eqD := F0_PlaneD_eqD
  have B_PlaneD_eqD : Binds K fd_PlaneD_eqD ["self", "other"] [] := F_PlaneD_eqD.bindsN fun _ _ _ _ _ _ us hl => match us, hl with | [_, _], _ => rfl
  obtain ⟨fd_BadGivenD_initD, F0_BadGivenD_initD⟩ := cd.def_ 24 rfl
  have F_BadGivenD_initD : FunD K "__init__" "BadGiven.__init__" (defArgs s_BadGivenD_initD) (defBody s_BadGivenD_initD) (defScope s_BadGivenD_initD) [] [] (He.ma K (He.ga K "BadGiven") "__init__") fd_BadGivenD_initD := F0_BadGivenD_initD
  have B_BadGivenD_initD : Binds K fd_BadGivenD_initD ["self", "what"] [] := F_BadGivenD_initD.bindsN fun _ _ _ _ _ _ us hl => match us, hl with | [_, _], _ => rfl
  obtain ⟨fd_check_point, F0_check_point⟩ := cd.def_ 25 rfl
  have F_check_point : FunD K "check_point" "check_point" (defArgs s_check_point) (defBody s_check_point) (defScope s_check_point) [] [] (He.ga K "check_point") fd_check_point := F0_check_point
  have B_check_point : Binds K fd_check_point ["point", "size"] [] := F_check_point.bindsN fun _ _ _ _ _ _ us hl => match us, hl with | [_, _], _ => rfl
  obtain ⟨fd_mixed_ratio, F0_mixed_ratio⟩ := cd.def_ 26 rfl
  have F_mixed_ratio : FunD K "mixed_ratio" "mixed_ratio" (defArgs s_mixed_ratio) (defBody s_mixed_ratio) (defScope s_mixed_ratio) [] [] (He.ga K "mixed_ratio") fd_mixed_ratio := F0_mixed_ratio
  have B_mixed_ratio : Binds K fd_mixed_ratio ["fixed", "pairs"] [] := F_mixed_ratio.bindsN fun _ _ _ _ _ _ us hl => match us, hl with | [_, _], _ => rfl
  obtain ⟨fd_Plane_at, F0_Plane_at⟩ := cd.def_ 27 rfl
  have F_Plane_at : FunD K "at" "Plane.at" (defArgs s_Plane_at) (defBody s_Plane_at) (defScope s_Plane_at) [] [] (He.ma K (He.ga K "Plane") "at") fd_Plane_at := F0_Plane_at
  have B_Plane_at : Binds K fd_Plane_at ["self", "point"] [] := F_Plane_at.bindsN fun _ _ _ _ _ _ us hl => match us, hl with | [_, _], _ => rfl
  obtain ⟨fd_L_gcd, F0_L_gcd⟩ := cd.def_ 28 rfl
  have F_L_gcd : FunD K "_law_gcd" "_law_gcd" (defArgs s_L_gcd) (defBody s_L_gcd) (defScope s_L_gcd) [] [] (He.ga K "_law_gcd") fd_L_gcd := F0_L_gcd
  have B_L_gcd : Binds K fd_L_gcd ["_law_one", "_law_two"] [] := F_L_gcd.bindsN fun _ _ _ _ _ _ us hl => match us, hl with | [_, _], _ => rfl
  obtain ⟨fd_L_q, F0_L_q⟩ := cd.def_ 29 rfl
  have F_L_q : FunD K "_law_q" "_law_q" (defArgs s_L_q) (defBody s_L_q) (defScope s_L_q) [] [] (He.ga K "_law_q") fd_L_q := F0_L_q
  have B_L_q : Binds K fd_L_q ["_law_top", "_law_bottom"] [] := F_L_q.bindsN fun _ _ _ _ _ _ us hl => match us, hl with | [_, _], _ => rfl
  obtain ⟨fd_L_plus, F0_L_plus⟩ := cd.def_ 30 rfl
  have F_L_plus : FunD K "_law_plus" "_law_plus" (defArgs s_L_plus) (defBody s_L_plus) (defScope s_L_plus) [] [] (He.ga K "_law_plus") fd_L_plus := F0_L_plus
  have B_L_plus : Binds K fd_L_plus ["_law_one", "_law_two"] [] := F_L_plus.bindsN fun _ _ _ _ _ _ us hl => match us, hl with | [_, _], _ => rfl
  obtain ⟨fd_L_minus, F0_L_minus⟩ := cd.def_ 31 rfl
  have F_L_minus : FunD K "_law_minus" "_law_minus" (defArgs s_L_minus) (defBody s_L_minus) (defScope s_L_minus) [] [] (He.ga K "_law_minus") fd_L_minus := F0_L_minus
  have B_L_minus : Binds K fd_L_minus ["_law_one", "_law_two"] [] := F_L_minus.bindsN fun _ _ _ _ _ _ us hl => match us, hl with | [_, _], _ => rfl
  obtain ⟨fd_L_times, F0_L_times⟩ := cd.def_ 32 rfl
  have F_L_times : FunD K "_law_times" "_law_times" (defArgs s_L_times) (defBody s_L_times) (defScope s_L_times) [] [] (He.ga K "_law_times") fd_L_times := F0_L_times
  have B_L_times : Binds K fd_L_times ["_law_one", "_law_two"] [] := F_L_times.bindsN fun _ _ _ _ _ _ us hl => match us, hl with | [_, _], _ => rfl
  obtain ⟨fd_L_form_less, F0_L_form_less⟩ := cd.def_ 33 rfl
  have F_L_form_less : FunD K "_law_form_less" "_law_form_less" (defArgs s_L_form_less) (defBody s_L_form_less) (defScope s_L_form_less) [] [] (He.ga K "_law_form_less") fd_L_form_less := F0_L_form_less
  have B_L_form_less : Binds K fd_L_form_less ["_law_one", "_law_two"] [] := F_L_form_less.bindsN fun _ _ _ _ _ _ us hl => match us, hl with | [_, _], _ => rfl
  obtain ⟨fd_L_form_times, F0_L_form_times⟩ := cd.def_ 34 rfl
  have F_L_form_times : FunD K "_law_form_times" "_law_form_times" (defArgs s_L_form_times) (defBody s_L_form_times) (defScope s_L_form_times) [] [] (He.ga K "_law_form_times") fd_L_form_times := F0_L_form_times
  have B_L_form_times : Binds K fd_L_form_times ["_law_one", "_law_by"] [] := F_L_form_times.bindsN fun _ _ _ _ _ _ us hl => match us, hl with | [_, _], _ => rfl
  obtain ⟨fd_L_at, F0_L_at⟩ := cd.def_ 35 rfl
  have F_L_at : FunD K "_law_at" "_law_at" (defArgs s_L_at) (defBody s_L_at) (defScope s_L_at) [] [] (He.ga K "_law_at") fd_L_at := F0_L_at
  have B_L_at : Binds K fd_L_at ["_law_form", "_law_point"] [] := F_L_at.bindsN fun _ _ _ _ _ _ us hl => match us, hl with | [_, _], _ => rfl
  obtain ⟨fd_L_truth, F0_L_truth⟩ := cd.def_ 36 rfl
  have F_L_truth : FunD K "_law_truth" "_law_truth" (defArgs s_L_truth) (defBody s_L_truth) (defScope s_L_truth) [] [] (He.ga K "_law_truth") fd_L_truth := F0_L_truth
  have B_L_truth : Binds K fd_L_truth ["_law_value", "_law_due"] [] := F_L_truth.bindsN fun _ _ _ _ _ _ us hl => match us, hl with | [_, _], _ => rfl
  obtain ⟨fd_L_minus_form, F0_L_minus_form⟩ := cd.def_ 37 rfl
  have F_L_minus_form : FunD K "_law_minus_form" "_law_minus_form" (defArgs s_L_minus_form) (defBody s_L_minus_form) (defScope s_L_minus_form) [] [] (He.ga K "_law_minus_form") fd_L_minus_form := F0_L_minus_form
  have B_L_minus_form : Binds K fd_L_minus_form ["_law_form"] [] := F_L_minus_form.bindsN fun _ _ _ _ _ _ us hl => match us, hl with | [_], _ => rfl
  obtain ⟨fd_L_number_form, F0_L_number_form⟩ := cd.def_ 38 rfl
  have F_L_number_form : FunD K "_law_number_form" "_law_number_form" (defArgs s_L_number_form) (defBody s_L_number_form) (defScope s_L_number_form) [] [] (He.ga K "_law_number_form") fd_L_number_form := F0_L_number_form
  have B_L_number_form : Binds K fd_L_number_form ["_law_one", "_law_size"] [] := F_L_number_form.bindsN fun _ _ _ _ _ _ us hl => match us, hl with | [_, _], _ => rfl
  obtain ⟨fd_L_as_plane, F0_L_as_plane⟩ := cd.def_ 39 rfl
  have F_L_as_plane : FunD K "_law_as_plane" "_law_as_plane" (defArgs s_L_as_plane) (defBody s_L_as_plane) (defScope s_L_as_plane) [] [] (He.ga K "_law_as_plane") fd_L_as_plane := F0_L_as_plane
  have B_L_as_plane : Binds K fd_L_as_plane ["_law_form"] [] := F_L_as_plane.bindsN fun _ _ _ _ _ _ us hl => match us, hl with | [_], _ => rfl
  obtain ⟨fd_L_little, F0_L_little⟩ := cd.def_ 40 rfl
  have F_L_little : FunD K "_law_little" "_law_little" (defArgs s_L_little) (defBody s_L_little) (defScope s_L_little) [] [] (He.ga K "_law_little") fd_L_little := F0_L_little
  have B_L_little : Binds K fd_L_little ["_law_pen_here"] [] := F_L_little.bindsN fun _ _ _ _ _ _ us hl => match us, hl with | [_], _ => rfl
  obtain ⟨fd_L_little_not, F0_L_little_not⟩ := cd.def_ 41 rfl
  have F_L_little_not : FunD K "_law_little_not" "_law_little_not" (defArgs s_L_little_not) (defBody s_L_little_not) (defScope s_L_little_not) [] [] (He.ga K "_law_little_not") fd_L_little_not := F0_L_little_not
  have B_L_little_not : Binds K fd_L_little_not ["_law_pen_here"] [] := F_L_little_not.bindsN fun _ _ _ _ _ _ us hl => match us, hl with | [_], _ => rfl
  obtain ⟨fd_L_drawn_form, F0_L_drawn_form⟩ := cd.def_ 42 rfl
  have F_L_drawn_form : FunD K "_law_drawn_form" "_law_drawn_form" (defArgs s_L_drawn_form) (defBody s_L_drawn_form) (defScope s_L_drawn_form) [] [] (He.ga K "_law_drawn_form") fd_L_drawn_form := F0_L_drawn_form
  have B_L_drawn_form : Binds K fd_L_drawn_form ["_law_pen_here", "_law_size"] [] := F_L_drawn_form.bindsN fun _ _ _ _ _ _ us hl => match us, hl with | [_, _], _ => rfl
  obtain ⟨fd_is_row, F0_is_row⟩ := cd.def_ 43 rfl
  have F_is_row : FunD K "is_row" "is_row" (defArgs s_is_row) (defBody s_is_row) (defScope s_is_row) [] [] (He.ga K "is_row") fd_is_row := F0_is_row
  have B_is_row : Binds K fd_is_row ["row", "size"] [] := F_is_row.bindsN fun _ _ _ _ _ _ us hl => match us, hl with | [_, _], _ => rfl
  obtain ⟨fd_row_holds, F0_row_holds⟩ := cd.def_ 44 rfl
  have F_row_holds : FunD K "row_holds" "row_holds" (defArgs s_row_holds) (defBody s_row_holds) (defScope s_row_holds) [] [] (He.ga K "row_holds") fd_row_holds := F0_row_holds
  have B_row_holds : Binds K fd_row_holds ["plane", "is_strict", "point"] [] := F_row_holds.bindsN fun _ _ _ _ _ _ us hl => match us, hl with | [_, _, _], _ => rfl
  obtain ⟨fd_BadPlaceD_initD, F0_BadPlaceD_initD⟩ := cd.def_ 45 rfl
  have F_BadPlaceD_initD : FunD K "__init__" "BadPlace.__init__" (defArgs s_BadPlaceD_initD) (defBody s_BadPlaceD_initD) (defScope s_BadPlaceD_initD) [] [] (He.ma K (He.ga K "BadPlace") "__init__") fd_BadPlaceD_initD := F0_BadPlaceD_initD
  have B_BadPlaceD_initD : Binds K fd_BadPlaceD_initD ["self", "row"] [] := F_BadPlaceD_initD.bindsN fun _ _ _ _ _ _ us hl => match us, hl with | [_, _], _ => rfl
  obtain ⟨fd_PlaceD_initD, F0_PlaceD_initD⟩ := cd.def_ 46 rfl
  have F_PlaceD_initD : FunD K "__init__" "Place.__init__" (defArgs s_PlaceD_initD) (defBody s_PlaceD_initD) (defScope s_PlaceD_initD) [] [] (He.ma K (He.ga K "Place") "__init__") fd_PlaceD_initD := F0_PlaceD_initD
  have B_PlaceD_initD : Binds K fd_PlaceD_initD ["self", "rows", "size"] [] := F_PlaceD_initD.bindsN fun _ _ _ _ _ _ us hl => match us, hl with | [_, _, _], _ => rfl
  obtain ⟨fd_Place_holds, F0_Place_holds⟩ := cd.def_ 47 rfl
  have F_Place_holds : FunD K "holds" "Place.holds" (defArgs s_Place_holds) (defBody s_Place_holds) (defScope s_Place_holds) [] [] (He.ma K (He.ga K "Place") "holds") fd_Place_holds := F0_Place_holds
  have B_Place_holds : Binds K fd_Place_holds ["self", "point"] [] := F_Place_holds.bindsN fun _ _ _ _ _ _ us hl => match us, hl with | [_, _], _ => rfl
  obtain ⟨fd_Place_closed_holds, F0_Place_closed_holds⟩ := cd.def_ 48 rfl
  have F_Place_closed_holds : FunD K "closed_holds" "Place.closed_holds" (defArgs s_Place_closed_holds) (defBody s_Place_closed_holds) (defScope s_Place_closed_holds) [] [] (He.ma K (He.ga K "Place") "closed_holds") fd_Place_closed_holds := F0_Place_closed_holds
  have B_Place_closed_holds : Binds K fd_Place_closed_holds ["self", "point"] [] := F_Place_closed_holds.bindsN fun _ _ _ _ _ _ us hl => match us, hl with | [_, _], _ => rfl
  obtain ⟨fd_Place_with_rows, F0_Place_with_rows⟩ := cd.def_ 49 rfl
  have F_Place_with_rows : FunD K "with_rows" "Place.with_rows" (defArgs s_Place_with_rows) (defBody s_Place_with_rows) (defScope s_Place_with_rows) [] [] (He.ma K (He.ga K "Place") "with_rows") fd_Place_with_rows := F0_Place_with_rows
  have B_Place_with_rows : Binds K fd_Place_with_rows ["self", "rows"] [] := F_Place_with_rows.bindsN fun _ _ _ _ _ _ us hl => match us, hl with | [_, _], _ => rfl
  obtain ⟨fd_PlaceD_eqD, F0_PlaceD_eqD⟩ := cd.def_ 50 rfl
  have F_PlaceD_eqD : FunD K "__eq__" "Place.__eq__" (defArgs s_PlaceD_eqD) (defBody s_PlaceD_eqD) (defScope s_PlaceD_eqD) [] [] (He.ma K (He.ga K "Place") "__eq__") fd_PlaceD_eqD := F0_PlaceD_eqD
  have B_PlaceD_eqD : Binds K fd_PlaceD_eqD ["self", "other"] [] := F_PlaceD_eqD.bindsN fun _ _ _ _ _ _ us hl => match us, hl with | [_, _], _ => rfl
  obtain ⟨fd_L_holds, F0_L_holds⟩ := cd.def_ 51 rfl
  have F_L_holds : FunD K "_law_holds" "_law_holds" (defArgs s_L_holds) (defBody s_L_holds) (defScope s_L_holds) [] [] (He.ga K "_law_holds") fd_L_holds := F0_L_holds
  have B_L_holds : Binds K fd_L_holds ["_law_rows", "_law_point"] [] := F_L_holds.bindsN fun _ _ _ _ _ _ us hl => match us, hl with | [_, _], _ => rfl
  obtain ⟨fd_L_closed, F0_L_closed⟩ := cd.def_ 52 rfl
  have F_L_closed : FunD K "_law_closed" "_law_closed" (defArgs s_L_closed) (defBody s_L_closed) (defScope s_L_closed) [] [] (He.ga K "_law_closed") fd_L_closed := F0_L_closed
  have B_L_closed : Binds K fd_L_closed ["_law_rows"] [] := F_L_closed.bindsN fun _ _ _ _ _ _ us hl => match us, hl with | [_], _ => rfl
  obtain ⟨fd_L_as_place, F0_L_as_place⟩ := cd.def_ 53 rfl
  have F_L_as_place : FunD K "_law_as_place" "_law_as_place" (defArgs s_L_as_place) (defBody s_L_as_place) (defScope s_L_as_place) [] [] (He.ga K "_law_as_place") fd_L_as_place := F0_L_as_place
  have B_L_as_place : Binds K fd_L_as_place ["_law_rows", "_law_size"] [] := F_L_as_place.bindsN fun _ _ _ _ _ _ us hl => match us, hl with | [_, _], _ => rfl
  obtain ⟨fd_L_random_rows, F0_L_random_rows⟩ := cd.def_ 54 rfl
  have F_L_random_rows : FunD K "_law_random_rows" "_law_random_rows" (defArgs s_L_random_rows) (defBody s_L_random_rows) (defScope s_L_random_rows) [] [] (He.ga K "_law_random_rows") fd_L_random_rows := F0_L_random_rows
  have B_L_random_rows : Binds K fd_L_random_rows ["_law_pen_here", "_law_size", "_law_many"] [] := F_L_random_rows.bindsN fun _ _ _ _ _ _ us hl => match us, hl with | [_, _, _], _ => rfl
  obtain ⟨fd_L_mixed_rows, F0_L_mixed_rows⟩ := cd.def_ 55 rfl
  have F_L_mixed_rows : FunD K "_law_mixed_rows" "_law_mixed_rows" (defArgs s_L_mixed_rows) (defBody s_L_mixed_rows) (defScope s_L_mixed_rows) [] [] (He.ga K "_law_mixed_rows") fd_L_mixed_rows := F0_L_mixed_rows
  have B_L_mixed_rows : Binds K fd_L_mixed_rows ["_law_pen_here", "_law_size", "_law_many"] [] := F_L_mixed_rows.bindsN fun _ _ _ _ _ _ us hl => match us, hl with | [_, _, _], _ => rfl
  obtain ⟨fd_L_tight_rows, F0_L_tight_rows⟩ := cd.def_ 56 rfl
  have F_L_tight_rows : FunD K "_law_tight_rows" "_law_tight_rows" (defArgs s_L_tight_rows) (defBody s_L_tight_rows) (defScope s_L_tight_rows) [] [] (He.ga K "_law_tight_rows") fd_L_tight_rows := F0_L_tight_rows
  have B_L_tight_rows : Binds K fd_L_tight_rows ["_law_pen_here", "_law_size", "_law_many"] [] := F_L_tight_rows.bindsN fun _ _ _ _ _ _ us hl => match us, hl with | [_, _, _], _ => rfl
  obtain ⟨fd_L_drawn_rows, F0_L_drawn_rows⟩ := cd.def_ 57 rfl
  have F_L_drawn_rows : FunD K "_law_drawn_rows" "_law_drawn_rows" (defArgs s_L_drawn_rows) (defBody s_L_drawn_rows) (defScope s_L_drawn_rows) [] [] (He.ga K "_law_drawn_rows") fd_L_drawn_rows := F0_L_drawn_rows
  have B_L_drawn_rows : Binds K fd_L_drawn_rows ["_law_pen_here", "_law_size", "_law_many"] [] := F_L_drawn_rows.bindsN fun _ _ _ _ _ _ us hl => match us, hl with | [_, _, _], _ => rfl
  obtain ⟨fd_L_place_right, F0_L_place_right⟩ := cd.def_ 58 rfl
  have F_L_place_right : FunD K "_law_place_right" "_law_place_right" (defArgs s_L_place_right) (defBody s_L_place_right) (defScope s_L_place_right) [] [] (He.ga K "_law_place_right") fd_L_place_right := F0_L_place_right
  have B_L_place_right : Binds K fd_L_place_right ["_law_place", "_law_rows", "_law_size"] [] := F_L_place_right.bindsN fun _ _ _ _ _ _ us hl => match us, hl with | [_, _, _], _ => rfl
  obtain ⟨fd_L_points, F0_L_points⟩ := cd.def_ 59 rfl
  have F_L_points : FunD K "_law_points" "_law_points" (defArgs s_L_points) (defBody s_L_points) (defScope s_L_points) [] [] (He.ga K "_law_points") fd_L_points := F0_L_points
  have B_L_points : Binds K fd_L_points ["_law_pen_here", "_law_rows", "_law_size"] [] := F_L_points.bindsN fun _ _ _ _ _ _ us hl => match us, hl with | [_, _, _], _ => rfl
  obtain ⟨fd_L_belongs_right, F0_L_belongs_right⟩ := cd.def_ 60 rfl
  have F_L_belongs_right : FunD K "_law_belongs_right" "_law_belongs_right" (defArgs s_L_belongs_right) (defBody s_L_belongs_right) (defScope s_L_belongs_right) [] [] (He.ga K "_law_belongs_right") fd_L_belongs_right := F0_L_belongs_right
  have B_L_belongs_right : Binds K fd_L_belongs_right ["_law_pen_here", "_law_place", "_law_rows", "_law_size"] [] := F_L_belongs_right.bindsN fun _ _ _ _ _ _ us hl => match us, hl with | [_, _, _, _], _ => rfl
  obtain ⟨fd_L_bent, F0_L_bent⟩ := cd.def_ 61 rfl
  have F_L_bent : FunD K "_law_bent" "_law_bent" (defArgs s_L_bent) (defBody s_L_bent) (defScope s_L_bent) [] [] (He.ga K "_law_bent") fd_L_bent := F0_L_bent
  have B_L_bent : Binds K fd_L_bent ["_law_pen_here", "_law_rows"] [] := F_L_bent.bindsN fun _ _ _ _ _ _ us hl => match us, hl with | [_, _], _ => rfl
  obtain ⟨fd_L_refusals_right, F0_L_refusals_right⟩ := cd.def_ 62 rfl
  have F_L_refusals_right : FunD K "_law_refusals_right" "_law_refusals_right" (defArgs s_L_refusals_right) (defBody s_L_refusals_right) (defScope s_L_refusals_right) [] [] (He.ga K "_law_refusals_right") fd_L_refusals_right := F0_L_refusals_right
  have B_L_refusals_right : Binds K fd_L_refusals_right ["_law_pen_here", "_law_place", "_law_rows", "_law_size"] [] := F_L_refusals_right.bindsN fun _ _ _ _ _ _ us hl => match us, hl with | [_, _, _, _], _ => rfl
  obtain ⟨fd_law, F0_law⟩ := cd.def_ 63 rfl
  have F_law : FunD K "law" "law" (defArgs s_law) (defBody s_law) (defScope s_law) [] [] (He.ga K "law") fd_law := F0_law
  have B_law : Binds K fd_law ["_law_script"] [] := F_law.bindsN fun _ _ _ _ _ _ us hl => match us, hl with | [_], _ => rfl
  obtain ⟨fd_L_refused, F0_L_refused⟩ := cd.def_ 64 rfl
  have F_L_refused : FunD K "_law_refused" "_law_refused" (defArgs s_L_refused) (defBody s_L_refused) (defScope s_L_refused) [] [] (He.ga K "_law_refused") fd_L_refused := F0_L_refused
  have B_L_refused : Binds K fd_L_refused ["_law_call"] [] := F_L_refused.bindsN fun _ _ _ _ _ _ us hl => match us, hl with | [_], _ => rfl
  have cl_Ratio : Cls K (He.ga K "Ratio") := He.cls_ok (cd.fact 62 (f := .cls "Ratio") rfl)
  have R_Ratio := ratB_ok (K := K) cl_Ratio (He.noat_ok (cd.fact 63 (f := .noat "Ratio" "top") rfl)) (He.noat_ok (cd.fact 64 (f := .noat "Ratio" "bottom") rfl)) (exx 2 rfl)
  have TX_BadNumber : OexC K (He.ga K "BadNumber") := HwH.oexB_ok (exx 3 rfl)
  have n1_BadNumber := He.noat_ok (cd.fact 65 (f := .noat "BadNumber" "what") rfl)
  have n2_BadNumber := He.noat_ok (cd.fact 66 (f := .noat "BadNumber" "number") rfl)
  have TX_BadGiven : OexC K (He.ga K "BadGiven") := HwH.oexB_ok (exx 4 rfl)
  have n1_BadGiven := He.noat_ok (cd.fact 67 (f := .noat "BadGiven" "what") rfl)
  have TX_BadPlace : OexC K (He.ga K "BadPlace") := HwH.oexB_ok (exx 5 rfl)
  have n1_BadPlace := He.noat_ok (cd.fact 68 (f := .noat "BadPlace" "row") rfl)
  have eGB := of_decide_eq_true (exx 6 rfl)
  have ePB := of_decide_eq_true (exx 7 rfl)
  have ePG := of_decide_eq_true (exx 8 rfl)
  have kB := of_decide_eq_true (exx 9 rfl)
  have kL := of_decide_eq_true (exx 10 rfl)
  have nL := of_decide_eq_true (exx 11 rfl)
  have cl_Plane : Cls K (He.ga K "Plane") := He.cls_ok (cd.fact 69 (f := .cls "Plane") rfl)
  have PC : PlaC K (He.ga K "Plane") := ⟨cl_Plane, (He.noat_ok (cd.fact 70 (f := .noat "Plane" "fixed") rfl)), (He.noat_ok (cd.fact 71 (f := .noat "Plane" "slopes") rfl)), (He.noat_ok (cd.fact 72 (f := .noat "Plane" "size") rfl)), (He.noat_ok (cd.fact 73 (f := .noat "Plane" "is_number") rfl)), (He.noat_ok (cd.fact 74 (f := .noat "Plane" "row") rfl))⟩
  have PI : PlaI K (He.ga K "Plane") := plaIB_ok (exx 12 rfl)
  have cl_Place : Cls K (He.ga K "Place") := He.cls_ok (cd.fact 75 (f := .cls "Place") rfl)
  have PL : PlcC K (He.ga K "Place") := ⟨cl_Place, (He.noat_ok (cd.fact 76 (f := .noat "Place" "rows") rfl)), (He.noat_ok (cd.fact 77 (f := .noat "Place" "size") rfl))⟩
  have LI : PlcI K (He.ga K "Place") := plcIB_ok (exx 13 rfl)
  have RX : RefX3 K mg (He.ga K "BadNumber") (He.ga K "BadGiven") (He.ga K "BadPlace") := ⟨(HwH.xrB_ok (exx 14 rfl)), (HwH.xrB_ok (exx 15 rfl)), (HwH.xrB_ok (exx 16 rfl)), ⟨(He.ga K "EmptyPlace"), (He.ga K "TooLarge"), (HwH.xrB_ok (exx 17 rfl)), (HwH.xrB_ok (exx 18 rfl)), m_EmptyPlace, m_TooLarge⟩, eGB, ePB, ePG, m_BadNumber, m_BadGiven, m_BadPlace, z_repr⟩
  have e := hfa.symm.trans m_law
  cases e
  refine ⟨fd_law, tfL.map (He.cT K), spLaw7 K (TS K), fun p hp => ?_, fun p hp => ?_, fun p hp => ?_, fun s u => F_law.bindsA (ps := ["_law_script"]) (fun _ _ _ _ _ _ us hl => match us, hl with | [_], _ => rfl) s [u] rfl, ?_, fun base Kb Gb TBs => ?_⟩
  · obtain ⟨q, hq, rfl⟩ := List.mem_map.mp hp; exact c.empty q hq
  · obtain ⟨q, hq, rfl⟩ := List.mem_map.mp hp; exact c.out q hq
  · obtain ⟨q, hq, rfl⟩ := List.mem_map.mp hp; exact PySem.W.codeHd_of_K X (c.hd q hq)
  · refine fun H a ns hl _ hT hS => ⟨a, ns, rfl, hS, hl, fun p hp => ?_, fun _ => rfl⟩
    rw [List.mem_singleton.mp hp]
    exact TabS.nil (hT _ (List.mem_map.mpr ⟨("_law_refusals_right", none), List.mem_cons_self, rfl⟩))
  ·
    have TB_L_refusals_right := TBs (He.cT K ("_law_refusals_right", none)) (List.mem_map.mpr ⟨("_law_refusals_right", none), List.mem_cons_self, rfl⟩)
    have hmT_L_refusals_right : ((He.cT K ("_law_refusals_right", none)).2, ("_law_refusals_right" : Str) ++ ".<locals>." ++ "<lambda>") ∈ TS K := List.mem_cons_self
    have huT_L_refusals_right : ∀ p ∈ TS K, p.1 = (He.cT K ("_law_refusals_right", none)).2 → p.2 = ("_law_refusals_right" : Str) ++ ".<locals>." ++ "<lambda>" := fun p hp e => by
      rw [List.mem_singleton.mp hp]
    have o_L_pen : FnOk PySem.Challenge.rw_hingeworks_k07_places_and_what_belongs.prog w K mg base (L2.CX PySem.Challenge.rw_hingeworks_k07_places_and_what_belongs.prog w) 1 _ fd_L_pen ["_law_script"] (spPen K) := ok_L_pen F_L_pen (z_list := z_list) (z_int := z_int)
    have g_L_pen : Gf PySem.Challenge.rw_hingeworks_k07_places_and_what_belongs.prog w K mg base "_law_pen" 1 ["_law_script"] (spPen K) := ⟨_, fd_L_pen, m__law_pen, F_L_pen.kp, B_L_pen, o_L_pen⟩
    have o_L_draw : FnOk PySem.Challenge.rw_hingeworks_k07_places_and_what_belongs.prog w K mg base (L2.CX PySem.Challenge.rw_hingeworks_k07_places_and_what_belongs.prog w) 1 _ fd_L_draw ["_law_pen_here", "_law_many"] (spDraw) := ok_L_draw F_L_draw (z_int := z_int) (z_len := z_len)
    have g_L_draw : Gf PySem.Challenge.rw_hingeworks_k07_places_and_what_belongs.prog w K mg base "_law_draw" 1 ["_law_pen_here", "_law_many"] (spDraw) := ⟨_, fd_L_draw, m__law_draw, F_L_draw.kp, B_L_draw, o_L_draw⟩
    have o_L_pick : FnOk PySem.Challenge.rw_hingeworks_k07_places_and_what_belongs.prog w K mg base (L2.CX PySem.Challenge.rw_hingeworks_k07_places_and_what_belongs.prog w) 2 _ fd_L_pick ["_law_pen_here", "_law_some"] (spPick) := ok_L_pick F_L_pick (z_len := z_len) (g_L_draw := g_L_draw)
    have g_L_pick : Gf PySem.Challenge.rw_hingeworks_k07_places_and_what_belongs.prog w K mg base "_law_pick" 2 ["_law_pen_here", "_law_some"] (spPick) := ⟨_, fd_L_pick, m__law_pick, F_L_pick.kp, B_L_pick, o_L_pick⟩
    have o_BadNumberD_initD : FnOk PySem.Challenge.rw_hingeworks_k07_places_and_what_belongs.prog w K mg base (L2.CX PySem.Challenge.rw_hingeworks_k07_places_and_what_belongs.prog w) 1 _ fd_BadNumberD_initD ["self", "what", "number"] (spX2 (He.ga K "BadNumber") "what" "number") := ok_BadNumberD_initD F_BadNumberD_initD (C_BadNumber := (He.ga K "BadNumber")) (TX := TX_BadNumber) (n1 := n1_BadNumber) (n2 := n2_BadNumber)
    have g_BadNumber : Xf PySem.Challenge.rw_hingeworks_k07_places_and_what_belongs.prog w K mg base "BadNumber" (He.ga K "BadNumber") 1 (spX2 (He.ga K "BadNumber") "what" "number") := ⟨_, fd_BadNumberD_initD, ["self", "what", "number"], m_BadNumber, TX_BadNumber, (HwH.iniB_ok (exx 19 rfl)).1, (HwH.iniB_ok (exx 19 rfl)).2, B_BadNumberD_initD, o_BadNumberD_initD⟩
    have o_RatioD_initD : FnOk PySem.Challenge.rw_hingeworks_k07_places_and_what_belongs.prog w K mg base (L2.CX PySem.Challenge.rw_hingeworks_k07_places_and_what_belongs.prog w) 3 _ fd_RatioD_initD ["self", "top", "bottom"] (spInit (He.ga K "Ratio") (He.ga K "BadNumber")) := ok_RatioD_initD F_RatioD_initD (m_gcd := m_gcd) (g_BadNumber := g_BadNumber) (C_Ratio := (He.ga K "Ratio")) (R := R_Ratio)
    have g_Ratio : Kf PySem.Challenge.rw_hingeworks_k07_places_and_what_belongs.prog w K mg base "Ratio" (He.ga K "Ratio") 3 ["self", "top", "bottom"] [] (spInit (He.ga K "Ratio") (He.ga K "BadNumber")) := ⟨_, fd_RatioD_initD, ds1_RatioD_initD, m_Ratio, He.mkr_ok (cd.fact 80 (f := .mkr "Ratio") rfl), B1_RatioD_initD, V1_RatioD_initD, o_RatioD_initD⟩
    have g_Ratio1 : Kf PySem.Challenge.rw_hingeworks_k07_places_and_what_belongs.prog w K mg base "Ratio" (He.ga K "Ratio") 3 ["self", "top", "bottom"] [.int 1] (spInit (He.ga K "Ratio") (He.ga K "BadNumber")) := ⟨_, fd_RatioD_initD, ds0_RatioD_initD, m_Ratio, He.mkr_ok (cd.fact 80 (f := .mkr "Ratio") rfl), B0_RatioD_initD, V0_RatioD_initD, o_RatioD_initD⟩
    have o_is_integer : FnOk PySem.Challenge.rw_hingeworks_k07_places_and_what_belongs.prog w K mg base (L2.CX PySem.Challenge.rw_hingeworks_k07_places_and_what_belongs.prog w) 1 _ fd_is_integer ["value"] (spIsInt K (He.ga K "Ratio")) := ok_is_integer F_is_integer (z_isinstance := z_isinstance) (z_bool := z_bool) (z_int := z_int) (C_Ratio := (He.ga K "Ratio"))
    have g_is_integer : Gf PySem.Challenge.rw_hingeworks_k07_places_and_what_belongs.prog w K mg base "is_integer" 1 ["value"] (spIsInt K (He.ga K "Ratio")) := ⟨_, fd_is_integer, m_is_integer, F_is_integer.kp, B_is_integer, o_is_integer⟩
    have o_is_ratio : FnOk PySem.Challenge.rw_hingeworks_k07_places_and_what_belongs.prog w K mg base (L2.CX PySem.Challenge.rw_hingeworks_k07_places_and_what_belongs.prog w) 2 _ fd_is_ratio ["value"] (spIsRat K (He.ga K "Ratio")) := ok_is_ratio F_is_ratio (z_isinstance := z_isinstance) (m_Ratio := m_Ratio) (g_is_integer := g_is_integer) (C_Ratio := (He.ga K "Ratio"))
    have g_is_ratio : Gf PySem.Challenge.rw_hingeworks_k07_places_and_what_belongs.prog w K mg base "is_ratio" 2 ["value"] (spIsRat K (He.ga K "Ratio")) := ⟨_, fd_is_ratio, m_is_ratio, F_is_ratio.kp, B_is_ratio, o_is_ratio⟩
    have o_as_ratio : FnOk PySem.Challenge.rw_hingeworks_k07_places_and_what_belongs.prog w K mg base (L2.CX PySem.Challenge.rw_hingeworks_k07_places_and_what_belongs.prog w) 5 _ fd_as_ratio ["value"] (spAs (He.ga K "Ratio")) := ok_as_ratio F_as_ratio (z_isinstance := z_isinstance) (m_Ratio := m_Ratio) (g_Ratio1 := g_Ratio1) (C_Ratio := (He.ga K "Ratio")) (C_BadNumber := (He.ga K "BadNumber")) (R := R_Ratio)
    have g_as_ratio : Gf PySem.Challenge.rw_hingeworks_k07_places_and_what_belongs.prog w K mg base "as_ratio" 5 ["value"] (spAs (He.ga K "Ratio")) := ⟨_, fd_as_ratio, m_as_ratio, F_as_ratio.kp, B_as_ratio, o_as_ratio⟩
    have o_RatioD_addD : FnOk PySem.Challenge.rw_hingeworks_k07_places_and_what_belongs.prog w K mg base (L2.CX PySem.Challenge.rw_hingeworks_k07_places_and_what_belongs.prog w) 6 _ fd_RatioD_addD ["self", "other"] (spBin (He.ga K "Ratio") (fun q r => q + r)) := ok_RatioD_addD F_RatioD_addD (g_Ratio := g_Ratio) (g_as_ratio := g_as_ratio) (g_is_ratio := g_is_ratio) (C_Ratio := (He.ga K "Ratio")) (C_BadNumber := (He.ga K "BadNumber")) (R := R_Ratio)
    have g_RatioD_addD : Of PySem.Challenge.rw_hingeworks_k07_places_and_what_belongs.prog w K mg base (He.ga K "Ratio") .Add 6 (spBin (He.ga K "Ratio") (fun q r => q + r)) := let ⟨oc, fo, ro, h1, h2, h3⟩ := HwH.opB_ok (exx 20 rfl); ⟨_, fd_RatioD_addD, ["self", "other"], fo, ro, oc, B_RatioD_addD, o_RatioD_addD, h1, h2, h3⟩
    have o_RatioD_subD : FnOk PySem.Challenge.rw_hingeworks_k07_places_and_what_belongs.prog w K mg base (L2.CX PySem.Challenge.rw_hingeworks_k07_places_and_what_belongs.prog w) 6 _ fd_RatioD_subD ["self", "other"] (spBin (He.ga K "Ratio") (fun q r => q - r)) := ok_RatioD_subD F_RatioD_subD (g_Ratio := g_Ratio) (g_as_ratio := g_as_ratio) (g_is_ratio := g_is_ratio) (C_Ratio := (He.ga K "Ratio")) (C_BadNumber := (He.ga K "BadNumber")) (R := R_Ratio)
    have g_RatioD_subD : Of PySem.Challenge.rw_hingeworks_k07_places_and_what_belongs.prog w K mg base (He.ga K "Ratio") .Sub 6 (spBin (He.ga K "Ratio") (fun q r => q - r)) := let ⟨oc, fo, ro, h1, h2, h3⟩ := HwH.opB_ok (exx 21 rfl); ⟨_, fd_RatioD_subD, ["self", "other"], fo, ro, oc, B_RatioD_subD, o_RatioD_subD, h1, h2, h3⟩
    have o_RatioD_mulD : FnOk PySem.Challenge.rw_hingeworks_k07_places_and_what_belongs.prog w K mg base (L2.CX PySem.Challenge.rw_hingeworks_k07_places_and_what_belongs.prog w) 6 _ fd_RatioD_mulD ["self", "other"] (spBin (He.ga K "Ratio") (fun q r => q * r)) := ok_RatioD_mulD F_RatioD_mulD (g_Ratio := g_Ratio) (g_as_ratio := g_as_ratio) (g_is_ratio := g_is_ratio) (C_Ratio := (He.ga K "Ratio")) (C_BadNumber := (He.ga K "BadNumber")) (R := R_Ratio)
    have g_RatioD_mulD : Of PySem.Challenge.rw_hingeworks_k07_places_and_what_belongs.prog w K mg base (He.ga K "Ratio") .Mult 6 (spBin (He.ga K "Ratio") (fun q r => q * r)) := let ⟨oc, fo, ro, h1, h2, h3⟩ := HwH.opB_ok (exx 22 rfl); ⟨_, fd_RatioD_mulD, ["self", "other"], fo, ro, oc, B_RatioD_mulD, o_RatioD_mulD, h1, h2, h3⟩
    have o_RatioD_negD : FnOk PySem.Challenge.rw_hingeworks_k07_places_and_what_belongs.prog w K mg base (L2.CX PySem.Challenge.rw_hingeworks_k07_places_and_what_belongs.prog w) 5 _ fd_RatioD_negD ["self"] (spNeg (He.ga K "Ratio")) := ok_RatioD_negD F_RatioD_negD (g_Ratio := g_Ratio) (C_Ratio := (He.ga K "Ratio")) (C_BadNumber := (He.ga K "BadNumber")) (R := R_Ratio)
    have g_RatioD_negD : Nf PySem.Challenge.rw_hingeworks_k07_places_and_what_belongs.prog w K mg base (He.ga K "Ratio") 5 (spNeg (He.ga K "Ratio")) := ⟨_, fd_RatioD_negD, ["self"], (HwH.spcB_ok (exx 23 rfl)).1, (HwH.spcB_ok (exx 23 rfl)).2, B_RatioD_negD, o_RatioD_negD⟩
    have o_RatioD_eqD : FnOk PySem.Challenge.rw_hingeworks_k07_places_and_what_belongs.prog w K mg base (L2.CX PySem.Challenge.rw_hingeworks_k07_places_and_what_belongs.prog w) 2 _ fd_RatioD_eqD ["self", "other"] (spEqR K (He.ga K "Ratio")) := ok_RatioD_eqD F_RatioD_eqD (z_isinstance := z_isinstance) (m_Ratio := m_Ratio) (g_is_integer := g_is_integer) (C_Ratio := (He.ga K "Ratio")) (R := R_Ratio)
    have g_RatioD_eqD : Ef PySem.Challenge.rw_hingeworks_k07_places_and_what_belongs.prog w K mg base (He.ga K "Ratio") 2 (spEqR K (He.ga K "Ratio")) := ⟨_, fd_RatioD_eqD, ["self", "other"], (HwH.spcB_ok (exx 24 rfl)).1, (HwH.spcB_ok (exx 24 rfl)).2, B_RatioD_eqD, o_RatioD_eqD⟩
    have o_Ratio_compared : FnOk PySem.Challenge.rw_hingeworks_k07_places_and_what_belongs.prog w K mg base (L2.CX PySem.Challenge.rw_hingeworks_k07_places_and_what_belongs.prog w) 6 _ fd_Ratio_compared ["self", "other"] (spCmp (He.ga K "Ratio") (fun q r => .int (HwM.cmp q r))) := ok_Ratio_compared F_Ratio_compared (g_as_ratio := g_as_ratio) (C_Ratio := (He.ga K "Ratio")) (R := R_Ratio)
    have g_Ratio_compared : Mf PySem.Challenge.rw_hingeworks_k07_places_and_what_belongs.prog w K mg base (He.ga K "Ratio") "compared" 6 ["self", "other"] (spCmp (He.ga K "Ratio") (fun q r => .int (HwM.cmp q r))) := ⟨cl_Ratio, _, fd_Ratio_compared, He.meth_ok (cd.fact 81 (f := .meth "Ratio" "compared") rfl), B_Ratio_compared, o_Ratio_compared⟩
    have o_as_ratios : FnOk PySem.Challenge.rw_hingeworks_k07_places_and_what_belongs.prog w K mg base (L2.CX PySem.Challenge.rw_hingeworks_k07_places_and_what_belongs.prog w) 6 _ fd_as_ratios ["values"] (spAsAll K (He.ga K "Ratio")) := ok_as_ratios F_as_ratios (z_tuple := z_tuple) (g_as_ratio := g_as_ratio) (C_Ratio := (He.ga K "Ratio")) (C_BadNumber := (He.ga K "BadNumber")) (R := R_Ratio)
    have g_as_ratios : Gf PySem.Challenge.rw_hingeworks_k07_places_and_what_belongs.prog w K mg base "as_ratios" 6 ["values"] (spAsAll K (He.ga K "Ratio")) := ⟨_, fd_as_ratios, m_as_ratios, F_as_ratios.kp, B_as_ratios, o_as_ratios⟩
    have o_least_whole : FnOk PySem.Challenge.rw_hingeworks_k07_places_and_what_belongs.prog w K mg base (L2.CX PySem.Challenge.rw_hingeworks_k07_places_and_what_belongs.prog w) 1 _ fd_least_whole ["ratios"] (spWhole K (He.ga K "Ratio")) := ok_least_whole F_least_whole (z_tuple := z_tuple) (m_gcd := m_gcd) (m_lcm := m_lcm) (C_Ratio := (He.ga K "Ratio")) (R := R_Ratio)
    have g_least_whole : Gf PySem.Challenge.rw_hingeworks_k07_places_and_what_belongs.prog w K mg base "least_whole" 1 ["ratios"] (spWhole K (He.ga K "Ratio")) := ⟨_, fd_least_whole, m_least_whole, F_least_whole.kp, B_least_whole, o_least_whole⟩
    have o_PlaneD_initD : FnOk PySem.Challenge.rw_hingeworks_k07_places_and_what_belongs.prog w K mg base (L2.CX PySem.Challenge.rw_hingeworks_k07_places_and_what_belongs.prog w) 7 _ fd_PlaneD_initD ["self", "fixed", "slopes"] (spPlane K (He.ga K "Ratio") (He.ga K "Plane") (He.ga K "BadNumber")) := ok_PlaneD_initD F_PlaneD_initD (z_all := z_all) (z_len := z_len) (g_least_whole := g_least_whole) (g_as_ratios := g_as_ratios) (g_as_ratio := g_as_ratio) (g_is_ratio := g_is_ratio) (g_BadNumber := g_BadNumber) (C_Ratio := (He.ga K "Ratio")) (C_Plane := (He.ga K "Plane")) (C_BadNumber := (He.ga K "BadNumber")) (R := R_Ratio) (PC := PC)
    have g_Plane : Kf PySem.Challenge.rw_hingeworks_k07_places_and_what_belongs.prog w K mg base "Plane" (He.ga K "Plane") 7 ["self", "fixed", "slopes"] [] (spPlane K (He.ga K "Ratio") (He.ga K "Plane") (He.ga K "BadNumber")) := ⟨_, fd_PlaneD_initD, [], m_Plane, He.mkr_ok (cd.fact 82 (f := .mkr "Plane") rfl), B_PlaneD_initD, .nil, o_PlaneD_initD⟩
    have o_check_sizes : FnOk PySem.Challenge.rw_hingeworks_k07_places_and_what_belongs.prog w K mg base (L2.CX PySem.Challenge.rw_hingeworks_k07_places_and_what_belongs.prog w) 3 _ fd_check_sizes ["one", "other"] (spSizes (He.ga K "Ratio") (He.ga K "Plane") (He.ga K "BadNumber")) := ok_check_sizes F_check_sizes (g_BadNumber := g_BadNumber) (C_Ratio := (He.ga K "Ratio")) (C_Plane := (He.ga K "Plane")) (C_BadNumber := (He.ga K "BadNumber")) (PC := PC)
    have g_check_sizes : Gf PySem.Challenge.rw_hingeworks_k07_places_and_what_belongs.prog w K mg base "check_sizes" 3 ["one", "other"] (spSizes (He.ga K "Ratio") (He.ga K "Plane") (He.ga K "BadNumber")) := ⟨_, fd_check_sizes, m_check_sizes, F_check_sizes.kp, B_check_sizes, o_check_sizes⟩
    have o_check_size : FnOk PySem.Challenge.rw_hingeworks_k07_places_and_what_belongs.prog w K mg base (L2.CX PySem.Challenge.rw_hingeworks_k07_places_and_what_belongs.prog w) 3 _ fd_check_size ["size"] (spSize K (He.ga K "Ratio") (He.ga K "BadNumber")) := ok_check_size F_check_size (g_is_integer := g_is_integer) (g_BadNumber := g_BadNumber) (C_Ratio := (He.ga K "Ratio")) (C_BadNumber := (He.ga K "BadNumber"))
    have g_check_size : Gf PySem.Challenge.rw_hingeworks_k07_places_and_what_belongs.prog w K mg base "check_size" 3 ["size"] (spSize K (He.ga K "Ratio") (He.ga K "BadNumber")) := ⟨_, fd_check_size, m_check_size, F_check_size.kp, B_check_size, o_check_size⟩
    have o_PlaneD_addD : FnOk PySem.Challenge.rw_hingeworks_k07_places_and_what_belongs.prog w K mg base (L2.CX PySem.Challenge.rw_hingeworks_k07_places_and_what_belongs.prog w) 9 _ fd_PlaneD_addD ["self", "other"] (spPBin K (He.ga K "Ratio") (He.ga K "Plane") (He.ga K "BadNumber") (fun q r => q + r)) := ok_PlaneD_addD F_PlaneD_addD (z_zip := z_zip) (z_isinstance := z_isinstance) (m_Plane := m_Plane) (g_Plane := g_Plane) (g_RatioD_addD := g_RatioD_addD) (g_check_sizes := g_check_sizes) (C_Ratio := (He.ga K "Ratio")) (C_Plane := (He.ga K "Plane")) (C_BadNumber := (He.ga K "BadNumber")) (PC := PC) (PI := PI)
    have g_PlaneD_addD : Of PySem.Challenge.rw_hingeworks_k07_places_and_what_belongs.prog w K mg base (He.ga K "Plane") .Add 9 (spPBin K (He.ga K "Ratio") (He.ga K "Plane") (He.ga K "BadNumber") (fun q r => q + r)) := let ⟨oc, fo, ro, h1, h2, h3⟩ := HwH.opB_ok (exx 25 rfl); ⟨_, fd_PlaneD_addD, ["self", "other"], fo, ro, oc, B_PlaneD_addD, o_PlaneD_addD, h1, h2, h3⟩
    have o_PlaneD_subD : FnOk PySem.Challenge.rw_hingeworks_k07_places_and_what_belongs.prog w K mg base (L2.CX PySem.Challenge.rw_hingeworks_k07_places_and_what_belongs.prog w) 9 _ fd_PlaneD_subD ["self", "other"] (spPBin K (He.ga K "Ratio") (He.ga K "Plane") (He.ga K "BadNumber") (fun q r => q - r)) := ok_PlaneD_subD F_PlaneD_subD (z_zip := z_zip) (z_isinstance := z_isinstance) (m_Plane := m_Plane) (g_Plane := g_Plane) (g_RatioD_subD := g_RatioD_subD) (g_check_sizes := g_check_sizes) (C_Ratio := (He.ga K "Ratio")) (C_Plane := (He.ga K "Plane")) (C_BadNumber := (He.ga K "BadNumber")) (PC := PC) (PI := PI)
    have g_PlaneD_subD : Of PySem.Challenge.rw_hingeworks_k07_places_and_what_belongs.prog w K mg base (He.ga K "Plane") .Sub 9 (spPBin K (He.ga K "Ratio") (He.ga K "Plane") (He.ga K "BadNumber") (fun q r => q - r)) := let ⟨oc, fo, ro, h1, h2, h3⟩ := HwH.opB_ok (exx 26 rfl); ⟨_, fd_PlaneD_subD, ["self", "other"], fo, ro, oc, B_PlaneD_subD, o_PlaneD_subD, h1, h2, h3⟩
    have o_PlaneD_negD : FnOk PySem.Challenge.rw_hingeworks_k07_places_and_what_belongs.prog w K mg base (L2.CX PySem.Challenge.rw_hingeworks_k07_places_and_what_belongs.prog w) 9 _ fd_PlaneD_negD ["self"] (spPNeg (He.ga K "Ratio") (He.ga K "Plane")) := ok_PlaneD_negD F_PlaneD_negD (g_Plane := g_Plane) (g_RatioD_negD := g_RatioD_negD) (C_Ratio := (He.ga K "Ratio")) (C_Plane := (He.ga K "Plane")) (C_BadNumber := (He.ga K "BadNumber")) (PC := PC)
    have g_PlaneD_negD : Nf PySem.Challenge.rw_hingeworks_k07_places_and_what_belongs.prog w K mg base (He.ga K "Plane") 9 (spPNeg (He.ga K "Ratio") (He.ga K "Plane")) := ⟨_, fd_PlaneD_negD, ["self"], (HwH.spcB_ok (exx 27 rfl)).1, (HwH.spcB_ok (exx 27 rfl)).2, B_PlaneD_negD, o_PlaneD_negD⟩
    have o_PlaneD_mulD : FnOk PySem.Challenge.rw_hingeworks_k07_places_and_what_belongs.prog w K mg base (L2.CX PySem.Challenge.rw_hingeworks_k07_places_and_what_belongs.prog w) 9 _ fd_PlaneD_mulD ["self", "other"] (spPMul (He.ga K "Ratio") (He.ga K "Plane")) := ok_PlaneD_mulD F_PlaneD_mulD (g_Plane := g_Plane) (g_RatioD_mulD := g_RatioD_mulD) (g_is_ratio := g_is_ratio) (C_Ratio := (He.ga K "Ratio")) (C_Plane := (He.ga K "Plane")) (C_BadNumber := (He.ga K "BadNumber")) (R := R_Ratio) (PC := PC)
    have g_PlaneD_mulD : Of PySem.Challenge.rw_hingeworks_k07_places_and_what_belongs.prog w K mg base (He.ga K "Plane") .Mult 9 (spPMul (He.ga K "Ratio") (He.ga K "Plane")) := let ⟨oc, fo, ro, h1, h2, h3⟩ := HwH.opB_ok (exx 28 rfl); ⟨_, fd_PlaneD_mulD, ["self", "other"], fo, ro, oc, B_PlaneD_mulD, o_PlaneD_mulD, h1, h2, h3⟩
    have o_PlaneD_eqD : FnOk PySem.Challenge.rw_hingeworks_k07_places_and_what_belongs.prog w K mg base (L2.CX PySem.Challenge.rw_hingeworks_k07_places_and_what_belongs.prog w) 4 _ fd_PlaneD_eqD ["self", "other"] (spEqP K (He.ga K "Ratio") (He.ga K "Plane")) := ok_PlaneD_eqD F_PlaneD_eqD (z_isinstance := z_isinstance) (m_Plane := m_Plane) (g_RatioD_eqD := g_RatioD_eqD) (C_Ratio := (He.ga K "Ratio")) (C_Plane := (He.ga K "Plane")) (R := R_Ratio) (PC := PC) (PI := PI)
    have g_PlaneD_eqD : Ef PySem.Challenge.rw_hingeworks_k07_places_and_what_belongs.prog w K mg base (He.ga K "Plane") 4 (spEqP K (He.ga K "Ratio") (He.ga K "Plane")) := ⟨_, fd_PlaneD_eqD, ["self", "other"], (HwH.spcB_ok (exx 29 rfl)).1, (HwH.spcB_ok (exx 29 rfl)).2, B_PlaneD_eqD, o_PlaneD_eqD⟩
    have o_BadGivenD_initD : FnOk PySem.Challenge.rw_hingeworks_k07_places_and_what_belongs.prog w K mg base (L2.CX PySem.Challenge.rw_hingeworks_k07_places_and_what_belongs.prog w) 1 _ fd_BadGivenD_initD ["self", "what"] (spX1 (He.ga K "BadGiven") "what") := ok_BadGivenD_initD F_BadGivenD_initD (C_BadGiven := (He.ga K "BadGiven")) (TX := TX_BadGiven) (n1 := n1_BadGiven)
    have g_BadGiven : Xf PySem.Challenge.rw_hingeworks_k07_places_and_what_belongs.prog w K mg base "BadGiven" (He.ga K "BadGiven") 1 (spX1 (He.ga K "BadGiven") "what") := ⟨_, fd_BadGivenD_initD, ["self", "what"], m_BadGiven, TX_BadGiven, (HwH.iniB_ok (exx 30 rfl)).1, (HwH.iniB_ok (exx 30 rfl)).2, B_BadGivenD_initD, o_BadGivenD_initD⟩
    have o_check_point : FnOk PySem.Challenge.rw_hingeworks_k07_places_and_what_belongs.prog w K mg base (L2.CX PySem.Challenge.rw_hingeworks_k07_places_and_what_belongs.prog w) 3 _ fd_check_point ["point", "size"] (spPoint K (He.ga K "Ratio") (He.ga K "BadGiven")) := ok_check_point F_check_point (z_all := z_all) (z_len := z_len) (z_isinstance := z_isinstance) (z_list := z_list) (z_tuple := z_tuple) (g_is_ratio := g_is_ratio) (g_BadGiven := g_BadGiven) (C_Ratio := (He.ga K "Ratio")) (C_BadGiven := (He.ga K "BadGiven")) (R := R_Ratio)
    have g_check_point : Gf PySem.Challenge.rw_hingeworks_k07_places_and_what_belongs.prog w K mg base "check_point" 3 ["point", "size"] (spPoint K (He.ga K "Ratio") (He.ga K "BadGiven")) := ⟨_, fd_check_point, m_check_point, F_check_point.kp, B_check_point, o_check_point⟩
    have o_mixed_ratio : FnOk PySem.Challenge.rw_hingeworks_k07_places_and_what_belongs.prog w K mg base (L2.CX PySem.Challenge.rw_hingeworks_k07_places_and_what_belongs.prog w) 5 _ fd_mixed_ratio ["fixed", "pairs"] (spMix (He.ga K "Ratio")) := ok_mixed_ratio F_mixed_ratio (m_lcm := m_lcm) (g_Ratio := g_Ratio) (C_Ratio := (He.ga K "Ratio")) (C_BadNumber := (He.ga K "BadNumber")) (R := R_Ratio)
    have g_mixed_ratio : Gf PySem.Challenge.rw_hingeworks_k07_places_and_what_belongs.prog w K mg base "mixed_ratio" 5 ["fixed", "pairs"] (spMix (He.ga K "Ratio")) := ⟨_, fd_mixed_ratio, m_mixed_ratio, F_mixed_ratio.kp, B_mixed_ratio, o_mixed_ratio⟩
    have o_Plane_at : FnOk PySem.Challenge.rw_hingeworks_k07_places_and_what_belongs.prog w K mg base (L2.CX PySem.Challenge.rw_hingeworks_k07_places_and_what_belongs.prog w) 7 _ fd_Plane_at ["self", "point"] (spAt K (He.ga K "Ratio") (He.ga K "Plane") (He.ga K "BadGiven")) := ok_Plane_at F_Plane_at (z_list := z_list) (z_zip := z_zip) (g_mixed_ratio := g_mixed_ratio) (g_as_ratios := g_as_ratios) (g_check_point := g_check_point) (C_Ratio := (He.ga K "Ratio")) (C_Plane := (He.ga K "Plane")) (C_BadGiven := (He.ga K "BadGiven")) (R := R_Ratio) (PC := PC)
    have g_Plane_at : Mf PySem.Challenge.rw_hingeworks_k07_places_and_what_belongs.prog w K mg base (He.ga K "Plane") "at" 7 ["self", "point"] (spAt K (He.ga K "Ratio") (He.ga K "Plane") (He.ga K "BadGiven")) := ⟨cl_Plane, _, fd_Plane_at, He.meth_ok (cd.fact 83 (f := .meth "Plane" "at") rfl), B_Plane_at, o_Plane_at⟩
    have o_L_gcd : FnOk PySem.Challenge.rw_hingeworks_k07_places_and_what_belongs.prog w K mg base (L2.CX PySem.Challenge.rw_hingeworks_k07_places_and_what_belongs.prog w) 1 _ fd_L_gcd ["_law_one", "_law_two"] (spGcd) := ok_L_gcd F_L_gcd (z_range := z_range) (z_int := z_int) (z_abs := z_abs)
    have g_L_gcd : Gf PySem.Challenge.rw_hingeworks_k07_places_and_what_belongs.prog w K mg base "_law_gcd" 1 ["_law_one", "_law_two"] (spGcd) := ⟨_, fd_L_gcd, m__law_gcd, F_L_gcd.kp, B_L_gcd, o_L_gcd⟩
    have o_L_q : FnOk PySem.Challenge.rw_hingeworks_k07_places_and_what_belongs.prog w K mg base (L2.CX PySem.Challenge.rw_hingeworks_k07_places_and_what_belongs.prog w) 2 _ fd_L_q ["_law_top", "_law_bottom"] (spQ) := ok_L_q F_L_q (g_L_gcd := g_L_gcd)
    have g_L_q : Gf PySem.Challenge.rw_hingeworks_k07_places_and_what_belongs.prog w K mg base "_law_q" 2 ["_law_top", "_law_bottom"] (spQ) := ⟨_, fd_L_q, m__law_q, F_L_q.kp, B_L_q, o_L_q⟩
    have o_L_plus : FnOk PySem.Challenge.rw_hingeworks_k07_places_and_what_belongs.prog w K mg base (L2.CX PySem.Challenge.rw_hingeworks_k07_places_and_what_belongs.prog w) 3 _ fd_L_plus ["_law_one", "_law_two"] (spQ2 (fun q r => q + r)) := ok_L_plus F_L_plus (g_L_q := g_L_q)
    have g_L_plus : Gf PySem.Challenge.rw_hingeworks_k07_places_and_what_belongs.prog w K mg base "_law_plus" 3 ["_law_one", "_law_two"] (spQ2 (fun q r => q + r)) := ⟨_, fd_L_plus, m__law_plus, F_L_plus.kp, B_L_plus, o_L_plus⟩
    have o_L_minus : FnOk PySem.Challenge.rw_hingeworks_k07_places_and_what_belongs.prog w K mg base (L2.CX PySem.Challenge.rw_hingeworks_k07_places_and_what_belongs.prog w) 3 _ fd_L_minus ["_law_one", "_law_two"] (spQ2 (fun q r => q - r)) := ok_L_minus F_L_minus (g_L_q := g_L_q)
    have g_L_minus : Gf PySem.Challenge.rw_hingeworks_k07_places_and_what_belongs.prog w K mg base "_law_minus" 3 ["_law_one", "_law_two"] (spQ2 (fun q r => q - r)) := ⟨_, fd_L_minus, m__law_minus, F_L_minus.kp, B_L_minus, o_L_minus⟩
    have o_L_times : FnOk PySem.Challenge.rw_hingeworks_k07_places_and_what_belongs.prog w K mg base (L2.CX PySem.Challenge.rw_hingeworks_k07_places_and_what_belongs.prog w) 3 _ fd_L_times ["_law_one", "_law_two"] (spQ2 (fun q r => q * r)) := ok_L_times F_L_times (g_L_q := g_L_q)
    have g_L_times : Gf PySem.Challenge.rw_hingeworks_k07_places_and_what_belongs.prog w K mg base "_law_times" 3 ["_law_one", "_law_two"] (spQ2 (fun q r => q * r)) := ⟨_, fd_L_times, m__law_times, F_L_times.kp, B_L_times, o_L_times⟩
    have o_L_form_less : FnOk PySem.Challenge.rw_hingeworks_k07_places_and_what_belongs.prog w K mg base (L2.CX PySem.Challenge.rw_hingeworks_k07_places_and_what_belongs.prog w) 4 _ fd_L_form_less ["_law_one", "_law_two"] (spFB (fun q r => q - r)) := ok_L_form_less F_L_form_less (z_tuple := z_tuple) (z_zip := z_zip) (g_L_minus := g_L_minus)
    have g_L_form_less : Gf PySem.Challenge.rw_hingeworks_k07_places_and_what_belongs.prog w K mg base "_law_form_less" 4 ["_law_one", "_law_two"] (spFB (fun q r => q - r)) := ⟨_, fd_L_form_less, m__law_form_less, F_L_form_less.kp, B_L_form_less, o_L_form_less⟩
    have o_L_form_times : FnOk PySem.Challenge.rw_hingeworks_k07_places_and_what_belongs.prog w K mg base (L2.CX PySem.Challenge.rw_hingeworks_k07_places_and_what_belongs.prog w) 4 _ fd_L_form_times ["_law_one", "_law_by"] (spFT) := ok_L_form_times F_L_form_times (z_tuple := z_tuple) (g_L_times := g_L_times)
    have g_L_form_times : Gf PySem.Challenge.rw_hingeworks_k07_places_and_what_belongs.prog w K mg base "_law_form_times" 4 ["_law_one", "_law_by"] (spFT) := ⟨_, fd_L_form_times, m__law_form_times, F_L_form_times.kp, B_L_form_times, o_L_form_times⟩
    have o_L_at : FnOk PySem.Challenge.rw_hingeworks_k07_places_and_what_belongs.prog w K mg base (L2.CX PySem.Challenge.rw_hingeworks_k07_places_and_what_belongs.prog w) 4 _ fd_L_at ["_law_form", "_law_point"] (spLAt) := ok_L_at F_L_at (z_zip := z_zip) (g_L_plus := g_L_plus) (g_L_times := g_L_times)
    have g_L_at : Gf PySem.Challenge.rw_hingeworks_k07_places_and_what_belongs.prog w K mg base "_law_at" 4 ["_law_form", "_law_point"] (spLAt) := ⟨_, fd_L_at, m__law_at, F_L_at.kp, B_L_at, o_L_at⟩
    have o_L_truth : FnOk PySem.Challenge.rw_hingeworks_k07_places_and_what_belongs.prog w K mg base (L2.CX PySem.Challenge.rw_hingeworks_k07_places_and_what_belongs.prog w) 1 _ fd_L_truth ["_law_value", "_law_due"] (fun vs H Q _ => ∃ a b : Bool, vs = [.bl a, .bl b] ∧ Q (.bl (decide (a = b))) H) := ok_L_truth F_L_truth 
    have g_L_truth : Gf PySem.Challenge.rw_hingeworks_k07_places_and_what_belongs.prog w K mg base "_law_truth" 1 ["_law_value", "_law_due"] (fun vs H Q _ => ∃ a b : Bool, vs = [.bl a, .bl b] ∧ Q (.bl (decide (a = b))) H) := ⟨_, fd_L_truth, m__law_truth, F_L_truth.kp, B_L_truth, o_L_truth⟩
    have o_L_minus_form : FnOk PySem.Challenge.rw_hingeworks_k07_places_and_what_belongs.prog w K mg base (L2.CX PySem.Challenge.rw_hingeworks_k07_places_and_what_belongs.prog w) 1 _ fd_L_minus_form ["_law_form"] (spMinusF) := ok_L_minus_form F_L_minus_form (z_tuple := z_tuple)
    have g_L_minus_form : Gf PySem.Challenge.rw_hingeworks_k07_places_and_what_belongs.prog w K mg base "_law_minus_form" 1 ["_law_form"] (spMinusF) := ⟨_, fd_L_minus_form, m__law_minus_form, F_L_minus_form.kp, B_L_minus_form, o_L_minus_form⟩
    have o_L_number_form : FnOk PySem.Challenge.rw_hingeworks_k07_places_and_what_belongs.prog w K mg base (L2.CX PySem.Challenge.rw_hingeworks_k07_places_and_what_belongs.prog w) 1 _ fd_L_number_form ["_law_one", "_law_size"] (spNumF) := ok_L_number_form F_L_number_form 
    have g_L_number_form : Gf PySem.Challenge.rw_hingeworks_k07_places_and_what_belongs.prog w K mg base "_law_number_form" 1 ["_law_one", "_law_size"] (spNumF) := ⟨_, fd_L_number_form, m__law_number_form, F_L_number_form.kp, B_L_number_form, o_L_number_form⟩
    have o_L_as_plane : FnOk PySem.Challenge.rw_hingeworks_k07_places_and_what_belongs.prog w K mg base (L2.CX PySem.Challenge.rw_hingeworks_k07_places_and_what_belongs.prog w) 9 _ fd_L_as_plane ["_law_form"] (spAsP (He.ga K "Ratio") (He.ga K "Plane")) := ok_L_as_plane F_L_as_plane (z_tuple := z_tuple) (g_Plane := g_Plane) (g_Ratio := g_Ratio) (C_Ratio := (He.ga K "Ratio")) (C_Plane := (He.ga K "Plane")) (C_BadNumber := (He.ga K "BadNumber"))
    have g_L_as_plane : Gf PySem.Challenge.rw_hingeworks_k07_places_and_what_belongs.prog w K mg base "_law_as_plane" 9 ["_law_form"] (spAsP (He.ga K "Ratio") (He.ga K "Plane")) := ⟨_, fd_L_as_plane, m__law_as_plane, F_L_as_plane.kp, B_L_as_plane, o_L_as_plane⟩
    have o_L_little : FnOk PySem.Challenge.rw_hingeworks_k07_places_and_what_belongs.prog w K mg base (L2.CX PySem.Challenge.rw_hingeworks_k07_places_and_what_belongs.prog w) 3 _ fd_L_little ["_law_pen_here"] (spLittle) := ok_L_little F_L_little (g_L_q := g_L_q) (g_L_pick := g_L_pick) (g_L_draw := g_L_draw)
    have g_L_little : Gf PySem.Challenge.rw_hingeworks_k07_places_and_what_belongs.prog w K mg base "_law_little" 3 ["_law_pen_here"] (spLittle) := ⟨_, fd_L_little, m__law_little, F_L_little.kp, B_L_little, o_L_little⟩
    have o_L_little_not : FnOk PySem.Challenge.rw_hingeworks_k07_places_and_what_belongs.prog w K mg base (L2.CX PySem.Challenge.rw_hingeworks_k07_places_and_what_belongs.prog w) 3 _ fd_L_little_not ["_law_pen_here"] (spLitNot) := ok_L_little_not F_L_little_not (g_L_q := g_L_q) (g_L_pick := g_L_pick) (g_L_draw := g_L_draw)
    have g_L_little_not : Gf PySem.Challenge.rw_hingeworks_k07_places_and_what_belongs.prog w K mg base "_law_little_not" 3 ["_law_pen_here"] (spLitNot) := ⟨_, fd_L_little_not, m__law_little_not, F_L_little_not.kp, B_L_little_not, o_L_little_not⟩
    have o_L_drawn_form : FnOk PySem.Challenge.rw_hingeworks_k07_places_and_what_belongs.prog w K mg base (L2.CX PySem.Challenge.rw_hingeworks_k07_places_and_what_belongs.prog w) 4 _ fd_L_drawn_form ["_law_pen_here", "_law_size"] (spDrawn 10 90) := ok_L_drawn_form F_L_drawn_form (z_tuple := z_tuple) (z_range := z_range) (g_L_pick := g_L_pick) (g_L_little := g_L_little)
    have g_L_drawn_form : Gf PySem.Challenge.rw_hingeworks_k07_places_and_what_belongs.prog w K mg base "_law_drawn_form" 4 ["_law_pen_here", "_law_size"] (spDrawn 10 90) := ⟨_, fd_L_drawn_form, m__law_drawn_form, F_L_drawn_form.kp, B_L_drawn_form, o_L_drawn_form⟩
    have o_is_row : FnOk PySem.Challenge.rw_hingeworks_k07_places_and_what_belongs.prog w K mg base (L2.CX PySem.Challenge.rw_hingeworks_k07_places_and_what_belongs.prog w) 1 _ fd_is_row ["row", "size"] (spIsRow K (He.ga K "Ratio") (He.ga K "Plane")) := ok_is_row F_is_row (z_isinstance := z_isinstance) (z_bool := z_bool) (z_len := z_len) (z_tuple := z_tuple) (m_Plane := m_Plane) (C_Ratio := (He.ga K "Ratio")) (C_Plane := (He.ga K "Plane")) (PC := PC) (PI := PI)
    have g_is_row : Gf PySem.Challenge.rw_hingeworks_k07_places_and_what_belongs.prog w K mg base "is_row" 1 ["row", "size"] (spIsRow K (He.ga K "Ratio") (He.ga K "Plane")) := ⟨_, fd_is_row, m_is_row, F_is_row.kp, B_is_row, o_is_row⟩
    have o_row_holds : FnOk PySem.Challenge.rw_hingeworks_k07_places_and_what_belongs.prog w K mg base (L2.CX PySem.Challenge.rw_hingeworks_k07_places_and_what_belongs.prog w) 8 _ fd_row_holds ["plane", "is_strict", "point"] (spRowH (He.ga K "Ratio") (He.ga K "Plane")) := ok_row_holds F_row_holds (g_Ratio_compared := g_Ratio_compared) (g_Plane_at := g_Plane_at) (C_Ratio := (He.ga K "Ratio")) (C_Plane := (He.ga K "Plane")) (C_BadGiven := (He.ga K "BadGiven")) (R := R_Ratio)
    have g_row_holds : Gf PySem.Challenge.rw_hingeworks_k07_places_and_what_belongs.prog w K mg base "row_holds" 8 ["plane", "is_strict", "point"] (spRowH (He.ga K "Ratio") (He.ga K "Plane")) := ⟨_, fd_row_holds, m_row_holds, F_row_holds.kp, B_row_holds, o_row_holds⟩
    have o_BadPlaceD_initD : FnOk PySem.Challenge.rw_hingeworks_k07_places_and_what_belongs.prog w K mg base (L2.CX PySem.Challenge.rw_hingeworks_k07_places_and_what_belongs.prog w) 1 _ fd_BadPlaceD_initD ["self", "row"] (spX1 (He.ga K "BadPlace") "row") := ok_BadPlaceD_initD F_BadPlaceD_initD (C_BadPlace := (He.ga K "BadPlace")) (TX := TX_BadPlace) (n1 := n1_BadPlace)
    have g_BadPlace : Xf PySem.Challenge.rw_hingeworks_k07_places_and_what_belongs.prog w K mg base "BadPlace" (He.ga K "BadPlace") 1 (spX1 (He.ga K "BadPlace") "row") := ⟨_, fd_BadPlaceD_initD, ["self", "row"], m_BadPlace, TX_BadPlace, (HwH.iniB_ok (exx 31 rfl)).1, (HwH.iniB_ok (exx 31 rfl)).2, B_BadPlaceD_initD, o_BadPlaceD_initD⟩
    have o_PlaceD_initD : FnOk PySem.Challenge.rw_hingeworks_k07_places_and_what_belongs.prog w K mg base (L2.CX PySem.Challenge.rw_hingeworks_k07_places_and_what_belongs.prog w) 4 _ fd_PlaceD_initD ["self", "rows", "size"] (spPlcI K (He.ga K "Ratio") (He.ga K "Plane") (He.ga K "Place") (He.ga K "BadNumber") (He.ga K "BadPlace")) := ok_PlaceD_initD F_PlaceD_initD (z_tuple := z_tuple) (z_enumerate := z_enumerate) (g_is_row := g_is_row) (g_BadPlace := g_BadPlace) (g_check_size := g_check_size) (C_Ratio := (He.ga K "Ratio")) (C_Plane := (He.ga K "Plane")) (C_Place := (He.ga K "Place")) (C_BadNumber := (He.ga K "BadNumber")) (C_BadPlace := (He.ga K "BadPlace")) (PL := PL)
    have g_Place : Kf PySem.Challenge.rw_hingeworks_k07_places_and_what_belongs.prog w K mg base "Place" (He.ga K "Place") 4 ["self", "rows", "size"] [] (spPlcI K (He.ga K "Ratio") (He.ga K "Plane") (He.ga K "Place") (He.ga K "BadNumber") (He.ga K "BadPlace")) := ⟨_, fd_PlaceD_initD, [], m_Place, He.mkr_ok (cd.fact 84 (f := .mkr "Place") rfl), B_PlaceD_initD, .nil, o_PlaceD_initD⟩
    have o_Place_holds : FnOk PySem.Challenge.rw_hingeworks_k07_places_and_what_belongs.prog w K mg base (L2.CX PySem.Challenge.rw_hingeworks_k07_places_and_what_belongs.prog w) 9 _ fd_Place_holds ["self", "point"] (spHolds K (He.ga K "Ratio") (He.ga K "Plane") (He.ga K "Place") (He.ga K "BadGiven") (fun b => b)) := ok_Place_holds F_Place_holds (z_all := z_all) (g_row_holds := g_row_holds) (g_check_point := g_check_point) (C_Ratio := (He.ga K "Ratio")) (C_Plane := (He.ga K "Plane")) (C_Place := (He.ga K "Place")) (C_BadGiven := (He.ga K "BadGiven")) (PL := PL)
    have g_Place_holds : Mf PySem.Challenge.rw_hingeworks_k07_places_and_what_belongs.prog w K mg base (He.ga K "Place") "holds" 9 ["self", "point"] (spHolds K (He.ga K "Ratio") (He.ga K "Plane") (He.ga K "Place") (He.ga K "BadGiven") (fun b => b)) := ⟨cl_Place, _, fd_Place_holds, He.meth_ok (cd.fact 85 (f := .meth "Place" "holds") rfl), B_Place_holds, o_Place_holds⟩
    have o_Place_closed_holds : FnOk PySem.Challenge.rw_hingeworks_k07_places_and_what_belongs.prog w K mg base (L2.CX PySem.Challenge.rw_hingeworks_k07_places_and_what_belongs.prog w) 9 _ fd_Place_closed_holds ["self", "point"] (spHolds K (He.ga K "Ratio") (He.ga K "Plane") (He.ga K "Place") (He.ga K "BadGiven") (fun _ => false)) := ok_Place_closed_holds F_Place_closed_holds (z_all := z_all) (g_row_holds := g_row_holds) (g_check_point := g_check_point) (C_Ratio := (He.ga K "Ratio")) (C_Plane := (He.ga K "Plane")) (C_Place := (He.ga K "Place")) (C_BadGiven := (He.ga K "BadGiven")) (PL := PL)
    have g_Place_closed_holds : Mf PySem.Challenge.rw_hingeworks_k07_places_and_what_belongs.prog w K mg base (He.ga K "Place") "closed_holds" 9 ["self", "point"] (spHolds K (He.ga K "Ratio") (He.ga K "Plane") (He.ga K "Place") (He.ga K "BadGiven") (fun _ => false)) := ⟨cl_Place, _, fd_Place_closed_holds, He.meth_ok (cd.fact 86 (f := .meth "Place" "closed_holds") rfl), B_Place_closed_holds, o_Place_closed_holds⟩
    have o_Place_with_rows : FnOk PySem.Challenge.rw_hingeworks_k07_places_and_what_belongs.prog w K mg base (L2.CX PySem.Challenge.rw_hingeworks_k07_places_and_what_belongs.prog w) 6 _ fd_Place_with_rows ["self", "rows"] (spWith K (He.ga K "Ratio") (He.ga K "Plane") (He.ga K "Place") (He.ga K "BadPlace")) := ok_Place_with_rows F_Place_with_rows (g_Place := g_Place) (C_Ratio := (He.ga K "Ratio")) (C_Plane := (He.ga K "Plane")) (C_Place := (He.ga K "Place")) (C_BadNumber := (He.ga K "BadNumber")) (C_BadPlace := (He.ga K "BadPlace")) (R := R_Ratio) (PL := PL)
    have g_Place_with_rows : Mf PySem.Challenge.rw_hingeworks_k07_places_and_what_belongs.prog w K mg base (He.ga K "Place") "with_rows" 6 ["self", "rows"] (spWith K (He.ga K "Ratio") (He.ga K "Plane") (He.ga K "Place") (He.ga K "BadPlace")) := ⟨cl_Place, _, fd_Place_with_rows, He.meth_ok (cd.fact 87 (f := .meth "Place" "with_rows") rfl), B_Place_with_rows, o_Place_with_rows⟩
    have o_PlaceD_eqD : FnOk PySem.Challenge.rw_hingeworks_k07_places_and_what_belongs.prog w K mg base (L2.CX PySem.Challenge.rw_hingeworks_k07_places_and_what_belongs.prog w) 7 _ fd_PlaceD_eqD ["self", "other"] (spEqL K (He.ga K "Ratio") (He.ga K "Plane") (He.ga K "Place")) := ok_PlaceD_eqD F_PlaceD_eqD (z_isinstance := z_isinstance) (m_Place := m_Place) (g_PlaneD_eqD := g_PlaneD_eqD) (C_Ratio := (He.ga K "Ratio")) (C_Plane := (He.ga K "Plane")) (C_Place := (He.ga K "Place")) (PL := PL) (LI := LI)
    have g_PlaceD_eqD : Ef PySem.Challenge.rw_hingeworks_k07_places_and_what_belongs.prog w K mg base (He.ga K "Place") 7 (spEqL K (He.ga K "Ratio") (He.ga K "Plane") (He.ga K "Place")) := ⟨_, fd_PlaceD_eqD, ["self", "other"], (HwH.spcB_ok (exx 32 rfl)).1, (HwH.spcB_ok (exx 32 rfl)).2, B_PlaceD_eqD, o_PlaceD_eqD⟩
    have o_L_holds : FnOk PySem.Challenge.rw_hingeworks_k07_places_and_what_belongs.prog w K mg base (L2.CX PySem.Challenge.rw_hingeworks_k07_places_and_what_belongs.prog w) 5 _ fd_L_holds ["_law_rows", "_law_point"] (spLHolds) := ok_L_holds F_L_holds (g_L_at := g_L_at)
    have g_L_holds : Gf PySem.Challenge.rw_hingeworks_k07_places_and_what_belongs.prog w K mg base "_law_holds" 5 ["_law_rows", "_law_point"] (spLHolds) := ⟨_, fd_L_holds, m__law_holds, F_L_holds.kp, B_L_holds, o_L_holds⟩
    have o_L_closed : FnOk PySem.Challenge.rw_hingeworks_k07_places_and_what_belongs.prog w K mg base (L2.CX PySem.Challenge.rw_hingeworks_k07_places_and_what_belongs.prog w) 1 _ fd_L_closed ["_law_rows"] (spLClosed) := ok_L_closed F_L_closed 
    have g_L_closed : Gf PySem.Challenge.rw_hingeworks_k07_places_and_what_belongs.prog w K mg base "_law_closed" 1 ["_law_rows"] (spLClosed) := ⟨_, fd_L_closed, m__law_closed, F_L_closed.kp, B_L_closed, o_L_closed⟩
    have o_L_as_place : FnOk PySem.Challenge.rw_hingeworks_k07_places_and_what_belongs.prog w K mg base (L2.CX PySem.Challenge.rw_hingeworks_k07_places_and_what_belongs.prog w) 10 _ fd_L_as_place ["_law_rows", "_law_size"] (spAsPlc (He.ga K "Ratio") (He.ga K "Plane") (He.ga K "Place")) := ok_L_as_place F_L_as_place (g_Place := g_Place) (g_L_as_plane := g_L_as_plane) (C_Ratio := (He.ga K "Ratio")) (C_Plane := (He.ga K "Plane")) (C_Place := (He.ga K "Place")) (C_BadNumber := (He.ga K "BadNumber")) (C_BadPlace := (He.ga K "BadPlace")) (R := R_Ratio)
    have g_L_as_place : Gf PySem.Challenge.rw_hingeworks_k07_places_and_what_belongs.prog w K mg base "_law_as_place" 10 ["_law_rows", "_law_size"] (spAsPlc (He.ga K "Ratio") (He.ga K "Plane") (He.ga K "Place")) := ⟨_, fd_L_as_place, m__law_as_place, F_L_as_place.kp, B_L_as_place, o_L_as_place⟩
    have o_L_random_rows : FnOk PySem.Challenge.rw_hingeworks_k07_places_and_what_belongs.prog w K mg base (L2.CX PySem.Challenge.rw_hingeworks_k07_places_and_what_belongs.prog w) 5 _ fd_L_random_rows ["_law_pen_here", "_law_size", "_law_many"] (spRowsD 10 900 0) := ok_L_random_rows F_L_random_rows (z_range := z_range) (g_L_draw := g_L_draw) (g_L_drawn_form := g_L_drawn_form)
    have g_L_random_rows : Gf PySem.Challenge.rw_hingeworks_k07_places_and_what_belongs.prog w K mg base "_law_random_rows" 5 ["_law_pen_here", "_law_size", "_law_many"] (spRowsD 10 900 0) := ⟨_, fd_L_random_rows, m__law_random_rows, F_L_random_rows.kp, B_L_random_rows, o_L_random_rows⟩
    have o_L_mixed_rows : FnOk PySem.Challenge.rw_hingeworks_k07_places_and_what_belongs.prog w K mg base (L2.CX PySem.Challenge.rw_hingeworks_k07_places_and_what_belongs.prog w) 6 _ fd_L_mixed_rows ["_law_pen_here", "_law_size", "_law_many"] (spRowsD 80 1000 1) := ok_L_mixed_rows F_L_mixed_rows (z_len := z_len) (g_L_draw := g_L_draw) (g_L_form_times := g_L_form_times) (g_L_pick := g_L_pick) (g_L_form_less := g_L_form_less) (g_L_number_form := g_L_number_form) (g_L_random_rows := g_L_random_rows)
    have g_L_mixed_rows : Gf PySem.Challenge.rw_hingeworks_k07_places_and_what_belongs.prog w K mg base "_law_mixed_rows" 6 ["_law_pen_here", "_law_size", "_law_many"] (spRowsD 80 1000 1) := ⟨_, fd_L_mixed_rows, m__law_mixed_rows, F_L_mixed_rows.kp, B_L_mixed_rows, o_L_mixed_rows⟩
    have o_L_tight_rows : FnOk PySem.Challenge.rw_hingeworks_k07_places_and_what_belongs.prog w K mg base (L2.CX PySem.Challenge.rw_hingeworks_k07_places_and_what_belongs.prog w) 6 _ fd_L_tight_rows ["_law_pen_here", "_law_size", "_law_many"] (spRowsD 90 1000 0) := ok_L_tight_rows F_L_tight_rows (z_range := z_range) (g_L_random_rows := g_L_random_rows) (g_L_plus := g_L_plus) (g_L_minus := g_L_minus) (g_L_pick := g_L_pick) (g_L_at := g_L_at) (g_L_little := g_L_little)
    have g_L_tight_rows : Gf PySem.Challenge.rw_hingeworks_k07_places_and_what_belongs.prog w K mg base "_law_tight_rows" 6 ["_law_pen_here", "_law_size", "_law_many"] (spRowsD 90 1000 0) := ⟨_, fd_L_tight_rows, m__law_tight_rows, F_L_tight_rows.kp, B_L_tight_rows, o_L_tight_rows⟩
    have o_L_drawn_rows : FnOk PySem.Challenge.rw_hingeworks_k07_places_and_what_belongs.prog w K mg base (L2.CX PySem.Challenge.rw_hingeworks_k07_places_and_what_belongs.prog w) 7 _ fd_L_drawn_rows ["_law_pen_here", "_law_size", "_law_many"] (spRowsE 100 1100 3) := ok_L_drawn_rows F_L_drawn_rows (z_len := z_len) (g_L_draw := g_L_draw) (g_L_number_form := g_L_number_form) (g_L_pick := g_L_pick) (g_L_form_times := g_L_form_times) (g_L_minus_form := g_L_minus_form) (g_L_random_rows := g_L_random_rows) (g_L_mixed_rows := g_L_mixed_rows) (g_L_tight_rows := g_L_tight_rows)
    have g_L_drawn_rows : Gf PySem.Challenge.rw_hingeworks_k07_places_and_what_belongs.prog w K mg base "_law_drawn_rows" 7 ["_law_pen_here", "_law_size", "_law_many"] (spRowsE 100 1100 3) := ⟨_, fd_L_drawn_rows, m__law_drawn_rows, F_L_drawn_rows.kp, B_L_drawn_rows, o_L_drawn_rows⟩
    have o_L_place_right : FnOk PySem.Challenge.rw_hingeworks_k07_places_and_what_belongs.prog w K mg base (L2.CX PySem.Challenge.rw_hingeworks_k07_places_and_what_belongs.prog w) 10 _ fd_L_place_right ["_law_place", "_law_rows", "_law_size"] (spPRight (He.ga K "Ratio") (He.ga K "Plane") (He.ga K "Place")) := ok_L_place_right F_L_place_right (z_isinstance := z_isinstance) (z_bool := z_bool) (z_zip := z_zip) (z_len := z_len) (z_tuple := z_tuple) (m_Place := m_Place) (g_PlaneD_eqD := g_PlaneD_eqD) (g_L_as_plane := g_L_as_plane) (g_L_truth := g_L_truth) (C_Ratio := (He.ga K "Ratio")) (C_Plane := (He.ga K "Plane")) (C_Place := (He.ga K "Place")) (PC := PC) (PI := PI) (PL := PL) (LI := LI)
    have g_L_place_right : Gf PySem.Challenge.rw_hingeworks_k07_places_and_what_belongs.prog w K mg base "_law_place_right" 10 ["_law_place", "_law_rows", "_law_size"] (spPRight (He.ga K "Ratio") (He.ga K "Plane") (He.ga K "Place")) := ⟨_, fd_L_place_right, m__law_place_right, F_L_place_right.kp, B_L_place_right, o_L_place_right⟩
    have o_L_points : FnOk PySem.Challenge.rw_hingeworks_k07_places_and_what_belongs.prog w K mg base (L2.CX PySem.Challenge.rw_hingeworks_k07_places_and_what_belongs.prog w) 5 _ fd_L_points ["_law_pen_here", "_law_rows", "_law_size"] (spPts) := ok_L_points F_L_points (z_range := z_range) (g_L_plus := g_L_plus) (g_L_times := g_L_times) (g_L_q := g_L_q) (g_L_at := g_L_at) (g_L_little := g_L_little) (g_L_pick := g_L_pick)
    have g_L_points : Gf PySem.Challenge.rw_hingeworks_k07_places_and_what_belongs.prog w K mg base "_law_points" 5 ["_law_pen_here", "_law_rows", "_law_size"] (spPts) := ⟨_, fd_L_points, m__law_points, F_L_points.kp, B_L_points, o_L_points⟩
    have o_L_belongs_right : FnOk PySem.Challenge.rw_hingeworks_k07_places_and_what_belongs.prog w K mg base (L2.CX PySem.Challenge.rw_hingeworks_k07_places_and_what_belongs.prog w) 10 _ fd_L_belongs_right ["_law_pen_here", "_law_place", "_law_rows", "_law_size"] (spBel (He.ga K "Ratio") (He.ga K "Plane") (He.ga K "Place")) := ok_L_belongs_right F_L_belongs_right (z_tuple := z_tuple) (z_range := z_range) (z_list := z_list) (g_L_truth := g_L_truth) (g_Place_holds := g_Place_holds) (g_L_holds := g_L_holds) (g_L_draw := g_L_draw) (g_L_points := g_L_points) (g_L_closed := g_L_closed) (g_Place_closed_holds := g_Place_closed_holds) (g_Ratio := g_Ratio) (C_Ratio := (He.ga K "Ratio")) (C_Plane := (He.ga K "Plane")) (C_Place := (He.ga K "Place")) (C_BadNumber := (He.ga K "BadNumber")) (C_BadGiven := (He.ga K "BadGiven"))
    have g_L_belongs_right : Gf PySem.Challenge.rw_hingeworks_k07_places_and_what_belongs.prog w K mg base "_law_belongs_right" 10 ["_law_pen_here", "_law_place", "_law_rows", "_law_size"] (spBel (He.ga K "Ratio") (He.ga K "Plane") (He.ga K "Place")) := ⟨_, fd_L_belongs_right, m__law_belongs_right, F_L_belongs_right.kp, B_L_belongs_right, o_L_belongs_right⟩
    have o_L_bent : FnOk PySem.Challenge.rw_hingeworks_k07_places_and_what_belongs.prog w K mg base (L2.CX PySem.Challenge.rw_hingeworks_k07_places_and_what_belongs.prog w) 4 _ fd_L_bent ["_law_pen_here", "_law_rows"] (spBent) := ok_L_bent F_L_bent (z_len := z_len) (g_L_plus := g_L_plus) (g_L_little_not := g_L_little_not) (g_L_draw := g_L_draw)
    have g_L_bent : Gf PySem.Challenge.rw_hingeworks_k07_places_and_what_belongs.prog w K mg base "_law_bent" 4 ["_law_pen_here", "_law_rows"] (spBent) := ⟨_, fd_L_bent, m__law_bent, F_L_bent.kp, B_L_bent, o_L_bent⟩
    have o_L_refusals_right : FnG PySem.Challenge.rw_hingeworks_k07_places_and_what_belongs.prog w K mg base (L2.CX PySem.Challenge.rw_hingeworks_k07_places_and_what_belongs.prog w) 12 _ fd_L_refusals_right ["_law_pen_here", "_law_place", "_law_rows", "_law_size"] (spRefus3 K (He.ga K "Ratio") (He.ga K "Plane") (He.ga K "Place") (TS K)) := ok_L_refusals_right F_L_refusals_right (z_len := z_len) (z_repr := z_repr) (z_max := z_max) (g_Place_closed_holds := g_Place_closed_holds) (g_Place_holds := g_Place_holds) (g_Place_with_rows := g_Place_with_rows) (g_Place := g_Place) (g_L_pick := g_L_pick) (g_L_draw := g_L_draw) (g_L_as_plane := g_L_as_plane) (g_L_number_form := g_L_number_form) (C_Ratio := (He.ga K "Ratio")) (C_Plane := (He.ga K "Plane")) (C_Place := (He.ga K "Place")) (C_BadNumber := (He.ga K "BadNumber")) (C_BadGiven := (He.ga K "BadGiven")) (C_BadPlace := (He.ga K "BadPlace")) (R := R_Ratio) (kB := kB) (RX := RX) (PC := PC) (PI := PI) (PL := PL) (T := TS K) (F_ref := F_L_refused) (B_ref := B_L_refused) (m_ref := m__law_refused) (TB := TB_L_refusals_right) (hcode := HwH.code_of (p := ("_law_refusals_right", none)) F_L_refusals_right) (hmT := hmT_L_refusals_right) (huT := huT_L_refusals_right)
    have g_L_refusals_right : Gg PySem.Challenge.rw_hingeworks_k07_places_and_what_belongs.prog w K mg base "_law_refusals_right" 12 ["_law_pen_here", "_law_place", "_law_rows", "_law_size"] (spRefus3 K (He.ga K "Ratio") (He.ga K "Plane") (He.ga K "Place") (TS K)) := ⟨_, fd_L_refusals_right, m__law_refusals_right, F_L_refusals_right.kp, B_L_refusals_right, o_L_refusals_right⟩
    have o_law : FnG PySem.Challenge.rw_hingeworks_k07_places_and_what_belongs.prog w K mg base (L2.CX PySem.Challenge.rw_hingeworks_k07_places_and_what_belongs.prog w) 13 _ fd_law ["_law_script"] (spLaw7 K (TS K)) := ok_law F_law (z_tuple := z_tuple) (z_list := z_list) (g_L_refusals_right := g_L_refusals_right) (g_PlaceD_eqD := g_PlaceD_eqD) (g_L_as_place := g_L_as_place) (g_L_bent := g_L_bent) (g_Place := g_Place) (g_L_place_right := g_L_place_right) (g_Place_with_rows := g_Place_with_rows) (g_L_pick := g_L_pick) (g_L_as_plane := g_L_as_plane) (g_L_drawn_rows := g_L_drawn_rows) (g_L_belongs_right := g_L_belongs_right) (g_L_draw := g_L_draw) (g_L_pen := g_L_pen) (C_Ratio := (He.ga K "Ratio")) (C_Plane := (He.ga K "Plane")) (C_Place := (He.ga K "Place")) (C_BadNumber := (He.ga K "BadNumber")) (C_BadPlace := (He.ga K "BadPlace")) (RA := R_Ratio) (kL := kL) (nL := nL) (PL := PL) (LI := LI) (T := TS K)
    exact o_law

end HwL
end

section
namespace HwL
open PySem PySem.Spec PyProof.Rows L2 LamX HwP
variable {P : Program} {w : World} {K : PySem.W.Frag} {mg : Str → Option Value} {base : Heap}

end HwL
open PySem PySem.W PySem.Calls PyProof.Rows
theorem PySem.Challenge.cw_hingeworks_k07_places_and_what_belongs_holds : PySem.Challenge.rw_hingeworks_k07_places_and_what_belongs.Holds := by
  w_on; o_law
  refine HandSHeadRun.head_imp (r := HwL.RR0) (q := view HwL.RR0.prog [0, 58]) (H := HwL.hk) (ob := HwL.ob) (M := 6000) (loose := HwL.names) (d := HandSHeadRun.topDef HwL.RR0.prog 58) (kwd := []) HwL.ob_eq
    HwL.run (by kernel_rfl) (by kernel_rfl) (by kernel_rfl) (by rfl) (by first | assumption | decide +kernel) (by decide +kernel) ⟨rfl, rfl, rfl, rfl, rfl, by decide +kernel⟩ ?hw ?hc
  case hw => w_witness2
  case hc =>
    refine L2.walk_G (l := PySem.Challenge.rw_hingeworks_k07_places_and_what_belongs) (n := 63) (k := 13) (x := "_law_script") rfl (by decide) (by kernel_rfl) ⟨rfl, by decide, by decide⟩ ?F
    intro w mg fa h Y G hmg0
    obtain ⟨K, KX, c⟩ := Y
    have hmg : mg ("law" : PySem.Str) = some (.ref fa) := by
      have e : (HandSHeadRun.topDef HwL.RR0.prog 58).name = ("law" : PySem.Str) := by kernel_rfl
      rw [← e]
      exact hmg0
    exact ⟨K, KX, HwL.facts KX G hmg c⟩
namespace HwL


end HwL
end


