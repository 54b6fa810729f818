import PyProof.Rows.All
import Wide.All
import OpenK.AllK
import Wide.FinOn
import KE.KOpsOwn
import HandS.ForMost
import HandS.Exc
import HandS.ExcOwn
import HandS.WordsExc
import HandS.IsInst
import HandS.Defaults
import HandS.Wide
import HandS.Gcd
import HandS.Lambda
import HandS.ExcInit
import HandS.ExcField
import HandS.Flow
import HandS.Rev
import HandS.HeadHook4
import HandS.HeadWalk
import HandS.NoneIn
import KE.KStateDown
import HandS.Head0
import HandS.Head1
import HandS.Head2
import HandS.Head3
import HandS.Text
import HandS.Codes
import HandS.StrMore
import KE.IntTextLaws
import PyProof.StrLawsTight
import PyProof.TupleOfStr
import PyProof.Rows.StrFacts
import PySem.Challenge.RW_hingeworks_k02_ratio_texts
set_option Elab.async false
set_option linter.all false
set_option maxRecDepth 100000
set_option maxHeartbeats 4000000
section
/-! Ratios as rationals; Euclid. -/
namespace HwM
theorem fdiv_exact {a g : Int} (h : g ∣ a) : a.fdiv g = a / g := Int.fdiv_eq_ediv_of_dvd h
/-- the top of the lowest terms, by floor division -/
theorem num_fdiv {t b : Int} (hb : b ≠ 0) : t.fdiv (if b < 0 then -((Nat.gcd t.natAbs b.natAbs : Nat) : Int) else ((Nat.gcd t.natAbs b.natAbs : Nat) : Int)) = (Rat.divInt t b).num := by
  have hg : ((Nat.gcd t.natAbs b.natAbs : Nat) : Int) ∣ t := Int.ofNat_dvd_left.mpr (Nat.gcd_dvd_left _ _)
  have e : (b.gcd t : Nat) = Nat.gcd t.natAbs b.natAbs := by unfold Int.gcd; exact Nat.gcd_comm _ _
  rw [Rat.num_divInt, e]
  split
  · rename_i h
    rw [fdiv_exact (Int.neg_dvd.mpr hg), Int.sign_eq_neg_one_of_neg h, Int.ediv_neg, Int.neg_one_mul, Int.neg_ediv_of_dvd hg]
  · rename_i h
    rw [fdiv_exact hg, Int.sign_eq_one_of_pos (by omega), Int.one_mul]
theorem den_fdiv {t b : Int} (hb : b ≠ 0) : b.fdiv (if b < 0 then -((Nat.gcd t.natAbs b.natAbs : Nat) : Int) else ((Nat.gcd t.natAbs b.natAbs : Nat) : Int)) = ((Rat.divInt t b).den : Int) := by
  have hg : ((Nat.gcd t.natAbs b.natAbs : Nat) : Int) ∣ b := Int.ofNat_dvd_left.mpr (Nat.gcd_dvd_right _ _)
  have e : (b.gcd t : Nat) = Nat.gcd t.natAbs b.natAbs := by unfold Int.gcd; exact Nat.gcd_comm _ _
  rw [Rat.den_divInt, e, if_neg hb, Int.natCast_ediv]
  split
  · rename_i h
    rw [fdiv_exact (Int.neg_dvd.mpr hg), Int.ediv_neg]
    have : (b.natAbs : Int) = -b := by omega
    rw [this, Int.neg_ediv_of_dvd hg]
  · rename_i h
    rw [fdiv_exact hg]
    have : (b.natAbs : Int) = b := by omega
    rw [this]
theorem gcd_ne {t b : Int} (hb : b ≠ 0) : (if b < 0 then -((Nat.gcd t.natAbs b.natAbs : Nat) : Int) else ((Nat.gcd t.natAbs b.natAbs : Nat) : Int)) ≠ 0 := by
  have : 0 < Nat.gcd t.natAbs b.natAbs := Nat.gcd_pos_of_pos_right _ (by omega)
  split <;> omega
theorem gcd_le {t b : Int} (hb : b ≠ 0) : (if b < 0 then -((Nat.gcd t.natAbs b.natAbs : Nat) : Int) else ((Nat.gcd t.natAbs b.natAbs : Nat) : Int)).natAbs ≤ b.natAbs := by
  have : Nat.gcd t.natAbs b.natAbs ≤ b.natAbs := Nat.gcd_le_right _ (by omega)
  split <;> omega
theorem fdiv_le (a : Int) {b : Int} (hb : 0 < b) : (a.fdiv b).natAbs ≤ a.natAbs := by
  rw [Int.fdiv_eq_ediv_of_nonneg _ (by omega)]
  have h1 := Int.mul_ediv_add_emod a b
  have h2 := Int.emod_nonneg a (b := b) (by omega)
  have h3 := Int.emod_lt_of_pos a hb
  by_cases h : 0 ≤ a
  · have := Int.ediv_le_self b h
    have := Int.ediv_nonneg h (show 0 ≤ b by omega)
    omega
  · have h4 : a ≤ a / b := by
      rw [Int.le_ediv_iff_mul_le hb]
      have : a * b ≤ a * 1 := Int.mul_le_mul_of_nonpos_left (by omega) (by omega)
      omega
    have h5 : a / b < 0 := Int.ediv_neg_of_neg_of_pos (by omega) hb
    omega
theorem log2_lt {n k : Nat} (hk : 0 < k) (h : n < 2 ^ k) : n.log2 < k := by
  by_cases z : n = 0
  · subst z; simpa using hk
  · exact (Nat.log2_lt z).mpr h
/-! sizes -/
/-- both parts are below 2 ^ n -/
def Bd (n : Nat) (q : Rat) : Prop := q.num.natAbs < 2 ^ n ∧ q.den < 2 ^ n
theorem Bd.mono {m n : Nat} {q : Rat} (h : Bd m q) (hn : m ≤ n) : Bd n q :=
  ⟨Nat.lt_of_lt_of_le h.1 (Nat.pow_le_pow_right (by decide) hn), Nat.lt_of_lt_of_le h.2 (Nat.pow_le_pow_right (by decide) hn)⟩
theorem mul_lt {a b m n : Nat} (ha : a < 2 ^ m) (hb : b < 2 ^ n) : a * b < 2 ^ (m + n) := by
  rw [Nat.pow_add]; exact Nat.mul_lt_mul'' ha hb
theorem add_lt {a b n : Nat} (ha : a < 2 ^ n) (hb : b < 2 ^ n) : a + b < 2 ^ (n + 1) := by
  rw [Nat.pow_succ]; omega
theorem lt_mono {a m n : Nat} (h : a < 2 ^ m) (hn : m ≤ n) : a < 2 ^ n := Nat.lt_of_lt_of_le h (Nat.pow_le_pow_right (by decide) hn)
theorem divInt_bd {t b : Int} {n : Nat} (hn : 0 < n) (ht : t.natAbs < 2 ^ n) (hb : b.natAbs < 2 ^ n) : Bd n (Rat.divInt t b) := by
  refine ⟨?_, ?_⟩
  · rw [Rat.num_divInt]
    refine Nat.lt_of_le_of_lt ?_ ht
    refine Nat.le_trans (Int.natAbs_ediv_le_natAbs _ _) ?_
    rw [Int.natAbs_mul]
    have : b.sign.natAbs ≤ 1 := by
      rcases Int.lt_trichotomy b 0 with h | h | h
      · rw [Int.sign_eq_neg_one_of_neg h]; decide
      · subst h; decide
      · rw [Int.sign_eq_one_of_pos h]; decide
    calc b.sign.natAbs * t.natAbs ≤ 1 * t.natAbs := Nat.mul_le_mul_right _ this
      _ = t.natAbs := Nat.one_mul _
  · rw [Rat.den_divInt]
    split
    · exact Nat.one_lt_two_pow (by omega)
    · exact Nat.lt_of_le_of_lt (Nat.div_le_self _ _) hb
theorem num_add_bd {q r : Rat} {m n : Nat} (hq : Bd m q) (hr : Bd n r) : (q.num * r.den + r.num * q.den).natAbs < 2 ^ (m + n + 1) := by
  refine Nat.lt_of_le_of_lt (Int.natAbs_add_le _ _) ?_
  rw [Int.natAbs_mul, Int.natAbs_mul]
  refine add_lt ?_ ?_
  · exact mul_lt hq.1 (by simpa using hr.2)
  · rw [Nat.mul_comm]; exact mul_lt (by simpa using hq.2) hr.1
theorem num_sub_bd {q r : Rat} {m n : Nat} (hq : Bd m q) (hr : Bd n r) : (q.num * r.den - r.num * q.den).natAbs < 2 ^ (m + n + 1) := by
  refine Nat.lt_of_le_of_lt (Int.natAbs_sub_le _ _) ?_
  rw [Int.natAbs_mul, Int.natAbs_mul]
  refine add_lt ?_ ?_
  · exact mul_lt hq.1 (by simpa using hr.2)
  · rw [Nat.mul_comm]; exact mul_lt (by simpa using hq.2) hr.1
theorem den_bd {q r : Rat} {m n : Nat} (hq : Bd m q) (hr : Bd n r) : ((q.den : Int) * r.den).natAbs < 2 ^ (m + n) := by
  rw [Int.natAbs_mul]; exact mul_lt (by simpa using hq.2) (by simpa using hr.2)
theorem num_mul_bd {q r : Rat} {m n : Nat} (hq : Bd m q) (hr : Bd n r) : (q.num * r.num).natAbs < 2 ^ (m + n) := by
  rw [Int.natAbs_mul]; exact mul_lt hq.1 hr.1
theorem den_ne (q : Rat) : (q.den : Int) ≠ 0 := by have := q.den_pos; omega
theorem dens_ne (q r : Rat) : (q.den : Int) * r.den ≠ 0 := Int.mul_ne_zero (den_ne q) (den_ne r)
theorem add_eq (q r : Rat) : Rat.divInt (q.num * r.den + r.num * q.den) ((q.den : Int) * r.den) = q + r := by
  rw [Rat.add_def', ← Rat.divInt_ofNat]; norm_cast
theorem sub_eq (q r : Rat) : Rat.divInt (q.num * r.den - r.num * q.den) ((q.den : Int) * r.den) = q - r := by
  rw [Rat.sub_def', ← Rat.divInt_ofNat]; norm_cast
theorem mul_eq (q r : Rat) : Rat.divInt (q.num * r.num) ((q.den : Int) * r.den) = q * r := by
  rw [Rat.mul_def', ← Rat.divInt_ofNat]; norm_cast
theorem div_eq (q r : Rat) : Rat.divInt (q.num * r.den) ((q.den : Int) * r.num) = q / r := by
  rw [Rat.div_def, Rat.inv_def, ← Rat.divInt_mul_divInt, Rat.num_divInt_den]
theorem neg_eq (q : Rat) : Rat.divInt (-q.num) (q.den : Int) = -q := by
  rw [← Rat.neg_divInt, Rat.num_divInt_den]
theorem self_eq (q : Rat) : Rat.divInt q.num (q.den : Int) = q := Rat.num_divInt_den q
theorem scale_eq (q : Rat) {k : Int} (hk : k ≠ 0) : Rat.divInt (q.num * k) ((q.den : Int) * k) = q := by
  rw [Rat.divInt_mul_right hk, Rat.num_divInt_den]
theorem int_eq (i : Int) : Rat.divInt i 1 = (i : Rat) := by
  have := Rat.num_divInt_den (i : Rat)
  simpa using this
theorem add_bd {q r : Rat} {m n : Nat} (hq : Bd m q) (hr : Bd n r) : Bd (m + n + 1) (q + r) := by
  rw [← add_eq]; exact divInt_bd (by omega) (num_add_bd hq hr) (lt_mono (den_bd hq hr) (by omega))
theorem sub_bd {q r : Rat} {m n : Nat} (hq : Bd m q) (hr : Bd n r) : Bd (m + n + 1) (q - r) := by
  rw [← sub_eq]; exact divInt_bd (by omega) (num_sub_bd hq hr) (lt_mono (den_bd hq hr) (by omega))
theorem mul_bd {q r : Rat} {m n : Nat} (h0 : 0 < m + n) (hq : Bd m q) (hr : Bd n r) : Bd (m + n) (q * r) := by
  rw [← mul_eq]; exact divInt_bd h0 (num_mul_bd hq hr) (den_bd hq hr)
theorem neg_bd {q : Rat} {n : Nat} (hq : Bd n q) : Bd n (-q) := ⟨by simpa using hq.1, hq.2⟩
theorem int_bd {i : Int} {n : Nat} (hn : 0 < n) (h : i.natAbs < 2 ^ n) : Bd n (i : Rat) := ⟨by simpa using h, by simpa using Nat.one_lt_two_pow (by omega)⟩
/-! signs -/
theorem sign_num (q : Rat) : (q.num < 0 ↔ q < 0) ∧ (0 < q.num ↔ 0 < q) := by
  constructor
  · rw [Rat.lt_iff]; simp
  · rw [Rat.lt_iff]; simp
/-- -1, 0, 1 -/
def cmp (q r : Rat) : Int := if q < r then -1 else if r < q then 1 else 0
theorem gap_neg (q r : Rat) : q.num * r.den - r.num * q.den < 0 ↔ q < r := by rw [Rat.lt_iff]; omega
theorem gap_pos (q r : Rat) : 0 < q.num * r.den - r.num * q.den ↔ r < q := by rw [Rat.lt_iff]; omega
theorem cmp_lt (q r : Rat) : cmp q r < 0 ↔ q < r := by
  unfold cmp
  split
  · simp [*]
  · split <;> simp [*]
theorem cmp_le (q r : Rat) : cmp q r ≤ 0 ↔ q ≤ r := by
  unfold cmp
  split
  · rename_i h; simp [Rat.le_of_lt h]
  · rename_i h
    split
    · rename_i h2; simp [Rat.not_le.mpr h2]
    · rename_i h2; simp [Rat.not_lt.mp h2]
theorem cmp_zero (q r : Rat) : cmp q r = 0 ↔ q = r := by
  unfold cmp
  split
  · rename_i h; simp [Rat.ne_of_lt h]
  · rename_i h
    split
    · rename_i h2; simp [Rat.ne_of_gt h2]
    · rename_i h2; simp [Rat.le_antisymm (Rat.not_lt.mp h2) (Rat.not_lt.mp h)]
theorem cmp_sub (q r : Rat) : cmp (q - r) 0 = cmp q r := by
  have h1 : (q - r < 0) ↔ q < r := by
    rw [Rat.lt_iff_sub_pos, Rat.lt_iff_sub_pos q r]
    have : (0 : Rat) - (q - r) = r - q := by grind
    rw [this]
  have h2 : (0 < q - r) ↔ r < q := by rw [Rat.lt_iff_sub_pos r q]
  unfold cmp
  simp [h1, h2]
/-! Euclid's laps -/
theorem lap {x y : Int} {i n : Nat} (h0 : 0 ≤ x) (hy : 0 < y) (hyn : y.natAbs < 2 ^ n) (hi : i = 0 ∨ (y < x ∧ x.natAbs * y.natAbs * 2 ^ i < 2 ^ (2 * n + 2))) :
    x % y < y ∧ 0 ≤ x % y ∧ (x % y).natAbs < 2 ^ n ∧ y.natAbs * (x % y).natAbs * 2 ^ (i + 1) < 2 ^ (2 * n + 2) := by
  have a := Int.emod_nonneg x (show y ≠ 0 by omega)
  have b := Int.emod_lt_of_pos x hy
  have hr : (x % y).natAbs < 2 ^ n := by omega
  refine ⟨b, a, hr, ?_⟩
  rcases hi with rfl | ⟨h1, h2⟩
  · have := mul_lt hyn hr
    have e : 2 ^ (2 * n + 2) = 2 ^ (n + n) * 4 := by rw [show 2 * n + 2 = (n + n) + 2 by omega, Nat.pow_add]
    rw [e]
    simp only [Nat.zero_add, Nat.pow_one]
    omega
  · have hx : 2 * (x % y) < x := by
      have e := Int.mul_ediv_add_emod x y
      have q : 1 ≤ x / y := (Int.le_ediv_iff_mul_le hy).mpr (by omega)
      have : y * 1 ≤ y * (x / y) := Int.mul_le_mul_of_nonneg_left q (by omega)
      omega
    have h3 : 2 * (x % y).natAbs ≤ x.natAbs := by omega
    refine Nat.lt_of_le_of_lt ?_ h2
    calc y.natAbs * (x % y).natAbs * 2 ^ (i + 1) = y.natAbs * (2 * (x % y).natAbs) * 2 ^ i := by rw [Nat.pow_succ]; grind
      _ ≤ y.natAbs * x.natAbs * 2 ^ i := Nat.mul_le_mul_right _ (Nat.mul_le_mul_left _ h3)
      _ = x.natAbs * y.natAbs * 2 ^ i := by rw [Nat.mul_comm y.natAbs]
theorem laps_end {x y : Int} {n : Nat} (h0 : 0 ≤ y) (hy : y < x) (h : x.natAbs * y.natAbs * 2 ^ n < 2 ^ n) : y = 0 := by
  have : x.natAbs * y.natAbs < 1 := by
    have h2 : x.natAbs * y.natAbs * 2 ^ n < 1 * 2 ^ n := by simpa using h
    exact Nat.lt_of_mul_lt_mul_right h2
  have h3 : x.natAbs * y.natAbs = 0 := by omega
  rcases Nat.mul_eq_zero.mp h3 with e | e <;> omega
theorem gcd_step {x y : Int} (h0 : 0 ≤ x) (hy : 0 < y) : Nat.gcd y.natAbs (x % y).natAbs = Nat.gcd x.natAbs y.natAbs := by
  have e : (x % y).natAbs = x.natAbs % y.natAbs := by
    have := Int.natAbs_emod_of_nonneg h0 y
    exact this
  rw [e, Nat.gcd_comm y.natAbs, ← Nat.gcd_rec, Nat.gcd_comm]
end HwM
end

section
/-! Operators of an own class. -/
namespace Hw
open PySem PySem.W PySem.Calls PyProof.Rows

section
variable {prog : Program} {w : World} {A : Around} {E : Value → Shared → Prop} {s : Shared} {K : Frag} {x y C L f : Addr} {h₀ : Heap} {m : Str → Option Value} {ox oy : Obj} {od ody : Option Obj}
/-- a + b, both of the same own class -/
theorem bin_same {op : Operator} {Q : Value → Shared → Prop} (F : Fr h₀ L s.heap m) (X₀ : K.In h₀) (I : InstAt s.heap x ox C od) (J : InstAt s.heap y oy C ody) (hc : selfFirst K C = true)
    (hs : findIn K (.ref C) (PySem.dunder op.info.2) = some (some (.ref f))) (hf : isFn K (.ref f) = true)
    (h : wpAny (model prog w) A (call (.ref f) [.ref x, .ref y]) (PySem.W.CmpBack Q) E s) : wpAny (model prog w) A (binaryOp op (.ref x) (.ref y)) Q E s := by
  have X := X₀.keeps F.keep
  obtain ⟨cd, rest, hcd, hm⟩ := ksp_first hc
  rcases hi : op.info with ⟨sym, nm'⟩
  rw [hi] at hs
  dsimp only at hs
  have one := ksp_try X I hs hf h
  obtain ⟨hh, g, d, tt, os⟩ := s
  have L1 : Looks (model prog w) hh (typeOf (.ref x)) (.ref C) := I.type
  have L2 : Looks (model prog w) hh (typeOf (.ref y)) (.ref C) := J.type
  have L3 : Looks (model prog w) hh (fillsNumberSlot (.ref C) nm') true := fills_K X hcd hm hs
  have heq : (Value.ref C == Value.ref C) = true := by simp
  simp only [binaryOp, hi]
  refine wpAny_holding (wpAny_bind ?_)
  unfold binaryOp1
  refine wpAny_bind (L1.at (wpAny_bind (L2.at (wpAny_bind (L3.at ?_)))))
  simp only [heq, if_true]
  repeat ((fail_if_success (with_reducible show wpAny _ _ (tryMethod _ _ _) _ _ _)); lk)
  refine wpAny_mono one (fun r s' hr' => ?_) fun _ _ e => e
  obtain ⟨v, rfl, hq⟩ := hr'
  repeat ((fail_if_success (with_reducible show wpAny _ _ (tryMethod _ _ _) _ _ _)); lk)
  exact hq
end
end Hw

namespace L2
open PySem PySem.Spec PyProof.Rows
/-- what an own class must have for its operators -/
structure OpC (K : PySem.W.Frag) (C : Addr) (op : Operator) (f : Addr) : Prop where
  first : PySem.W.selfFirst K C = true
  at_ : PySem.W.findIn K (.ref C) (PySem.dunder op.info.2) = some (some (.ref f))
  fn : PySem.W.isFn K (.ref f) = true
  refl : PySem.W.findIn K (.ref C) (dunderR op.info.2) = some none
theorem cmpBack_of {X : Cx} {pins : List (Addr × Obj)} {σ : St} {Q : VK} {u : Value} {s : Shared} (h : EP X pins σ Q u s) : PySem.W.CmpBack (EP X pins σ Q) u s := by
  obtain ⟨v, H, I, r, q⟩ := id h
  cases v with
  | non => cases (show u = Value.none from r); exact h
  | bl b => cases (show u = Value.bool b from r); exact h
  | int i => obtain ⟨t, e⟩ := (show ∃ t, u = Value.int i t from r); cases e; exact h
  | str x => obtain ⟨t, e⟩ := (show ∃ t, u = Value.str x t from r); cases e; exact h
  | byt b => obtain ⟨t, e⟩ := (show ∃ t, u = Value.bytes b t from r); cases e; exact h
  | flt b => obtain ⟨t, e⟩ := (show ∃ t, u = Value.float b t from r); cases e; exact h
  | ref a => cases (show u = Value.ref a from r); exact h
  | ty n => cases (show u = Value.type n from r); exact h
/-- an instance at a -/
def Inst (H : Hp) (C : Addr) (x : V) : Prop := ∃ a dx fs, x = .ref a ∧ H a = some (.ins C dx fs)
def rOwn (C : Addr) (sp : Sp) (E : XK) : R2 := fun x y H Q => Inst H C x ∧ ((∃ i, y = .int i) ∨ Inst H C y) ∧ sp [x, y] H Q E
section
variable {X : Cx} {CX : CXT} {k : Nat} {f C : Addr} {fd : FuncData} {ps : List Str} {sp : Sp} {E : XK} {op : Operator}
theorem op_own (c : OpC X.K C op f) (F : FnOk X.prog X.w X.K X.mg X.base CX k f fd ps sp) (hr : Room k X.A) (hb : Binds X.K fd ps []) (hx : Passes CX X E)
    {fo ro : Option Value} (h1 : PySem.W.findIn X.K (.type "int") (PySem.dunder op.info.2) = some fo) (h2 : PySem.W.findIn X.K (.type "int") (dunderR op.info.2) = some ro) (hsub : PySem.W.subIn X.K (.type "int") (.ref C) = some false) :
    OpR X (binaryOp op) (rOwn C sp E) := by
  intro pins s σ H x y u v Q I rx ry h
  obtain ⟨⟨a, dx, fs, ex, ha⟩, hy, hs⟩ := h
  subst ex
  obtain rfl : u = Value.ref a := rx
  obtain ⟨mA, O, _⟩ := ins_get I.hok ha
  obtain ⟨od, J, _⟩ := O.look
  obtain ⟨m, fr⟩ := I.fr
  have run : wpAny (model X.prog X.w) X.A (call (.ref f) [Value.ref a, v]) (PySem.W.CmpBack (EP X pins σ Q)) X.xe s :=
    wpAny_mono (run_fn (vs := [.ref a, y]) (us := [.ref a, v]) F hr hb .nil hx I (.cons rfl (.cons ry .nil)) (by simpa using hs)) (fun _ _ z => cmpBack_of z) fun _ _ z => z
  rcases hy with ⟨i, rfl⟩ | ⟨b, dy, gs, rfl, hb'⟩
  · obtain ⟨t, rfl⟩ := (show ∃ t, v = Value.int i t from ry)
    exact PySem.W.ksp_binT fr I.ok.mod.kin J rfl c.first c.at_ c.fn c.refl (.inl rfl) h1 h2 hsub run
  · obtain rfl : v = Value.ref b := ry
    obtain ⟨mB, O2, _⟩ := ins_get I.hok hb'
    obtain ⟨od2, J2, _⟩ := O2.look
    exact Hw.bin_same fr I.ok.mod.kin J J2 c.first c.at_ c.fn run
/-- -a -/
def rOwn1 (C : Addr) (sp : Sp) (E : XK) : V → Hp → VK → Prop := fun x H Q => Inst H C x ∧ sp [x] H Q E
theorem un_own (hs : PySem.W.findIn X.K (.ref C) "__neg__" = some (some (.ref f))) (hf : PySem.W.isFn X.K (.ref f) = true) (F : FnOk X.prog X.w X.K X.mg X.base CX k f fd ps sp) (hr : Room k X.A) (hb : Binds X.K fd ps []) (hx : Passes CX X E) :
    UnR X (unaryOp .USub) (rOwn1 C sp E) := by
  intro pins s σ H x u Q I rx h
  obtain ⟨⟨a, dx, fs, ex, ha⟩, hs'⟩ := h
  subst ex
  obtain rfl : u = Value.ref a := rx
  obtain ⟨mA, O, _⟩ := ins_get I.hok ha
  obtain ⟨od, J, _⟩ := O.look
  obtain ⟨m, fr⟩ := I.fr
  exact PySem.W.ksp_neg fr I.ok.mod.kin J hs hf (run_fn (vs := [.ref a]) (us := [.ref a]) F hr hb .nil hx I (.cons rfl .nil) (by simpa using hs'))
/-- a == b by an own __eq__, b any value whose type is known -/
def rOwnEq (K : PySem.W.Frag) (C : Addr) (sp : Sp) (E : XK) : R2 := fun x y H Q => Inst H C x ∧ (∃ t, TyX K H y t ∧ PySem.W.notFirst K C t = true) ∧ sp [x, y] H Q E
theorem typ_of {pins : List (Addr × Obj)} {σ : St} {H : Hp} {s : Shared} {x : V} {u t : Value} (I : Inv X pins σ H s) (rx : RelV x u) (ty : TyX X.K H x t) : PySem.W.Looks (model X.prog X.w) s.heap (typeOf u) t := by
  obtain ⟨P, Z, p, _⟩ := kit_of I rx ty
  exact Z.ty _ _ I.kIn p
theorem op_ownEq (hs : PySem.W.findIn X.K (.ref C) "__eq__" = some (some (.ref f))) (hf : PySem.W.isFn X.K (.ref f) = true) (F : FnOk X.prog X.w X.K X.mg X.base CX k f fd ps sp) (hr : Room k X.A) (hb : Binds X.K fd ps []) (hx : Passes CX X E) :
    OpR X (compareOp .Eq) (rOwnEq X.K C sp E) := by
  intro pins s σ H x y u v Q I rx ry h
  obtain ⟨⟨a, dx, fs, ex, ha⟩, ⟨t, ty, nf⟩, hs'⟩ := h
  subst ex
  obtain rfl : u = Value.ref a := rx
  obtain ⟨mA, O, _⟩ := ins_get I.hok ha
  obtain ⟨od, J, _⟩ := O.look
  obtain ⟨m, fr⟩ := I.fr
  show wpAny (model X.prog X.w) X.A (richCompare .Eq (.ref a) v) (EP X pins σ Q) X.xe s
  refine PySem.W.cmp_K (op := .Eq) hr.units0 fr I.ok.mod.kin J (typ_of I ry ty) nf hs hf ?_
  exact wpAny_mono (run_fn (vs := [.ref a, y]) (us := [.ref a, v]) F hr hb .nil hx I (.cons rfl (.cons ry .nil)) (by simpa using hs')) (fun _ _ z => cmpBack_of z) fun _ _ z => z
end
end L2
end

section
/-! Calls by name, in short. -/
namespace L2
open PySem PySem.Spec PyProof.Rows
/-- a def of the text, as it stands behind the top -/
abbrev FD (K : PySem.W.Frag) (st : Stmt) (x qual : Str) (f : Addr) (fd : FuncData) : Prop := FunD K x qual (defArgs st) (defBody st) (defScope st) [] [] f fd
section
variable {P : Program} {w : World} {K : PySem.W.Frag} {mg : Str → Option Value} {base : Heap} {x qual : Str} {params : Arguments} {body : List Stmt} {scope : Scope} {dvs : List V} {kws : List (Str × V)} {f : Addr} {fd : FuncData}
/-- a def that lets no exception out -/
theorem FunD.ok0 {N ps : List Str} {k : Nat} {sp : Sp} (F : FunD K x qual params body scope dvs kws f fd) (S : FnScope N ps scope) (len : ∀ vs H Q E, sp vs H Q E → vs.length = ps.length)
    (hbody : ∀ (cdv : Value) (A : Around) (outer : List Env) (s : Shared) (H : Hp) (vs : List V) (Q : VK) (E : XK), Room k (A.deeper (envOfC qual scope s.heap.objs.size f cdv)) → sp vs H Q E →
      ∃ t, PSs (cxOf (L2.CX P w) P w K mg base N qual scope f cdv A outer s H E).nox body t ∧ t { nx := fun _ H' => Q .non H', rt := Q } (start N vs) H) : FnOk P w K mg base (L2.CX P w) (k + 1) f fd ps sp :=
  FunD.ok F S len fun cdv A outer s H vs Q E hr hsp => let ⟨t, h, q⟩ := hbody cdv A outer s H vs Q E hr hsp; ⟨t, h.nox, q⟩
theorem FunD.okX {N ps : List Str} {k : Nat} {sp : Sp} (F : FunD K x qual params body scope dvs kws f fd) (S : FnScope N ps scope) (len : ∀ vs H Q E, sp vs H Q E → vs.length = ps.length)
    (hbody : ∀ (cdv : Value) (A : Around) (outer : List Env) (s : Shared) (H : Hp) (vs : List V) (Q : VK) (E : XK), Room k (A.deeper (envOfC qual scope s.heap.objs.size f cdv)) → sp vs H Q E →
      ∃ t, PSs (cxOf (L2.CX P w) P w K mg base N qual scope f cdv A outer s H E) body t ∧ t { nx := fun _ H' => Q .non H', rt := Q } (start N vs) H) : FnOk P w K mg base (L2.CX P w) (k + 1) f fd ps sp :=
  FunD.ok F S len hbody
end
/-- a def that stands at the module's name x and keeps the promise sp -/
structure Gf (P : Program) (w : World) (K : PySem.W.Frag) (mg : Str → Option Value) (base : Heap) (x : Str) (k : Nat) (ps : List Str) (sp : Sp) : Prop where
  ex : ∃ (f : Addr) (fd : FuncData), mg x = some (.ref f) ∧ PySem.W.keepIn K (.ref f) = true ∧ Binds K fd ps [] ∧ FnOk P w K mg base (L2.CX P w) k f fd ps sp
/-- a method of the class at C -/
structure Mf (P : Program) (w : World) (K : PySem.W.Frag) (mg : Str → Option Value) (base : Heap) (C : Addr) (m : Str) (k : Nat) (ps : List Str) (sp : Sp) : Prop where
  cl : Cls K C
  ex : ∃ (f : Addr) (fd : FuncData), Meth K C m f ∧ Binds K fd ps [] ∧ FnOk P w K mg base (L2.CX P w) k f fd ps sp
/-- a class whose __init__ keeps sp; dvs: the defaults that are filled in -/
structure Kf (P : Program) (w : World) (K : PySem.W.Frag) (mg : Str → Option Value) (base : Heap) (x : Str) (C : Addr) (k : Nat) (ps : List Str) (dvs : List V) (sp : Sp) : Prop where
  ex : ∃ (f : Addr) (fd : FuncData) (ds : List Value), mg x = some (.ref C) ∧ Mk K C f ∧ Binds K fd ps ds ∧ Vals dvs ds ∧ FnOk P w K mg base (L2.CX P w) k f fd ps sp
section
variable {X : Cx} {j k : Nat} {x m : Str} {C : Addr} {ps : List Str} {dvs : List V} {sp : Sp} {E : XK} {e o : Expr} {es : List Expr} {t : TA} {ta : TE} {p pos apos : Pos}
theorem pe_g (c : Gf X.prog X.w X.K X.mg X.base x k ps sp) (hr : Room j X.A) (hk : k ≤ j) (hx : Passes (L2.CX X.prog X.w) X E) (hg : Gl X x) (ha : PA X (e :: es) t) (hdb : (x == ("__debug__" : Str)) = false := by decide)
    (he : starEach (e :: es) X.env = (false, eval e X.env) :: starEach es X.env := by rfl) (hpl : (backTo pos (starEach es X.env)).any (·.1) = false := by rfl) : PE X (.Call (.Name x p) (e :: es) [] pos) (tCall sp [] E t) := by
  obtain ⟨f, fd, h1, h2, h3, h4⟩ := c.ex
  exact pe_call h4 (hr.mono hk) hg h1 h2 h3 .nil hx ha hdb he hpl
theorem pe_g0 (c : Gf X.prog X.w X.K X.mg X.base x k ps sp) (hr : Room j X.A) (hk : k ≤ j) (hx : Passes (L2.CX X.prog X.w) X E) (hg : Gl X x) (hdb : (x == ("__debug__" : Str)) = false := by decide) : PE X (.Call (.Name x p) [] [] pos) (tCall sp [] E tNil) := by
  obtain ⟨f, fd, h1, h2, h3, h4⟩ := c.ex
  exact pe_call0 h4 (hr.mono hk) hg h1 h2 h3 .nil hx hdb
theorem pe_m {pl : Sem Bool} (c : Mf X.prog X.w X.K X.mg X.base C m k ps sp) (hr : Room j X.A) (hk : k ≤ j) (hx : Passes (L2.CX X.prog X.w) X E) (he : PE X o ta) (ha : PA X (e :: es) t)
    (hst : starEach (e :: es) X.env = (false, eval e X.env) :: starEach es X.env := by rfl) (hpl : (backTo pos (starEach es X.env)).any (·.1) = false := by rfl)
    (ht : eval (.Call (.Attribute o m apos) (e :: es) [] pos) X.env = (do
      let ov ← eval o X.env
      standAt apos.atName
      let (f, first) ← holding [ov] (getMethod ov m pl)
      callWith pos f first (backTo pos (starEach (e :: es) X.env)) (backToKw pos (keywordEach [] X.env))) := by rfl) :
    PE X (.Call (.Attribute o m apos) (e :: es) [] pos) (tMeth C m sp [] E ta t) := by
  obtain ⟨f, fd, h1, h2, h3⟩ := c.ex
  exact pe_meth he c.cl h1 h3 (hr.mono hk) h2 .nil hx ha hst hpl ht
theorem pe_k (c : Kf X.prog X.w X.K X.mg X.base x C k ps dvs sp) (hr : Room j X.A) (hk : k + 1 ≤ j) (hx : Passes (L2.CX X.prog X.w) X E) (hg : Gl X x) (ha : PA X (e :: es) t) (hdb : (x == ("__debug__" : Str)) = false := by decide)
    (he : starEach (e :: es) X.env = (false, eval e X.env) :: starEach es X.env := by rfl) (hpl : (backTo pos (starEach es X.env)).any (·.1) = false := by rfl) : PE X (.Call (.Name x p) (e :: es) [] pos) (tMake C sp dvs E t) := by
  obtain ⟨f, fd, ds, h1, h2, h3, h4, h5⟩ := c.ex
  exact pe_make h2 h5 (hr.mono hk) hg h1 h3 h4 hx ha hdb he hpl
theorem cxOf_K {CX : CXT} {P : Program} {w : World} {K : PySem.W.Frag} {mg : Str → Option Value} {base : Heap} {N : List Str} {q : Str} {sc : Scope} {f : Addr} {cd : Value} {A : Around} {o : List Env} {s : Shared} {H : Hp} {E : XK} : (cxOf CX P w K mg base N q sc f cd A o s H E).K = K := rfl
/-- a tuple (top, bottom) -/
def qv (q : Rat) : List V := [.int q.num, .int (q.den : Int)]
theorem at0 {q : Rat} {v : V} : atI (qv q) 0 = some v ↔ v = .int q.num := by
  have e : atI (qv q) ((0 : Nat) : Int) = some (.int q.num) := atI_nat rfl
  have e2 : atI (qv q) 0 = some (.int q.num) := e
  rw [e2]
  exact ⟨fun z => (Option.some.inj z).symm, fun z => by rw [z]⟩
theorem at1 {q : Rat} {v : V} : atI (qv q) 1 = some v ↔ v = .int (q.den : Int) := by
  have e : atI (qv q) ((1 : Nat) : Int) = some (.int (q.den : Int)) := atI_nat rfl
  have e2 : atI (qv q) 1 = some (.int (q.den : Int)) := e
  rw [e2]
  exact ⟨fun z => (Option.some.inj z).symm, fun z => by rw [z]⟩
def rIxTH : R2 := fun x y H Q => ∃ p xs i v, x = .ref p ∧ y = .int i ∧ H p = some (.tup xs) ∧ atI xs i = some v ∧ Q v H
def rIxLH : R2 := fun x y H Q => ∃ p xs i v, x = .ref p ∧ y = .int i ∧ H p = some (.lst xs) ∧ atI xs i = some v ∧ Q v H
theorem ix_tupH {X : Cx} : IxR X rIxTH := fun va sl pins s σ H x y v u Q I rx ry h hs => by
  obtain ⟨p, xs, i, z, e1, e2, e3, e4, q⟩ := h
  exact ix_tup va sl pins s σ H x y v u Q I rx ry ⟨p, xs, i, z, e1, e2, SqT.of e3, e4, q⟩ hs
theorem ix_listH {X : Cx} : IxR X rIxLH := fun va sl pins s σ H x y v u Q I rx ry h hs => by
  obtain ⟨p, xs, i, z, e1, e2, e3, e4, q⟩ := h
  exact ix_list va sl pins s σ H x y v u Q I rx ry ⟨p, xs, i, z, e1, e2, SqL.of e3, e4, q⟩ hs
theorem call_isiE {X : Cx} {K : PySem.W.Frag} (h : X.K = K) : CallR X (.builtin "isinstance") (rIsi K) := by subst h; exact call_isi
theorem ne_nil {K : PySem.W.Frag} {H : Hp} {a b : Addr} {Q : VK} (ha : H a = some (.lst [])) (hb : H b = some (.lst [])) (k : Q (.bl false) H) : rNeD K (.ref a) (.ref b) H Q :=
  ⟨.list [], .list [], .lst (SqL.of ha) .nil, .lst (SqL.of hb) .nil, by rfl, by rfl, k⟩
theorem eq_pair {K : PySem.W.Frag} {H : Hp} {a b : Addr} {t1 b1 t2 b2 : Int} {Q : VK} (ha : H a = some (.tup [.int t1, .int b1])) (hb : H b = some (.tup [.int t2, .int b2])) (k : Q (.bl (decide (t1 = t2 ∧ b1 = b2))) H) : rEqD K (.ref a) (.ref b) H Q := by
  refine ⟨.tuple [.int t1, .int b1], .tuple [.int t2, .int b2], .tup (SqT.of ha) (.cons (.int _) (.cons (.int _) .nil)), .tup (SqT.of hb) (.cons (.int _) (.cons (.int _) .nil)), by rfl, by rfl, ?_⟩
  have e : PyData.eqv (.tuple [.int t1, .int b1]) (.tuple [.int t2, .int b2]) = decide (t1 = t2 ∧ b1 = b2) := by
    simp [PyData.eqv, PyData.eqvAll, Bool.beq_eq_decide_eq]
  rw [e]
  exact k
section
variable {K : PySem.W.Frag} {H : Hp} {R : Bool → Prop} {i : Int} {c : Bool}
theorem isi_ii (h : R true) : ∃ x x1, ClsV (.ty "int") x1 ∧ TyX K H (.int i) x ∧ ∃ b, PySem.W.kitOne K x x1 = some b ∧ R b := ⟨.type "int", .type "int", .ty _, .base (.int i), true, kit_ty (by decide +kernel), h⟩
theorem isi_ib (h : R false) : ∃ x x1, ClsV (.ty "bool") x1 ∧ TyX K H (.int i) x ∧ ∃ b, PySem.W.kitOne K x x1 = some b ∧ R b := ⟨.type "int", .type "bool", .ty _, .base (.int i), false, kit_ty (by decide +kernel), h⟩
theorem isi_bb (h : R true) : ∃ x x1, ClsV (.ty "bool") x1 ∧ TyX K H (.bl c) x ∧ ∃ b, PySem.W.kitOne K x x1 = some b ∧ R b := ⟨.type "bool", .type "bool", .ty _, .base (.bl c), true, kit_ty (by decide +kernel), h⟩
end
theorem eq_bl3 {K : PySem.W.Frag} {H : Hp} {a b : Addr} {x y z : Bool} {Q : VK} (ha : H a = some (.lst [.bl x, .bl y, .bl z])) (hb : H b = some (.lst [.bl x, .bl y, .bl z])) (k : Q (.bl true) H) : rEqD K (.ref a) (.ref b) H Q := by
  refine ⟨.list [.bool x, .bool y, .bool z], .list [.bool x, .bool y, .bool z], .lst (SqL.of ha) (.cons (.bl _) (.cons (.bl _) (.cons (.bl _) .nil))), .lst (SqL.of hb) (.cons (.bl _) (.cons (.bl _) (.cons (.bl _) .nil))), by rfl, by rfl, ?_⟩
  have e : PyData.eqv (.list [.bool x, .bool y, .bool z]) (.list [.bool x, .bool y, .bool z]) = true := by simp [PyData.eqv, PyData.eqvAll]
  rw [e]
  exact k
def gTupH (n : Nat) (t : TGs) : TG := fun v σ H Q => ∃ a xs, v = .ref a ∧ H a = some (.tup xs) ∧ xs.length = n ∧ t xs σ H Q
theorem pg_tupH {X : Cx} {es : List Expr} {k : Nat} {t : TGs} {n : Nat} {pos : Pos} (hc : X.calm = true) (h : PGs X es t)
    (hn : (assignEach es X.env).length = n := by rfl) (hst : (assignEach es X.env).findIdx? (·.1) = none := by rfl) : PG X (.Tuple es k pos) (gTupH n t) :=
  ⟨fun pins s σ H v u Q I r hw => by
    obtain ⟨a, xs, e1, e2, e3, e4⟩ := hw
    exact (pg_tup (pos := pos) (k := k) hc h hn hst).run pins s σ H v u Q I r ⟨a, xs, e1, SqT.of e2, e3, e4⟩⟩
theorem line_le {n : Nat} (h : n ≤ 1000) : n ≤ sizeLine := Nat.le_trans h (by decide)
theorem scal_ii {i j : Int} : scal (.int i) (.int j) = true := rfl
theorem scal_bb {i j : Bool} : scal (.bl i) (.bl j) = true := rfl
theorem scal_ss {i j : Str} : scal (.str i) (.str j) = true := rfl
theorem same_new {H : Hp} {p : Addr} {o : HO} (h : H p = none) : Same H (upd H p o) := fun b u e => by rw [upd_ne (ne_of_none e h)]; exact e
theorem seqL_same {K : PySem.W.Frag} {H H' : Hp} {a : Addr} {xs : List V} (e : Same H H') (h : SqL K H a xs) : SqL K H' a xs := e.seq h
theorem seqT_same {K : PySem.W.Frag} {H H' : Hp} {a : Addr} {xs : List V} (e : Same H H') (h : SqT K H a xs) : SqT K H' a xs :=
  h.elim (fun h => .inl (h.elim (fun h => .inl (e _ _ h)) fun ⟨o, h⟩ => .inr ⟨o, e _ _ h⟩)) fun h => .inr h
theorem upd_get {H : Hp} {p : Addr} {o u : HO} (h : H p = none) {b : Addr} (e : H b = some u) : upd H p o b = some u := by rw [upd_ne (ne_of_none e h)]; exact e
/-- floor division by any divisor below 2 ^ 9000 in size, not 0 -/
def CDivX (_ j : Int) : Prop := j ≠ 0 ∧ j.natAbs.log2 < 9000
theorem op_fdivX : OpR X (binaryOp .FloorDiv) (rI CDivX fun i j => .int (i.fdiv j)) := opI fun i j _ _ _ _ _ hc q => floordiv_int hc.1 q (.inl (PyProof.noPylong_of_log2 hc.2))
end

/-- an operator of the own class at C -/
structure Of (P : Program) (w : World) (K : PySem.W.Frag) (mg : Str → Option Value) (base : Heap) (C : Addr) (op : Operator) (k : Nat) (sp : Sp) : Prop where
  ex : ∃ (f : Addr) (fd : FuncData) (ps : List Str) (fo ro : Option Value), OpC K C op f ∧ Binds K fd ps [] ∧ FnOk P w K mg base (L2.CX P w) k f fd ps sp ∧
    PySem.W.findIn K (.type "int") (PySem.dunder op.info.2) = some fo ∧ PySem.W.findIn K (.type "int") (dunderR op.info.2) = some ro ∧ PySem.W.subIn K (.type "int") (.ref C) = some false
/-- -x of the own class at C -/
structure Nf (P : Program) (w : World) (K : PySem.W.Frag) (mg : Str → Option Value) (base : Heap) (C : Addr) (k : Nat) (sp : Sp) : Prop where
  ex : ∃ (f : Addr) (fd : FuncData) (ps : List Str), PySem.W.findIn K (.ref C) "__neg__" = some (some (.ref f)) ∧ PySem.W.isFn K (.ref f) = true ∧ Binds K fd ps [] ∧ FnOk P w K mg base (L2.CX P w) k f fd ps sp
/-- == of the own class at C -/
structure Ef (P : Program) (w : World) (K : PySem.W.Frag) (mg : Str → Option Value) (base : Heap) (C : Addr) (k : Nat) (sp : Sp) : Prop where
  ex : ∃ (f : Addr) (fd : FuncData) (ps : List Str), PySem.W.findIn K (.ref C) "__eq__" = some (some (.ref f)) ∧ PySem.W.isFn K (.ref f) = true ∧ Binds K fd ps [] ∧ FnOk P w K mg base (L2.CX P w) k f fd ps sp
/-- an own exception class at C, its __init__ keeps sp -/
structure Xf (P : Program) (w : World) (K : PySem.W.Frag) (mg : Str → Option Value) (base : Heap) (x : Str) (C : Addr) (k : Nat) (sp : Sp) : Prop where
  ex : ∃ (f : Addr) (fd : FuncData) (ps : List Str), mg x = some (.ref C) ∧ OexC K C ∧ PySem.W.findIn K (.ref C) "__init__" = some (some (.ref f)) ∧ PySem.W.typeIn K (.ref f) = some (.type "function") ∧ Binds K fd ps [] ∧ FnOk P w K mg base (L2.CX P w) k f fd ps sp
section
variable {X : Cx} {j k : Nat} {x : Str} {C : Addr} {sp : Sp} {E : XK} {op : Operator} {e : Expr} {es : List Expr} {t : TA} {p pos pos2 : Pos} {W : WX}
theorem op_o (c : Of X.prog X.w X.K X.mg X.base C op k sp) (hr : Room j X.A) (hk : k ≤ j) (hx : Passes (L2.CX X.prog X.w) X E) : OpR X (binaryOp op) (rOwn C sp E) := by
  obtain ⟨f, fd, ps, fo, ro, h1, h2, h3, h4, h5, h6⟩ := c.ex
  exact op_own h1 h3 (hr.mono hk) h2 hx h4 h5 h6
theorem un_o (c : Nf X.prog X.w X.K X.mg X.base C k sp) (hr : Room j X.A) (hk : k ≤ j) (hx : Passes (L2.CX X.prog X.w) X E) : UnR X (unaryOp .USub) (rOwn1 C sp E) := by
  obtain ⟨f, fd, ps, h1, h2, h3, h4⟩ := c.ex
  exact un_own h1 h2 h4 (hr.mono hk) h3 hx
theorem eq_o (c : Ef X.prog X.w X.K X.mg X.base C k sp) (hr : Room j X.A) (hk : k ≤ j) (hx : Passes (L2.CX X.prog X.w) X E) : OpR X (compareOp .Eq) (rOwnEq X.K C sp E) := by
  obtain ⟨f, fd, ps, h1, h2, h3, h4⟩ := c.ex
  exact op_ownEq h1 h2 h4 (hr.mono hk) h3 hx
theorem ps_raiseX (c : Xf X.prog X.w X.K X.mg X.base x C k sp) (hr : Room j X.A) (hk : k + 1 ≤ j) (hc : X.calm = true) (tk : Takes X W) (hg : Gl X x) (ha : PA X (e :: es) t)
    (hdb : (x == ("__debug__" : Str)) = false := by decide) (he : starEach (e :: es) X.env = (false, eval e X.env) :: starEach es X.env := by rfl) (hpl : (backTo pos (starEach es X.env)).any (·.1) = false := by rfl) :
    PS X (.Raise (some (.Call (.Name x p) (e :: es) [] pos)) none pos2) (fun _ σ H => tMkO C sp [] t σ H fun cls d H' => W cls d σ H') := by
  obtain ⟨f, fd, ps, h1, h2, h3, h4, h5, h6⟩ := c.ex
  exact ps_raise hc tk (pmk_oex h2 h3 h4 h6 (hr.mono hk) h5 .nil passL hg h1 ha hdb he hpl)
theorem passX (hs : X.stack = X.env :: X.outer) (hf : X.env.frame = some X.env.locals) (hex : X.ex = []) {E₁ : Value → Shared → Prop}
    (hx : X.xe = fun e s' => wpAny (model X.prog X.w) X.A (leaving X.env e) (fun _ s'' => CX X.prog X.w X.outer X.H_0 X.s_0 E e s'') E₁ s') : Passes (L2.CX X.prog X.w) X E :=
  passes_call (takes_of hs hf hex hx) fun _ _ _ _ z => z
end
/-! ### own exceptions with fields -/
/-- __init__(self, a, b): self.a = a; self.b = b -/
def spX2 (C : Addr) (f1 f2 : Str) : Sp := fun vs H Q _ => ∃ (a : Addr) (x y : V), vs = [.ref a, x, y] ∧ H a = some (exo a C none) ∧
  ∀ d, H d = none → d ≠ a → Q .non (upd (upd (upd H d (exd d [(f1, x)])) a (exo a C (some d))) d (exd d [(f2, y), (f1, x)]))
def spX1 (C : Addr) (f1 : Str) : Sp := fun vs H Q _ => ∃ (a : Addr) (x : V), vs = [.ref a, x] ∧ H a = some (exo a C none) ∧
  ∀ d, H d = none → d ≠ a → Q .non (upd (upd H d (exd d [(f1, x)])) a (exo a C (some d)))
theorem x2_made {H1 : Hp} {a d C : Addr} {f1 f2 : Str} {x y : V} {Q : XK} (ha : H1 a = none) (hd : H1 d = none) (hda : d ≠ a)
    (k : ∀ H', Same H1 H' → H' d = some (.xd [(f2, y), (f1, x)]) → Q (.ref C) (some d) H') :
    ∃ (d' : Addr), (upd (upd (upd (upd H1 a (exo a C none)) d (exd d [(f1, x)])) a (exo a C (some d))) d (exd d [(f2, y), (f1, x)])) a = some (exo a C (some d')) ∧ ∃ (fs : List (Str × V)),
      (upd (upd (upd (upd H1 a (exo a C none)) d (exd d [(f1, x)])) a (exo a C (some d))) d (exd d [(f2, y), (f1, x)])) d' = some (exd d' fs) ∧ H1 d' = none ∧
      Q (.ref C) (some d') (upd (del (upd (upd (upd (upd H1 a (exo a C none)) d (exd d [(f1, x)])) a (exo a C (some d))) d (exd d [(f2, y), (f1, x)])) a) d' (.xd fs)) := by
  refine ⟨d, by rw [upd_ne hda.symm, upd_same], _, upd_same, hd, k _ (fun b o e => ?_) upd_same⟩
  have n1 := ne_of_none e ha
  have n2 := ne_of_none e hd
  rw [upd_ne n2, del_ne n1, upd_ne n2, upd_ne n1, upd_ne n2, upd_ne n1]
  exact e
theorem x1_made {H1 : Hp} {a d C : Addr} {f1 : Str} {x : V} {Q : XK} (ha : H1 a = none) (hd : H1 d = none) (hda : d ≠ a)
    (k : ∀ H', Same H1 H' → H' d = some (.xd [(f1, x)]) → Q (.ref C) (some d) H') :
    ∃ (d' : Addr), (upd (upd (upd H1 a (exo a C none)) d (exd d [(f1, x)])) a (exo a C (some d))) a = some (exo a C (some d')) ∧ ∃ (fs : List (Str × V)),
      (upd (upd (upd H1 a (exo a C none)) d (exd d [(f1, x)])) a (exo a C (some d))) d' = some (exd d' fs) ∧ H1 d' = none ∧
      Q (.ref C) (some d') (upd (del (upd (upd (upd H1 a (exo a C none)) d (exd d [(f1, x)])) a (exo a C (some d))) a) d' (.xd fs)) := by
  refine ⟨d, upd_same, _, by rw [upd_ne hda, upd_same], hd, k _ (fun b o e => ?_) upd_same⟩
  have n1 := ne_of_none e ha
  have n2 := ne_of_none e hd
  rw [upd_ne n2, del_ne n1, upd_ne n1, upd_ne n2, upd_ne n1]
  exact e
end L2
end

section
/-! Lambdas handed to a def of the text; the tables of code objects beside a thing that changes. -/
namespace L2
open PySem PySem.Spec PyProof.Rows LamX
section
variable {P : Program} {w : World} {K : PySem.W.Frag} {mg : Str → Option Value} {base : Heap} {x qual : Str} {params : Arguments} {body : List Stmt} {scope : Scope} {dvs : List V} {kws : List (Str × V)} {f : Addr} {fd : FuncData}
/-- a def that lets no exception out, its code object named -/
theorem FunD.okC {N ps : List Str} {k : Nat} {sp : Sp} (F : FunD K x qual params body scope dvs kws f fd) (S : FnScope N ps scope) (len : ∀ vs H Q E, sp vs H Q E → vs.length = ps.length)
    (hbody : ∀ (A : Around) (outer : List Env) (s : Shared) (H : Hp) (vs : List V) (Q : VK) (E : XK), Room k (A.deeper (envOfC qual scope s.heap.objs.size f fd.code)) → sp vs H Q E →
      ∃ t, PSs (cxOf (L2.CX P w) P w K mg base N qual scope f fd.code A outer s H E).nox body t ∧ t { nx := fun _ H' => Q .non H', rt := Q } (start N vs) H) : FnOk P w K mg base (L2.CX P w) (k + 1) f fd ps sp := by
  obtain ⟨oc, od, dV, kV, doc, pm, an, cdv, ct, osl, rfl, lk, hcd, _, _⟩ := F.ex
  exact fn_of lk hcd S len fun A outer s H vs Q E hr hsp => let ⟨t, h, q⟩ := hbody A outer s H vs Q E hr hsp; ⟨t, h.nox, q⟩
end
section
variable {X : Cx}
/-- x(lambda: body), x a def of the text -/
theorem pe_lamF {T : List (Addr × Str)} {TT : (XK → Hp → VK → Prop) → Hp → VK → Prop} {x a : Str} {g c P : Addr} {fdg : FuncData} {k : Nat} {pg : Arguments} {bg : List Stmt} {sg : Scope} {Ng : List Str}
    {params : Arguments} {body : Expr} {scope : Scope} {t : XK → TE} {p lpos pos : Pos} (F : FunD X.K x x pg bg sg [] [] g fdg) (bB : Binds X.K fdg [a] []) (hg : Gl X x) (hm : X.mg x = some (.ref g)) (Sg : FnScope Ng [a] sg) (hNg : Ng[0]? = some a) (hva : Vis sg a)
    (hG : ∀ cdg : Value, GivesTo X Ng x sg g cdg bg a (X.env.qual ++ "<lambda>") TT)
    (TB : TabB X.base X.mg c P) (hcode : X.env.code = .ref c) (hmT : (P, X.env.qual ++ "<lambda>") ∈ T) (hu : ∀ p ∈ T, p.1 = P → p.2 = X.env.qual ++ "<lambda>") (hr : Room (k + 2) X.A) (L : LamS X.env.scope scope) (hdef : defaultsOf params X.env = ([], []))
    (hbind : ∀ (q : Str) (cl : List (Str × Addr)) (pm cv ctv : Value), bindArgs (PySem.W.kla_fn "<lambda>" q params body scope cl pm cv ctv) ⟨[], []⟩ = pure [])
    (hbody : ∀ (A : Around) (outer : List Env) (s : Shared) (H : Hp) (E : XK) (f c' : Addr), Room k (A.deeper (lamEnv X scope s.heap.objs.size f c')) → PE (lamCx X A outer s H E scope f c') body (t E))
    (hdb : (x == ("__debug__" : Str)) = false := by decide) (hd : (a == ("__debug__" : Str)) = false := by decide) (hcd : (a == ("__classdict__" : Str)) = false := by decide) :
    PE X (.Call (.Name x p) [.Lambda params body scope lpos] [] pos) (tLam T TT t) := by
  obtain ⟨oc, od, dV, kV, doc, pm, an, cdv, ct, osl, rfl, lk, hcg, _, _⟩ := F.ex
  exact pe_lamcall hg hm F.kp lk hcg bB Sg hNg hva (hG cdv) TB hcode hmT hu hr L hdef hbind hbody hdb hd hcd
end
/-- at a raise, all slots are there -/
theorem takes_len {X : Cx} {W : WX} (t : Takes X W) : Takes X (fun cls d σ H => σ.length = X.N.length → W cls d σ H) := fun e s1 h => by
  obtain ⟨a, B, sI, pins, σ', H', cls, d, e1, J, r1, r2, r3, r4, r5, r6, z⟩ := h
  exact t e s1 ⟨a, B, sI, pins, σ', H', cls, d, e1, J, r1, r2, r3, r4, r5, r6, z J.len⟩
theorem Room.u200 {k : Nat} {A : Around} (r : Room k A) : A.units + 200 < cLine := by have := r.un; omega
theorem mem1 {P : Addr} {q : Str} : ∀ p ∈ [(P, q)], p.1 = P → p.2 = q := fun p hp _ => by rw [List.mem_singleton.mp hp]
abbrev qL : Str := ("law" : Str) ++ ".<locals>." ++ "<lambda>"
/-- the tables, the heap changed at p only, which is neither a table nor a code object -/
theorem tabS_at {H H' : Hp} {T p : Addr} {q : Str} {o : HO} (t : TabS H T q) (hp : H p = some o) (h1 : ∀ ps, o ≠ .tbl ps) (h2 : ∀ c, o ≠ CodeO c q) (e : ∀ b u, b ≠ p → H b = some u → H' b = some u) : TabS H' T q := by
  obtain ⟨ps, e1, e2, e3⟩ := t
  refine ⟨ps, e _ _ (fun z => ?_) e1, e2, fun pos cv hc => ?_⟩
  · rw [z, hp] at e1
    exact h1 _ (Option.some.inj e1)
  · obtain ⟨c, r1, r2⟩ := e3 pos cv hc
    refine ⟨c, r1, e _ _ (fun z => ?_) r2⟩
    rw [z, hp] at r2
    exact h2 _ (Option.some.inj r2)
theorem tabs_at {T : List (Addr × Str)} {H H' : Hp} {p : Addr} {o : HO} (t : Tabs T H) (hp : H p = some o) (h1 : ∀ ps, o ≠ .tbl ps) (h2 : ∀ c q, o ≠ CodeO c q) (e : ∀ b u, b ≠ p → H b = some u → H' b = some u) : Tabs T H' :=
  fun z hz => tabS_at (t z hz) hp h1 (fun c => h2 c _) e
theorem ne_bls {K : PySem.W.Frag} {H : Hp} {a b : Addr} {Q : VK} (bs : List Bool) (ha : H a = some (.lst (bs.map V.bl))) (hb : H b = some (.lst (bs.map V.bl))) (sh : SeqAt.shaped (.list (bs.map PyData.bool)) = true) (k : Q (.bl false) H) : rNeD K (.ref a) (.ref b) H Q := by
  have d : ∀ (l : List Bool), DpAll K H (l.map V.bl) (l.map PyData.bool) := fun l => by
    induction l with
    | nil => exact .nil
    | cons x l ih => exact .cons (.bl x) ih
  refine ⟨.list (bs.map .bool), .list (bs.map .bool), .lst (SqL.of ha) (d bs), .lst (SqL.of hb) (d bs), sh, sh, ?_⟩
  have e : ∀ l : List Bool, PyData.eqvAll (l.map PyData.bool) (l.map PyData.bool) = true := fun l => by
    induction l with
    | nil => rfl
    | cons x l ih => simp [PyData.eqvAll, PyData.eqv, ih]
  have e2 : PyData.eqv (.list (bs.map PyData.bool)) (.list (bs.map PyData.bool)) = true := by simp [PyData.eqv, e]
  rw [e2]
  exact k
/-- what is asked of an own exception class whose fields are read -/
structure XrC (K : PySem.W.Frag) (C : Addr) (f1 f2 : Str) : Prop where
  T : XfC K C
  n1 : PySem.W.findIn K (.ref C) f1 = some none
  n2 : PySem.W.findIn K (.ref C) f2 = some none
  me : PySem.W.exmOne K (.ref C) (.ref C) = some true
/-- calls; only the exception with these two fields is wished -/
def TBot (CB : Addr) (f1 f2 : Str) (v1 v2 : V) : (XK → Hp → VK → Prop) → Hp → VK → Prop := fun tl H Q =>
  tl (fun cls d H' => cls = .ref CB ∧ ∃ dd, d = some dd ∧ H' dd = some (.xd [(f2, v2), (f1, v1)]) ∧ ∀ H'', Same H' H'' → Q (.bl true) H'') H fun _ H' => Q (.bl false) H'
theorem eq_sn {K : PySem.W.Frag} {H : Hp} {a b : Addr} {i j : Str} {m n : Int} {Q : VK} (ha : H a = some (.tup [.str i, .int m])) (hb : H b = some (.tup [.str j, .int n])) (si : SeqAt.shaped (.tuple [.str i, .int m]) = true) (sj : SeqAt.shaped (.tuple [.str j, .int n]) = true) (k : Q (.bl (decide (i = j ∧ m = n))) H) : rEqD K (.ref a) (.ref b) H Q := by
  refine ⟨.tuple [.str i, .int m], .tuple [.str j, .int n], .tup (SqT.of ha) (.cons (.str _) (.cons (.int _) .nil)), .tup (SqT.of hb) (.cons (.str _) (.cons (.int _) .nil)), si, sj, ?_⟩
  have e : PyData.eqv (.tuple [.str i, .int m]) (.tuple [.str j, .int n]) = decide (i = j ∧ m = n) := by
    simp [PyData.eqv, PyData.eqvAll, Bool.beq_eq_decide_eq]
  rw [e]
  exact k
end L2
end

section
/-! What the head's facts are asked beside the library's: exceptions with an __init__, operators. -/
namespace HwH
open PySem PySem.Spec PyProof.Rows L2 He
def oexB (K : PySem.W.Frag) (C : Addr) : Bool := (match K.lookup C with
  | some ⟨.type ty, _, .cls cd, sl⟩ => decide (ty = "type") && (cd.hasDict && (!cd.hasDel && ((match cd.mro with
    | .ref c :: bm => decide (c = C) && PySem.HandSPX.refsVE bm
    | _ => false) && (match sl.toList with
    | [_, _, _, _, some (.builtin nid), _] => decide (nid = "ValueError.__new__")
    | _ => false))))
  | _ => false) && (eqO (PySem.W.findIn K (.ref C) "__setattr__") (some (some (.builtin "object.__setattr__"))) && (decide (PySem.W.subIn K (.ref C) (.type "BaseException") = some true) && (decide (PySem.W.typeIn K (.ref C) = some (.type "type")) && PySem.W.keepIn K (.ref C))))
theorem oexB_ok {K : PySem.W.Frag} {C : Addr} (h : oexB K C = true) : OexC K C := by
  obtain ⟨h1, h⟩ := ba h
  obtain ⟨h2, h⟩ := ba h
  obtain ⟨h3, h⟩ := ba h
  obtain ⟨h4, h5⟩ := ba h
  refine ⟨?_, eqO_ok h2, of_decide_eq_true h3, of_decide_eq_true h4, h5⟩
  cases q : K.lookup C with
  | none =>
    rw [q] at h1
    cases h1
  | some o =>
    obtain ⟨oc, od, dt, sl⟩ := o
    rw [q] at h1
    cases oc with
    | type ty =>
      cases dt with
      | cls cd =>
        obtain ⟨nm, bs, mro, ns, qn, hd, sn, sub, ab, col, hdel⟩ := cd
        obtain ⟨g1, h1⟩ := ba h1
        obtain ⟨g2, h1⟩ := ba h1
        obtain ⟨g3, h1⟩ := ba h1
        obtain ⟨g4, g5⟩ := ba h1
        obtain ⟨sl⟩ := sl
        have e1 : ty = "type" := of_decide_eq_true g1
        have e2 : hd = true := g2
        have e3 : hdel = false := by
          have : (!hdel) = true := g3
          simpa using this
        subst e1 e2 e3
        match mro, g4 with
        | .ref c :: bm, g4 =>
          obtain ⟨g6, g7⟩ := ba g4
          have e4 : c = C := of_decide_eq_true g6
          subst e4
          match sl, g5 with
          | [k0, k1, k2, k3, some (.builtin nid), k5], g5 =>
            have e5 : nid = "ValueError.__new__" := of_decide_eq_true g5
            subst e5
            exact ⟨nm, qn, ns, bs, bm, sn, sub, ab, col, od, k0, k1, k2, k3, k5, rfl, g7⟩
      | _ => cases h1
    | _ => cases h1
def opB (K : PySem.W.Frag) (C : Addr) (op : Operator) : Bool := PySem.W.selfFirst K C && (eqO (PySem.W.findIn K (.ref C) (PySem.dunder op.info.2)) (some (some (.ref (ma K C (PySem.dunder op.info.2))))) && (PySem.W.isFn K (.ref (ma K C (PySem.dunder op.info.2))) && (eqO (PySem.W.findIn K (.ref C) (dunderR op.info.2)) (some none) &&
  ((PySem.W.findIn K (.type "int") (PySem.dunder op.info.2)).isSome && ((PySem.W.findIn K (.type "int") (dunderR op.info.2)).isSome && decide (PySem.W.subIn K (.type "int") (.ref C) = some false))))))
theorem opB_ok {K : PySem.W.Frag} {C : Addr} {op : Operator} (h : opB K C op = true) : OpC K C op (ma K C (PySem.dunder op.info.2)) ∧ ∃ fo ro, PySem.W.findIn K (.type "int") (PySem.dunder op.info.2) = some fo ∧ PySem.W.findIn K (.type "int") (dunderR op.info.2) = some ro ∧ PySem.W.subIn K (.type "int") (.ref C) = some false := by
  obtain ⟨h1, h⟩ := ba h
  obtain ⟨h2, h⟩ := ba h
  obtain ⟨h3, h⟩ := ba h
  obtain ⟨h4, h⟩ := ba h
  obtain ⟨h5, h⟩ := ba h
  obtain ⟨h6, h7⟩ := ba h
  obtain ⟨fo, e5⟩ := Option.isSome_iff_exists.mp h5
  obtain ⟨ro, e6⟩ := Option.isSome_iff_exists.mp h6
  exact ⟨⟨h1, eqO_ok h2, h3, eqO_ok h4⟩, fo, ro, e5, e6, of_decide_eq_true h7⟩
/-- a method that is reached through a special name -/
def spcB (K : PySem.W.Frag) (C : Addr) (m : Str) : Bool := eqO (PySem.W.findIn K (.ref C) m) (some (some (.ref (ma K C m)))) && PySem.W.isFn K (.ref (ma K C m))
theorem spcB_ok {K : PySem.W.Frag} {C : Addr} {m : Str} (h : spcB K C m = true) : PySem.W.findIn K (.ref C) m = some (some (.ref (ma K C m))) ∧ PySem.W.isFn K (.ref (ma K C m)) = true := by
  obtain ⟨h1, h2⟩ := ba h
  exact ⟨eqO_ok h1, h2⟩
def iniB (K : PySem.W.Frag) (C : Addr) : Bool := eqO (PySem.W.findIn K (.ref C) "__init__") (some (some (.ref (ma K C "__init__")))) && decide (PySem.W.typeIn K (.ref (ma K C "__init__")) = some (.type "function"))
theorem iniB_ok {K : PySem.W.Frag} {C : Addr} (h : iniB K C = true) : PySem.W.findIn K (.ref C) "__init__" = some (some (.ref (ma K C "__init__"))) ∧ PySem.W.typeIn K (.ref (ma K C "__init__")) = some (.type "function") := by
  obtain ⟨h1, h2⟩ := ba h
  exact ⟨eqO_ok h1, of_decide_eq_true h2⟩
def xrB (K : PySem.W.Frag) (C : Addr) (f1 f2 : Str) : Bool := xfB K C && (eqO (PySem.W.findIn K (.ref C) f1) (some none) && (eqO (PySem.W.findIn K (.ref C) f2) (some none) && decide (PySem.W.exmOne K (.ref C) (.ref C) = some true)))
theorem xrB_ok {K : PySem.W.Frag} {C : Addr} {f1 f2 : Str} (h : xrB K C f1 f2 = true) : XrC K C f1 f2 := by
  obtain ⟨h1, h⟩ := ba h
  obtain ⟨h2, h⟩ := ba h
  obtain ⟨h3, h4⟩ := ba h
  exact ⟨xfB_ok h1, eqO_ok h2, eqO_ok h3, of_decide_eq_true h4⟩
def bfunB (K : PySem.W.Frag) (x : Str) (id : String) : Bool := eqO (PySem.W.nsIn K mainGlobals x) (some (some (.builtin id)))
theorem bfunB_ok {K : PySem.W.Frag} {h : Heap} {mg : Str → Option Value} (X : K.In h) (G : h.Ns mainGlobals mg) {x : Str} {id : String} (c : bfunB K x id = true) : mg x = some (.builtin id) := PySem.W.mg_of X G (eqO_ok c)
/-- a def's code object, its table -/
theorem code_of {K : PySem.W.Frag} {p : Defn} {x qual : Str} {params : Arguments} {body : List Stmt} {scope : Scope} {dvs : List V} {kws : List (Str × V)} {fd : FuncData} (F : FunD K x qual params body scope dvs kws (fAd K p) fd) : fd.code = .ref (codeOf K p) := by
  obtain ⟨oc, od, dV, kV, doc, pm, an, cdv, ct, osl, rfl, lk, hcd, _, _⟩ := F.ex
  obtain ⟨c, rfl⟩ := codeIn_ref hcd
  rw [codeOf_eq lk rfl]
end HwH
end

section
/-! Texts as lists of signs: the place of a sign, numbers, the first wrong column of a ratio's text. -/
namespace HwT
open PySem PySem.StrLaws Builtin Builtin.Str PySem.NumText
def tx (l : List Nat) : Str := ⟨l.toArray⟩
theorem tx_list (l : List Nat) : (tx l).cps.toList = l := rfl
theorem tx_of (x : Str) : tx x.cps.toList = x := rfl
theorem tx_len (l : List Nat) : (tx l).length = l.length := by unfold tx Str.length; simp
theorem len_list (x : Str) : x.length = x.cps.toList.length := by unfold Str.length; simp
theorem tx_app (a b : List Nat) : tx a ++ tx b = tx (a ++ b) := by
  show Str.append (tx a) (tx b) = _
  unfold Str.append tx
  simp
section
variable {x : Str} {c n : Nat}
theorem occ_at {i : Nat} (h : i ∈ occurrences x ⟨#[c]⟩ 0 x.length n) : x.cps.toList[i]? = some c := by
  obtain ⟨f, ch⟩ := occ_chain x ⟨#[c]⟩ n
  have key : ∀ (l : List Nat) (a : Nat), ChainTo x ⟨#[c]⟩ x.length a l f → ∀ i ∈ l, At x ⟨#[c]⟩ x.length i := by
    intro l
    induction l with
    | nil => intro a h i hi; cases hi
    | cons d r ih =>
      intro a h i hi
      rcases List.mem_cons.mp hi with e | hi
      · rw [e]; exact h.2.1
      · exact ih _ h.2.2 i hi
  exact (subAt_one x c i).mp (key _ _ ch i h)
theorem occ_no (h : c ∉ x.cps.toList) : occurrences x ⟨#[c]⟩ 0 x.length n = [] := by
  cases e : occurrences x ⟨#[c]⟩ 0 x.length n with
  | nil => rfl
  | cons i r => exact absurd (List.mem_of_getElem? (occ_at (n := n) (by rw [e]; exact List.mem_cons_self))) h
theorem occ_once {a b : List Nat} (hx : x.cps.toList = a ++ c :: b) (na : c ∉ a) (nb : c ∉ b) (hn : n = 1 ∨ n = x.length + 1) : occurrences x ⟨#[c]⟩ 0 x.length n = [a.length] := by
  have place : ∀ i, x.cps.toList[i]? = some c → i = a.length := fun i hi => by
    rw [hx] at hi
    rcases Nat.lt_trichotomy i a.length with h | h | h
    · rw [List.getElem?_append_left h] at hi
      exact absurd (List.mem_of_getElem? hi) na
    · exact h
    · rw [List.getElem?_append_right (by omega)] at hi
      obtain ⟨j, hj⟩ : ∃ j, i - a.length = j + 1 := ⟨i - a.length - 1, by omega⟩
      rw [hj, List.getElem?_cons_succ] at hi
      exact absurd (List.mem_of_getElem? hi) nb
  have here : x.cps.toList[a.length]? = some c := by rw [hx]; simp
  have ne : occurrences x ⟨#[c]⟩ 0 x.length n ≠ [] := by
    rcases hn with rfl | rfl
    · intro z
      have f := found_one x c
      rw [z, show decide (c ∈ x.cps.toList) = true from decide_eq_true (List.mem_of_getElem? here)] at f
      cases f
    · intro z
      obtain ⟨f, h1, h2⟩ := occ_tight x ⟨#[c]⟩ (by show 1 ≤ 1; omega)
      rw [z] at h1
      have e : f = 0 := h1
      exact h2 a.length (by omega) ((subAt_one x c a.length).mpr here)
  obtain ⟨f, ch⟩ := occ_chain x ⟨#[c]⟩ n
  have at_ : ∀ i ∈ occurrences x ⟨#[c]⟩ 0 x.length n, i = a.length := fun i hi => place i (occ_at (n := n) hi)
  match e : occurrences x ⟨#[c]⟩ 0 x.length n with
  | [] => exact absurd e ne
  | [i] =>
    rw [e] at at_
    rw [at_ i (by simp)]
  | i :: j :: r =>
    rw [e] at at_ ch
    have h1 := at_ i (by simp)
    have h2 := at_ j (by simp)
    have h3 : i + 1 ≤ j := ch.2.2.1
    omega
theorem part_some {a b : List Nat} (hx : x.cps.toList = a ++ c :: b) (na : c ∉ a) (nb : c ∉ b) : Txt.partition x ⟨#[c]⟩ = (tx a, ⟨#[c]⟩, tx b) := by
  have hl : x.length = a.length + (b.length + 1) := by rw [len_list, hx]; simp
  unfold Txt.partition
  rw [occ_once hx na nb (.inl rfl)]
  have e1 : strSub x 0 a.length = tx a := by
    rw [← tx_of (strSub x 0 a.length), strSub_toList, hx]; simp
  have e2 : strSub x (a.length + 1) x.length = tx b := by
    rw [← tx_of (strSub x (a.length + 1) x.length), strSub_toList, hx, hl]
    rw [show a ++ c :: b = (a ++ [c]) ++ b by simp, List.drop_left' (by simp)]
    rw [List.take_of_length_le (by omega)]
  show (strSub x 0 a.length, _, strSub x (a.length + 1) x.length) = _
  rw [e1, e2]
theorem part_none (h : c ∉ x.cps.toList) : Txt.partition x ⟨#[c]⟩ = (x, Str.empty, Str.empty) := by
  unfold Txt.partition
  rw [occ_no h]
theorem split_some {a b : List Nat} (hx : x.cps.toList = a ++ c :: b) (na : c ∉ a) (nb : c ∉ b) : Txt.split x ⟨#[c]⟩ = [tx a, tx b] := by
  have hl : x.length = a.length + (b.length + 1) := by rw [len_list, hx]; simp
  have mem : c ∈ x.cps.toList := by rw [hx]; simp
  unfold Txt.split
  have k : ¬ strKind x < strKind ⟨#[c]⟩ := fun z => kind_free x c z mem
  have l1 : ¬ x.length < (⟨#[c]⟩ : Str).length := by show ¬ x.length < 1; omega
  rw [decide_eq_false l1, decide_eq_false k, occ_once hx na nb (.inr rfl), if_neg (by simp), if_neg (by simp), partsBetween_eq]
  have e1 : strSub x 0 a.length = tx a := by
    rw [← tx_of (strSub x 0 a.length), strSub_toList, hx]; simp
  have e2 : strSub x (a.length + 1) x.length = tx b := by
    rw [← tx_of (strSub x (a.length + 1) x.length), strSub_toList, hx, hl]
    rw [show a ++ c :: b = (a ++ [c]) ++ b by simp, List.drop_left' (by simp)]
    rw [List.take_of_length_le (by omega)]
  show [strSub x 0 a.length, strSub x (a.length + 1) x.length] = _
  rw [e1, e2]
theorem split_none (h : c ∉ x.cps.toList) : Txt.split x ⟨#[c]⟩ = [x] := by
  unfold Txt.split
  rw [occ_no h]
  simp
end
/-! ### digits -/
def isD (c : Nat) : Bool := decide (48 ≤ c) && decide (c ≤ 57)
def run (l : List Nat) : Nat := (l.takeWhile isD).length
/-- the end of the digits from k on; k itself where a 0 stands first -/
def we (l : List Nat) (k : Nat) : Nat := if l[k]? = some 48 then k else k + run (l.drop k)
/-- .. behind the sign, the digits from s on -/
def colAt (l : List Nat) (s : Nat) : Nat := if we l s = s then s + 1 else if we l s = l.length then 0 else if l[we l s]? ≠ some 47 then we l s + 1
    else if we l (we l s + 1) = we l s + 1 ∨ we l (we l s + 1) < l.length then we l (we l s + 1) + 1 else 0
/-- the first wrong column, 0 if there is none -/
def col (l : List Nat) : Nat := if l[0]? = some 48 then (if l = [48] then 0 else 2) else colAt l (if l[0]? = some 45 then 1 else 0)
theorem run_step {l : List Nat} {k c : Nat} (h : l[k]? = some c) (hc : isD c = true) : run (l.drop k) = run (l.drop (k + 1)) + 1 := by
  have e : l.drop k = c :: l.drop (k + 1) := by
    obtain ⟨hk, e⟩ := List.getElem?_eq_some_iff.mp h
    rw [List.drop_eq_getElem_cons hk, e]
  unfold run
  rw [e, List.takeWhile_cons, if_pos hc]
  simp
theorem run_stop {l : List Nat} {k : Nat} (h : ∀ c, l[k]? = some c → isD c = false) : run (l.drop k) = 0 := by
  unfold run
  cases e : l.drop k with
  | nil => rfl
  | cons c r =>
    have h2 : l[k]? = some c := by
      have := congrArg (fun z => z[0]?) e
      simpa using this
    rw [List.takeWhile_cons, h c h2]
    simp
theorem run_le (l : List Nat) (k : Nat) (h : k ≤ l.length) : k + run (l.drop k) ≤ l.length := by
  unfold run
  have := (List.takeWhile_sublist (l := l.drop k) isD).length_le
  simp at this
  omega
/-- at the digits' end stands no digit -/
theorem run_end {l : List Nat} {k : Nat} : ∀ c, l[k + run (l.drop k)]? = some c → isD c = false := by
  intro c hc
  have key : ∀ (m : List Nat) c, m[(m.takeWhile isD).length]? = some c → isD c = false := by
    intro m
    induction m with
    | nil => intro c h; simp at h
    | cons d r ih =>
      intro c h
      rw [List.takeWhile_cons] at h
      by_cases hd : isD d = true
      · rw [if_pos hd] at h
        exact ih c (by simpa using h)
      · rw [if_neg hd] at h
        have : d = c := by simpa using h
        rw [← this]
        simpa using hd
  exact key (l.drop k) c (by rw [List.getElem?_drop]; exact hc)
theorem run_digits {l : List Nat} {k : Nat} : ∀ c ∈ (l.drop k).take (run (l.drop k)), 48 ≤ c ∧ c ≤ 57 := by
  intro c hc
  have key : ∀ (m : List Nat), m.take (m.takeWhile isD).length = m.takeWhile isD := by
    intro m
    induction m with
    | nil => rfl
    | cons d r ih =>
      rw [List.takeWhile_cons]
      by_cases hd : isD d = true
      · rw [if_pos hd]
        simp [ih]
      · rw [if_neg hd]; rfl
  unfold run at hc
  rw [key] at hc
  have k2 : ∀ (m : List Nat) c, c ∈ m.takeWhile isD → isD c = true := by
    intro m
    induction m with
    | nil => intro c h; cases h
    | cons d r ih =>
      intro c h
      rw [List.takeWhile_cons] at h
      by_cases hd : isD d = true
      · rw [if_pos hd] at h
        rcases List.mem_cons.mp h with e | h
        · rw [e]; exact hd
        · exact ih c h
      · rw [if_neg hd] at h
        cases h
  have h := k2 _ c hc
  unfold isD at h
  simpa using h
/-! ### the parts of a text that is right -/
def Num (a : List Nat) : Prop := (AllDigits a ∧ a ≠ []) ∨ ∃ c, a = 45 :: c ∧ AllDigits c ∧ c ≠ []
theorem Num.no47 {a : List Nat} (h : Num a) : 47 ∉ a := fun m => by
  rcases h with ⟨h, _⟩ | ⟨c, rfl, h, _⟩
  · have := h 47 m; omega
  · rcases List.mem_cons.mp m with e | m
    · omega
    · have := h 47 m; omega
theorem dig47 {b : List Nat} (h : AllDigits b) : 47 ∉ b := fun m => by have := h 47 m; omega
theorem we_zero {l : List Nat} {k : Nat} (h : we l k ≠ k) : l[k]? ≠ some 48 ∧ we l k = k + run (l.drop k) := by
  unfold we at h ⊢
  by_cases z : l[k]? = some 48
  · rw [if_pos z] at h; exact absurd rfl h
  · rw [if_neg z] at h ⊢; exact ⟨z, rfl⟩
theorem take_num {l : List Nat} {s e : Nat} (hs : s = if l[0]? = some 45 then 1 else 0) (he : e = s + run (l.drop s)) (h0 : run (l.drop s) ≠ 0) : Num (l.take e) := by
  have hd := run_digits (l := l) (k := s)
  have ne : (l.drop s).take (run (l.drop s)) ≠ [] := fun z => by
    have := congrArg List.length z
    have hle := (List.takeWhile_sublist (l := l.drop s) isD).length_le
    unfold run at h0 this
    simp at this
    simp at hle
    rcases this with h | h
    · exact h0 (by rw [h]; rfl)
    · have e2 : l.drop s = [] := List.drop_eq_nil_of_le (by omega)
      rw [e2] at h0
      exact h0 rfl
  by_cases m : l[0]? = some 45
  · rw [if_pos m] at hs
    subst hs
    cases l with
    | nil => cases m
    | cons c r =>
      have : c = 45 := by simpa using m
      subst this
      refine .inr ⟨(r.take (run r)), ?_, ?_, ?_⟩
      · rw [he]; simp [Nat.add_comm 1]
      · intro c hc
        exact hd c (by simpa using hc)
      · simpa using ne
  · rw [if_neg m] at hs
    subst hs
    refine .inl ⟨?_, ?_⟩
    · intro c hc
      rw [he] at hc
      exact hd c (by simpa using hc)
    · rw [he]; simpa using ne
theorem col_form {l : List Nat} (h : col l = 0) : (Num l ∧ 47 ∉ l) ∨ ∃ a b, l = a ++ 47 :: b ∧ 47 ∉ a ∧ 47 ∉ b ∧ Num a ∧ AllDigits b ∧ b ≠ [] ∧ b[0]? ≠ some 48 := by
  unfold col at h
  by_cases z : l[0]? = some 48
  · rw [if_pos z] at h
    by_cases e : l = [48]
    · left
      have n : Num l := .inl ⟨by rw [e]; intro c hc; have : c = 48 := by simpa using hc
                                 omega, by rw [e]; simp⟩
      exact ⟨n, n.no47⟩
    · rw [if_neg e] at h; cases h
  · rw [if_neg z] at h
    unfold colAt at h
    generalize hs : (if l[0]? = some 45 then 1 else 0) = s at h
    have hs := hs.symm
    by_cases e1 : we l s = s
    · rw [if_pos e1] at h; omega
    rw [if_neg e1] at h
    obtain ⟨w1, w2⟩ := we_zero e1
    have n := take_num hs w2 (by omega)
    by_cases e2 : we l s = l.length
    · left
      rw [e2, List.take_length] at n
      exact ⟨n, n.no47⟩
    rw [if_neg e2] at h
    by_cases e3 : l[we l s]? ≠ some 47
    · rw [if_pos e3] at h; omega
    rw [if_neg e3] at h
    have e3 : l[we l s]? = some 47 := Decidable.not_not.mp e3
    obtain ⟨hlt, e3'⟩ := List.getElem?_eq_some_iff.mp e3
    by_cases e4 : we l (we l s + 1) = we l s + 1 ∨ we l (we l s + 1) < l.length
    · rw [if_pos e4] at h; omega
    have e5 : we l (we l s + 1) ≠ we l s + 1 := fun z => e4 (.inl z)
    have e6 : ¬ we l (we l s + 1) < l.length := fun z => e4 (.inr z)
    obtain ⟨x1, x2⟩ := we_zero e5
    have le := run_le l (we l s + 1) (by omega)
    right
    have hb : AllDigits (l.drop (we l s + 1)) := by
      have d := run_digits (l := l) (k := we l s + 1)
      have : (l.drop (we l s + 1)).take (run (l.drop (we l s + 1))) = l.drop (we l s + 1) := List.take_of_length_le (by simp; omega)
      rw [this] at d
      exact d
    refine ⟨l.take (we l s), l.drop (we l s + 1), ?_, n.no47, dig47 hb, n, hb, fun z => ?_, by rw [List.getElem?_drop]; exact x1⟩
    · rw [← e3', ← List.drop_eq_getElem_cons hlt, List.take_append_drop]
    · rw [z] at x2
      unfold run at x2
      simp at x2
      exact e5 x2
/-! ### their values -/
theorem fold_lt (b : List Nat) : ∀ acc : Nat, AllDigits b → b.foldl (fun acc c => acc * 10 + (c - 48)) acc < (acc + 1) * 10 ^ b.length := by
  induction b with
  | nil => intro acc _; simp
  | cons c r ih =>
    intro acc h
    have hc := h.head
    refine Nat.lt_of_lt_of_le (ih _ h.tail) ?_
    rw [List.length_cons, Nat.pow_succ]
    have : acc * 10 + (c - 48) + 1 ≤ (acc + 1) * 10 := by omega
    calc (acc * 10 + (c - 48) + 1) * 10 ^ r.length ≤ ((acc + 1) * 10) * 10 ^ r.length := Nat.mul_le_mul_right _ this
      _ = (acc + 1) * (10 ^ r.length * 10) := by rw [Nat.mul_assoc, Nat.mul_comm 10]
theorem fold_ge (b : List Nat) : ∀ acc : Nat, acc * 10 ^ b.length ≤ b.foldl (fun acc c => acc * 10 + (c - 48)) acc := by
  induction b with
  | nil => intro acc; simp
  | cons c r ih =>
    intro acc
    refine Nat.le_trans ?_ (ih (acc * 10 + (c - 48)))
    rw [List.length_cons, Nat.pow_succ, Nat.mul_comm (10 ^ r.length) 10, ← Nat.mul_assoc]
    exact Nat.mul_le_mul_right _ (by omega)
theorem val_lt {b : List Nat} (h : AllDigits b) (hl : b.length ≤ 600) : digitsVal b < 2 ^ 2400 := by
  unfold digitsVal
  refine Nat.lt_of_lt_of_le (fold_lt b 0 h) ?_
  rw [Nat.zero_add, Nat.one_mul]
  refine Nat.le_trans (Nat.pow_le_pow_right (by omega) hl) ?_
  rw [show (2 : Nat) ^ 2400 = (2 ^ 4) ^ 600 by rw [← Nat.pow_mul]]
  exact Nat.pow_le_pow_left (by omega) 600
theorem val_one {b : List Nat} (h : AllDigits b) (hn : b ≠ []) (h0 : b[0]? ≠ some 48) : 1 ≤ digitsVal b ∧ (digitsVal b = 1 ↔ b = [49]) := by
  cases b with
  | nil => exact absurd rfl hn
  | cons c r =>
    have hc := h.head
    have h0 : c ≠ 48 := fun z => h0 (by rw [z]; rfl)
    unfold digitsVal
    rw [List.foldl_cons, Nat.zero_mul, Nat.zero_add]
    have g := fold_ge r (c - 48)
    cases r with
    | nil =>
      show 1 ≤ c - 48 ∧ (c - 48 = 1 ↔ _)
      refine ⟨by omega, fun z => ?_, fun z => ?_⟩
      · have : c = 49 := by omega
        rw [this]
      · have : c = 49 := by simpa using z
        omega
    | cons d q =>
      have p : 10 ≤ 10 ^ (d :: q).length := by
        rw [List.length_cons, Nat.pow_succ]
        have := Nat.pow_pos (n := q.length) (show 0 < 10 by omega)
        omega
      have : 1 * 10 ≤ (c - 48) * 10 ^ (d :: q).length := Nat.mul_le_mul (by omega) p
      refine ⟨by omega, fun z => by omega, fun z => by simp at z⟩
theorem num_val {a : List Nat} (h : Num a) (hl : a.length ≤ 600) : ∃ n : Int, intText? (tx a) = some n ∧ n.natAbs < 2 ^ 2400 := by
  rcases h with ⟨h, hn⟩ | ⟨c, rfl, h, hn⟩
  · exact ⟨_, intText_digits (x := tx a) h hn (by rw [tx_len]; omega), by rw [Int.natAbs_natCast]; exact val_lt h hl⟩
  · exact ⟨_, intText_neg (x := tx (45 :: c)) rfl h hn (by rw [tx_len]; omega), by simpa using val_lt h (by simp at hl; omega)⟩
theorem dig_val {b : List Nat} (h : AllDigits b) (hn : b ≠ []) (h0 : b[0]? ≠ some 48) (hl : b.length ≤ 600) : ∃ n : Nat, intText? (tx b) = some (n : Int) ∧ n < 2 ^ 2400 ∧ 1 ≤ n ∧ (n = 1 ↔ b = [49]) :=
  ⟨_, intText_digits (x := tx b) h hn (by rw [tx_len]; omega), val_lt h hl, val_one h hn h0⟩
/-! ### the answer -/
abbrev Ans : Type := Int ⊕ (Int × Int)
def ans (l : List Nat) : Ans := if col l ≠ 0 then .inl (col l) else
  if (l.dropWhile fun c => c != 47) = [] then .inr ((intText? (tx l)).getD 0, 1) else
    (fun (a : List Nat) (t n : Int) => if 1 < n ∧ Nat.gcd t.natAbs n.natAbs = 1 then .inr (t, n) else .inl ((a.length : Int) + 2)) (l.takeWhile fun c => c != 47) ((intText? (tx (l.takeWhile fun c => c != 47))).getD 0) ((intText? (tx ((l.dropWhile fun c => c != 47).drop 1))).getD 0)
theorem ans_wrong {l : List Nat} (h : col l ≠ 0) : ans l = .inl (col l) := by unfold ans; rw [if_pos h]
theorem ans_int {l : List Nat} {n : Int} (h : col l = 0) (h2 : 47 ∉ l) (hn : intText? (tx l) = some n) : ans l = .inr (n, 1) := by
  have e : (l.dropWhile fun c => c != 47) = [] := by
    have p : ∀ c ∈ l, (c != 47) = true := fun c hc => bne_iff_ne.mpr fun z => h2 (z ▸ hc)
    have := List.dropWhile_append_of_pos (l₂ := []) p
    simpa using this
  unfold ans
  rw [if_neg (by simpa using h), if_pos e, hn]
  rfl
theorem ans_q {l a b : List Nat} {t n : Int} (h : col l = 0) (hl : l = a ++ 47 :: b) (na : 47 ∉ a) (ht : intText? (tx a) = some t) (hn : intText? (tx b) = some n) : ans l = if 1 < n ∧ Nat.gcd t.natAbs n.natAbs = 1 then .inr (t, n) else .inl ((a.length : Int) + 2) := by
  have p : ∀ c ∈ a, (c != 47) = true := fun c hc => bne_iff_ne.mpr fun z => na (z ▸ hc)
  have e1 : (l.takeWhile fun c => c != 47) = a := by
    rw [hl, List.takeWhile_append_of_pos p]
    simp
  have e2 : (l.dropWhile fun c => c != 47) = 47 :: b := by
    rw [hl, List.dropWhile_append_of_pos p]
    simp
  unfold ans
  rw [if_neg (by simpa using h), if_neg (by rw [e2]; simp), e1, e2]
  rw [show List.drop 1 (47 :: b) = b from rfl, ht, hn]
  rfl
end HwT
end

section
/-! Texts in readings. -/
namespace L2
open PySem PySem.Spec PyProof.Rows LamX HwT
theorem pe_gS {X : Cx} {j k : Nat} {x : Str} {ps : List Str} {sp : Sp} {W : WX} {e : Expr} {es : List Expr} {t : TA} {p pos : Pos} (c : Gf X.prog X.w X.K X.mg X.base x k ps sp) (hr : Room j X.A) (hk : k ≤ j) (tk : Takes X W) (hg : Gl X x) (ha : PA X (e :: es) t) (hdb : (x == ("__debug__" : Str)) = false := by decide)
    (he : starEach (e :: es) X.env = (false, eval e X.env) :: starEach es X.env := by rfl) (hpl : (backTo pos (starEach es X.env)).any (·.1) = false := by rfl) : PE X (.Call (.Name x p) (e :: es) [] pos) (tCallS sp (WE W) t) := by
  obtain ⟨f, fd, h1, h2, h3, h4⟩ := c.ex
  exact pe_callS h4 (hr.mono hk) hg h1 h2 h3 (fun σ => passAt tk σ) ha hdb he hpl
/-- the signs of a text, one by one -/
def signs (l : List Nat) : List V := l.map fun c => V.str ⟨#[c]⟩
theorem vals_signs : ∀ (l : List Nat) (vs : List Value), vs.length = l.length → (∀ (j : Nat) v, vs[j]? = some v → ∃ c u, l[j]? = some c ∧ v = .str ⟨#[c]⟩ u) → Vals (signs l) vs
  | [], [], _, _ => .nil
  | [], _ :: _, h, _ => by cases h
  | _ :: _, [], h, _ => by cases h
  | c :: l, v :: vs, h, k => by
    obtain ⟨d, u, e1, e2⟩ := k 0 v rfl
    have e1 : c = d := by simpa using e1
    subst e1 e2
    exact .cons ⟨u, rfl⟩ (vals_signs l vs (by simpa using h) fun j v e => by
      obtain ⟨d, u, e1, e2⟩ := k (j + 1) v (by simpa using e)
      exact ⟨d, u, by simpa using e1, e2⟩)
theorem call_tuple_txt {X : Cx} (hc : X.calm = true) : CallR X (.type "tuple") (fun xs H Q => ∃ z : Str, xs = [.str z] ∧ z.length ≤ sizeLine ∧ ∀ p, H p = none → Q (.ref p) (upd H p (.tup (signs z.cps.toList)))) := by
  intro pins s σ H xs us Q I r h
  obtain ⟨z, rfl, hz, q⟩ := h
  obtain ⟨u, rfl, t, rfl⟩ := vals1 r
  refine call_tuple_str (I.ok.hd hc) z t (fun h' tk acc k hacc => ?_) hz
  obtain ⟨its, rfl⟩ : ∃ its : List Value, acc = its.toArray := ⟨acc.toList, by simp⟩
  have I1 : Inv X pins σ H { s with heap := h', toks := tk } := I.kept k
  obtain ⟨n1, n2⟩ := hacc
  have rv : Vals (signs z.cps.toList) its := vals_signs _ _ (by simpa using n1) fun j v e => by
    obtain ⟨c, u, e1, e2⟩ := n2 j v (by simpa using e)
    exact ⟨c, u, by simpa using e1, e2⟩
  have hl : (signs z.cps.toList).length ≤ sizeLine := by
    unfold signs
    rw [List.length_map, ← HwT.len_list]
    exact hz
  exact ⟨.ref h'.objs.size, upd H h'.objs.size (.tup (signs z.cps.toList)), I1.laid (t' := tk) (a := h'.objs.size) (o := .tup (signs z.cps.toList)) (fun b o e => Heap.get?_push_of_some _ e) (Nat.le_refl _) ⟨hl, its, rv, IsTup.new _ _⟩, rfl, q _ (I1.hok.fresh (Nat.le_refl _))⟩
theorem inV_signs (c : Option Nat) (ds : List Nat) : inV (.str (tx c.toList)) (signs ds) = match c with | some c => decide (c ∈ ds) | none => false := by
  unfold inV signs
  rw [List.any_map]
  cases c with
  | none =>
    refine List.any_eq_false.mpr fun d _ => ?_
    show ¬ (eqV (.str ⟨#[d]⟩) (.str (tx []))) = true
    show ¬ ((⟨#[d]⟩ : Str) == tx []) = true
    intro z
    have := congrArg Str.length (beq_iff_eq.mp z)
    cases this
  | some c =>
    show (ds.any fun d => ((⟨#[d]⟩ : Str) == ⟨#[c]⟩)) = decide (c ∈ ds)
    rw [Bool.eq_iff_iff, List.any_eq_true, decide_eq_true_iff]
    constructor
    · rintro ⟨d, hd, e⟩
      have e := congrArg (fun z : Str => z.cps.toList) (beq_iff_eq.mp e)
      have : d = c := by simpa using e
      rw [← this]; exact hd
    · intro h
      exact ⟨c, h, by simp⟩
theorem cut1 (x : Str) {k : Nat} (h : k ≤ x.length) : cutS x (some (k : Int)) (some ((k : Int) + 1)) = tx (x.cps.toList[k]?).toList := by
  unfold cutS
  rw [show ((k : Int) + 1) = ((k + 1 : Nat) : Int) by omega, HT.sIx_nat, HT.sIx_nat]
  rw [Nat.min_eq_left h]
  cases e : x.cps.toList[k]? with
  | none =>
    have := List.getElem?_eq_none_iff.mp e
    rw [List.drop_eq_nil_of_le this]
    simp
    rfl
  | some c =>
    obtain ⟨hk, e2⟩ := List.getElem?_eq_some_iff.mp e
    have hk' : k < x.length := by rw [HwT.len_list]; exact hk
    rw [List.drop_eq_getElem_cons hk, e2, Nat.min_eq_left (by omega), Nat.add_sub_cancel_left]
    rfl
theorem cut01 (x : Str) : cutS x none (some 1) = tx (x.cps.toList[0]?).toList := by
  have := cut1 x (k := 0) (Nat.zero_le _)
  rw [← this]
  rfl
theorem cut_to (x : Str) {k : Nat} (h : k ≤ x.length) : cutS x none (some (k : Int)) = tx (x.cps.toList.take k) := by
  unfold cutS
  rw [HT.sIx_none, HT.sIx_nat, Nat.min_eq_left h]
  simp
  rfl
theorem cut_from (x : Str) (k : Nat) : (cutS x (some (k : Int)) none).length ≤ x.length - k := by
  unfold cutS Str.length
  rw [HT.sIx_nat, HT.sIx_none]
  simp
  omega
theorem starts1 (x : Str) (c : Nat) : Txt.startswith x ⟨#[c]⟩ = decide (x.cps.toList[0]? = some c) := by
  rw [Bool.eq_iff_iff, decide_eq_true_iff, ← StrLaws.subAt_one x c 0]
  unfold Txt.startswith
  simp [Str.length]
theorem lstrip_le (x y : Str) : (Txt.lstripChars x y).length ≤ x.length := len_lstripChars x y
end L2
end

section
namespace HwL
open PySem PySem.Spec PyProof.Rows L2 LamX HwT
def top (i : Nat) : Stmt := PySem.Challenge.pw_hingeworks_k02_ratio_texts.main.body.getD i (.Pass ⟨0, 0, 0, 0⟩)
variable {P : Program} {w : World} {K : PySem.W.Frag} {mg : Str → Option Value} {base : Heap}


end HwL
end

section
namespace HwL
open PySem PySem.Spec PyProof.Rows L2 LamX HwT
variable {P : Program} {w : World} {K : PySem.W.Frag} {mg : Str → Option Value} {base : Heap}

/-! ### the pen -/
def penK (l : Addr) (i d c f : Int) : List (Key × V) := [(.inr "cells", .ref l), (.inr "at", .int i), (.inr "digits", .int d), (.inr "count", .int c), (.inr "fold", .int f)]
/-- a pen stands at p, drawn from at most c times -/
def PenAt (H : Hp) (p l : Addr) (c : Int) : Prop := ∃ (cs : List Int) (i d n f : Int), H p = some (.dK (penK l i d n f)) ∧ H l = some (.lst (cs.map V.int)) ∧ 0 ≤ i ∧ 0 ≤ d ∧ 0 ≤ n ∧ n ≤ c ∧ 0 ≤ f ∧ f < 2147483587
/-- all but p is as it was -/
def Ext (p : Addr) (H H' : Hp) : Prop := ∀ b o, b ≠ p → H b = some o → H' b = some o
theorem Ext.refl {p : Addr} {H : Hp} : Ext p H H := fun _ _ _ h => h
theorem Ext.trans {p : Addr} {H H1 H2 : Hp} (a : Ext p H H1) (b : Ext p H1 H2) : Ext p H H2 := fun c o n h => b c o n (a c o n h)
theorem Ext.of {p : Addr} {H H1 : Hp} (a : Same H H1) : Ext p H H1 := fun c o _ h => a c o h
theorem Ext.new {p q : Addr} {H H1 : Hp} {o : HO} (a : Ext p H H1) (h : H1 q = none) : Ext p H (upd H1 q o) := a.trans (.of (same_new h))
theorem PenAt.mono {H : Hp} {p l : Addr} {c d : Int} (h : PenAt H p l c) (e : c ≤ d) : PenAt H p l d := by
  obtain ⟨cs, i, dg, n, f, h1, h2, h3, h4, h5, h6, h7⟩ := h
  exact ⟨cs, i, dg, n, f, h1, h2, h3, h4, h5, by omega, h7⟩
theorem PenAt.same {H H' : Hp} {p l : Addr} {c : Int} (h : PenAt H p l c) (e : Same H H') : PenAt H' p l c := by
  obtain ⟨cs, i, dg, n, f, h1, h2, h3⟩ := h
  exact ⟨cs, i, dg, n, f, e _ _ h1, e _ _ h2, h3⟩
theorem PenAt.some {H : Hp} {p l : Addr} {c : Int} (h : PenAt H p l c) : ∃ o, H p = some o := by
  obtain ⟨cs, i, dg, n, f, h1, _⟩ := h
  exact ⟨_, h1⟩
theorem PenAt.put {H : Hp} {p l : Addr} {c : Int} (h : PenAt H p l c) {q : Addr} (n1 : q ≠ p) (n2 : q ≠ l) (o : HO) : PenAt (upd H q o) p l c := by
  obtain ⟨cs, i, dg, n, f, h1, h2, h3⟩ := h
  exact ⟨cs, i, dg, n, f, by rw [upd_ne n1.symm]; exact h1, by rw [upd_ne n2.symm]; exact h2, h3⟩
theorem PenAt.ne2 {H : Hp} {p q l : Addr} {c : Int} (h : PenAt H p l c) (n : H q = none) : q ≠ l := by
  obtain ⟨cs, i, dg, m, f, h1, h2, _⟩ := h
  exact fun z => by rw [z, h2] at n; cases n
theorem PenAt.ne {H : Hp} {p q l : Addr} {c : Int} (h : PenAt H p l c) (n : H q = none) : q ≠ p := by
  obtain ⟨o, e⟩ := h.some
  exact fun z => by rw [z, e] at n; cases n
theorem penK_put_count (l : Addr) (i d n f x : Int) : putK (penK l i d n f) (.inr "count") (.int x) = penK l i d x f := by
  unfold penK putK
  simp (decide := true)
theorem penK_put_at (l : Addr) (i d n f x : Int) : putK (penK l i d n f) (.inr "at") (.int x) = penK l x d n f := by
  unfold penK putK
  simp (decide := true)
theorem penK_put_digits (l : Addr) (i d n f x : Int) : putK (penK l i d n f) (.inr "digits") (.int x) = penK l i x n f := by
  unfold penK putK
  simp (decide := true)
theorem penK_put_fold (l : Addr) (i d n f x : Int) : putK (penK l i d n f) (.inr "fold") (.int x) = penK l i d n x := by
  unfold penK putK
  simp (decide := true)
section
variable {H : Hp} {p l : Addr} {i d n f x : Int} (h : H p = some (.dK (penK l i d n f)))
include h
theorem dg_cells : DGet H p (.str "cells") (some (.ref l)) := .inl ⟨_, .inr "cells", .inl h, rfl, by unfold penK valV; simp (decide := true)⟩
theorem dg_at : DGet H p (.str "at") (some (.int i)) := .inl ⟨_, .inr "at", .inl h, rfl, by unfold penK valV; simp (decide := true)⟩
theorem dg_digits : DGet H p (.str "digits") (some (.int d)) := .inl ⟨_, .inr "digits", .inl h, rfl, by unfold penK valV; simp (decide := true)⟩
theorem dg_count : DGet H p (.str "count") (some (.int n)) := .inl ⟨_, .inr "count", .inl h, rfl, by unfold penK valV; simp (decide := true)⟩
theorem dg_fold : DGet H p (.str "fold") (some (.int f)) := .inl ⟨_, .inr "fold", .inl h, rfl, by unfold penK valV; simp (decide := true)⟩
theorem dp_count : DPut H p (.str "count") (.int x) (upd H p (.dK (penK l i d x f))) := .inl ⟨_, .inr "count", h, rfl, by show 5 < sizeLine; decide, by rw [penK_put_count]⟩
theorem dp_at : DPut H p (.str "at") (.int x) (upd H p (.dK (penK l x d n f))) := .inl ⟨_, .inr "at", h, rfl, by show 5 < sizeLine; decide, by rw [penK_put_at]⟩
theorem dp_digits : DPut H p (.str "digits") (.int x) (upd H p (.dK (penK l i x n f))) := .inl ⟨_, .inr "digits", h, rfl, by show 5 < sizeLine; decide, by rw [penK_put_digits]⟩
theorem dp_fold : DPut H p (.str "fold") (.int x) (upd H p (.dK (penK l i d n x))) := .inl ⟨_, .inr "fold", h, rfl, by show 5 < sizeLine; decide, by rw [penK_put_fold]⟩
end
def spPen (K : PySem.W.Frag) : Sp := fun vs H Q _ => ∃ (a : Addr) (ns : List Int), vs = [.ref a] ∧ SqL K H a (ns.map V.int) ∧ ns.length ≤ 63 ∧
  ∀ H' p l, Same H H' → H p = none → PenAt H' p l 0 → Q (.ref p) H'
abbrev s_L_pen : Stmt := top 20
abbrev N_L_pen : List Str := ["_law_script", "_law_fold", "_law_cell"]
theorem sc_L_pen : FnScope N_L_pen ["_law_script"] (defScope s_L_pen) := ⟨rfl, rfl, rfl, by decide +kernel, rfl, by decide +kernel, by decide +kernel⟩
theorem st_L_pen {v0 : V} : L2.start N_L_pen [v0] = [some v0, none, none] := rfl
theorem ok_L_pen {f : Addr} {fd : FuncData} (F : FD K s_L_pen "_law_pen" "_law_pen" f fd) (z_list : mg "list" = none) (z_int : mg "int" = none) : FnOk P w K mg base (L2.CX P w) 1 f fd ["_law_script"] (spPen K) := by
  have nd := sc_L_pen.nd
  refine F.ok0 sc_L_pen (fun vs H Q E h => ?_) (fun cdv A outer s H vs Q E hr h => ?_)
  · obtain ⟨a, ns, rfl, _⟩ := h
    rfl
  · obtain ⟨a, ns, rfl, hS, hlen, k⟩ := h
    refine ⟨_, (pss_cons (ps_set (i := 1) nd rfl (Or.inl rfl) pe_int)
        (pss_cons (ps_for PassesOwn.never rfl (pi_list (pv 0)) (pg_name (i := 2) nd rfl (Or.inl rfl)) (pss_one (ps_set (i := 1) nd rfl (Or.inl rfl) (pe_op op_mod (pe_callTy call_int1 (by rfl) z_int (by decide +kernel) (pa_cons (pe_op op_add (pe_op op_mulW (pv 1) pe_int) (pv 2)) pa_nil)) pe_int))))
        (pss_one (ps_ret (pe_disp (pps_cons pe_str (pe_callTy call_list_of (by rfl) z_list (by decide +kernel) (pa_cons (pv 0) pa_nil)) (pps_cons pe_str pe_int (pps_cons pe_str pe_int (pps_cons pe_str pe_int (pps_cons pe_str (pv 1) pps_nil))))) (by rfl) (by rfl) (fun z => by cases z) (by decide)))))), ?_⟩
    refine ⟨_, rfl, a, rfl, ⟨_, hS⟩, for_list (K := K) (a := a) (xs := ns.map V.int) (fun i σ H' => ∃ (z : Int) (v : Option V), H' = H ∧ σ = [some (.ref a), some (.int z), v] ∧ 0 ≤ z ∧ z < 1000000007)
      ⟨0, none, rfl, rfl, by decide, by decide⟩ (fun i σ H' _ ⟨_, _, e, _⟩ => by rw [e]; exact hS) ?_ ?_⟩
    · rintro i y σ H' hi ⟨z, v, rfl, rfl, z0, z1⟩
      obtain ⟨u, rfl⟩ : ∃ u, y = V.int u := by
        rw [List.getElem?_map] at hi
        cases e : ns[i]? with
        | none =>
          rw [e] at hi
          cases hi
        | some u =>
          rw [e] at hi
          exact ⟨u, (Option.some.inj hi).symm⟩
      simp only [tVar, rIxTH, rIxLH, gTupH, line_le, HO.tup.injEq, HO.lst.injEq, List.length_cons, List.length_nil, at0, at1, rU, tOst, tTest, rIxL, rIxT, C8.tCut, cxOf_K, tC, tOp, tUn, tSeq, tAsg, tNext, tRet, tRetN, tDrop, tIfS, tNever, gName, gNil, gCons, gTup, gSub, tPar, rI, rI0, rU, rEq, rNe, tB, tAnd, tOr, tNot, tAndV, tOrV, tNotV, tIf, tTup, tLst, tNil, tCons, tCB, tCall, tMeth, tMake, tFld, sFld, tDGet, sDPut, tDisp, tPairs, tBreak, tCont, scal_ii, scal_bb, scal_ss, List.getElem?_cons_zero, List.getElem?_cons_succ, List.set_cons_zero, List.set_cons_succ, Option.some.injEq, exists_eq_left', exists_eq_left, exists_and_left, V.int.injEq, V.bl.injEq, V.ref.injEq, V.str.injEq, List.cons.injEq, and_true, true_and, Bool.true_eq, List.nil_append, List.append_nil, List.cons_append, exists_eq', and_self, reduceCtorEq, false_or, or_false, false_and, exists_false, exists_const, and_assoc, if_true, Bool.false_eq_true, if_false, Nat.reduceAdd, Nat.reduceLeDiff, Nat.zero_add, Nat.le_refl, forall_const, st_L_pen]
      refine ⟨wide_mul (a := 40) (b := 40) (by omega) (by decide) (by decide) (by decide) (by decide), by decide, by omega, by omega⟩
    · rintro σ H' ⟨z, v, rfl, rfl, z0, z1⟩
      simp only [tVar, rIxTH, rIxLH, gTupH, line_le, HO.tup.injEq, HO.lst.injEq, List.length_cons, List.length_nil, at0, at1, rU, tOst, tTest, rIxL, rIxT, C8.tCut, cxOf_K, tC, tOp, tUn, tSeq, tAsg, tNext, tRet, tRetN, tDrop, tIfS, tNever, gName, gNil, gCons, gTup, gSub, tPar, rI, rI0, rU, rEq, rNe, tB, tAnd, tOr, tNot, tAndV, tOrV, tNotV, tIf, tTup, tLst, tNil, tCons, tCB, tCall, tMeth, tMake, tFld, sFld, tDGet, sDPut, tDisp, tPairs, tBreak, tCont, scal_ii, scal_bb, scal_ss, List.getElem?_cons_zero, List.getElem?_cons_succ, List.set_cons_zero, List.set_cons_succ, Option.some.injEq, exists_eq_left', exists_eq_left, exists_and_left, V.int.injEq, V.bl.injEq, V.ref.injEq, V.str.injEq, List.cons.injEq, and_true, true_and, Bool.true_eq, List.nil_append, List.append_nil, List.cons_append, exists_eq', and_self, reduceCtorEq, false_or, or_false, false_and, exists_false, exists_const, and_assoc, if_true, Bool.false_eq_true, if_false, Nat.reduceAdd, Nat.reduceLeDiff, Nat.zero_add, Nat.le_refl, forall_const, st_L_pen]
      intro p hp
      refine ⟨ns.map V.int, .inl (seqL_same (same_new hp) hS), fun l hl => ⟨?_, penK l 0 0 0 z, rfl, by show 5 ≤ 15; decide, ?_⟩⟩
      · have npl : p ≠ l := fun e => by rw [e, upd_same] at hl; cases hl
        rw [upd_ne npl, upd_same]
      · have npl : p ≠ l := fun e => by rw [e, upd_same] at hl; cases hl
        have e : mergeK [] (penK l 0 0 0 z) = penK l 0 0 0 z := by unfold penK mergeK putK; simp (decide := true)
        rw [e]
        have hl0 : H' l = none := by rw [upd_ne npl.symm] at hl; exact hl
        refine k _ p l (fun b o e => ?_) hp ⟨ns, 0, 0, 0, z, upd_same, by rw [upd_ne npl.symm, upd_same], by omega, by omega, by omega, by omega, z0, by omega⟩
        rw [upd_ne (ne_of_none e hp), upd_ne (ne_of_none e hl0), upd_ne (ne_of_none e hp)]
        exact e
/-- one digit -/
def spDraw : Sp := fun vs H Q _ => ∃ (p l : Addr) (c m : Int), vs = [.ref p, .int m] ∧ PenAt H p l c ∧ c < 1000000000000 ∧ 0 < m ∧ m.natAbs < 2 ^ 9000 ∧
  ∀ H' r, Ext p H H' → PenAt H' p l (c + 1) → 0 ≤ r → r < m → Q (.int r) H'
abbrev s_L_draw : Stmt := top 21
abbrev N_L_draw : List Str := ["_law_pen_here", "_law_many", "_law_cell", "_law_digit", "_law_mixed"]
theorem sc_L_draw : FnScope N_L_draw ["_law_pen_here", "_law_many"] (defScope s_L_draw) := ⟨rfl, rfl, rfl, by decide +kernel, rfl, by decide +kernel, by decide +kernel⟩
theorem st_L_draw {v0 v1 : V} : L2.start N_L_draw [v0, v1] = [some v0, some v1, none, none, none] := rfl
theorem ok_L_draw {f : Addr} {fd : FuncData} (F : FD K s_L_draw "_law_draw" "_law_draw" f fd) (z_int : mg "int" = none) (z_len : mg "len" = none) : FnOk P w K mg base (L2.CX P w) 1 f fd ["_law_pen_here", "_law_many"] (spDraw) := by
  have nd := sc_L_draw.nd
  refine F.ok0 sc_L_draw (fun vs H Q E h => ?_) (fun cdv A outer s H vs Q E hr h => ?_)
  · obtain ⟨p, l, c, m, rfl, _⟩ := h
    rfl
  · obtain ⟨p, l, c, m, rfl, ⟨cs, i, d, n, f, hp, hl, hi, hd, hn, hnc, hf, hf2⟩, hc, hm, hm2, k⟩ := h
    have nlp : l ≠ p := fun e => by rw [e, hp] at hl; cases hl
    refine ⟨_, (pss_cons (ps_dput (hu_of hr) (pv 0) pe_str (pe_op op_add (pe_dget (hu_of hr) (pv 0) pe_str (fun _ _ => rfl)) pe_int) rfl)
        (C8.pss_cut (ps_if (PW.pt (pw_and (pt_cmpR op_eq (pe_dget (hu_of hr) (pv 0) pe_str (fun _ _ => rfl)) pe_int (nomark _)) (pw_and1 (pt_cmpR op_lt (pe_dget (hu_of hr) (pv 0) pe_str (fun _ _ => rfl)) (pe_callB call_len_seq (by rfl) z_len (by decide +kernel) (pa_cons (pe_dget (hu_of hr) (pv 0) pe_str (fun _ _ => rfl)) pa_nil)) (nomark _))))) (pss_cons (ps_set (i := 2) nd rfl (Or.inl rfl) (pe_ix ix_list (pe_dget (hu_of hr) (pv 0) pe_str (fun _ _ => rfl)) (pe_dget (hu_of hr) (pv 0) pe_str (fun _ _ => rfl)) (fun _ _ => rfl)))
        (pss_cons (ps_dput (hu_of hr) (pv 0) pe_str (pe_op op_add (pe_dget (hu_of hr) (pv 0) pe_str (fun _ _ => rfl)) pe_int) rfl)
        (pss_one (ps_if (pt_cmpR op_ge (pv 2) (pe_op op_pow pe_int pe_int) (nomark _)) (pss_one (ps_dput (hu_of hr) (pv 0) pe_str (pe_op op_sub (pv 2) (pe_op op_pow pe_int pe_int)) rfl)) (pss_one (ps_dput (hu_of hr) (pv 0) pe_str (pe_op op_mod (pe_callTy call_int1 (by rfl) z_int (by decide +kernel) (pa_cons (pe_op op_add (pe_op op_mulW (pe_dget (hu_of hr) (pv 0) pe_str (fun _ _ => rfl)) pe_int) (pv 2)) pa_nil)) pe_int) rfl)))))) pss_nil)
        (pss_cons (ps_if (pt_cmpR op_gt (pe_dget (hu_of hr) (pv 0) pe_str (fun _ _ => rfl)) pe_int (nomark _)) (pss_cons (ps_set (i := 3) nd rfl (Or.inl rfl) (pe_op op_mod (pe_callTy call_int1 (by rfl) z_int (by decide +kernel) (pa_cons (pe_dget (hu_of hr) (pv 0) pe_str (fun _ _ => rfl)) pa_nil)) (pv 1)))
        (pss_cons (ps_dput (hu_of hr) (pv 0) pe_str (pe_op op_fdivW (pe_dget (hu_of hr) (pv 0) pe_str (fun _ _ => rfl)) (pv 1)) rfl)
        (pss_one (ps_ret (pv 3))))) pss_nil)
        (pss_cons (ps_set (i := 4) nd rfl (Or.inl rfl) (pe_op op_add (pe_op op_add (pe_dget (hu_of hr) (pv 0) pe_str (fun _ _ => rfl)) (pe_op op_mulW (pe_dget (hu_of hr) (pv 0) pe_str (fun _ _ => rfl)) pe_int)) pe_int))
        (pss_one (ps_ret (pe_op op_mod (pe_op op_fdivW (pe_callTy call_int1 (by rfl) z_int (by decide +kernel) (pa_cons (pe_op op_mod (pe_op op_pow (pv 4) pe_int) pe_int) pa_nil)) pe_int) (pv 1)))))))), ?_⟩
    simp only [tVar, rIxTH, rIxLH, gTupH, line_le, HO.tup.injEq, HO.lst.injEq, List.length_cons, List.length_nil, at0, at1, rU, tOst, tTest, rIxL, rIxT, C8.tCut, cxOf_K, tC, tOp, tUn, tSeq, tAsg, tNext, tRet, tRetN, tDrop, tIfS, tNever, gName, gNil, gCons, gTup, gSub, tPar, rI, rI0, rU, rEq, rNe, tB, tAnd, tOr, tNot, tAndV, tOrV, tNotV, tIf, tTup, tLst, tNil, tCons, tCB, tCall, tMeth, tMake, tFld, sFld, tDGet, sDPut, tDisp, tPairs, tBreak, tCont, scal_ii, scal_bb, scal_ss, List.getElem?_cons_zero, List.getElem?_cons_succ, List.set_cons_zero, List.set_cons_succ, Option.some.injEq, exists_eq_left', exists_eq_left, exists_and_left, V.int.injEq, V.bl.injEq, V.ref.injEq, V.str.injEq, List.cons.injEq, and_true, true_and, Bool.true_eq, List.nil_append, List.append_nil, List.cons_append, exists_eq', and_self, reduceCtorEq, false_or, or_false, false_and, exists_false, exists_const, and_assoc, if_true, Bool.false_eq_true, if_false, Nat.reduceAdd, Nat.reduceLeDiff, Nat.zero_add, Nat.le_refl, forall_const, st_L_draw]
    refine ⟨_, dg_count hp, n, rfl, _, dp_count hp, fun σ' H' => ∃ (d' i' f' : Int) (v2 v3 v4 : Option V), σ' = [some (.ref p), some (.int m), v2, v3, v4] ∧ H' p = some (.dK (penK l i' d' (n + 1) f')) ∧ Ext p H H' ∧ 0 ≤ i' ∧ 0 ≤ d' ∧ 0 ≤ f' ∧ f' < 2147483587, ?_, ?_⟩
    · have hp1 : upd H p (.dK (penK l i d (n + 1) f)) p = some (.dK (penK l i d (n + 1) f)) := upd_same
      have hE : Ext p H (upd H p (.dK (penK l i d (n + 1) f))) := fun b o nb e => by rw [upd_ne nb]; exact e
      generalize upd H p (.dK (penK l i d (n + 1) f)) = H1 at hp1 hE
      have hl1 := hE _ _ nlp hl
      refine ⟨_, dg_digits hp1, rfl, ?_⟩
      have same : ∃ (d' i' f' : Int) (v2 v3 v4 : Option V), [some (V.ref p), some (V.int m), none, none, none] = [some (V.ref p), some (V.int m), v2, v3, v4] ∧ H1 p = some (.dK (penK l i' d' (n + 1) f')) ∧ Ext p H H1 ∧ 0 ≤ i' ∧ 0 ≤ d' ∧ 0 ≤ f' ∧ f' < 2147483587 :=
        ⟨d, i, f, none, none, none, rfl, hp1, hE, hi, hd, hf, hf2⟩
      refine ite2 (fun _ => ?_) (fun _ => same)
      refine ⟨_, dg_at hp1, _, dg_cells hp1, l, rfl, cs.map V.int, .inl (SqL.of hl1), i, rfl, ?_⟩
      refine ite2 (fun hlt => ?_) (fun _ => same)
      have hlt2 : i < ((cs.map V.int).length : Int) := of_decide_eq_true hlt
      obtain ⟨u, hu⟩ : ∃ u, cs[i.toNat]? = some u := ⟨_, List.getElem?_eq_getElem (by rw [List.length_map] at hlt2; omega)⟩
      refine ⟨_, dg_cells hp1, _, dg_at hp1, l, rfl, cs.map V.int, i, rfl, SqL.of hl1, .int u, at_of (j := i.toNat) (by omega) (by rw [List.getElem?_map, hu]; rfl), ?_⟩
      refine ⟨_, dg_at hp1, i, rfl, _, dp_at hp1, ?_⟩
      have hp2 : upd H1 p (.dK (penK l (i + 1) d (n + 1) f)) p = some (.dK (penK l (i + 1) d (n + 1) f)) := upd_same
      have hE2 : Ext p H (upd H1 p (.dK (penK l (i + 1) d (n + 1) f))) := fun b o nb e => by rw [upd_ne nb]; exact hE b o nb e
      generalize upd H1 p (.dK (penK l (i + 1) d (n + 1) f)) = H2 at hp2 hE2
      refine ⟨⟨by decide, by decide, by decide⟩, u, rfl, ?_⟩
      refine ite2 (fun hge => ?_) (fun _ => ?_)
      · have hge2 := of_decide_eq_true hge
        refine ⟨⟨by decide, by decide, by decide⟩, u, rfl, _, dp_digits hp2, ?_⟩
        refine ⟨u - 10 ^ (18 : Int).toNat, i + 1, f, _, _, _, rfl, upd_same, fun b o nb e => by rw [upd_ne nb]; exact hE2 b o nb e, by omega, by omega, hf, hf2⟩
      · refine ⟨_, dg_fold hp2, f, rfl, wide_mul (a := 40) (b := 40) (by omega) (by decide) (by decide) (by decide) (by decide), u, rfl, by decide, _, dp_fold hp2, ?_⟩
        refine ⟨d, i + 1, _, _, _, _, rfl, upd_same, fun b o nb e => by rw [upd_ne nb]; exact hE2 b o nb e, by omega, hd, by omega, by omega⟩
    · rintro σ' H' ⟨d', i', f', v2, v3, v4, rfl, hp', hE, hi', hd', hf', hf2'⟩
      have hl' := hE _ _ nlp hl
      simp only [tVar, rIxTH, rIxLH, gTupH, line_le, HO.tup.injEq, HO.lst.injEq, List.length_cons, List.length_nil, at0, at1, rU, tOst, tTest, rIxL, rIxT, C8.tCut, cxOf_K, tC, tOp, tUn, tSeq, tAsg, tNext, tRet, tRetN, tDrop, tIfS, tNever, gName, gNil, gCons, gTup, gSub, tPar, rI, rI0, rU, rEq, rNe, tB, tAnd, tOr, tNot, tAndV, tOrV, tNotV, tIf, tTup, tLst, tNil, tCons, tCB, tCall, tMeth, tMake, tFld, sFld, tDGet, sDPut, tDisp, tPairs, tBreak, tCont, scal_ii, scal_bb, scal_ss, List.getElem?_cons_zero, List.getElem?_cons_succ, List.set_cons_zero, List.set_cons_succ, Option.some.injEq, exists_eq_left', exists_eq_left, exists_and_left, V.int.injEq, V.bl.injEq, V.ref.injEq, V.str.injEq, List.cons.injEq, and_true, true_and, Bool.true_eq, List.nil_append, List.append_nil, List.cons_append, exists_eq', and_self, reduceCtorEq, false_or, or_false, false_and, exists_false, exists_const, and_assoc, if_true, Bool.false_eq_true, if_false, Nat.reduceAdd, Nat.reduceLeDiff, Nat.zero_add, Nat.le_refl, forall_const, st_L_draw]
      refine ⟨_, dg_digits hp', d', rfl, ?_⟩
      refine ite2 (fun hpos => ?_) (fun hneg => ?_)
      · have hpos2 := of_decide_eq_true hpos
        refine ⟨_, dg_digits hp', .inl ⟨d', rfl, hm, ?_⟩⟩
        refine ⟨_, dg_digits hp', d', rfl, ⟨hm, HwM.log2_lt (by decide) hm2⟩, _, dp_digits hp', ?_⟩
        refine k _ _ (fun b o nb e => by rw [upd_ne nb]; exact hE b o nb e) ⟨cs, i', d' / m, n + 1, f', upd_same, by rw [upd_ne nlp]; exact hl', hi', Int.ediv_nonneg hd' (by omega), by omega, by omega, hf', hf2'⟩ (Int.emod_nonneg _ (by omega)) (Int.emod_lt_of_pos _ hm)
      · refine ⟨_, dg_fold hp', _, dg_count hp', n + 1, rfl, wide_mul (a := 60) (b := 40) (by omega) (by decide) (by decide) (by decide) (by decide), f', rfl, ⟨by decide, by decide, by omega⟩, by decide, ?_⟩
        refine ⟨⟨by decide, by decide⟩, hm, ?_⟩
        refine k _ _ hE ⟨cs, i', d', n + 1, f', hp', hl', hi', hd', by omega, by omega, hf', hf2'⟩ (Int.emod_nonneg _ (by omega)) (Int.emod_lt_of_pos _ hm)


end HwL
end

section
namespace HwL
open PySem PySem.Spec PyProof.Rows L2 LamX HwT
variable {P : Program} {w : World} {K : PySem.W.Frag} {mg : Str → Option Value} {base : Heap}

/-! ### kinds of values -/
/-- what the text says of the class Ratio, at C -/
structure RatC (K : PySem.W.Frag) (C : Addr) : Prop where
  cl : Cls K C
  nt : NoAttr K C "top"
  nb : NoAttr K C "bottom"
  ha : PySem.W.findIn K (.ref C) "__class__" = some (some (.builtin "object.__class__"))
  hn : PySem.W.specialIn K (.builtin "object.__class__") "__get__" = some (some (.builtin "getset_descriptor.__get__"))
  htk : PySem.W.takesIn K (.builtin "object.__class__") = some true
  hm : PySem.W.mroIn K C (.type "object") = some true
  kI : PySem.W.kitOne K (.ref C) (.type "int") = some false
  kB : PySem.W.kitOne K (.ref C) (.type "bool") = some false
  ki : PySem.W.kitOne K (.type "int") (.ref C) = some false
  kb : PySem.W.kitOne K (.type "bool") (.ref C) = some false
  ks : PySem.W.kitOne K (.type "str") (.ref C) = some false
  kn : PySem.W.kitOne K (.type "NoneType") (.ref C) = some false
  kt : PySem.W.kitOne K (.type "tuple") (.ref C) = some false
  kl : PySem.W.kitOne K (.type "list") (.ref C) = some false
  ni : PySem.W.notFirst K C (.type "int") = true
  nbo : PySem.W.notFirst K C (.type "bool") = true
  ns : PySem.W.notFirst K C (.type "str") = true
  nn : PySem.W.notFirst K C (.type "NoneType") = true
  ntu : PySem.W.notFirst K C (.type "tuple") = true
  nl : PySem.W.notFirst K C (.type "list") = true
/-- x's kind: its type t; whether it is an integer, a Ratio -/
structure Ty (K : PySem.W.Frag) (C : Addr) (H : Hp) (x : V) (isI isR : Bool) : Prop where
  ex : ∃ (t : Value) (bI bB : Bool), TyX K H x t ∧ PySem.W.kitOne K t (.type "int") = some bI ∧ PySem.W.kitOne K t (.type "bool") = some bB ∧ isI = (bI && !bB) ∧ PySem.W.kitOne K t (.ref C) = some isR ∧ PySem.W.notFirst K C t = true
/-- an object of class Ratio that is q -/
def ratF (q : Rat) : List (Str × V) := [("top", .int q.num), ("bottom", .int (q.den : Int))]
def IsR (C : Addr) (H : Hp) (x : V) (q : Rat) : Prop := ∃ a dx, x = .ref a ∧ H a = some (.ins C dx (ratF q))
/-- q as an object or an integer -/
def AsR (C : Addr) (H : Hp) (x : V) (q : Rat) : Prop := IsR C H x q ∨ ∃ i : Int, x = .int i ∧ q = (i : Rat)
theorem IsR.same {C : Addr} {H H' : Hp} {x : V} {q : Rat} (h : IsR C H x q) (e : Same H H') : IsR C H' x q := by
  obtain ⟨a, dx, h1, h2⟩ := h
  exact ⟨a, dx, h1, e _ _ h2⟩
theorem AsR.same {C : Addr} {H H' : Hp} {x : V} {q : Rat} (h : AsR C H x q) (e : Same H H') : AsR C H' x q := h.elim (fun h => .inl (h.same e)) .inr
theorem IsR.inst {C : Addr} {H : Hp} {x : V} {q : Rat} (h : IsR C H x q) : Inst H C x := by
  obtain ⟨a, dx, h1, h2⟩ := h
  exact ⟨a, dx, _, h1, h2⟩
theorem AsR.arg {C : Addr} {H : Hp} {x : V} {q : Rat} (h : AsR C H x q) : (∃ i, x = .int i) ∨ Inst H C x := by
  rcases h with h | ⟨i, h, _⟩
  · exact .inr h.inst
  · exact .inl ⟨i, h⟩
theorem ratF_top (q : Rat) : (ratF q).lookup ("top" : Str) = some (V.int q.num) := by unfold ratF; simp (decide := true) [List.lookup]
theorem ratF_bottom (q : Rat) : (ratF q).lookup ("bottom" : Str) = some (V.int (q.den : Int)) := by
  have e : (("bottom" : Str) == ("top" : Str)) = false := by decide
  unfold ratF
  simp [List.lookup, e]
theorem ratF_no (q : Rat) {m : Str} (h1 : (m == ("top" : Str)) = false) (h2 : (m == ("bottom" : Str)) = false) : (ratF q).lookup m = none := by unfold ratF; simp [List.lookup, h1, h2]
theorem ratF_put (t b : Int) (q : Rat) (h1 : t = q.num) (h2 : b = (q.den : Int)) : putF "bottom" (.int b) (putF "top" (.int t) []) = ratF q := by
  subst h1 h2
  unfold ratF putF
  simp (decide := true) [putF]
section
variable {K : PySem.W.Frag} {C : Addr} {H : Hp} (R : RatC K C)
include R
theorem ty_rat {x : V} (h : Inst H C x) : Ty K C H x false true := by
  obtain ⟨a, dx, fs, rfl, e⟩ := h
  exact ⟨.ref C, false, false, .base (.ins e R.cl R.ha R.hn R.htk R.hm), R.kI, R.kB, rfl, by unfold PySem.W.kitOne; simp, by unfold PySem.W.notFirst; simp⟩
theorem ty_int (i : Int) : Ty K C H (.int i) true false := ⟨.type "int", true, false, .base (.int i), kit_ty (by decide +kernel), kit_ty (by decide +kernel), rfl, R.ki, R.ni⟩
theorem ty_bl (b : Bool) : Ty K C H (.bl b) false false := ⟨.type "bool", true, true, .base (.bl b), kit_ty (by decide +kernel), kit_ty (by decide +kernel), rfl, R.kb, R.nbo⟩
theorem ty_str (x : Str) : Ty K C H (.str x) false false := ⟨.type "str", false, false, .base (.str x), kit_ty (by decide +kernel), kit_ty (by decide +kernel), rfl, R.ks, R.ns⟩
theorem ty_non : Ty K C H .non false false := ⟨.type "NoneType", false, false, .base .non, kit_ty (by decide +kernel), kit_ty (by decide +kernel), rfl, R.kn, R.nn⟩
theorem ty_tup {a : Addr} {xs : List V} (e : H a = some (.tup xs)) : Ty K C H (.ref a) false false := ⟨.type "tuple", false, false, .base (.tup e), kit_ty (by decide +kernel), kit_ty (by decide +kernel), rfl, R.kt, R.ntu⟩
theorem ty_lst {a : Addr} {xs : List V} (e : H a = some (.lst xs)) : Ty K C H (.ref a) false false := ⟨.type "list", false, false, .base (.lst e), kit_ty (by decide +kernel), kit_ty (by decide +kernel), rfl, R.kl, R.nl⟩
theorem ty_as {x : V} {q : Rat} (h : AsR C H x q) : ∃ i r, Ty K C H x i r ∧ (r || i) = true := by
  rcases h with h | ⟨i, rfl, _⟩
  · exact ⟨_, _, ty_rat R h.inst, rfl⟩
  · exact ⟨_, _, ty_int R i, rfl⟩
end
def ratB (K : PySem.W.Frag) (C : Addr) : Bool := PySem.W.plainGet K C Str.empty && (He.eqO (PySem.W.findIn K (.ref C) "__class__") (some (some (.builtin "object.__class__"))) && (He.eqO (PySem.W.specialIn K (.builtin "object.__class__") "__get__") (some (some (.builtin "getset_descriptor.__get__"))) && (decide (PySem.W.takesIn K (.builtin "object.__class__") = some true) && (decide (PySem.W.mroIn K C (.type "object") = some true) &&
  ((["int", "bool"].all fun n => decide (PySem.W.kitOne K (.ref C) (.type n) = some false)) && ((["int", "bool", "str", "NoneType", "tuple", "list"].all fun n => decide (PySem.W.kitOne K (.type n) (.ref C) = some false)) && (["int", "bool", "str", "NoneType", "tuple", "list"].all fun n => PySem.W.notFirst K C (.type n))))))))
theorem ratB_ok {K : PySem.W.Frag} {C : Addr} (cl : Cls K C) (nt : NoAttr K C "top") (nb : NoAttr K C "bottom") (h : ratB K C = true) : RatC K C := by
  obtain ⟨_, h⟩ := He.ba h
  obtain ⟨h1, h⟩ := He.ba h
  obtain ⟨h2, h⟩ := He.ba h
  obtain ⟨h3, h⟩ := He.ba h
  obtain ⟨h4, h⟩ := He.ba h
  obtain ⟨h5, h⟩ := He.ba h
  obtain ⟨h6, h7⟩ := He.ba h
  have a5 := List.all_eq_true.mp h5
  have a6 := List.all_eq_true.mp h6
  have a7 := List.all_eq_true.mp h7
  exact ⟨cl, nt, nb, He.eqO_ok h1, He.eqO_ok h2, of_decide_eq_true h3, of_decide_eq_true h4, of_decide_eq_true (a5 _ (by decide)), of_decide_eq_true (a5 _ (by decide)), of_decide_eq_true (a6 _ (by decide)), of_decide_eq_true (a6 _ (by decide)), of_decide_eq_true (a6 _ (by decide)), of_decide_eq_true (a6 _ (by decide)), of_decide_eq_true (a6 _ (by decide)), of_decide_eq_true (a6 _ (by decide)), a7 _ (by decide), a7 _ (by decide), a7 _ (by decide), a7 _ (by decide), a7 _ (by decide), a7 _ (by decide)⟩


end HwL
end

section
namespace HwL
open PySem PySem.Spec PyProof.Rows L2 LamX HwT
variable {P : Program} {w : World} {K : PySem.W.Frag} {mg : Str → Option Value} {base : Heap}

/-! ### the package's errors and ratios -/
abbrev s_BadNumberD_initD : Stmt := inClass (top 5) 0
abbrev N_BadNumberD_initD : List Str := ["self", "what", "number"]
theorem sc_BadNumberD_initD : FnScope N_BadNumberD_initD ["self", "what", "number"] (defScope s_BadNumberD_initD) := ⟨rfl, rfl, rfl, by decide +kernel, rfl, by decide +kernel, by decide +kernel⟩
theorem st_BadNumberD_initD {v0 v1 v2 : V} : L2.start N_BadNumberD_initD [v0, v1, v2] = [some v0, some v1, some v2] := rfl
theorem ok_BadNumberD_initD {f : Addr} {fd : FuncData} (F : FD K s_BadNumberD_initD "__init__" "BadNumber.__init__" f fd) {C_BadNumber : Addr} (TX : OexC K C_BadNumber) (n1 : PySem.W.findIn K (.ref C_BadNumber) "what" = some none) (n2 : PySem.W.findIn K (.ref C_BadNumber) "number" = some none) : FnOk P w K mg base (L2.CX P w) 1 f fd ["self", "what", "number"] (spX2 C_BadNumber "what" "number") := by
  have nd := sc_BadNumberD_initD.nd
  refine F.ok0 sc_BadNumberD_initD (fun vs H Q E h => ?_) (fun cdv A outer s H vs Q E hr h => ?_)
  · obtain ⟨a, x, y, rfl, _⟩ := h
    rfl
  · obtain ⟨a, x, y, rfl, ha, k⟩ := h
    refine ⟨_, (pss_cons (ps_ost (pv 0) (pv 1))
        (pss_one (ps_ost (pv 0) (pv 2)))), ?_⟩
    simp only [tVar, rIxTH, rIxLH, gTupH, line_le, HO.tup.injEq, HO.lst.injEq, List.length_cons, List.length_nil, at0, at1, rU, tOst, tTest, rIxL, rIxT, C8.tCut, cxOf_K, tC, tOp, tUn, tSeq, tAsg, tNext, tRet, tRetN, tDrop, tIfS, tNever, gName, gNil, gCons, gTup, gSub, tPar, rI, rI0, rU, rEq, rNe, tB, tAnd, tOr, tNot, tAndV, tOrV, tNotV, tIf, tTup, tLst, tNil, tCons, tCB, tCall, tMeth, tMake, tFld, sFld, tDGet, sDPut, tDisp, tPairs, tBreak, tCont, scal_ii, scal_bb, scal_ss, List.getElem?_cons_zero, List.getElem?_cons_succ, List.set_cons_zero, List.set_cons_succ, Option.some.injEq, exists_eq_left', exists_eq_left, exists_and_left, V.int.injEq, V.bl.injEq, V.ref.injEq, V.str.injEq, List.cons.injEq, and_true, true_and, Bool.true_eq, List.nil_append, List.append_nil, List.cons_append, exists_eq', and_self, reduceCtorEq, false_or, or_false, false_and, exists_false, exists_const, and_assoc, if_true, Bool.false_eq_true, if_false, Nat.reduceAdd, Nat.reduceLeDiff, Nat.zero_add, Nat.le_refl, forall_const, st_BadNumberD_initD]
    refine ⟨C_BadNumber, TX, n1, .inl ⟨ha, fun d hd hda => ?_⟩⟩
    refine ⟨C_BadNumber, TX, n2, .inr ⟨d, upd_same, [("what", x)], by rw [upd_ne hda, upd_same], by show 1 ≤ 900; decide, ?_⟩⟩
    exact k d hd hda
/-- what is wished where a bottom is 0 -/
def Bot0 (CB : Addr) (H : Hp) (E : XK) : Prop := ∀ H' d, Same H H' → H' d = some (.xd [("number", .int 0), ("what", .str "bottom")]) → E (.ref CB) (some d) H'
/-- Ratio(t, b): in lowest terms -/
def spInit (C CB : Addr) : Sp := fun vs H Q E => ∃ (p dx : Addr) (t b : Int), vs = [.ref p, .int t, .int b] ∧ H p = some (.ins C dx []) ∧ b.natAbs < 2 ^ 9000 ∧
  (b ≠ 0 → Q .non (upd H p (.ins C dx (ratF (Rat.divInt t b))))) ∧ (b = 0 → Bot0 CB H E)
abbrev s_RatioD_initD : Stmt := inClass (top 11) 0
abbrev N_RatioD_initD : List Str := ["self", "top", "bottom", "common"]
theorem sc_RatioD_initD : FnScope N_RatioD_initD ["self", "top", "bottom"] (defScope s_RatioD_initD) := ⟨rfl, rfl, rfl, by decide +kernel, rfl, by decide +kernel, by decide +kernel⟩
theorem st_RatioD_initD {v0 v1 v2 : V} : L2.start N_RatioD_initD [v0, v1, v2] = [some v0, some v1, some v2, none] := rfl
theorem ok_RatioD_initD {f : Addr} {fd : FuncData} (F : FunD K "__init__" "Ratio.__init__" (defArgs s_RatioD_initD) (defBody s_RatioD_initD) (defScope s_RatioD_initD) [.int 1] [] f fd) {C_Ratio : Addr} (R : RatC K C_Ratio) (m_gcd : mg "gcd" = some (.builtin "math.gcd")) (g_BadNumber : Xf P w K mg base "BadNumber" C_BadNumber 1 (spX2 C_BadNumber "what" "number")) : FnOk P w K mg base (L2.CX P w) 3 f fd ["self", "top", "bottom"] (spInit C_Ratio C_BadNumber) := by
  have nd := sc_RatioD_initD.nd
  refine F.okX sc_RatioD_initD (fun vs H Q E h => ?_) (fun cdv A outer s H vs Q E hr h => ?_)
  · obtain ⟨p, dx, t, b, rfl, _⟩ := h
    rfl
  · obtain ⟨p, dx, t, b, rfl, hp, hb, k, ke⟩ := h
    refine ⟨_, (pss_cons (ps_if (pt_cmpR op_eq (pv 2) pe_int (nomark _)) (pss_one (ps_raiseX g_BadNumber hr (by decide) rfl (takes_of rfl rfl rfl rfl) rfl (pa_cons pe_str (pa_cons pe_int pa_nil)))) pss_nil)
        (pss_cons (ps_set (i := 3) nd rfl (Or.inl rfl) (pe_callBfun cr_gcd rfl m_gcd (pa_cons (pv 1) (pa_cons (pv 2) pa_nil))))
        (C8.pss_cut (ps_if (pt_cmpR op_lt (pv 2) pe_int (nomark _)) (pss_one (ps_set (i := 3) nd rfl (Or.inl rfl) (pe_un un_neg (pv 3)))) pss_nil)
        (pss_cons (ps_fld (pv 0) (pe_op op_fdivX (pv 1) (pv 3)) rfl)
        (pss_one (ps_fld (pv 0) (pe_op op_fdivX (pv 2) (pv 3)) rfl)))))), ?_⟩
    simp only [tVar, rIxTH, rIxLH, gTupH, line_le, HO.tup.injEq, HO.lst.injEq, List.length_cons, List.length_nil, at0, at1, rU, tOst, tTest, rIxL, rIxT, C8.tCut, cxOf_K, tC, tOp, tUn, tSeq, tAsg, tNext, tRet, tRetN, tDrop, tIfS, tNever, gName, gNil, gCons, gTup, gSub, tPar, rI, rI0, rU, rEq, rNe, tB, tAnd, tOr, tNot, tAndV, tOrV, tNotV, tIf, tTup, tLst, tNil, tCons, tCB, tCall, tMeth, tMake, tFld, sFld, tDGet, sDPut, tDisp, tPairs, tBreak, tCont, scal_ii, scal_bb, scal_ss, List.getElem?_cons_zero, List.getElem?_cons_succ, List.set_cons_zero, List.set_cons_succ, Option.some.injEq, exists_eq_left', exists_eq_left, exists_and_left, V.int.injEq, V.bl.injEq, V.ref.injEq, V.str.injEq, List.cons.injEq, and_true, true_and, Bool.true_eq, List.nil_append, List.append_nil, List.cons_append, exists_eq', and_self, reduceCtorEq, false_or, or_false, false_and, exists_false, exists_const, and_assoc, if_true, Bool.false_eq_true, if_false, Nat.reduceAdd, Nat.reduceLeDiff, Nat.zero_add, Nat.le_refl, forall_const, st_RatioD_initD, rGcd, tMkO, CDivX, upd_same]
    refine ite2 (fun hb0 => ?_) (fun hb0 => ?_)
    · have hb1 : b = 0 := by simpa using hb0
      refine fun a ha => ⟨a, _, _, rfl, upd_same, fun d hd hda => ⟨rfl, x2_made ha (by rw [upd_ne hda] at hd; exact hd) hda fun H2 e1 e2 => ke hb1 H2 d e1 e2⟩⟩
    · have hb1 : b ≠ 0 := by simpa using hb0
      refine ⟨fun σ' H' => H' = H ∧ σ' = [some (.ref p), some (.int t), some (.int b), some (.int (if b < 0 then -((Nat.gcd t.natAbs b.natAbs : Nat) : Int) else ((Nat.gcd t.natAbs b.natAbs : Nat) : Int)))], ?_, ?_⟩
      · by_cases hn : b < 0
        · simp only [hn, decide_true, if_true]
          exact ⟨trivial, trivial⟩
        · simp only [hn, decide_false, if_false, Bool.false_eq_true]
          exact ⟨trivial, trivial⟩
      · rintro σ' H' ⟨rfl, rfl⟩
        have l2 := HwM.log2_lt (k := 9000) (by decide) (Nat.lt_of_le_of_lt (HwM.gcd_le (t := t) hb1) hb)
        simp only [tVar, rIxTH, rIxLH, gTupH, line_le, HO.tup.injEq, HO.lst.injEq, List.length_cons, List.length_nil, at0, at1, rU, tOst, tTest, rIxL, rIxT, C8.tCut, cxOf_K, tC, tOp, tUn, tSeq, tAsg, tNext, tRet, tRetN, tDrop, tIfS, tNever, gName, gNil, gCons, gTup, gSub, tPar, rI, rI0, rU, rEq, rNe, tB, tAnd, tOr, tNot, tAndV, tOrV, tNotV, tIf, tTup, tLst, tNil, tCons, tCB, tCall, tMeth, tMake, tFld, sFld, tDGet, sDPut, tDisp, tPairs, tBreak, tCont, scal_ii, scal_bb, scal_ss, List.getElem?_cons_zero, List.getElem?_cons_succ, List.set_cons_zero, List.set_cons_succ, Option.some.injEq, exists_eq_left', exists_eq_left, exists_and_left, V.int.injEq, V.bl.injEq, V.ref.injEq, V.str.injEq, List.cons.injEq, and_true, true_and, Bool.true_eq, List.nil_append, List.append_nil, List.cons_append, exists_eq', and_self, reduceCtorEq, false_or, or_false, false_and, exists_false, exists_const, and_assoc, if_true, Bool.false_eq_true, if_false, Nat.reduceAdd, Nat.reduceLeDiff, Nat.zero_add, Nat.le_refl, forall_const, st_RatioD_initD, CDivX, upd_same]
        refine ⟨HwM.gcd_ne hb1, l2, _, _, _, hp, R.cl, R.nt, by decide, HwM.gcd_ne hb1, l2, _, _, _, rfl, R.cl, R.nb, by show 1 < 1000; decide, ?_⟩
        rw [upd_upd, HwM.num_fdiv hb1, HwM.den_fdiv hb1, ratF_put _ _ (Rat.divInt t b) rfl rfl]
        exact k hb1
theorem made_rat {C CB : Addr} {H : Hp} {t b : Int} {Q : VK} {E : XK} (hb : b.natAbs < 2 ^ 9000) (k : b ≠ 0 → ∀ H' x, Same H H' → IsR C H' x (Rat.divInt t b) → Q x H') (ke : b = 0 → Bot0 CB H E) (x dx : Addr) (hx : H x = none) (hd : H dx = none) (hne : dx ≠ x) :
    spInit C CB [.ref x, .int t, .int b] (upd (upd H dx (.own x)) x (.ins C dx [])) (fun v H2 => v = .non ∧ Q (.ref x) H2) E := by
  have sm : Same H (upd (upd H dx (.own x)) x (.ins C dx [])) := fun c o e => by rw [upd_ne (ne_of_none e hx), upd_ne (ne_of_none e hd)]; exact e
  refine ⟨x, dx, t, b, rfl, upd_same, hb, fun h => ⟨rfl, k h _ _ (fun c o e => ?_) ⟨x, dx, rfl, upd_same⟩⟩, fun h H' d e1 e2 => ke h H' d (sm.trans e1) e2⟩
  rw [upd_ne (ne_of_none e hx)]
  exact sm _ _ e
def spIsInt (K : PySem.W.Frag) (C : Addr) : Sp := fun vs H Q _ => ∃ (x : V) (i r : Bool), vs = [x] ∧ Ty K C H x i r ∧ Q (.bl i) H
abbrev s_is_integer : Stmt := top 12
abbrev N_is_integer : List Str := ["value"]
theorem sc_is_integer : FnScope N_is_integer ["value"] (defScope s_is_integer) := ⟨rfl, rfl, rfl, by decide +kernel, rfl, by decide +kernel, by decide +kernel⟩
theorem st_is_integer {v0 : V} : L2.start N_is_integer [v0] = [some v0] := rfl
theorem ok_is_integer {f : Addr} {fd : FuncData} (F : FD K s_is_integer "is_integer" "is_integer" f fd) {C_Ratio : Addr} (z_isinstance : mg "isinstance" = none) (z_bool : mg "bool" = none) (z_int : mg "int" = none) : FnOk P w K mg base (L2.CX P w) 1 f fd ["value"] (spIsInt K C_Ratio) := by
  have nd := sc_is_integer.nd
  refine F.ok0 sc_is_integer (fun vs H Q E h => ?_) (fun cdv A outer s H vs Q E hr h => ?_)
  · obtain ⟨x, i, r, rfl, _⟩ := h
    rfl
  · obtain ⟨x, i, r, rfl, hT, k⟩ := h
    obtain ⟨t, bI, bB, ty, e1, e2, rfl, e3, nf⟩ := hT.ex
    refine ⟨_, (pss_one (ps_ret (pe_and (pe_callB (id := "isinstance") (r := rIsi K) (call_isiE rfl) (by rfl) z_isinstance (by decide +kernel) (pa_cons (pv 0) (pa_cons (pe_bltn (v := .ty "int") rfl z_int (by decide +kernel) rfl) pa_nil))) (pe_one (pe_not (pe_callB (id := "isinstance") (r := rIsi K) (call_isiE rfl) (by rfl) z_isinstance (by decide +kernel) (pa_cons (pv 0) (pa_cons (pe_bltn (v := .ty "bool") rfl z_bool (by decide +kernel) rfl) pa_nil)))))))), ?_⟩
    simp only [tVar, rIxTH, rIxLH, gTupH, line_le, HO.tup.injEq, HO.lst.injEq, List.length_cons, List.length_nil, at0, at1, rU, tOst, tTest, rIxL, rIxT, C8.tCut, cxOf_K, tC, tOp, tUn, tSeq, tAsg, tNext, tRet, tRetN, tDrop, tIfS, tNever, gName, gNil, gCons, gTup, gSub, tPar, rI, rI0, rU, rEq, rNe, tB, tAnd, tOr, tNot, tAndV, tOrV, tNotV, tIf, tTup, tLst, tNil, tCons, tCB, tCall, tMeth, tMake, tFld, sFld, tDGet, sDPut, tDisp, tPairs, tBreak, tCont, scal_ii, scal_bb, scal_ss, List.getElem?_cons_zero, List.getElem?_cons_succ, List.set_cons_zero, List.set_cons_succ, Option.some.injEq, exists_eq_left', exists_eq_left, exists_and_left, V.int.injEq, V.bl.injEq, V.ref.injEq, V.str.injEq, List.cons.injEq, and_true, true_and, Bool.true_eq, List.nil_append, List.append_nil, List.cons_append, exists_eq', and_self, reduceCtorEq, false_or, or_false, false_and, exists_false, exists_const, and_assoc, if_true, Bool.false_eq_true, if_false, Nat.reduceAdd, Nat.reduceLeDiff, Nat.zero_add, Nat.le_refl, forall_const, st_is_integer, rIsi]
    refine ⟨t, .type "int", .ty _, ty, bI, e1, ?_⟩
    cases bI with
    | true => exact iteT ⟨t, .type "bool", .ty _, ty, bB, e2, by simpa using k⟩
    | false => exact iteF (by simpa using k)
def spIsRat (K : PySem.W.Frag) (C : Addr) : Sp := fun vs H Q _ => ∃ (x : V) (i r : Bool), vs = [x] ∧ Ty K C H x i r ∧ Q (.bl (r || i)) H
abbrev s_is_ratio : Stmt := top 13
abbrev N_is_ratio : List Str := ["value"]
theorem sc_is_ratio : FnScope N_is_ratio ["value"] (defScope s_is_ratio) := ⟨rfl, rfl, rfl, by decide +kernel, rfl, by decide +kernel, by decide +kernel⟩
theorem st_is_ratio {v0 : V} : L2.start N_is_ratio [v0] = [some v0] := rfl
theorem ok_is_ratio {f : Addr} {fd : FuncData} (F : FD K s_is_ratio "is_ratio" "is_ratio" f fd) {C_Ratio : Addr} (z_isinstance : mg "isinstance" = none) (m_Ratio : mg "Ratio" = some (.ref C_Ratio)) (g_is_integer : Gf P w K mg base "is_integer" 1 ["value"] (spIsInt K C_Ratio)) : FnOk P w K mg base (L2.CX P w) 2 f fd ["value"] (spIsRat K C_Ratio) := by
  have nd := sc_is_ratio.nd
  refine F.ok0 sc_is_ratio (fun vs H Q E h => ?_) (fun cdv A outer s H vs Q E hr h => ?_)
  · obtain ⟨x, i, r, rfl, _⟩ := h
    rfl
  · obtain ⟨x, i, r, rfl, hT, k⟩ := h
    obtain ⟨t, bI, bB, ty, e1, e2, e4, e3, nf⟩ := hT.ex
    refine ⟨_, (pss_one (ps_ret (pe_or (pe_callB (id := "isinstance") (r := rIsi K) (call_isiE rfl) (by rfl) z_isinstance (by decide +kernel) (pa_cons (pv 0) (pa_cons (pe_glob (v := .ref C_Ratio) rfl m_Ratio rfl) pa_nil))) (pe_one (pe_g g_is_integer hr (by decide) passL rfl (pa_cons (pv 0) pa_nil)))))), ?_⟩
    simp only [tVar, rIxTH, rIxLH, gTupH, line_le, HO.tup.injEq, HO.lst.injEq, List.length_cons, List.length_nil, at0, at1, rU, tOst, tTest, rIxL, rIxT, C8.tCut, cxOf_K, tC, tOp, tUn, tSeq, tAsg, tNext, tRet, tRetN, tDrop, tIfS, tNever, gName, gNil, gCons, gTup, gSub, tPar, rI, rI0, rU, rEq, rNe, tB, tAnd, tOr, tNot, tAndV, tOrV, tNotV, tIf, tTup, tLst, tNil, tCons, tCB, tCall, tMeth, tMake, tFld, sFld, tDGet, sDPut, tDisp, tPairs, tBreak, tCont, scal_ii, scal_bb, scal_ss, List.getElem?_cons_zero, List.getElem?_cons_succ, List.set_cons_zero, List.set_cons_succ, Option.some.injEq, exists_eq_left', exists_eq_left, exists_and_left, V.int.injEq, V.bl.injEq, V.ref.injEq, V.str.injEq, List.cons.injEq, and_true, true_and, Bool.true_eq, List.nil_append, List.append_nil, List.cons_append, exists_eq', and_self, reduceCtorEq, false_or, or_false, false_and, exists_false, exists_const, and_assoc, if_true, Bool.false_eq_true, if_false, Nat.reduceAdd, Nat.reduceLeDiff, Nat.zero_add, Nat.le_refl, forall_const, st_is_ratio, rIsi]
    refine ⟨t, .ref C_Ratio, .own _, ty, r, e3, ?_⟩
    cases r with
    | true => exact iteT k
    | false => exact iteF ⟨x, i, false, rfl, hT, k⟩
def spAs (C : Addr) : Sp := fun vs H Q _ => ∃ (x : V) (q : Rat), vs = [x] ∧ AsR C H x q ∧ ∀ H' y, Same H H' → IsR C H' y q → Q y H'
abbrev s_as_ratio : Stmt := top 14
abbrev N_as_ratio : List Str := ["value"]
theorem sc_as_ratio : FnScope N_as_ratio ["value"] (defScope s_as_ratio) := ⟨rfl, rfl, rfl, by decide +kernel, rfl, by decide +kernel, by decide +kernel⟩
theorem st_as_ratio {v0 : V} : L2.start N_as_ratio [v0] = [some v0] := rfl
theorem ok_as_ratio {f : Addr} {fd : FuncData} (F : FD K s_as_ratio "as_ratio" "as_ratio" f fd) {C_Ratio C_BadNumber : Addr} (R : RatC K C_Ratio) (z_isinstance : mg "isinstance" = none) (m_Ratio : mg "Ratio" = some (.ref C_Ratio)) (g_Ratio1 : Kf P w K mg base "Ratio" C_Ratio 3 ["self", "top", "bottom"] [.int 1] (spInit C_Ratio C_BadNumber)) : FnOk P w K mg base (L2.CX P w) 5 f fd ["value"] (spAs C_Ratio) := by
  have nd := sc_as_ratio.nd
  refine F.ok0 sc_as_ratio (fun vs H Q E h => ?_) (fun cdv A outer s H vs Q E hr h => ?_)
  · obtain ⟨x, q, rfl, _⟩ := h
    rfl
  · obtain ⟨x, q, rfl, hx, k⟩ := h
    refine ⟨_, (pss_one (ps_ret (pe_ifExp (pt_val (pe_callB (id := "isinstance") (r := rIsi K) (call_isiE rfl) (by rfl) z_isinstance (by decide +kernel) (pa_cons (pv 0) (pa_cons (pe_glob (v := .ref C_Ratio) rfl m_Ratio rfl) pa_nil)))) (pv 0) (pe_k g_Ratio1 hr (by decide) passL rfl (pa_cons (pv 0) pa_nil))))), ?_⟩
    simp only [tVar, rIxTH, rIxLH, gTupH, line_le, HO.tup.injEq, HO.lst.injEq, List.length_cons, List.length_nil, at0, at1, rU, tOst, tTest, rIxL, rIxT, C8.tCut, cxOf_K, tC, tOp, tUn, tSeq, tAsg, tNext, tRet, tRetN, tDrop, tIfS, tNever, gName, gNil, gCons, gTup, gSub, tPar, rI, rI0, rU, rEq, rNe, tB, tAnd, tOr, tNot, tAndV, tOrV, tNotV, tIf, tTup, tLst, tNil, tCons, tCB, tCall, tMeth, tMake, tFld, sFld, tDGet, sDPut, tDisp, tPairs, tBreak, tCont, scal_ii, scal_bb, scal_ss, List.getElem?_cons_zero, List.getElem?_cons_succ, List.set_cons_zero, List.set_cons_succ, Option.some.injEq, exists_eq_left', exists_eq_left, exists_and_left, V.int.injEq, V.bl.injEq, V.ref.injEq, V.str.injEq, List.cons.injEq, and_true, true_and, Bool.true_eq, List.nil_append, List.append_nil, List.cons_append, exists_eq', and_self, reduceCtorEq, false_or, or_false, false_and, exists_false, exists_const, and_assoc, if_true, Bool.false_eq_true, if_false, Nat.reduceAdd, Nat.reduceLeDiff, Nat.zero_add, Nat.le_refl, forall_const, st_as_ratio, rIsi]
    rcases hx with hx | ⟨i, rfl, rfl⟩
    · obtain ⟨t, bI, bB, ty, e1, e2, e4, e3, nf⟩ := (ty_rat R hx.inst).ex
      exact ⟨t, .ref C_Ratio, .own _, ty, true, e3, iteT (k _ _ (Same.refl _) hx)⟩
    · obtain ⟨t, bI, bB, ty, e1, e2, e4, e3, nf⟩ := (ty_int R (H := H) i).ex
      refine ⟨t, .ref C_Ratio, .own _, ty, false, e3, iteF ?_⟩
      exact made_rat (by decide) (fun _ H' y e1 e2 => k H' y e1 (by rw [HwM.int_eq] at e2; exact e2)) (fun z => by cases z)


end HwL
end

section
namespace HwL
open PySem PySem.Spec PyProof.Rows L2 LamX HwT
variable {P : Program} {w : World} {K : PySem.W.Frag} {mg : Str → Option Value} {base : Heap}

/-! ### the law's own fractions -/
def spGcd : Sp := fun vs H Q _ => ∃ a b : Int, vs = [.int a, .int b] ∧ a.natAbs < 2 ^ 9000 ∧ b.natAbs < 2 ^ 9000 ∧ Q (.int ((Nat.gcd a.natAbs b.natAbs : Nat) : Int)) H
abbrev s_L_gcd : Stmt := top 23
abbrev N_L_gcd : List Str := ["_law_one", "_law_two", "_law_lap"]
theorem sc_L_gcd : FnScope N_L_gcd ["_law_one", "_law_two"] (defScope s_L_gcd) := ⟨rfl, rfl, rfl, by decide +kernel, rfl, by decide +kernel, by decide +kernel⟩
theorem st_L_gcd {v0 v1 : V} : L2.start N_L_gcd [v0, v1] = [some v0, some v1, none] := rfl
theorem ok_L_gcd {f : Addr} {fd : FuncData} (F : FD K s_L_gcd "_law_gcd" "_law_gcd" f fd) (z_range : mg "range" = none) (z_int : mg "int" = none) (z_abs : mg "abs" = none) : FnOk P w K mg base (L2.CX P w) 1 f fd ["_law_one", "_law_two"] (spGcd) := by
  have nd := sc_L_gcd.nd
  refine F.ok0 sc_L_gcd (fun vs H Q E h => ?_) (fun cdv A outer s H vs Q E hr h => ?_)
  · obtain ⟨a, b, rfl, _⟩ := h
    rfl
  · obtain ⟨a, b, rfl, ha, hb, k⟩ := h
    refine ⟨_, (C8.pss_cut (ps_par (i := 0) (j := 1) (by rfl) nd rfl rfl (by decide) rfl rfl (pa_cons (pe_callB call_abs (by rfl) z_abs (by decide +kernel) (pa_cons (pv 0) pa_nil)) (pa_cons (pe_callB call_abs (by rfl) z_abs (by decide +kernel) (pa_cons (pv 1) pa_nil)) pa_nil)) (by rfl))
        (pss_cons (ps_for PassesOwn.never rfl (pi_range1 rfl z_range (pa_cons pe_int pa_nil)) (pg_name (i := 2) nd rfl (Or.inl rfl)) (pss_cons (ps_if (pt_cmpR op_eq (pv 1) pe_int (nomark _)) (pss_one ps_break) pss_nil)
        (pss_one (ps_par (i := 0) (j := 1) (by rfl) nd rfl rfl (by decide) rfl rfl (pa_cons (pv 1) (pa_cons (pe_op op_mod (pe_callTy call_int1 (by rfl) z_int (by decide +kernel) (pa_cons (pv 0) pa_nil)) (pv 1)) pa_nil)) (by rfl)))))
        (pss_one (ps_ret (pv 0))))), ?_⟩
    refine ⟨fun σ' H' => H' = H ∧ σ' = [some (.int (a.natAbs : Int)), some (.int (b.natAbs : Int)), none], ?_, ?_⟩
    · have ea : (if a < 0 then -a else a) = (a.natAbs : Int) := by split <;> omega
      have eb : (if b < 0 then -b else b) = (b.natAbs : Int) := by split <;> omega
      simp only [tVar, rIxTH, rIxLH, gTupH, line_le, HO.tup.injEq, HO.lst.injEq, List.length_cons, List.length_nil, at0, at1, rU, tOst, tTest, rIxL, rIxT, C8.tCut, cxOf_K, tC, tOp, tUn, tSeq, tAsg, tNext, tRet, tRetN, tDrop, tIfS, tNever, gName, gNil, gCons, gTup, gSub, tPar, rI, rI0, rU, rEq, rNe, tB, tAnd, tOr, tNot, tAndV, tOrV, tNotV, tIf, tTup, tLst, tNil, tCons, tCB, tCall, tMeth, tMake, tFld, sFld, tDGet, sDPut, tDisp, tPairs, tBreak, tCont, scal_ii, scal_bb, scal_ss, List.getElem?_cons_zero, List.getElem?_cons_succ, List.set_cons_zero, List.set_cons_succ, Option.some.injEq, exists_eq_left', exists_eq_left, exists_and_left, V.int.injEq, V.bl.injEq, V.ref.injEq, V.str.injEq, List.cons.injEq, and_true, true_and, Bool.true_eq, List.nil_append, List.append_nil, List.cons_append, exists_eq', and_self, reduceCtorEq, false_or, or_false, false_and, exists_false, exists_const, and_assoc, if_true, Bool.false_eq_true, if_false, Nat.reduceAdd, Nat.reduceLeDiff, Nat.zero_add, Nat.le_refl, forall_const, st_L_gcd, ea, eb]
    · rintro σ' H' ⟨rfl, rfl⟩
      refine ⟨_, rfl, by decide, by decide, for_range (lo := 0) (n := 60000) (fun i σ' H2 => ∃ (x y : Int) (v : Option V), H2 = H' ∧ σ' = [some (.int x), some (.int y), v] ∧ 0 ≤ x ∧ 0 ≤ y ∧ y.natAbs < 2 ^ 9000 ∧
        Nat.gcd x.natAbs y.natAbs = Nat.gcd a.natAbs b.natAbs ∧ (i = 0 ∨ y = 0 ∨ (y < x ∧ x.natAbs * y.natAbs * 2 ^ i < 2 ^ (2 * 9000 + 2)))) ?_ ?_ ?_⟩
      · exact ⟨_, _, none, rfl, rfl, by omega, by omega, by simpa using hb, by simp, .inl rfl⟩
      · rintro i σ' H2 hi ⟨x, y, v, rfl, rfl, x0, y0, yb, eg, hl⟩
        simp only [tVar, rIxTH, rIxLH, gTupH, line_le, HO.tup.injEq, HO.lst.injEq, List.length_cons, List.length_nil, at0, at1, rU, tOst, tTest, rIxL, rIxT, C8.tCut, cxOf_K, tC, tOp, tUn, tSeq, tAsg, tNext, tRet, tRetN, tDrop, tIfS, tNever, gName, gNil, gCons, gTup, gSub, tPar, rI, rI0, rU, rEq, rNe, tB, tAnd, tOr, tNot, tAndV, tOrV, tNotV, tIf, tTup, tLst, tNil, tCons, tCB, tCall, tMeth, tMake, tFld, sFld, tDGet, sDPut, tDisp, tPairs, tBreak, tCont, scal_ii, scal_bb, scal_ss, List.getElem?_cons_zero, List.getElem?_cons_succ, List.set_cons_zero, List.set_cons_succ, Option.some.injEq, exists_eq_left', exists_eq_left, exists_and_left, V.int.injEq, V.bl.injEq, V.ref.injEq, V.str.injEq, List.cons.injEq, and_true, true_and, Bool.true_eq, List.nil_append, List.append_nil, List.cons_append, exists_eq', and_self, reduceCtorEq, false_or, or_false, false_and, exists_false, exists_const, and_assoc, if_true, Bool.false_eq_true, if_false, Nat.reduceAdd, Nat.reduceLeDiff, Nat.zero_add, Nat.le_refl, forall_const, st_L_gcd]
        refine ite2 (fun hz => ?_) (fun hz => ?_)
        · have hz : y = 0 := by simpa using hz
          subst hz
          have e : x = ((Nat.gcd a.natAbs b.natAbs : Nat) : Int) := by
            rw [← eg]
            simp
            omega
          rw [e]
          exact k
        · have hz : ¬ y = 0 := by simpa using hz
          have yp : 0 < y := by omega
          have hl2 : i = 0 ∨ (y < x ∧ x.natAbs * y.natAbs * 2 ^ i < 2 ^ (2 * 9000 + 2)) := by
            rcases hl with h | h | h
            · exact .inl h
            · exact absurd h hz
            · exact .inr h
          obtain ⟨l1, l2, l3, l4⟩ := HwM.lap x0 yp yb hl2
          refine ⟨yp, y0, l2, l3, by rw [HwM.gcd_step x0 yp, eg], .inr ⟨l1, l4⟩⟩
      · rintro σ' H2 ⟨x, y, v, rfl, rfl, x0, y0, yb, eg, hl⟩
        have hz : y = 0 := by
          rcases hl with h | h | ⟨h1, h2⟩
          · cases h
          · exact h
          · exact HwM.laps_end (n := 60000) y0 h1 (HwM.lt_mono h2 (by decide))
        subst hz
        have e : x = ((Nat.gcd a.natAbs b.natAbs : Nat) : Int) := by
          rw [← eg]
          simp
          omega
        simp only [tVar, rIxTH, rIxLH, gTupH, line_le, HO.tup.injEq, HO.lst.injEq, List.length_cons, List.length_nil, at0, at1, rU, tOst, tTest, rIxL, rIxT, C8.tCut, cxOf_K, tC, tOp, tUn, tSeq, tAsg, tNext, tRet, tRetN, tDrop, tIfS, tNever, gName, gNil, gCons, gTup, gSub, tPar, rI, rI0, rU, rEq, rNe, tB, tAnd, tOr, tNot, tAndV, tOrV, tNotV, tIf, tTup, tLst, tNil, tCons, tCB, tCall, tMeth, tMake, tFld, sFld, tDGet, sDPut, tDisp, tPairs, tBreak, tCont, scal_ii, scal_bb, scal_ss, List.getElem?_cons_zero, List.getElem?_cons_succ, List.set_cons_zero, List.set_cons_succ, Option.some.injEq, exists_eq_left', exists_eq_left, exists_and_left, V.int.injEq, V.bl.injEq, V.ref.injEq, V.str.injEq, List.cons.injEq, and_true, true_and, Bool.true_eq, List.nil_append, List.append_nil, List.cons_append, exists_eq', and_self, reduceCtorEq, false_or, or_false, false_and, exists_false, exists_const, and_assoc, if_true, Bool.false_eq_true, if_false, Nat.reduceAdd, Nat.reduceLeDiff, Nat.zero_add, Nat.le_refl, forall_const, st_L_gcd, e]
        exact k
/-- (top, bottom) in lowest terms -/
def spQ : Sp := fun vs H Q _ => ∃ t b : Int, vs = [.int t, .int b] ∧ b ≠ 0 ∧ t.natAbs < 2 ^ 9000 ∧ b.natAbs < 2 ^ 9000 ∧ ∀ p, H p = none → Q (.ref p) (upd H p (.tup (qv (Rat.divInt t b))))
abbrev s_L_q : Stmt := top 24
abbrev N_L_q : List Str := ["_law_top", "_law_bottom", "_law_by"]
theorem sc_L_q : FnScope N_L_q ["_law_top", "_law_bottom"] (defScope s_L_q) := ⟨rfl, rfl, rfl, by decide +kernel, rfl, by decide +kernel, by decide +kernel⟩
theorem st_L_q {v0 v1 : V} : L2.start N_L_q [v0, v1] = [some v0, some v1, none] := rfl
theorem ok_L_q {f : Addr} {fd : FuncData} (F : FD K s_L_q "_law_q" "_law_q" f fd) (g_L_gcd : Gf P w K mg base "_law_gcd" 1 ["_law_one", "_law_two"] (spGcd)) : FnOk P w K mg base (L2.CX P w) 2 f fd ["_law_top", "_law_bottom"] (spQ) := by
  have nd := sc_L_q.nd
  refine F.ok0 sc_L_q (fun vs H Q E h => ?_) (fun cdv A outer s H vs Q E hr h => ?_)
  · obtain ⟨t, b, rfl, _⟩ := h
    rfl
  · obtain ⟨t, b, rfl, hb, ht, hb2, k⟩ := h
    refine ⟨_, (pss_cons (ps_set (i := 2) nd rfl (Or.inl rfl) (pe_g g_L_gcd hr (by decide) passL rfl (pa_cons (pv 0) (pa_cons (pv 1) pa_nil))))
        (C8.pss_cut (ps_if (pt_cmpR op_lt (pv 1) pe_int (nomark _)) (pss_one (ps_set (i := 2) nd rfl (Or.inl rfl) (pe_un un_neg (pv 2)))) pss_nil)
        (pss_one (ps_ret (pe_tup (pa_cons (pe_op op_fdivX (pv 0) (pv 2)) (pa_cons (pe_op op_fdivX (pv 1) (pv 2)) pa_nil))))))), ?_⟩
    simp only [tVar, rIxTH, rIxLH, gTupH, line_le, HO.tup.injEq, HO.lst.injEq, List.length_cons, List.length_nil, at0, at1, rU, tOst, tTest, rIxL, rIxT, C8.tCut, cxOf_K, tC, tOp, tUn, tSeq, tAsg, tNext, tRet, tRetN, tDrop, tIfS, tNever, gName, gNil, gCons, gTup, gSub, tPar, rI, rI0, rU, rEq, rNe, tB, tAnd, tOr, tNot, tAndV, tOrV, tNotV, tIf, tTup, tLst, tNil, tCons, tCB, tCall, tMeth, tMake, tFld, sFld, tDGet, sDPut, tDisp, tPairs, tBreak, tCont, scal_ii, scal_bb, scal_ss, List.getElem?_cons_zero, List.getElem?_cons_succ, List.set_cons_zero, List.set_cons_succ, Option.some.injEq, exists_eq_left', exists_eq_left, exists_and_left, V.int.injEq, V.bl.injEq, V.ref.injEq, V.str.injEq, List.cons.injEq, and_true, true_and, Bool.true_eq, List.nil_append, List.append_nil, List.cons_append, exists_eq', and_self, reduceCtorEq, false_or, or_false, false_and, exists_false, exists_const, and_assoc, if_true, Bool.false_eq_true, if_false, Nat.reduceAdd, Nat.reduceLeDiff, Nat.zero_add, Nat.le_refl, forall_const, st_L_q]
    refine ⟨t, b, rfl, ht, hb2, fun σ' H' => H' = H ∧ σ' = [some (.int t), some (.int b), some (.int (if b < 0 then -((Nat.gcd t.natAbs b.natAbs : Nat) : Int) else ((Nat.gcd t.natAbs b.natAbs : Nat) : Int)))], ?_, ?_⟩
    · by_cases hn : b < 0
      · simp only [tVar, rIxTH, rIxLH, gTupH, line_le, HO.tup.injEq, HO.lst.injEq, List.length_cons, List.length_nil, at0, at1, rU, tOst, tTest, rIxL, rIxT, C8.tCut, cxOf_K, tC, tOp, tUn, tSeq, tAsg, tNext, tRet, tRetN, tDrop, tIfS, tNever, gName, gNil, gCons, gTup, gSub, tPar, rI, rI0, rU, rEq, rNe, tB, tAnd, tOr, tNot, tAndV, tOrV, tNotV, tIf, tTup, tLst, tNil, tCons, tCB, tCall, tMeth, tMake, tFld, sFld, tDGet, sDPut, tDisp, tPairs, tBreak, tCont, scal_ii, scal_bb, scal_ss, List.getElem?_cons_zero, List.getElem?_cons_succ, List.set_cons_zero, List.set_cons_succ, Option.some.injEq, exists_eq_left', exists_eq_left, exists_and_left, V.int.injEq, V.bl.injEq, V.ref.injEq, V.str.injEq, List.cons.injEq, and_true, true_and, Bool.true_eq, List.nil_append, List.append_nil, List.cons_append, exists_eq', and_self, reduceCtorEq, false_or, or_false, false_and, exists_false, exists_const, and_assoc, if_true, Bool.false_eq_true, if_false, Nat.reduceAdd, Nat.reduceLeDiff, Nat.zero_add, Nat.le_refl, forall_const, st_L_q, rU, hn, decide_true, if_true]
      · simp only [tVar, rIxTH, rIxLH, gTupH, line_le, HO.tup.injEq, HO.lst.injEq, List.length_cons, List.length_nil, at0, at1, rU, tOst, tTest, rIxL, rIxT, C8.tCut, cxOf_K, tC, tOp, tUn, tSeq, tAsg, tNext, tRet, tRetN, tDrop, tIfS, tNever, gName, gNil, gCons, gTup, gSub, tPar, rI, rI0, rU, rEq, rNe, tB, tAnd, tOr, tNot, tAndV, tOrV, tNotV, tIf, tTup, tLst, tNil, tCons, tCB, tCall, tMeth, tMake, tFld, sFld, tDGet, sDPut, tDisp, tPairs, tBreak, tCont, scal_ii, scal_bb, scal_ss, List.getElem?_cons_zero, List.getElem?_cons_succ, List.set_cons_zero, List.set_cons_succ, Option.some.injEq, exists_eq_left', exists_eq_left, exists_and_left, V.int.injEq, V.bl.injEq, V.ref.injEq, V.str.injEq, List.cons.injEq, and_true, true_and, Bool.true_eq, List.nil_append, List.append_nil, List.cons_append, exists_eq', and_self, reduceCtorEq, false_or, or_false, false_and, exists_false, exists_const, and_assoc, if_true, Bool.false_eq_true, if_false, Nat.reduceAdd, Nat.reduceLeDiff, Nat.zero_add, Nat.le_refl, forall_const, st_L_q, rU, hn, decide_false, if_false, Bool.false_eq_true]
    · rintro σ' H' ⟨rfl, rfl⟩
      have l2 := HwM.log2_lt (k := 9000) (by decide) (Nat.lt_of_le_of_lt (HwM.gcd_le (t := t) hb) hb2)
      simp only [tVar, rIxTH, rIxLH, gTupH, line_le, HO.tup.injEq, HO.lst.injEq, List.length_cons, List.length_nil, at0, at1, rU, tOst, tTest, rIxL, rIxT, C8.tCut, cxOf_K, tC, tOp, tUn, tSeq, tAsg, tNext, tRet, tRetN, tDrop, tIfS, tNever, gName, gNil, gCons, gTup, gSub, tPar, rI, rI0, rU, rEq, rNe, tB, tAnd, tOr, tNot, tAndV, tOrV, tNotV, tIf, tTup, tLst, tNil, tCons, tCB, tCall, tMeth, tMake, tFld, sFld, tDGet, sDPut, tDisp, tPairs, tBreak, tCont, scal_ii, scal_bb, scal_ss, List.getElem?_cons_zero, List.getElem?_cons_succ, List.set_cons_zero, List.set_cons_succ, Option.some.injEq, exists_eq_left', exists_eq_left, exists_and_left, V.int.injEq, V.bl.injEq, V.ref.injEq, V.str.injEq, List.cons.injEq, and_true, true_and, Bool.true_eq, List.nil_append, List.append_nil, List.cons_append, exists_eq', and_self, reduceCtorEq, false_or, or_false, false_and, exists_false, exists_const, and_assoc, if_true, Bool.false_eq_true, if_false, Nat.reduceAdd, Nat.reduceLeDiff, Nat.zero_add, Nat.le_refl, forall_const, st_L_q, CDivX]
      refine ⟨HwM.gcd_ne hb, l2, HwM.gcd_ne hb, l2, fun p hp => ?_⟩
      have z := k p hp
      unfold qv at z
      rw [HwM.num_fdiv hb, HwM.den_fdiv hb]
      exact z
def spQ2 (g : Rat → Rat → Rat) : Sp := fun vs H Q _ => ∃ (a b : Addr) (q r : Rat), vs = [.ref a, .ref b] ∧ H a = some (.tup (qv q)) ∧ H b = some (.tup (qv r)) ∧ HwM.Bd 4000 q ∧ HwM.Bd 4000 r ∧ ∀ p, H p = none → Q (.ref p) (upd H p (.tup (qv (g q r))))
/-- whether the object is just this fraction -/
def spIsR (C : Addr) : Sp := fun vs H Q _ => ∃ (x : V) (b : Addr) (q r : Rat), vs = [x, .ref b] ∧ IsR C H x q ∧ H b = some (.tup (qv r)) ∧ ∀ H', Same H H' → Q (.bl (decide (q = r))) H'


end HwL
end

section
namespace HwL
open PySem PySem.Spec PyProof.Rows L2 LamX HwT
variable {P : Program} {w : World} {K : PySem.W.Frag} {mg : Str → Option Value} {base : Heap}

abbrev s_BadTextD_initD : Stmt := inClass (top 4) 0
abbrev N_BadTextD_initD : List Str := ["self", "line", "column"]
theorem sc_BadTextD_initD : FnScope N_BadTextD_initD ["self", "line", "column"] (defScope s_BadTextD_initD) := ⟨rfl, rfl, rfl, by decide +kernel, rfl, by decide +kernel, by decide +kernel⟩
theorem st_BadTextD_initD {v0 v1 v2 : V} : L2.start N_BadTextD_initD [v0, v1, v2] = [some v0, some v1, some v2] := rfl
theorem ok_BadTextD_initD {f : Addr} {fd : FuncData} (F : FD K s_BadTextD_initD "__init__" "BadText.__init__" f fd) {C_BadText : Addr} (TX : OexC K C_BadText) (n1 : PySem.W.findIn K (.ref C_BadText) "line" = some none) (n2 : PySem.W.findIn K (.ref C_BadText) "column" = some none) : FnOk P w K mg base (L2.CX P w) 1 f fd ["self", "line", "column"] (spX2 C_BadText "line" "column") := by
  have nd := sc_BadTextD_initD.nd
  refine F.ok0 sc_BadTextD_initD (fun vs H Q E h => ?_) (fun cdv A outer s H vs Q E hr h => ?_)
  · obtain ⟨a, x, y, rfl, _⟩ := h
    rfl
  · obtain ⟨a, x, y, rfl, ha, k⟩ := h
    refine ⟨_, (pss_cons (ps_ost (pv 0) (pv 1))
        (pss_one (ps_ost (pv 0) (pv 2)))), ?_⟩
    simp only [tVar, rIxTH, rIxLH, gTupH, line_le, HO.tup.injEq, HO.lst.injEq, List.length_cons, List.length_nil, at0, at1, rU, tOst, tTest, rIxL, rIxT, C8.tCut, cxOf_K, tC, tOp, tUn, tSeq, tAsg, tNext, tRet, tRetN, tDrop, tIfS, tNever, gName, gNil, gCons, gTup, gSub, tPar, rI, rI0, rU, rEq, rNe, tB, tAnd, tOr, tNot, tAndV, tOrV, tNotV, tIf, tTup, tLst, tNil, tCons, tCB, tCall, tMeth, tMake, tFld, sFld, tDGet, sDPut, tDisp, tPairs, tBreak, tCont, scal_ii, scal_bb, scal_ss, List.getElem?_cons_zero, List.getElem?_cons_succ, List.set_cons_zero, List.set_cons_succ, Option.some.injEq, exists_eq_left', exists_eq_left, exists_and_left, V.int.injEq, V.bl.injEq, V.ref.injEq, V.str.injEq, List.cons.injEq, and_true, true_and, Bool.true_eq, List.nil_append, List.append_nil, List.cons_append, exists_eq', and_self, reduceCtorEq, false_or, or_false, false_and, exists_false, exists_const, and_assoc, if_true, Bool.false_eq_true, if_false, Nat.reduceAdd, Nat.reduceLeDiff, Nat.zero_add, Nat.le_refl, forall_const, st_BadTextD_initD]
    refine ⟨C_BadText, TX, n1, .inl ⟨ha, fun d hd hda => ?_⟩⟩
    refine ⟨C_BadText, TX, n2, .inr ⟨d, upd_same, [("line", x)], by rw [upd_ne hda, upd_same], by show 1 ≤ 900; decide, ?_⟩⟩
    exact k d hd hda
theorem le_line {x : Str} (h : x.length ≤ 600) : x.length ≤ sizeLine := line_le (by omega)
theorem isD_mem (c : Nat) : decide (c ∈ ("0123456789" : Str).cps.toList) = isD c := by
  have e : ("0123456789" : Str).cps.toList = [48, 49, 50, 51, 52, 53, 54, 55, 56, 57] := by decide +kernel
  rw [e]
  unfold isD
  rw [Bool.eq_iff_iff]
  simp
  omega
theorem sing_eq (c d : Nat) : decide ((V.str ⟨#[c]⟩ : V) = V.str ⟨#[d]⟩) = decide (c = d) := by
  refine decide_eq_decide.mpr ⟨fun h => ?_, fun h => by rw [h]⟩
  injection h with h
  injection h with h
  simpa using h
theorem singS (c d : Nat) : decide ((⟨#[c]⟩ : Str) = ⟨#[d]⟩) = decide (c = d) := by
  refine decide_eq_decide.mpr ⟨fun h => ?_, fun h => by rw [h]⟩
  injection h with h
  simpa using h
theorem s_slash : ("/" : Str) = ⟨#[47]⟩ := by decide +kernel
theorem s_zero : ("0" : Str) = ⟨#[48]⟩ := by decide +kernel
theorem s_minus : ("-" : Str) = ⟨#[45]⟩ := by decide +kernel
theorem we_done {l : List Nat} {k a : Nat} (z : l[k]? = some 48 → a = k) (e : a + run (l.drop a) = k + run (l.drop k)) (h : run (l.drop a) = 0) : we l k = a := by
  unfold we
  by_cases hk : l[k]? = some 48
  · rw [if_pos hk, z hk]
  · rw [if_neg hk]; omega
def spWe : Sp := fun vs H Q _ => ∃ (x : Str) (k : Nat), vs = [.str x, .int (k : Int)] ∧ k ≤ x.length ∧ x.length ≤ 600 ∧ Q (.int (we x.cps.toList k : Nat)) H
abbrev s_whole_end : Stmt := top 18
abbrev N_whole_end : List Str := ["text", "start", "at"]
theorem sc_whole_end : FnScope N_whole_end ["text", "start"] (defScope s_whole_end) := ⟨rfl, rfl, rfl, by decide +kernel, rfl, by decide +kernel, by decide +kernel⟩
theorem st_whole_end {v0 v1 : V} : L2.start N_whole_end [v0, v1] = [some v0, some v1, none] := rfl
theorem ok_whole_end {f : Addr} {fd : FuncData} (F : FD K s_whole_end "whole_end" "whole_end" f fd) (z_len : mg "len" = none) {t_DIGITS : Tok} (k_DIGITS : mg "DIGITS" = some (.str "0123456789" t_DIGITS)) : FnOk P w K mg base (L2.CX P w) 1 f fd ["text", "start"] (spWe) := by
  have nd := sc_whole_end.nd
  refine F.ok0 sc_whole_end (fun vs H Q E h => ?_) (fun cdv A outer s H vs Q E hr h => ?_)
  · obtain ⟨x, k, rfl, _⟩ := h
    rfl
  · obtain ⟨x, k, rfl, hk, hx, q⟩ := h
    refine ⟨_, (pss_cons (ps_set (i := 2) nd rfl (Or.inl rfl) (pv 1))
        (pss_cons (ps_while PassesOwn.never (PW.pt (pw_and (pt_cmpR op_lt (pv 2) (pe_callB call_len_str (by rfl) z_len (by decide +kernel) (pa_cons (pv 0) pa_nil)) (nomark _)) (pw_and1 (pt_cmpR op_in_sign (pe_ix ix_str (pv 0) (pv 2) (fun _ _ => rfl)) (pe_glob (v := .str "0123456789") rfl k_DIGITS ⟨_, rfl⟩) (by rfl))))) (pss_cons (ps_if (pt_cmpR op_eq (pe_ix ix_str (pv 0) (pv 1) (fun _ _ => rfl)) pe_str (nomark _)) (pss_one (ps_ret (pv 1))) pss_nil)
        (pss_one (ps_aug (i := 2) nd rfl (Or.inl rfl) pe_int ip_add))))
        (pss_one (ps_ret (pv 2))))), ?_⟩
    simp only [tVar, rIxTH, rIxLH, gTupH, line_le, HO.tup.injEq, HO.lst.injEq, List.length_cons, List.length_nil, at0, at1, rU, tOst, tTest, rIxL, rIxT, C8.tCut, cxOf_K, tC, tOp, tUn, tSeq, tAsg, tNext, tRet, tRetN, tDrop, tIfS, tNever, gName, gNil, gCons, gTup, gSub, tPar, rI, rI0, rU, rEq, rNe, tB, tAnd, tOr, tNot, tAndV, tOrV, tNotV, tIf, tTup, tLst, tNil, tCons, tCB, tCall, tMeth, tMake, tFld, sFld, tDGet, sDPut, tDisp, tPairs, tBreak, tCont, scal_ii, scal_bb, scal_ss, List.getElem?_cons_zero, List.getElem?_cons_succ, List.set_cons_zero, List.set_cons_succ, Option.some.injEq, exists_eq_left', exists_eq_left, exists_and_left, V.int.injEq, V.bl.injEq, V.ref.injEq, V.str.injEq, List.cons.injEq, and_true, true_and, Bool.true_eq, List.nil_append, List.append_nil, List.cons_append, exists_eq', and_self, reduceCtorEq, false_or, or_false, false_and, exists_false, exists_const, and_assoc, if_true, Bool.false_eq_true, if_false, Nat.reduceAdd, Nat.reduceLeDiff, Nat.zero_add, Nat.le_refl, forall_const, st_whole_end]
    refine ⟨fun m σ' H' => H' = H ∧ ∃ a : Nat, σ' = [some (.str x), some (.int (k : Int)), some (.int (a : Int))] ∧ m = x.length - a ∧ k ≤ a ∧ a ≤ x.length ∧ (x.cps.toList[k]? = some 48 → a = k) ∧ a + run (x.cps.toList.drop a) = k + run (x.cps.toList.drop k), ⟨_, rfl, k, rfl, rfl, Nat.le_refl _, hk, fun _ => rfl, rfl⟩, ?_⟩
    rintro m σ' H' ⟨rfl, a, rfl, rfl, ka, ax, z, e⟩
    simp only [tVar, rIxTH, rIxLH, gTupH, line_le, HO.tup.injEq, HO.lst.injEq, List.length_cons, List.length_nil, at0, at1, rU, tOst, tTest, rIxL, rIxT, C8.tCut, cxOf_K, tC, tOp, tUn, tSeq, tAsg, tNext, tRet, tRetN, tDrop, tIfS, tNever, gName, gNil, gCons, gTup, gSub, tPar, rI, rI0, rU, rEq, rNe, tB, tAnd, tOr, tNot, tAndV, tOrV, tNotV, tIf, tTup, tLst, tNil, tCons, tCB, tCall, tMeth, tMake, tFld, sFld, tDGet, sDPut, tDisp, tPairs, tBreak, tCont, scal_ii, scal_bb, scal_ss, List.getElem?_cons_zero, List.getElem?_cons_succ, List.set_cons_zero, List.set_cons_succ, Option.some.injEq, exists_eq_left', exists_eq_left, exists_and_left, V.int.injEq, V.bl.injEq, V.ref.injEq, V.str.injEq, List.cons.injEq, and_true, true_and, Bool.true_eq, List.nil_append, List.append_nil, List.cons_append, exists_eq', and_self, reduceCtorEq, false_or, or_false, false_and, exists_false, exists_const, and_assoc, if_true, Bool.false_eq_true, if_false, Nat.reduceAdd, Nat.reduceLeDiff, Nat.zero_add, Nat.le_refl, forall_const, st_whole_end, rIxS, tAug, ipI]
    refine ⟨le_line hx, ?_⟩
    have stop : run (x.cps.toList.drop a) = 0 → Q (.int (a : Int)) H' := fun h => by rw [← we_done z e h]; exact q
    by_cases lt : a < x.length
    · obtain ⟨c, hc⟩ : ∃ c, x.cps.toList[a]? = some c := ⟨_, List.getElem?_eq_getElem (by rw [← HwT.len_list]; exact lt)⟩
      rw [if_pos (decide_eq_true (by omega))]
      refine ⟨le_line hx, c, atI_nat hc, c, rfl, ?_⟩
      rw [isD_mem]
      cases hd : isD c with
      | true =>
        refine iteT ⟨fun σ' H2 => ∃ m', m' < x.length - a ∧ H2 = H' ∧ ∃ a : Nat, σ' = [some (V.str x), some (V.int (k : Int)), some (V.int (a : Int))] ∧ m' = x.length - a ∧ k ≤ a ∧ a ≤ x.length ∧ (x.cps.toList[k]? = some 48 → a = k) ∧ a + run (x.cps.toList.drop a) = k + run (x.cps.toList.drop k), fun _ _ z => z, ?_⟩
        obtain ⟨ck, hck⟩ : ∃ c, x.cps.toList[k]? = some c := ⟨_, List.getElem?_eq_getElem (by rw [← HwT.len_list]; omega)⟩
        refine ⟨le_line hx, ck, atI_nat hck, ?_⟩
        rw [s_zero, singS]
        refine ite2 (fun h0 => ?_) (fun h0 => ?_)
        · have h0 : ck = 48 := by simpa using h0
          unfold we at q
          rw [if_pos (by rw [hck, h0])] at q
          exact q
        · have h0 : ck ≠ 48 := by simpa using h0
          have st := run_step hc hd
          have fin : ∃ m', m' < x.length - a ∧ H' = H' ∧ ∃ a' : Nat, [some (V.str x), some (V.int (k : Int)), some (V.int ((a : Int) + 1))] = [some (V.str x), some (V.int (k : Int)), some (V.int (a' : Int))] ∧ m' = x.length - a' ∧ k ≤ a' ∧ a' ≤ x.length ∧ (x.cps.toList[k]? = some 48 → a' = k) ∧ a' + run (x.cps.toList.drop a') = k + run (x.cps.toList.drop k) :=
            ⟨_, show x.length - (a + 1) < _ by omega, rfl, a + 1, rfl, rfl, by omega, by omega, fun h => by rw [hck] at h; cases h; exact absurd rfl h0, by omega⟩
          exact fin
      | false => exact iteF (stop (run_stop fun d h => by rw [hc] at h; cases h; exact hd))
    · rw [if_neg (by simpa using (show ¬ ((a : Int) < (x.length : Int)) by omega))]
      refine stop (run_stop fun d h => ?_)
      rw [List.getElem?_eq_none (by rw [← HwT.len_list]; omega)] at h
      cases h
def spCol : Sp := fun vs H Q _ => ∃ x : Str, vs = [.str x] ∧ x.length ≤ 600 ∧ Q (.int (col x.cps.toList : Nat)) H
abbrev s_wrong_column : Stmt := top 17
abbrev N_wrong_column : List Str := ["text", "start", "slash", "end"]
theorem sc_wrong_column : FnScope N_wrong_column ["text"] (defScope s_wrong_column) := ⟨rfl, rfl, rfl, by decide +kernel, rfl, by decide +kernel, by decide +kernel⟩
theorem st_wrong_column {v0 : V} : L2.start N_wrong_column [v0] = [some v0, none, none, none] := rfl
theorem ok_wrong_column {f : Addr} {fd : FuncData} (F : FD K s_wrong_column "wrong_column" "wrong_column" f fd) (z_len : mg "len" = none) (g_whole_end : Gf P w K mg base "whole_end" 1 ["text", "start"] (spWe)) : FnOk P w K mg base (L2.CX P w) 2 f fd ["text"] (spCol) := by
  have nd := sc_wrong_column.nd
  refine F.ok0 sc_wrong_column (fun vs H Q E h => ?_) (fun cdv A outer s H vs Q E hr h => ?_)
  · obtain ⟨x, rfl, _⟩ := h
    rfl
  · obtain ⟨x, rfl, hx, q⟩ := h
    refine ⟨_, (pss_cons (ps_if (pt_val (pe_m1 PySem.F.slot_str_startswith PySem.F.type_str_startswith mt_startswith (pv 0) pe_str)) (pss_one (ps_ret (pe_ifExp (pt_cmpR op_eq (pv 0) pe_str (nomark _)) pe_int pe_int))) pss_nil)
        (C8.pss_cut (ps_set (i := 1) nd rfl (Or.inl rfl) (pe_ifExp (pt_val (pe_m1 PySem.F.slot_str_startswith PySem.F.type_str_startswith mt_startswith (pv 0) pe_str)) pe_int pe_int))
        (pss_cons (ps_set (i := 2) nd rfl (Or.inl rfl) (pe_g g_whole_end hr (by decide) passL rfl (pa_cons (pv 0) (pa_cons (pv 1) pa_nil))))
        (pss_cons (ps_if (pt_cmpR op_eq (pv 2) (pv 1) (nomark _)) (pss_one (ps_ret (pe_op op_add (pv 1) pe_int))) pss_nil)
        (pss_cons (ps_if (pt_cmpR op_eq (pv 2) (pe_callB call_len_str (by rfl) z_len (by decide +kernel) (pa_cons (pv 0) pa_nil)) (nomark _)) (pss_one (ps_ret pe_int)) pss_nil)
        (pss_cons (ps_if (pt_cmpR op_ne (pe_ix ix_str (pv 0) (pv 2) (fun _ _ => rfl)) pe_str (nomark _)) (pss_one (ps_ret (pe_op op_add (pv 2) pe_int))) pss_nil)
        (pss_cons (ps_set (i := 3) nd rfl (Or.inl rfl) (pe_g g_whole_end hr (by decide) passL rfl (pa_cons (pv 0) (pa_cons (pe_op op_add (pv 2) pe_int) pa_nil))))
        (pss_cons (ps_if (PW.pt (pw_or (pt_cmpR op_eq (pv 3) (pe_op op_add (pv 2) pe_int) (nomark _)) (pw_or1 (pt_cmpR op_lt (pv 3) (pe_callB call_len_str (by rfl) z_len (by decide +kernel) (pa_cons (pv 0) pa_nil)) (nomark _))))) (pss_one (ps_ret (pe_op op_add (pv 3) pe_int))) pss_nil)
        (pss_one (ps_ret pe_int)))))))))), ?_⟩
    simp only [tVar, rIxTH, rIxLH, gTupH, line_le, HO.tup.injEq, HO.lst.injEq, List.length_cons, List.length_nil, at0, at1, rU, tOst, tTest, rIxL, rIxT, C8.tCut, cxOf_K, tC, tOp, tUn, tSeq, tAsg, tNext, tRet, tRetN, tDrop, tIfS, tNever, gName, gNil, gCons, gTup, gSub, tPar, rI, rI0, rU, rEq, rNe, tB, tAnd, tOr, tNot, tAndV, tOrV, tNotV, tIf, tTup, tLst, tNil, tCons, tCB, tCall, tMeth, tMake, tFld, sFld, tDGet, sDPut, tDisp, tPairs, tBreak, tCont, scal_ii, scal_bb, scal_ss, List.getElem?_cons_zero, List.getElem?_cons_succ, List.set_cons_zero, List.set_cons_succ, Option.some.injEq, exists_eq_left', exists_eq_left, exists_and_left, V.int.injEq, V.bl.injEq, V.ref.injEq, V.str.injEq, List.cons.injEq, and_true, true_and, Bool.true_eq, List.nil_append, List.append_nil, List.cons_append, exists_eq', and_self, reduceCtorEq, false_or, or_false, false_and, exists_false, exists_const, and_assoc, if_true, Bool.false_eq_true, if_false, Nat.reduceAdd, Nat.reduceLeDiff, Nat.zero_add, Nat.le_refl, forall_const, st_wrong_column, tM1]
    rw [s_zero, starts1]
    unfold col at q
    refine ite2 (fun h0 => ?_) (fun h0 => ?_)
    · have h0 : x.cps.toList[0]? = some 48 := by simpa using h0
      rw [if_pos h0] at q
      refine ite2 (fun h1 => ?_) (fun h1 => ?_)
      · have h1 : x = ⟨#[48]⟩ := by simpa using h1
        rw [if_pos (by rw [h1])] at q
        exact q
      · have h1 : ¬ x = ⟨#[48]⟩ := by simpa using h1
        rw [if_neg (fun z => h1 (by rw [← tx_of x, z]; rfl))] at q
        exact q
    · have h0 : ¬ x.cps.toList[0]? = some 48 := by simpa using h0
      rw [if_neg h0] at q
      refine ⟨fun σ' H' => H' = H ∧ ∃ k : Nat, σ' = [some (.str x), some (.int (k : Int)), none, none] ∧ k ≤ x.length ∧ Q (.int (colAt x.cps.toList k : Nat)) H, ?_, ?_⟩
      · rw [s_minus, starts1]
        refine ite2 (fun h1 => ?_) (fun h1 => ?_)
        · have h1 : x.cps.toList[0]? = some 45 := by simpa using h1
          rw [if_pos h1] at q
          exact ⟨rfl, 1, rfl, by rw [HwT.len_list]; exact (List.getElem?_eq_some_iff.mp h1).1, q⟩
        · have h1 : ¬ x.cps.toList[0]? = some 45 := by simpa using h1
          rw [if_neg h1] at q
          exact ⟨rfl, 0, rfl, Nat.zero_le _, q⟩
      · rintro σ' H' ⟨rfl, k, rfl, hk, q⟩
        simp only [tVar, rIxTH, rIxLH, gTupH, line_le, HO.tup.injEq, HO.lst.injEq, List.length_cons, List.length_nil, at0, at1, rU, tOst, tTest, rIxL, rIxT, C8.tCut, cxOf_K, tC, tOp, tUn, tSeq, tAsg, tNext, tRet, tRetN, tDrop, tIfS, tNever, gName, gNil, gCons, gTup, gSub, tPar, rI, rI0, rU, rEq, rNe, tB, tAnd, tOr, tNot, tAndV, tOrV, tNotV, tIf, tTup, tLst, tNil, tCons, tCB, tCall, tMeth, tMake, tFld, sFld, tDGet, sDPut, tDisp, tPairs, tBreak, tCont, scal_ii, scal_bb, scal_ss, List.getElem?_cons_zero, List.getElem?_cons_succ, List.set_cons_zero, List.set_cons_succ, Option.some.injEq, exists_eq_left', exists_eq_left, exists_and_left, V.int.injEq, V.bl.injEq, V.ref.injEq, V.str.injEq, List.cons.injEq, and_true, true_and, Bool.true_eq, List.nil_append, List.append_nil, List.cons_append, exists_eq', and_self, reduceCtorEq, false_or, or_false, false_and, exists_false, exists_const, and_assoc, if_true, Bool.false_eq_true, if_false, Nat.reduceAdd, Nat.reduceLeDiff, Nat.zero_add, Nat.le_refl, forall_const, st_wrong_column, rIxS]
        refine ⟨x, k, rfl, hk, hx, ?_⟩
        unfold colAt at q
        simp only [tVar, rIxTH, rIxLH, gTupH, line_le, HO.tup.injEq, HO.lst.injEq, List.length_cons, List.length_nil, at0, at1, rU, tOst, tTest, rIxL, rIxT, C8.tCut, cxOf_K, tC, tOp, tUn, tSeq, tAsg, tNext, tRet, tRetN, tDrop, tIfS, tNever, gName, gNil, gCons, gTup, gSub, tPar, rI, rI0, rU, rEq, rNe, tB, tAnd, tOr, tNot, tAndV, tOrV, tNotV, tIf, tTup, tLst, tNil, tCons, tCB, tCall, tMeth, tMake, tFld, sFld, tDGet, sDPut, tDisp, tPairs, tBreak, tCont, scal_ii, scal_bb, scal_ss, List.getElem?_cons_zero, List.getElem?_cons_succ, List.set_cons_zero, List.set_cons_succ, Option.some.injEq, exists_eq_left', exists_eq_left, exists_and_left, V.int.injEq, V.bl.injEq, V.ref.injEq, V.str.injEq, List.cons.injEq, and_true, true_and, Bool.true_eq, List.nil_append, List.append_nil, List.cons_append, exists_eq', and_self, reduceCtorEq, false_or, or_false, false_and, exists_false, exists_const, and_assoc, if_true, Bool.false_eq_true, if_false, Nat.reduceAdd, Nat.reduceLeDiff, Nat.zero_add, Nat.le_refl, forall_const, st_wrong_column]
        refine ite2 (fun h1 => ?_) (fun h1 => ?_)
        · have h1 : we x.cps.toList k = k := by have := of_decide_eq_true h1; omega
          rw [if_pos h1] at q
          exact q
        have h1 : we x.cps.toList k ≠ k := fun z => h1 (decide_eq_true (by omega))
        rw [if_neg h1] at q
        obtain ⟨w1, w2⟩ := we_zero h1
        have wl := run_le x.cps.toList k (by rw [← HwT.len_list]; exact hk)
        refine ⟨le_line hx, ite2 (fun h2 => ?_) (fun h2 => ?_)⟩
        · have h2 : we x.cps.toList k = x.cps.toList.length := by have := of_decide_eq_true h2; rw [← HwT.len_list]; omega
          rw [if_pos h2] at q
          exact q
        have h2 : we x.cps.toList k ≠ x.cps.toList.length := fun z => h2 (decide_eq_true (by rw [HwT.len_list]; omega))
        rw [if_neg h2] at q
        obtain ⟨c, hc⟩ : ∃ c, x.cps.toList[we x.cps.toList k]? = some c := ⟨_, List.getElem?_eq_getElem (by omega)⟩
        refine ⟨le_line hx, c, atI_nat hc, ?_⟩
        rw [s_slash, singS]
        rw [hc] at q
        refine ite2 (fun h3 => ?_) (fun h3 => ?_)
        · have h3 : c ≠ 47 := by simpa using h3
          rw [if_pos (by simpa using h3)] at q
          exact q
        have h3 : c = 47 := by simpa using h3
        rw [if_neg (by simp [h3])] at q
        refine ⟨x, we x.cps.toList k + 1, rfl, by rw [HwT.len_list]; omega, hx, ?_⟩
        simp only [tVar, rIxTH, rIxLH, gTupH, line_le, HO.tup.injEq, HO.lst.injEq, List.length_cons, List.length_nil, at0, at1, rU, tOst, tTest, rIxL, rIxT, C8.tCut, cxOf_K, tC, tOp, tUn, tSeq, tAsg, tNext, tRet, tRetN, tDrop, tIfS, tNever, gName, gNil, gCons, gTup, gSub, tPar, rI, rI0, rU, rEq, rNe, tB, tAnd, tOr, tNot, tAndV, tOrV, tNotV, tIf, tTup, tLst, tNil, tCons, tCB, tCall, tMeth, tMake, tFld, sFld, tDGet, sDPut, tDisp, tPairs, tBreak, tCont, scal_ii, scal_bb, scal_ss, List.getElem?_cons_zero, List.getElem?_cons_succ, List.set_cons_zero, List.set_cons_succ, Option.some.injEq, exists_eq_left', exists_eq_left, exists_and_left, V.int.injEq, V.bl.injEq, V.ref.injEq, V.str.injEq, List.cons.injEq, and_true, true_and, Bool.true_eq, List.nil_append, List.append_nil, List.cons_append, exists_eq', and_self, reduceCtorEq, false_or, or_false, false_and, exists_false, exists_const, and_assoc, if_true, Bool.false_eq_true, if_false, Nat.reduceAdd, Nat.reduceLeDiff, Nat.zero_add, Nat.le_refl, forall_const, st_wrong_column]
        refine ite2 (fun h4 => ?_) (fun h4 => ?_)
        · have h4 : we x.cps.toList (we x.cps.toList k + 1) = we x.cps.toList k + 1 := by have := of_decide_eq_true h4; omega
          rw [if_pos (.inl h4)] at q
          rw [h4] at q ⊢
          exact q
        have h4 : ¬ we x.cps.toList (we x.cps.toList k + 1) = we x.cps.toList k + 1 := fun z => h4 (decide_eq_true (by omega))
        refine ⟨le_line hx, ite2 (fun h5 => ?_) (fun h5 => ?_)⟩
        · have h5 : we x.cps.toList (we x.cps.toList k + 1) < x.cps.toList.length := by have := of_decide_eq_true h5; rw [← HwT.len_list]; omega
          rw [if_pos (.inr h5)] at q
          exact q
        · have h5 : ¬ we x.cps.toList (we x.cps.toList k + 1) < x.cps.toList.length := fun z => h5 (decide_eq_true (by rw [HwT.len_list]; omega))
          rw [if_neg (fun z => z.elim h4 h5)] at q
          exact q


end HwL
end

section
namespace HwL
open PySem PySem.Spec PyProof.Rows L2 LamX HwT
variable {P : Program} {w : World} {K : PySem.W.Frag} {mg : Str → Option Value} {base : Heap}

/-- what is wished where a text is wrong at column c -/
def BadCol (CT : Addr) (H : Hp) (E : XK) (c : Int) : Prop := ∀ H' d, Same H H' → H' d = some (.xd [("column", .int c), ("line", .int 1)]) → E (.ref CT) (some d) H'
/-- an object with this top and bottom -/
def IsTB (C : Addr) (H : Hp) (y : V) (t n : Int) : Prop := ∃ a dx, y = .ref a ∧ H a = some (.ins C dx [("top", .int t), ("bottom", .int n)])
theorem IsR.tb {C : Addr} {H : Hp} {y : V} {t n : Int} (h : IsR C H y (Rat.divInt t n)) (hn : 0 < n) (hg : Nat.gcd t.natAbs n.natAbs = 1) : IsTB C H y t n := by
  obtain ⟨a, dx, rfl, ha⟩ := h
  have e1 := HwM.num_fdiv (t := t) (b := n) (by omega)
  have e2 := HwM.den_fdiv (t := t) (b := n) (by omega)
  rw [if_neg (by omega), hg] at e1 e2
  have f1 : t.fdiv ((1 : Nat) : Int) = t := by simp
  have f2 : n.fdiv ((1 : Nat) : Int) = n := by simp
  rw [f1] at e1
  rw [f2] at e2
  refine ⟨a, dx, rfl, ?_⟩
  rw [ha]
  unfold ratF
  rw [← e1, ← e2]
def spRd (K : PySem.W.Frag) (C CT : Addr) : Sp := fun vs H Q E => ∃ v, vs = [v] ∧ ((∃ x : Str, v = .str x ∧ x.length ≤ 600 ∧ (∀ c, ans x.cps.toList = .inl c → BadCol CT H E c) ∧ (∀ t n, ans x.cps.toList = .inr (t, n) → ∀ H' y, Same H H' → IsTB C H' y t n → Q y H')) ∨
  (∃ t, TyX K H v t ∧ PySem.W.kitOne K t (.type "str") = some false ∧ BadCol CT H E 1))
theorem bad_made {CT : Addr} {H1 H : Hp} {E : XK} {c : Int} (hb : BadCol CT H E c) (e : Same H H1) (a : Addr) (ha : H1 a = none) :
    spX2 CT "line" "column" [.ref a, .int 1, .int c] (upd H1 a (exo a CT none)) (fun v H2 => v = .non ∧ ∃ (d : Addr), H2 a = some (exo a CT (some d)) ∧ ∃ (fs : List (Str × V)), H2 d = some (exd d fs) ∧ H1 d = none ∧ E (.ref CT) (some d) (upd (del H2 a) d (.xd fs))) (fun _ _ _ => False) :=
  ⟨a, _, _, rfl, upd_same, fun d hd hda => ⟨rfl, x2_made ha (by rw [upd_ne hda] at hd; exact hd) hda fun H2 e1 e2 => hb H2 d (e.trans e1) e2⟩⟩
abbrev s_ratio_of : Stmt := top 16
abbrev N_ratio_of : List Str := ["text", "column", "top", "_", "bottom", "digits"]
theorem sc_ratio_of : FnScope N_ratio_of ["text"] (defScope s_ratio_of) := ⟨rfl, rfl, rfl, by decide +kernel, rfl, by decide +kernel, by decide +kernel⟩
theorem st_ratio_of {v0 : V} : L2.start N_ratio_of [v0] = [some v0, none, none, none, none, none] := rfl
theorem ok_ratio_of {f : Addr} {fd : FuncData} (F : FD K s_ratio_of "ratio_of" "ratio_of" f fd) {C_Ratio C_BadText C_BadNumber : Addr} (R : RatC K C_Ratio) (z_int : mg "int" = none) (z_len : mg "len" = none) (z_max : mg "max" = none) (z_isinstance : mg "isinstance" = none) (z_str : mg "str" = none) (m_gcd : mg "gcd" = some (.builtin "math.gcd")) {t_MOST_DIGITS : Tok} (k_MOST_DIGITS : mg "MOST_DIGITS" = some (.int 4000 t_MOST_DIGITS)) (g_Ratio : Kf P w K mg base "Ratio" C_Ratio 3 ["self", "top", "bottom"] [] (spInit C_Ratio C_BadNumber)) (g_BadText : Xf P w K mg base "BadText" C_BadText 1 (spX2 C_BadText "line" "column")) (g_Ratio1 : Kf P w K mg base "Ratio" C_Ratio 3 ["self", "top", "bottom"] [.int 1] (spInit C_Ratio C_BadNumber)) (g_wrong_column : Gf P w K mg base "wrong_column" 2 ["text"] (spCol)) : FnOk P w K mg base (L2.CX P w) 5 f fd ["text"] (spRd K C_Ratio C_BadText) := by
  have nd := sc_ratio_of.nd
  refine F.okX sc_ratio_of (fun vs H Q E h => ?_) (fun cdv A outer s H vs Q E hr h => ?_)
  · obtain ⟨v, rfl, _⟩ := h
    rfl
  · obtain ⟨v, rfl, h⟩ := h
    refine ⟨_, (pss_cons (ps_if (pt_not (pt_val (pe_callB (id := "isinstance") (r := rIsi K) (call_isiE rfl) (by rfl) z_isinstance (by decide +kernel) (pa_cons (pv 0) (pa_cons (pe_bltn (v := .ty "str") rfl z_str (by decide +kernel) rfl) pa_nil))))) (pss_one (ps_raiseX g_BadText hr (by decide) rfl (takes_of rfl rfl rfl rfl) rfl (pa_cons pe_int (pa_cons pe_int pa_nil)))) pss_nil)
        (pss_cons (ps_set (i := 1) nd rfl (Or.inl rfl) (pe_g g_wrong_column hr (by decide) passL rfl (pa_cons (pv 0) pa_nil)))
        (C8.pss_cut (ps_if (pt_cmpR op_gt (pv 1) pe_int (nomark _)) (pss_one (ps_raiseX g_BadText hr (by decide) rfl (takes_of rfl rfl rfl rfl) rfl (pa_cons pe_int (pa_cons (pv 1) pa_nil)))) pss_nil)
        (C8.pss_cut (ps_asg (pe_partition (pv 0) pe_str) (pg_tupH rfl (pgs_cons (pg_name (i := 2) nd rfl (Or.inl rfl)) (pgs_cons (pg_name (i := 3) nd rfl (Or.inl rfl)) (pgs_cons (pg_name (i := 4) nd rfl (Or.inl rfl)) pgs_nil)))))
        (C8.pss_cut (ps_set (i := 5) nd rfl (Or.inl rfl) (pe_callB (call_max2 rfl) (by rfl) z_max (by decide +kernel) (pa_cons (pe_callB call_len_str (by rfl) z_len (by decide +kernel) (pa_cons (pe_m1 PySem.F.slot_str_lstrip PySem.F.type_str_lstrip mt_lstripChars (pv 2) pe_str) pa_nil)) (pa_cons (pe_callB call_len_str (by rfl) z_len (by decide +kernel) (pa_cons (pv 4) pa_nil)) pa_nil))))
        (C8.pss_cut (ps_if (pt_cmpR op_gt (pv 5) (pe_glob (v := .int 4000) rfl k_MOST_DIGITS ⟨_, rfl⟩) (nomark _)) (pss_one (ps_never)) pss_nil)
        (pss_cons (ps_if (pt_cmpR op_eq (pv 4) pe_str (nomark _)) (pss_one (ps_ret (pe_k g_Ratio1 hr (by decide) passL rfl (pa_cons (pe_callTy call_int_str (by rfl) z_int (by decide +kernel) (pa_cons (pv 2) pa_nil)) pa_nil)))) pss_nil)
        (pss_cons (ps_if (PW.pt (pw_or (pt_cmpR op_eq (pv 4) pe_str (nomark _)) (pw_or1 (pt_cmpR op_gt (pe_callBfun cr_gcd rfl m_gcd (pa_cons (pe_callTy call_int_str (by rfl) z_int (by decide +kernel) (pa_cons (pv 2) pa_nil)) (pa_cons (pe_callTy call_int_str (by rfl) z_int (by decide +kernel) (pa_cons (pv 4) pa_nil)) pa_nil))) pe_int (nomark _))))) (pss_one (ps_raiseX g_BadText hr (by decide) rfl (takes_of rfl rfl rfl rfl) rfl (pa_cons pe_int (pa_cons (pe_op op_add (pe_callB call_len_str (by rfl) z_len (by decide +kernel) (pa_cons (pv 2) pa_nil)) pe_int) pa_nil)))) pss_nil)
        (pss_one (ps_ret (pe_k g_Ratio hr (by decide) passL rfl (pa_cons (pe_callTy call_int_str (by rfl) z_int (by decide +kernel) (pa_cons (pv 2) pa_nil)) (pa_cons (pe_callTy call_int_str (by rfl) z_int (by decide +kernel) (pa_cons (pv 4) pa_nil)) pa_nil))))))))))))), ?_⟩
    simp only [tVar, rIxTH, rIxLH, gTupH, line_le, HO.tup.injEq, HO.lst.injEq, List.length_cons, List.length_nil, at0, at1, rU, tOst, tTest, rIxL, rIxT, C8.tCut, cxOf_K, tC, tOp, tUn, tSeq, tAsg, tNext, tRet, tRetN, tDrop, tIfS, tNever, gName, gNil, gCons, gTup, gSub, tPar, rI, rI0, rU, rEq, rNe, tB, tAnd, tOr, tNot, tAndV, tOrV, tNotV, tIf, tTup, tLst, tNil, tCons, tCB, tCall, tMeth, tMake, tFld, sFld, tDGet, sDPut, tDisp, tPairs, tBreak, tCont, scal_ii, scal_bb, scal_ss, List.getElem?_cons_zero, List.getElem?_cons_succ, List.set_cons_zero, List.set_cons_succ, Option.some.injEq, exists_eq_left', exists_eq_left, exists_and_left, V.int.injEq, V.bl.injEq, V.ref.injEq, V.str.injEq, List.cons.injEq, and_true, true_and, Bool.true_eq, List.nil_append, List.append_nil, List.cons_append, exists_eq', and_self, reduceCtorEq, false_or, or_false, false_and, exists_false, exists_const, and_assoc, if_true, Bool.false_eq_true, if_false, Nat.reduceAdd, Nat.reduceLeDiff, Nat.zero_add, Nat.le_refl, forall_const, st_ratio_of, tM1, rIsi, tMkO, rGcd]
    rcases h with ⟨x, rfl, hx, kw, kr⟩ | ⟨t, ht, hk, kb⟩
    · refine ⟨.type "str", .type "str", .ty _, .base (.str x), true, kit_ty (by decide +kernel), iteF ?_⟩
      refine ⟨x, rfl, hx, ?_⟩
      simp only [tVar, rIxTH, rIxLH, gTupH, line_le, HO.tup.injEq, HO.lst.injEq, List.length_cons, List.length_nil, at0, at1, rU, tOst, tTest, rIxL, rIxT, C8.tCut, cxOf_K, tC, tOp, tUn, tSeq, tAsg, tNext, tRet, tRetN, tDrop, tIfS, tNever, gName, gNil, gCons, gTup, gSub, tPar, rI, rI0, rU, rEq, rNe, tB, tAnd, tOr, tNot, tAndV, tOrV, tNotV, tIf, tTup, tLst, tNil, tCons, tCB, tCall, tMeth, tMake, tFld, sFld, tDGet, sDPut, tDisp, tPairs, tBreak, tCont, scal_ii, scal_bb, scal_ss, List.getElem?_cons_zero, List.getElem?_cons_succ, List.set_cons_zero, List.set_cons_succ, Option.some.injEq, exists_eq_left', exists_eq_left, exists_and_left, V.int.injEq, V.bl.injEq, V.ref.injEq, V.str.injEq, List.cons.injEq, and_true, true_and, Bool.true_eq, List.nil_append, List.append_nil, List.cons_append, exists_eq', and_self, reduceCtorEq, false_or, or_false, false_and, exists_false, exists_const, and_assoc, if_true, Bool.false_eq_true, if_false, Nat.reduceAdd, Nat.reduceLeDiff, Nat.zero_add, Nat.le_refl, forall_const, st_ratio_of]
      refine ⟨fun σ' H' => H' = H ∧ σ' = [some (.str x), some (.int 0), none, none, none, none] ∧ col x.cps.toList = 0, ?_, ?_⟩
      · refine ite2 (fun hc => ?_) (fun hc => ?_)
        · have hc : col x.cps.toList ≠ 0 := by
            have := of_decide_eq_true hc
            omega
          exact fun a ha => bad_made (kw _ (ans_wrong hc)) (Same.refl _) a ha
        · have hc : col x.cps.toList = 0 := by
            have : ¬ (0 : Int) < (col x.cps.toList : Nat) := fun z => hc (decide_eq_true z)
            omega
          exact ⟨rfl, by rw [hc]; rfl, hc⟩
      · rintro σ' H' ⟨rfl, rfl, hc⟩
        have lx : x.cps.toList.length ≤ 600 := by rw [← HwT.len_list]; exact hx
        refine ⟨fun σ' H2 => Same H' H2 ∧ ∃ (tp bt : Str) (v3 : V), σ' = [some (.str x), some (.int 0), some (.str tp), some v3, some (.str bt), none] ∧ tp.length ≤ 600 ∧ bt.length ≤ 600 ∧
          ((tp = x ∧ bt = tx [] ∧ 47 ∉ x.cps.toList ∧ Num x.cps.toList) ∨ ∃ a b, x.cps.toList = a ++ 47 :: b ∧ tp = tx a ∧ bt = tx b ∧ 47 ∉ a ∧ Num a ∧ PySem.NumText.AllDigits b ∧ b ≠ [] ∧ b[0]? ≠ some 48), ?_, ?_⟩
        · simp only [tVar, rIxTH, rIxLH, gTupH, line_le, HO.tup.injEq, HO.lst.injEq, List.length_cons, List.length_nil, at0, at1, rU, tOst, tTest, rIxL, rIxT, C8.tCut, cxOf_K, tC, tOp, tUn, tSeq, tAsg, tNext, tRet, tRetN, tDrop, tIfS, tNever, gName, gNil, gCons, gTup, gSub, tPar, rI, rI0, rU, rEq, rNe, tB, tAnd, tOr, tNot, tAndV, tOrV, tNotV, tIf, tTup, tLst, tNil, tCons, tCB, tCall, tMeth, tMake, tFld, sFld, tDGet, sDPut, tDisp, tPairs, tBreak, tCont, scal_ii, scal_bb, scal_ss, List.getElem?_cons_zero, List.getElem?_cons_succ, List.set_cons_zero, List.set_cons_succ, Option.some.injEq, exists_eq_left', exists_eq_left, exists_and_left, V.int.injEq, V.bl.injEq, V.ref.injEq, V.str.injEq, List.cons.injEq, and_true, true_and, Bool.true_eq, List.nil_append, List.append_nil, List.cons_append, exists_eq', and_self, reduceCtorEq, false_or, or_false, false_and, exists_false, exists_const, and_assoc, if_true, Bool.false_eq_true, if_false, Nat.reduceAdd, Nat.reduceLeDiff, Nat.zero_add, Nat.le_refl, forall_const, st_ratio_of, tM1]
          rw [s_slash]
          refine ⟨rfl, le_line hx, fun p hp => ⟨_, upd_same, rfl, _, _, rfl, _, _, rfl, _, _, rfl, rfl, same_new hp, ?_⟩⟩
          rcases col_form hc with ⟨hn, n47⟩ | ⟨a, b, hl, na, nb, hn, hb, bn, b0⟩
          · rw [part_none n47]
            exact ⟨x, rfl, tx [], rfl, hx, Nat.zero_le _, .inl ⟨rfl, rfl, n47, hn⟩⟩
          · rw [part_some hl na nb]
            have l2 : a.length + (b.length + 1) ≤ 600 := by
              have := congrArg List.length hl
              simp at this
              simp only [Array.length_toList] at lx
              omega
            exact ⟨tx a, rfl, tx b, rfl, by rw [tx_len]; omega, by rw [tx_len]; omega, .inr ⟨a, b, hl, rfl, rfl, na, hn, hb, bn, b0⟩⟩
        · rintro σ' H2 ⟨s2, tp, bt, v3, rfl, lt, lb, hf⟩
          refine ⟨fun σ' H3 => H3 = H2 ∧ ∃ d : Int, d ≤ 600 ∧ σ' = [some (.str x), some (.int 0), some (.str tp), some v3, some (.str bt), some (.int d)], ?_, ?_⟩
          · simp only [tVar, rIxTH, rIxLH, gTupH, line_le, HO.tup.injEq, HO.lst.injEq, List.length_cons, List.length_nil, at0, at1, rU, tOst, tTest, rIxL, rIxT, C8.tCut, cxOf_K, tC, tOp, tUn, tSeq, tAsg, tNext, tRet, tRetN, tDrop, tIfS, tNever, gName, gNil, gCons, gTup, gSub, tPar, rI, rI0, rU, rEq, rNe, tB, tAnd, tOr, tNot, tAndV, tOrV, tNotV, tIf, tTup, tLst, tNil, tCons, tCB, tCall, tMeth, tMake, tFld, sFld, tDGet, sDPut, tDisp, tPairs, tBreak, tCont, scal_ii, scal_bb, scal_ss, List.getElem?_cons_zero, List.getElem?_cons_succ, List.set_cons_zero, List.set_cons_succ, Option.some.injEq, exists_eq_left', exists_eq_left, exists_and_left, V.int.injEq, V.bl.injEq, V.ref.injEq, V.str.injEq, List.cons.injEq, and_true, true_and, Bool.true_eq, List.nil_append, List.append_nil, List.cons_append, exists_eq', and_self, reduceCtorEq, false_or, or_false, false_and, exists_false, exists_const, and_assoc, if_true, Bool.false_eq_true, if_false, Nat.reduceAdd, Nat.reduceLeDiff, Nat.zero_add, Nat.le_refl, forall_const, st_ratio_of, tM1]
            have l3 := lstrip_le tp "-"
            refine ⟨le_line lt, le_line (by omega), le_line lb, _, ?_, rfl⟩
            split <;> omega
          rintro σ' H3 ⟨rfl, d, hd, rfl⟩
          refine ⟨fun σ' H4 => H4 = H3 ∧ σ' = [some (.str x), some (.int 0), some (.str tp), some v3, some (.str bt), some (.int d)], ?_, ?_⟩
          · simp only [tVar, rIxTH, rIxLH, gTupH, line_le, HO.tup.injEq, HO.lst.injEq, List.length_cons, List.length_nil, at0, at1, rU, tOst, tTest, rIxL, rIxT, C8.tCut, cxOf_K, tC, tOp, tUn, tSeq, tAsg, tNext, tRet, tRetN, tDrop, tIfS, tNever, gName, gNil, gCons, gTup, gSub, tPar, rI, rI0, rU, rEq, rNe, tB, tAnd, tOr, tNot, tAndV, tOrV, tNotV, tIf, tTup, tLst, tNil, tCons, tCB, tCall, tMeth, tMake, tFld, sFld, tDGet, sDPut, tDisp, tPairs, tBreak, tCont, scal_ii, scal_bb, scal_ss, List.getElem?_cons_zero, List.getElem?_cons_succ, List.set_cons_zero, List.set_cons_succ, Option.some.injEq, exists_eq_left', exists_eq_left, exists_and_left, V.int.injEq, V.bl.injEq, V.ref.injEq, V.str.injEq, List.cons.injEq, and_true, true_and, Bool.true_eq, List.nil_append, List.append_nil, List.cons_append, exists_eq', and_self, reduceCtorEq, false_or, or_false, false_and, exists_false, exists_const, and_assoc, if_true, Bool.false_eq_true, if_false, Nat.reduceAdd, Nat.reduceLeDiff, Nat.zero_add, Nat.le_refl, forall_const, st_ratio_of]
            refine ite2 (fun z => ?_) (fun _ => trivial)
            have := of_decide_eq_true z
            omega
          rintro σ' H4 ⟨rfl, rfl⟩
          simp only [tVar, rIxTH, rIxLH, gTupH, line_le, HO.tup.injEq, HO.lst.injEq, List.length_cons, List.length_nil, at0, at1, rU, tOst, tTest, rIxL, rIxT, C8.tCut, cxOf_K, tC, tOp, tUn, tSeq, tAsg, tNext, tRet, tRetN, tDrop, tIfS, tNever, gName, gNil, gCons, gTup, gSub, tPar, rI, rI0, rU, rEq, rNe, tB, tAnd, tOr, tNot, tAndV, tOrV, tNotV, tIf, tTup, tLst, tNil, tCons, tCB, tCall, tMeth, tMake, tFld, sFld, tDGet, sDPut, tDisp, tPairs, tBreak, tCont, scal_ii, scal_bb, scal_ss, List.getElem?_cons_zero, List.getElem?_cons_succ, List.set_cons_zero, List.set_cons_succ, Option.some.injEq, exists_eq_left', exists_eq_left, exists_and_left, V.int.injEq, V.bl.injEq, V.ref.injEq, V.str.injEq, List.cons.injEq, and_true, true_and, Bool.true_eq, List.nil_append, List.append_nil, List.cons_append, exists_eq', and_self, reduceCtorEq, false_or, or_false, false_and, exists_false, exists_const, and_assoc, if_true, Bool.false_eq_true, if_false, Nat.reduceAdd, Nat.reduceLeDiff, Nat.zero_add, Nat.le_refl, forall_const, st_ratio_of, tM1, rGcd]
          rcases hf with ⟨rfl, rfl, n47, hn⟩ | ⟨a, b, hl, rfl, rfl, na, hn, hb, bn, b0⟩
          · refine iteT ?_
            obtain ⟨n, hn1, hn2⟩ := num_val hn lx
            have hn1 : PySem.intText? tp = some n := hn1
            exact ⟨n, hn1, by omega, made_rat (b := 1) (by decide) (fun _ H5 y s5 r => kr n 1 (ans_int hc n47 hn1) H5 y (s2.trans s5) (r.tb (by decide) (by simp))) (fun h => by cases h)⟩
          · have l2 : a.length + (b.length + 1) ≤ 600 := by
              have := congrArg List.length hl
              rw [List.length_append, List.length_cons] at this
              omega
            obtain ⟨t, ht, tb⟩ := num_val hn (by omega)
            obtain ⟨n, hn', nb, n1, ne⟩ := dig_val hb bn b0 (by omega)
            have an := ans_q hc hl na ht hn'
            have e1 : ¬ tx b = ("" : Str) := fun z => bn (by
              rw [show ("" : Str) = tx [] by decide +kernel] at z
              have := congrArg (fun z : Str => z.cps.toList) z
              simpa [tx_list] using this)
            rw [if_neg (by simpa using e1)]
            have bad : ¬ (1 < (n : Int) ∧ Nat.gcd t.natAbs (n : Int).natAbs = 1) → ∀ a_1, H4 a_1 = none → _ := fun z a_1 ha => bad_made (c := ((tx a).length : Int) + 2) (kw _ (by rw [an, if_neg z, tx_len])) s2 a_1 ha
            have s1 : ("1" : Str) = tx [49] := by decide +kernel
            refine ite2 (fun h1 => ?_) (fun h1 => ?_)
            · have h1 : b = [49] := by
                have h1 := of_decide_eq_true h1
                rw [s1] at h1
                have := congrArg (fun z : Str => z.cps.toList) h1
                simpa [tx_list] using this
              exact ⟨le_line lt, bad (fun z => by have := ne.mpr h1; omega)⟩
            · have h1 : n ≠ 1 := fun z => h1 (decide_eq_true (by rw [s1, ne.mp z]))
              refine ⟨t, ht, by omega, n, hn', by omega, ite2 (fun h2 => ?_) (fun h2 => ?_)⟩
              · have h2 := of_decide_eq_true h2
                exact ⟨le_line lt, bad (fun z => by rw [z.2] at h2; cases h2)⟩
              · have g1 : Nat.gcd t.natAbs (n : Int).natAbs = 1 := by
                  have h2 : ¬ (1 : Int) < ((Nat.gcd t.natAbs (n : Int).natAbs : Nat) : Int) := fun z => h2 (decide_eq_true z)
                  have : 0 < Nat.gcd t.natAbs (n : Int).natAbs := Nat.gcd_pos_of_pos_right _ (by omega)
                  omega
                refine ⟨t, ht, by omega, n, hn', by omega, made_rat (b := (n : Int)) ?_ (fun _ H5 y s5 r => kr t n (by rw [an, if_pos ⟨by omega, g1⟩]) H5 y (s2.trans s5) (r.tb (by omega) g1)) (fun h => by omega)⟩
                rw [Int.natAbs_natCast]
                exact HwM.lt_mono nb (by decide)
    · refine ⟨t, .type "str", .ty _, ht, false, hk, iteT ?_⟩
      exact fun a ha => bad_made kb (Same.refl _) a ha


end HwL
end

section
namespace HwL
open PySem PySem.Spec PyProof.Rows L2 LamX HwT
variable {P : Program} {w : World} {K : PySem.W.Frag} {mg : Str → Option Value} {base : Heap}

/-- one of a list -/
def spPick : Sp := fun vs H Q _ => ∃ (p l a : Addr) (c : Int) (xs : List V), vs = [.ref p, .ref a] ∧ PenAt H p l c ∧ c < 100000000 ∧ H a = some (.lst xs) ∧ 0 < xs.length ∧ xs.length ≤ 1000 ∧ ∀ (H' : Hp) (i : Nat) (v : V), Ext p H H' → PenAt H' p l (c + 1) → xs[i]? = some v → Q v H'
abbrev s_L_pick : Stmt := top 22
abbrev N_L_pick : List Str := ["_law_pen_here", "_law_some"]
theorem sc_L_pick : FnScope N_L_pick ["_law_pen_here", "_law_some"] (defScope s_L_pick) := ⟨rfl, rfl, rfl, by decide +kernel, rfl, by decide +kernel, by decide +kernel⟩
theorem st_L_pick {v0 v1 : V} : L2.start N_L_pick [v0, v1] = [some v0, some v1] := rfl
theorem ok_L_pick {f : Addr} {fd : FuncData} (F : FD K s_L_pick "_law_pick" "_law_pick" f fd) (z_len : mg "len" = none) (g_L_draw : Gf P w K mg base "_law_draw" 1 ["_law_pen_here", "_law_many"] (spDraw)) : FnOk P w K mg base (L2.CX P w) 2 f fd ["_law_pen_here", "_law_some"] (spPick) := by
  have nd := sc_L_pick.nd
  refine F.ok0 sc_L_pick (fun vs H Q E h => ?_) (fun cdv A outer s H vs Q E hr h => ?_)
  · obtain ⟨p, l, a, c, xs, rfl, _⟩ := h
    rfl
  · obtain ⟨p, l, a, c, xs, rfl, hp, hc, ha, h0, h1, k⟩ := h
    refine ⟨_, (pss_one (ps_ret (pe_ix ix_listH (pv 1) (pe_g g_L_draw hr (by decide) passL rfl (pa_cons (pv 0) (pa_cons (pe_callB call_len_seq (by rfl) z_len (by decide +kernel) (pa_cons (pv 1) pa_nil)) pa_nil))) (fun _ _ => rfl)))), ?_⟩
    simp only [tVar, rIxTH, rIxLH, gTupH, line_le, HO.tup.injEq, HO.lst.injEq, List.length_cons, List.length_nil, at0, at1, rU, tOst, tTest, rIxL, rIxT, C8.tCut, cxOf_K, tC, tOp, tUn, tSeq, tAsg, tNext, tRet, tRetN, tDrop, tIfS, tNever, gName, gNil, gCons, gTup, gSub, tPar, rI, rI0, rU, rEq, rNe, tB, tAnd, tOr, tNot, tAndV, tOrV, tNotV, tIf, tTup, tLst, tNil, tCons, tCB, tCall, tMeth, tMake, tFld, sFld, tDGet, sDPut, tDisp, tPairs, tBreak, tCont, scal_ii, scal_bb, scal_ss, List.getElem?_cons_zero, List.getElem?_cons_succ, List.set_cons_zero, List.set_cons_succ, Option.some.injEq, exists_eq_left', exists_eq_left, exists_and_left, V.int.injEq, V.bl.injEq, V.ref.injEq, V.str.injEq, List.cons.injEq, and_true, true_and, Bool.true_eq, List.nil_append, List.append_nil, List.cons_append, exists_eq', and_self, reduceCtorEq, false_or, or_false, false_and, exists_false, exists_const, and_assoc, if_true, Bool.false_eq_true, if_false, Nat.reduceAdd, Nat.reduceLeDiff, Nat.zero_add, Nat.le_refl, forall_const, st_L_pick]
    have nap : a ≠ p := fun e => by
      obtain ⟨cs, i, dg, n, f, h1, _⟩ := hp
      rw [e, h1] at ha
      cases ha
    refine ⟨xs, .inl (SqL.of ha), p, l, c, xs.length, rfl, hp, by omega, by omega, ?_, fun H1 r x1 p1 r0 r1 => ?_⟩
    · rw [Int.natAbs_natCast]
      exact Nat.lt_of_le_of_lt h1 (Nat.lt_of_lt_of_le (show 1000 < 2 ^ 10 by decide) (Nat.pow_le_pow_right (by decide) (by decide)))
    · obtain ⟨j, rfl⟩ : ∃ j : Nat, r = (j : Int) := ⟨r.toNat, by omega⟩
      obtain ⟨v, hv⟩ : ∃ v, xs[j]? = some v := ⟨_, List.getElem?_eq_getElem (by omega)⟩
      simp only [tVar, rIxTH, rIxLH, gTupH, line_le, HO.tup.injEq, HO.lst.injEq, List.length_cons, List.length_nil, at0, at1, rU, tOst, tTest, rIxL, rIxT, C8.tCut, cxOf_K, tC, tOp, tUn, tSeq, tAsg, tNext, tRet, tRetN, tDrop, tIfS, tNever, gName, gNil, gCons, gTup, gSub, tPar, rI, rI0, rU, rEq, rNe, tB, tAnd, tOr, tNot, tAndV, tOrV, tNotV, tIf, tTup, tLst, tNil, tCons, tCB, tCall, tMeth, tMake, tFld, sFld, tDGet, sDPut, tDisp, tPairs, tBreak, tCont, scal_ii, scal_bb, scal_ss, List.getElem?_cons_zero, List.getElem?_cons_succ, List.set_cons_zero, List.set_cons_succ, Option.some.injEq, exists_eq_left', exists_eq_left, exists_and_left, V.int.injEq, V.bl.injEq, V.ref.injEq, V.str.injEq, List.cons.injEq, and_true, true_and, Bool.true_eq, List.nil_append, List.append_nil, List.cons_append, exists_eq', and_self, reduceCtorEq, false_or, or_false, false_and, exists_false, exists_const, and_assoc, if_true, Bool.false_eq_true, if_false, Nat.reduceAdd, Nat.reduceLeDiff, Nat.zero_add, Nat.le_refl, forall_const, st_L_pick, x1 _ _ nap ha]
      exact ⟨v, atI_nat hv, k H1 j v x1 p1 hv⟩
/-- str(top), behind it / and the bottom -/
theorem str_len {i : Int} (h : i.natAbs < 2 ^ 60) : (Str.ofString (toString i)).length ≤ 61 ∧ i.natAbs.log2 < 1920 := by
  have l := HwM.log2_lt (k := 60) (by decide) h
  have e := PySem.int_text_length_le (a := i) (k := 60) (by decide) l
  exact ⟨by rw [PySem.ofString_length]; exact e, by omega⟩
abbrev s_L_written : Stmt := top 25
abbrev N_L_written : List Str := ["_law_one"]
theorem sc_L_written : FnScope N_L_written ["_law_one"] (defScope s_L_written) := ⟨rfl, rfl, rfl, by decide +kernel, rfl, by decide +kernel, by decide +kernel⟩
theorem st_L_written {v0 : V} : L2.start N_L_written [v0] = [some v0] := rfl
theorem ok_L_written {f : Addr} {fd : FuncData} (F : FD K s_L_written "_law_written" "_law_written" f fd) (z_str : mg "str" = none) : FnOk P w K mg base (L2.CX P w) 1 f fd ["_law_one"] (fun vs H Q _ => ∃ (a : Addr) (q : Rat), vs = [.ref a] ∧ H a = some (.tup (qv q)) ∧ HwM.Bd 60 q ∧ ∀ x : Str, x.length ≤ 200 → Q (.str x) H) := by
  have nd := sc_L_written.nd
  refine F.ok0 sc_L_written (fun vs H Q E h => ?_) (fun cdv A outer s H vs Q E hr h => ?_)
  · obtain ⟨a, q, rfl, _⟩ := h
    rfl
  · obtain ⟨a, q, rfl, ha, hq, k⟩ := h
    refine ⟨_, (pss_one (ps_ret (pe_ifExp (pt_cmpR op_eq (pe_ix ix_tupH (pv 0) pe_int (fun _ _ => rfl)) pe_int (nomark _)) (pe_callTy call_str_int (by rfl) z_str (by decide +kernel) (pa_cons (pe_ix ix_tupH (pv 0) pe_int (fun _ _ => rfl)) pa_nil)) (pe_op op_add_str (pe_op op_add_str (pe_callTy call_str_int (by rfl) z_str (by decide +kernel) (pa_cons (pe_ix ix_tupH (pv 0) pe_int (fun _ _ => rfl)) pa_nil)) pe_str) (pe_callTy call_str_int (by rfl) z_str (by decide +kernel) (pa_cons (pe_ix ix_tupH (pv 0) pe_int (fun _ _ => rfl)) pa_nil)))))), ?_⟩
    simp only [tVar, rIxTH, rIxLH, gTupH, line_le, HO.tup.injEq, HO.lst.injEq, List.length_cons, List.length_nil, at0, at1, rU, tOst, tTest, rIxL, rIxT, C8.tCut, cxOf_K, tC, tOp, tUn, tSeq, tAsg, tNext, tRet, tRetN, tDrop, tIfS, tNever, gName, gNil, gCons, gTup, gSub, tPar, rI, rI0, rU, rEq, rNe, tB, tAnd, tOr, tNot, tAndV, tOrV, tNotV, tIf, tTup, tLst, tNil, tCons, tCB, tCall, tMeth, tMake, tFld, sFld, tDGet, sDPut, tDisp, tPairs, tBreak, tCont, scal_ii, scal_bb, scal_ss, List.getElem?_cons_zero, List.getElem?_cons_succ, List.set_cons_zero, List.set_cons_succ, Option.some.injEq, exists_eq_left', exists_eq_left, exists_and_left, V.int.injEq, V.bl.injEq, V.ref.injEq, V.str.injEq, List.cons.injEq, and_true, true_and, Bool.true_eq, List.nil_append, List.append_nil, List.cons_append, exists_eq', and_self, reduceCtorEq, false_or, or_false, false_and, exists_false, exists_const, and_assoc, if_true, Bool.false_eq_true, if_false, Nat.reduceAdd, Nat.reduceLeDiff, Nat.zero_add, Nat.le_refl, forall_const, st_L_written, ha]
    have l1 := str_len hq.1
    have l2 := str_len (i := (q.den : Int)) (by simpa using hq.2)
    have len : ∀ a b : Str, (a ++ b).length = a.length + b.length := fun a b => by
      show (Str.append a b).length = _
      unfold Str.append Str.length
      simp
    have ls : ("/" : Str).length = 1 := by rw [s_slash]; rfl
    have f : ∀ n : Nat, n ≤ 1000 → n ≤ sizeLine := fun n h => line_le h
    refine ite2 (fun _ => ⟨l1.2, k _ (by omega)⟩) (fun _ => ⟨l1.2, f _ (by omega), l2.2, f _ (by rw [len]; omega), k _ (by rw [len, len]; omega)⟩)
abbrev s_L_pair : Stmt := top 26
abbrev N_L_pair : List Str := ["_law_value"]
theorem sc_L_pair : FnScope N_L_pair ["_law_value"] (defScope s_L_pair) := ⟨rfl, rfl, rfl, by decide +kernel, rfl, by decide +kernel, by decide +kernel⟩
theorem st_L_pair {v0 : V} : L2.start N_L_pair [v0] = [some v0] := rfl
theorem ok_L_pair {f : Addr} {fd : FuncData} (F : FD K s_L_pair "_law_pair" "_law_pair" f fd)  : FnOk P w K mg base (L2.CX P w) 1 f fd ["_law_value"] (fun vs H Q _ => ∃ (C dx a : Addr) (t n : Int), vs = [.ref a] ∧ Cls K C ∧ NoAttr K C "top" ∧ NoAttr K C "bottom" ∧ H a = some (.ins C dx [("top", .int t), ("bottom", .int n)]) ∧ ∀ p, H p = none → Q (.ref p) (upd H p (.tup [.int t, .int n]))) := by
  have nd := sc_L_pair.nd
  refine F.ok0 sc_L_pair (fun vs H Q E h => ?_) (fun cdv A outer s H vs Q E hr h => ?_)
  · obtain ⟨C, dx, a, t, n, rfl, _⟩ := h
    rfl
  · obtain ⟨C, dx, a, t, n, rfl, cl, nt, nb, ha, k⟩ := h
    refine ⟨_, (pss_one (ps_ret (pe_tup (pa_cons (pe_fld (pv 0) rfl) (pa_cons (pe_fld (pv 0) rfl) pa_nil))))), ?_⟩
    have l2 : List.lookup ("bottom" : Str) [(("top" : Str), V.int t), ("bottom", V.int n)] = some (V.int n) := by
      have e : (("bottom" : Str) == ("top" : Str)) = false := by decide
      simp [List.lookup, e]
    have l1 : List.lookup ("top" : Str) [(("top" : Str), V.int t), ("bottom", V.int n)] = some (V.int t) := by simp [List.lookup]
    simp only [tVar, rIxTH, rIxLH, gTupH, line_le, HO.tup.injEq, HO.lst.injEq, List.length_cons, List.length_nil, at0, at1, rU, tOst, tTest, rIxL, rIxT, C8.tCut, cxOf_K, tC, tOp, tUn, tSeq, tAsg, tNext, tRet, tRetN, tDrop, tIfS, tNever, gName, gNil, gCons, gTup, gSub, tPar, rI, rI0, rU, rEq, rNe, tB, tAnd, tOr, tNot, tAndV, tOrV, tNotV, tIf, tTup, tLst, tNil, tCons, tCB, tCall, tMeth, tMake, tFld, sFld, tDGet, sDPut, tDisp, tPairs, tBreak, tCont, scal_ii, scal_bb, scal_ss, List.getElem?_cons_zero, List.getElem?_cons_succ, List.set_cons_zero, List.set_cons_succ, Option.some.injEq, exists_eq_left', exists_eq_left, exists_and_left, V.int.injEq, V.bl.injEq, V.ref.injEq, V.str.injEq, List.cons.injEq, and_true, true_and, Bool.true_eq, List.nil_append, List.append_nil, List.cons_append, exists_eq', and_self, reduceCtorEq, false_or, or_false, false_and, exists_false, exists_const, and_assoc, if_true, Bool.false_eq_true, if_false, Nat.reduceAdd, Nat.reduceLeDiff, Nat.zero_add, Nat.le_refl, forall_const, st_L_pair, ha, HO.ins.injEq, l1, l2]
    exact ⟨cl, nt, cl, nb, k⟩
theorem ten_signs : ("0123456789" : Str).cps.toList = [48, 49, 50, 51, 52, 53, 54, 55, 56, 57] := by decide +kernel
theorem nine_signs : ("123456789" : Str).cps.toList = [49, 50, 51, 52, 53, 54, 55, 56, 57] := by decide +kernel
/-- whether a digit stands at k -/
def dAt (l : List Nat) (k : Nat) : Bool := match l[k]? with | some c => isD c | none => false
def nzAt (l : List Nat) (k : Nat) : Bool := match l[k]? with | some c => isD c && decide (c ≠ 48) | none => false
theorem in_ten (l : List Nat) (k : Nat) : inV (.str (tx (l[k]?).toList)) (L2.signs ("0123456789" : Str).cps.toList) = dAt l k := by
  rw [inV_signs]
  unfold dAt
  cases l[k]? with
  | none => rfl
  | some c => exact isD_mem c
theorem in_nine (l : List Nat) (k : Nat) : inV (.str (tx (l[k]?).toList)) (L2.signs ("123456789" : Str).cps.toList) = nzAt l k := by
  rw [inV_signs]
  unfold nzAt
  cases l[k]? with
  | none => rfl
  | some c =>
    rw [nine_signs]
    unfold isD
    rw [Bool.eq_iff_iff]
    simp
    omega
theorem signs_flat (l : List Nat) : (L2.signs l).all flatV = true := by
  unfold L2.signs
  rw [List.all_map]
  exact List.all_eq_true.mpr fun c _ => rfl
/-- what is read of x[k:k+1] not in tuple(..) -/
theorem notin_read {K : PySem.W.Frag} {H : Hp} {x : Str} {k : Nat} {ds : Str} {b : Bool} {Q : VK} (h : inV (.str (tx (x.cps.toList[k]?).toList)) (L2.signs ds.cps.toList) = b) (hk : k ≤ x.length) (q : ∀ p, H p = none → Q (.bl (!b)) (upd H p (.tup (L2.signs ds.cps.toList)))) (p : Addr) (hp : H p = none) :
    rIn K true (.str (cutS x (some (k : Int)) (some ((k : Int) + 1)))) (.ref p) (upd H p (.tup (L2.signs ds.cps.toList))) Q := by
  refine ⟨p, _, rfl, .inr (SqT.of upd_same), rfl, signs_flat _, ?_⟩
  rw [cut1 x hk, if_pos rfl, h]
  exact q p hp
theorem head_is (l : List Nat) (c : Nat) : decide (tx (l[0]?).toList = (⟨#[c]⟩ : Str)) = decide (l[0]? = some c) := by
  refine decide_eq_decide.mpr ⟨fun h => ?_, fun h => by rw [h]; rfl⟩
  have := congrArg (fun z : Str => z.cps.toList) h
  cases e : l[0]? with
  | none => rw [e] at this; simp [tx] at this
  | some d =>
    rw [e] at this
    have : d = c := by simpa [tx] using this
    rw [this]
theorem dAt_some {l : List Nat} {k : Nat} (h : dAt l k = true) : ∃ c, l[k]? = some c ∧ isD c = true := by
  unfold dAt at h
  cases e : l[k]? with
  | none => rw [e] at h; cases h
  | some c => rw [e] at h; exact ⟨c, rfl, h⟩
theorem dAt_none {l : List Nat} {k : Nat} (h : dAt l k = false) : run (l.drop k) = 0 := run_stop fun c hc => by
  unfold dAt at h
  rw [hc] at h
  exact h
theorem nz_some {l : List Nat} {k : Nat} (h : nzAt l k = true) : ∃ c, l[k]? = some c ∧ isD c = true ∧ c ≠ 48 := by
  unfold nzAt at h
  cases e : l[k]? with
  | none => rw [e] at h; cases h
  | some c =>
    rw [e] at h
    have h : (isD c && decide (c ≠ 48)) = true := h
    rw [Bool.and_eq_true] at h
    exact ⟨c, rfl, h.1, of_decide_eq_true h.2⟩
theorem nz_none {l : List Nat} {k : Nat} (h : nzAt l k = false) : we l k = k := by
  unfold we
  by_cases z : l[k]? = some 48
  · rw [if_pos z]
  · rw [if_neg z, run_stop fun c hc => ?_]
    · rfl
    · unfold nzAt at h
      rw [hc] at h
      have h : (isD c && decide (c ≠ 48)) = false := h
      have n : c ≠ 48 := fun e => z (by rw [hc, e])
      rw [decide_eq_true n, Bool.and_true] at h
      exact h
section
variable {l : List Nat} {k : Nat} (hk : k = if l[0]? = some 45 then 1 else 0)
include hk
theorem col_no (h : dAt l k = false) : col l = k + 1 := by
  have n48 : l[k]? ≠ some 48 := fun z => by unfold dAt at h; rw [z] at h; cases h
  have w : we l k = k := by unfold we; rw [if_neg n48, dAt_none h]; rfl
  unfold col
  by_cases z : l[0]? = some 48
  · rw [if_neg (by rw [z]; simp)] at hk
    subst hk
    exact absurd z n48
  · rw [if_neg z, ← hk]
    unfold colAt
    rw [if_pos w]
theorem col_mz (h1 : k = 1) (h : l[1]? = some 48) : col l = 2 := by
  have m : l[0]? = some 45 := Decidable.byContradiction fun z => by rw [if_neg z] at hk; omega
  have w : we l 1 = 1 := by unfold we; rw [if_pos h]
  unfold col
  rw [if_neg (by rw [m]; simp), if_pos m]
  unfold colAt
  rw [if_pos w]
/-- where the top ends -/
theorem col_at (h : dAt l k = true) (hz : k = 1 → l[1]? ≠ some 48) (z : l[0]? ≠ some 48) : col l = colAt l k ∧ we l k = k + run (l.drop k) ∧ 1 ≤ run (l.drop k) := by
  have n48 : l[k]? ≠ some 48 := by
    by_cases m : l[0]? = some 45
    · rw [if_pos m] at hk; subst hk; exact hz rfl
    · rw [if_neg m] at hk; subst hk; exact z
  obtain ⟨c, hc, hd⟩ := dAt_some h
  have := run_step hc hd
  refine ⟨?_, ?_, by omega⟩
  · unfold col; rw [if_neg z, ← hk]
  · unfold we; rw [if_neg n48]
end
def spShape : Sp := fun vs H Q _ => ∃ x : Str, vs = [.str x] ∧ x.length ≤ 600 ∧ ∀ H', Same H H' → Q (.int (col x.cps.toList : Nat)) H'
abbrev s_L_shape_column : Stmt := top 27
abbrev N_L_shape_column : List Str := ["_law_text", "_law_at", "_law_end", "_law_lap", "_law_last"]
theorem sc_L_shape_column : FnScope N_L_shape_column ["_law_text"] (defScope s_L_shape_column) := ⟨rfl, rfl, rfl, by decide +kernel, rfl, by decide +kernel, by decide +kernel⟩
theorem st_L_shape_column {v0 : V} : L2.start N_L_shape_column [v0] = [some v0, none, none, none, none] := rfl
theorem ok_L_shape_column {f : Addr} {fd : FuncData} (F : FD K s_L_shape_column "_law_shape_column" "_law_shape_column" f fd) (z_len : mg "len" = none) (z_range : mg "range" = none) (z_tuple : mg "tuple" = none) (z_int : mg "int" = none) : FnOk P w K mg base (L2.CX P w) 1 f fd ["_law_text"] (spShape) := by
  have nd := sc_L_shape_column.nd
  refine F.ok0 sc_L_shape_column (fun vs H Q E h => ?_) (fun cdv A outer s H vs Q E hr h => ?_)
  · obtain ⟨x, rfl, _⟩ := h
    rfl
  · obtain ⟨x, rfl, hx, q⟩ := h
    refine ⟨_, (C8.pss_cut (ps_set (i := 1) nd rfl (Or.inl rfl) (pe_callTy call_int1 (by rfl) z_int (by decide +kernel) (pa_cons (pe_cmpR op_eq (pe_slice sl_str (pv 0) po_none (po_some pe_int)) pe_str (nomark _)) pa_nil)))
        (C8.pss_cut (ps_if (PW.pt (pw_or (pt_cmpR op_notIn_seq (pe_slice sl_str (pv 0) (po_some (pv 1)) (po_some (pe_op op_add (pv 1) pe_int))) (pe_callTy (call_tuple_txt rfl) (by rfl) z_tuple (by decide +kernel) (pa_cons pe_str pa_nil)) (by rfl)) (pw_or1 (PW.pt (pw_and (pt_cmpR op_eq (pv 1) pe_int (nomark _)) (pw_and1 (pt_cmpR op_eq (pe_ix ix_str (pv 0) pe_int (fun _ _ => rfl)) pe_str (nomark _)))))))) (pss_one (ps_ret (pe_op op_add (pv 1) pe_int))) pss_nil)
        (C8.pss_cut (ps_set (i := 2) nd rfl (Or.inl rfl) (pe_op op_add (pv 1) pe_int))
        (C8.pss_cut (ps_for PassesOwn.never rfl (pi_range1 rfl z_range (pa_cons (pe_callB call_len_str (by rfl) z_len (by decide +kernel) (pa_cons (pv 0) pa_nil)) pa_nil)) (pg_name (i := 3) nd rfl (Or.inl rfl)) (pss_cons (ps_if (PW.pt (pw_or (pt_cmpR op_eq (pe_ix ix_str (pv 0) (pv 1) (fun _ _ => rfl)) pe_str (nomark _)) (pw_or1 (pt_cmpR op_notIn_seq (pe_slice sl_str (pv 0) (po_some (pv 2)) (po_some (pe_op op_add (pv 2) pe_int))) (pe_callTy (call_tuple_txt rfl) (by rfl) z_tuple (by decide +kernel) (pa_cons pe_str pa_nil)) (by rfl))))) (pss_one ps_break) pss_nil)
        (pss_one (ps_set (i := 2) nd rfl (Or.inl rfl) (pe_op op_add (pv 2) pe_int)))))
        (C8.pss_cut (ps_if (pt_cmpR op_eq (pv 2) (pe_callB call_len_str (by rfl) z_len (by decide +kernel) (pa_cons (pv 0) pa_nil)) (nomark _)) (pss_one (ps_ret pe_int)) pss_nil)
        (C8.pss_cut (ps_if (PW.pt (pw_or (pt_cmpR op_ne (pe_ix ix_str (pv 0) (pv 2) (fun _ _ => rfl)) pe_str (nomark _)) (pw_or1 (pt_cmpR op_eq (pe_slice sl_str (pv 0) po_none (po_some (pv 2))) pe_str (nomark _))))) (pss_one (ps_ret (pe_op op_add (pv 2) pe_int))) pss_nil)
        (C8.pss_cut (ps_if (pt_cmpR op_notIn_seq (pe_slice sl_str (pv 0) (po_some (pe_op op_add (pv 2) pe_int)) (po_some (pe_op op_add (pv 2) pe_int))) (pe_callTy (call_tuple_txt rfl) (by rfl) z_tuple (by decide +kernel) (pa_cons pe_str pa_nil)) (by rfl)) (pss_one (ps_ret (pe_op op_add (pv 2) pe_int))) pss_nil)
        (C8.pss_cut (ps_set (i := 4) nd rfl (Or.inl rfl) (pe_op op_add (pv 2) pe_int))
        (C8.pss_cut (ps_for PassesOwn.never rfl (pi_range1 rfl z_range (pa_cons (pe_callB call_len_str (by rfl) z_len (by decide +kernel) (pa_cons (pv 0) pa_nil)) pa_nil)) (pg_name (i := 3) nd rfl (Or.inl rfl)) (pss_cons (ps_if (pt_cmpR op_notIn_seq (pe_slice sl_str (pv 0) (po_some (pv 4)) (po_some (pe_op op_add (pv 4) pe_int))) (pe_callTy (call_tuple_txt rfl) (by rfl) z_tuple (by decide +kernel) (pa_cons pe_str pa_nil)) (by rfl)) (pss_one ps_break) pss_nil)
        (pss_one (ps_set (i := 4) nd rfl (Or.inl rfl) (pe_op op_add (pv 4) pe_int)))))
        (pss_one (ps_ret (pe_ifExp (pt_cmpR op_eq (pv 4) (pe_callB call_len_str (by rfl) z_len (by decide +kernel) (pa_cons (pv 0) pa_nil)) (nomark _)) pe_int (pe_op op_add (pv 4) pe_int))))))))))))), ?_⟩
    refine ⟨fun σ' H' => H' = H ∧ ∃ k : Nat, σ' = [some (.str x), some (.int (k : Int)), none, none, none] ∧ k = (if x.cps.toList[0]? = some 45 then 1 else 0), ?_, ?_⟩
    · simp only [tVar, rIxTH, rIxLH, gTupH, line_le, HO.tup.injEq, HO.lst.injEq, List.length_cons, List.length_nil, at0, at1, rU, tOst, tTest, rIxL, rIxT, C8.tCut, cxOf_K, tC, tOp, tUn, tSeq, tAsg, tNext, tRet, tRetN, tDrop, tIfS, tNever, gName, gNil, gCons, gTup, gSub, tPar, rI, rI0, rU, rEq, rNe, tB, tAnd, tOr, tNot, tAndV, tOrV, tNotV, tIf, tTup, tLst, tNil, tCons, tCB, tCall, tMeth, tMake, tFld, sFld, tDGet, sDPut, tDisp, tPairs, tBreak, tCont, scal_ii, scal_bb, scal_ss, List.getElem?_cons_zero, List.getElem?_cons_succ, List.set_cons_zero, List.set_cons_succ, Option.some.injEq, exists_eq_left', exists_eq_left, exists_and_left, V.int.injEq, V.bl.injEq, V.ref.injEq, V.str.injEq, List.cons.injEq, and_true, true_and, Bool.true_eq, List.nil_append, List.append_nil, List.cons_append, exists_eq', and_self, reduceCtorEq, false_or, or_false, false_and, exists_false, exists_const, and_assoc, if_true, Bool.false_eq_true, if_false, Nat.reduceAdd, Nat.reduceLeDiff, Nat.zero_add, Nat.le_refl, forall_const, st_L_shape_column, tSl, rSlS, tNoPart, tPart, cut01, s_minus, head_is]
      refine ⟨le_line hx, ?_⟩
      by_cases m : x.cps.toList[0]? = some 45
      · rw [if_pos (decide_eq_true m), if_pos m]; exact ⟨1, rfl, rfl⟩
      · rw [if_neg (by simpa using m), if_neg m]; exact ⟨0, rfl, rfl⟩
    rintro σ' H' ⟨rfl, k, rfl, hk⟩
    have kx : k ≤ x.length := by
      by_cases m : x.cps.toList[0]? = some 45
      · rw [if_pos m] at hk
        rw [hk, HwT.len_list]
        exact (List.getElem?_eq_some_iff.mp m).1
      · rw [if_neg m] at hk
        omega
    refine ⟨fun σ' H2 => Same H' H2 ∧ σ' = [some (.str x), some (.int (k : Int)), none, none, none] ∧ dAt x.cps.toList k = true ∧ (k = 1 → x.cps.toList[1]? ≠ some 48), ?_, ?_⟩
    · simp only [tVar, rIxTH, rIxLH, gTupH, line_le, HO.tup.injEq, HO.lst.injEq, List.length_cons, List.length_nil, at0, at1, rU, tOst, tTest, rIxL, rIxT, C8.tCut, cxOf_K, tC, tOp, tUn, tSeq, tAsg, tNext, tRet, tRetN, tDrop, tIfS, tNever, gName, gNil, gCons, gTup, gSub, tPar, rI, rI0, rU, rEq, rNe, tB, tAnd, tOr, tNot, tAndV, tOrV, tNotV, tIf, tTup, tLst, tNil, tCons, tCB, tCall, tMeth, tMake, tFld, sFld, tDGet, sDPut, tDisp, tPairs, tBreak, tCont, scal_ii, scal_bb, scal_ss, List.getElem?_cons_zero, List.getElem?_cons_succ, List.set_cons_zero, List.set_cons_succ, Option.some.injEq, exists_eq_left', exists_eq_left, exists_and_left, V.int.injEq, V.bl.injEq, V.ref.injEq, V.str.injEq, List.cons.injEq, and_true, true_and, Bool.true_eq, List.nil_append, List.append_nil, List.cons_append, exists_eq', and_self, reduceCtorEq, false_or, or_false, false_and, exists_false, exists_const, and_assoc, if_true, Bool.false_eq_true, if_false, Nat.reduceAdd, Nat.reduceLeDiff, Nat.zero_add, Nat.le_refl, forall_const, st_L_shape_column, rIxS, tSl, rSlS, tNoPart, tPart]
      refine ⟨le_line hx, by decide +kernel, notin_read (b := dAt x.cps.toList k) (in_ten _ _) kx fun p hp => ?_⟩
      have s1 := same_new (o := .tup (L2.signs ("0123456789" : Str).cps.toList)) hp
      cases hd : dAt x.cps.toList k with
      | false =>
        have c := col_no hk hd
        rw [c] at q
        exact ⟨true, rfl, iteT (q _ s1)⟩
      | true =>
        refine ⟨false, rfl, iteF (ite2 (fun h1 => ?_) (fun h1 => ?_))⟩
        · have h1 : k = 1 := by have := of_decide_eq_true h1; omega
          obtain ⟨c, hc, _⟩ := dAt_some hd
          rw [h1] at hc
          refine ⟨le_line hx, c, atI_nat (j := 1) hc, ?_⟩
          rw [s_zero, singS]
          refine ite2 (fun h2 => ?_) (fun h2 => ?_)
          · have h2 : c = 48 := by simpa using h2
            have e := col_mz hk h1 (by rw [hc, h2])
            rw [e] at q
            rw [h1]
            exact q _ s1
          · exact ⟨s1, rfl, fun _ => by rw [hc]; intro z; cases z; simp at h2⟩
        · exact ⟨s1, rfl, fun z => absurd (decide_eq_true (by omega)) h1⟩
    rintro σ' H2 ⟨s2, rfl, hd, hz⟩
    refine ⟨fun σ' H3 => H3 = H2 ∧ σ' = [some (.str x), some (.int (k : Int)), some (.int ((k + 1 : Nat) : Int)), none, none], ?_, ?_⟩
    · simp only [tVar, rIxTH, rIxLH, gTupH, line_le, HO.tup.injEq, HO.lst.injEq, List.length_cons, List.length_nil, at0, at1, rU, tOst, tTest, rIxL, rIxT, C8.tCut, cxOf_K, tC, tOp, tUn, tSeq, tAsg, tNext, tRet, tRetN, tDrop, tIfS, tNever, gName, gNil, gCons, gTup, gSub, tPar, rI, rI0, rU, rEq, rNe, tB, tAnd, tOr, tNot, tAndV, tOrV, tNotV, tIf, tTup, tLst, tNil, tCons, tCB, tCall, tMeth, tMake, tFld, sFld, tDGet, sDPut, tDisp, tPairs, tBreak, tCont, scal_ii, scal_bb, scal_ss, List.getElem?_cons_zero, List.getElem?_cons_succ, List.set_cons_zero, List.set_cons_succ, Option.some.injEq, exists_eq_left', exists_eq_left, exists_and_left, V.int.injEq, V.bl.injEq, V.ref.injEq, V.str.injEq, List.cons.injEq, and_true, true_and, Bool.true_eq, List.nil_append, List.append_nil, List.cons_append, exists_eq', and_self, reduceCtorEq, false_or, or_false, false_and, exists_false, exists_const, and_assoc, if_true, Bool.false_eq_true, if_false, Nat.reduceAdd, Nat.reduceLeDiff, Nat.zero_add, Nat.le_refl, forall_const, st_L_shape_column]
      rfl
    rintro σ' H3 ⟨rfl, rfl⟩
    obtain ⟨ck, hck, dck⟩ := dAt_some hd
    have klt : k < x.length := by rw [HwT.len_list]; exact (List.getElem?_eq_some_iff.mp hck).1
    refine ⟨fun σ' H4 => Same H' H4 ∧ ∃ (v3 : Option V), σ' = [some (.str x), some (.int (k : Int)), some (.int ((if x.cps.toList[k]? = some 48 then k + 1 else k + run (x.cps.toList.drop k) : Nat) : Int)), v3, none], ?_, ?_⟩
    · refine ⟨.str x, rfl, x, rfl, le_line hx, (x.length : Int), rfl, by omega, by omega, for_range (lo := 0) (n := x.length) (fun i σ' H4 => Same H' H4 ∧ ∃ (e : Nat) (v3 : Option V), σ' = [some (.str x), some (.int (k : Int)), some (.int (e : Int)), v3, none] ∧ e ≤ x.length ∧ e = k + 1 + i ∧ (x.cps.toList[k]? = some 48 → i = 0) ∧ (x.cps.toList[k]? ≠ some 48 → e + run (x.cps.toList.drop e) = k + run (x.cps.toList.drop k))) ?_ ?_ ?_⟩
      · exact ⟨s2, k + 1, none, rfl, by omega, rfl, fun _ => rfl, fun _ => by have := run_step hck dck; omega⟩
      · rintro i σ' H4 hi ⟨s4, e, v3, rfl, ex, ei, hz0, hz1⟩
        simp only [tVar, rIxTH, rIxLH, gTupH, line_le, HO.tup.injEq, HO.lst.injEq, List.length_cons, List.length_nil, at0, at1, rU, tOst, tTest, rIxL, rIxT, C8.tCut, cxOf_K, tC, tOp, tUn, tSeq, tAsg, tNext, tRet, tRetN, tDrop, tIfS, tNever, gName, gNil, gCons, gTup, gSub, tPar, rI, rI0, rU, rEq, rNe, tB, tAnd, tOr, tNot, tAndV, tOrV, tNotV, tIf, tTup, tLst, tNil, tCons, tCB, tCall, tMeth, tMake, tFld, sFld, tDGet, sDPut, tDisp, tPairs, tBreak, tCont, scal_ii, scal_bb, scal_ss, List.getElem?_cons_zero, List.getElem?_cons_succ, List.set_cons_zero, List.set_cons_succ, Option.some.injEq, exists_eq_left', exists_eq_left, exists_and_left, V.int.injEq, V.bl.injEq, V.ref.injEq, V.str.injEq, List.cons.injEq, and_true, true_and, Bool.true_eq, List.nil_append, List.append_nil, List.cons_append, exists_eq', and_self, reduceCtorEq, false_or, or_false, false_and, exists_false, exists_const, and_assoc, if_true, Bool.false_eq_true, if_false, Nat.reduceAdd, Nat.reduceLeDiff, Nat.zero_add, Nat.le_refl, forall_const, st_L_shape_column, rIxS, tSl, rSlS, tNoPart, tPart]
        refine ⟨le_line hx, ck, atI_nat hck, ?_⟩
        rw [s_zero, singS]
        refine ite2 (fun h48 => ?_) (fun h48 => ?_)
        · have h48 : x.cps.toList[k]? = some 48 := by rw [hck]; simpa using h48
          rw [if_pos h48]
          exact ⟨s4, by have := hz0 h48; omega⟩
        · have h48 : x.cps.toList[k]? ≠ some 48 := by rw [hck]; simpa using h48
          rw [if_neg h48]
          have z1 := hz1 h48
          refine ⟨le_line hx, by decide +kernel, notin_read (b := dAt x.cps.toList e) (in_ten _ _) ex fun p hp => ?_⟩
          have s5 := s4.trans (same_new (o := .tup (L2.signs ("0123456789" : Str).cps.toList)) hp)
          cases de : dAt x.cps.toList e with
          | false => exact ⟨true, rfl, iteT ⟨s5, by rw [dAt_none de] at z1; omega⟩⟩
          | true =>
            obtain ⟨c, hc, dc⟩ := dAt_some de
            have st := run_step hc dc
            have lt : e < x.length := by rw [HwT.len_list]; exact (List.getElem?_eq_some_iff.mp hc).1
            exact ⟨false, rfl, iteF ⟨s5, e + 1, rfl, by omega, by omega, fun z => absurd z h48, fun _ => by omega⟩⟩
      · rintro σ' H4 ⟨s4, e, v3, rfl, ex, ei, _⟩
        omega
    rintro σ' H4 ⟨s4, v3, rfl⟩
    generalize hE : (if x.cps.toList[k]? = some 48 then k + 1 else k + run (x.cps.toList.drop k)) = E
    have Ex : E ≤ x.cps.toList.length := by
      rw [← HwT.len_list]
      have := run_le x.cps.toList k (by rw [← HwT.len_list]; exact kx)
      rw [← HwT.len_list] at this
      split at hE <;> omega
    have lenx : x.cps.toList.length = x.length := (HwT.len_list x).symm
    -- the text's first column, by what stands at E
    have fin : col x.cps.toList = if E = x.length then 0 else if x.cps.toList[E]? ≠ some 47 ∨ x.cps.toList[0]? = some 48 then E + 1 else if nzAt x.cps.toList (E + 1) = false then E + 2 else
        if E + 2 + run (x.cps.toList.drop (E + 2)) = x.length then 0 else E + 2 + run (x.cps.toList.drop (E + 2)) + 1 := by
      by_cases z : x.cps.toList[0]? = some 48
      · have k0 : k = 0 := by rw [hk, if_neg (by rw [z]; simp)]
        subst k0
        rw [if_pos z] at hE
        unfold col
        rw [if_pos z]
        by_cases e1 : E = x.length
        · rw [if_pos e1, if_pos ?_]
          have l1 : x.cps.toList.length = 1 := by omega
          obtain ⟨c, hc⟩ := List.length_eq_one_iff.mp l1
          rw [hc] at z ⊢
          have : c = 48 := by simpa using z
          rw [this]
        · have d1 : ¬ x.cps.toList = [48] := fun h => e1 (by rw [← lenx, h]; simp; omega)
          have d2 : x.cps.toList[E]? ≠ some 47 ∨ x.cps.toList[0]? = some 48 := .inr z
          rw [if_neg d1, if_neg e1, if_pos d2]
          omega
      · obtain ⟨c1, c2, c3⟩ := col_at hk hd hz z
        have n48 : x.cps.toList[k]? ≠ some 48 := by
          by_cases m : x.cps.toList[0]? = some 45
          · rw [if_pos m] at hk; subst hk; exact hz rfl
          · rw [if_neg m] at hk; subst hk; exact z
        rw [if_neg n48] at hE
        rw [c1]
        unfold colAt
        rw [c2, hE, if_neg (by omega), lenx]
        by_cases e1 : E = x.length
        · rw [if_pos e1, if_pos e1]
        rw [if_neg e1, if_neg e1]
        by_cases e2 : x.cps.toList[E]? ≠ some 47
        · rw [if_pos e2, if_pos (.inl e2)]
        have d2 : ¬ (x.cps.toList[E]? ≠ some 47 ∨ x.cps.toList[0]? = some 48) := fun h => h.elim e2 z
        rw [if_neg e2, if_neg d2]
        cases hn : nzAt x.cps.toList (E + 1) with
        | false =>
          have d3 : E + 1 = E + 1 ∨ E + 1 < x.length := .inl rfl
          rw [nz_none hn, if_pos d3, if_pos rfl]
        | true =>
          obtain ⟨c, hc, hcd, hc48⟩ := nz_some hn
          have st : run (x.cps.toList.drop (E + 1)) = run (x.cps.toList.drop (E + 2)) + 1 := run_step hc hcd
          have w : we x.cps.toList (E + 1) = E + 2 + run (x.cps.toList.drop (E + 2)) := by
            unfold we
            rw [if_neg (by rw [hc]; intro h; cases h; exact hc48 rfl)]
            omega
          have rl := run_le x.cps.toList (E + 2) (List.getElem?_eq_some_iff.mp hc).1
          have d4 : ¬ (true = false) := by simp
          rw [w]
          by_cases e3 : E + 2 + run (x.cps.toList.drop (E + 2)) = x.length
          · have d5 : ¬ (E + 2 + run (x.cps.toList.drop (E + 2)) = E + 1 ∨ E + 2 + run (x.cps.toList.drop (E + 2)) < x.length) := by omega
            rw [if_neg d5, if_neg d4, if_pos e3]
          · have d5 : E + 2 + run (x.cps.toList.drop (E + 2)) = E + 1 ∨ E + 2 + run (x.cps.toList.drop (E + 2)) < x.length := by omega
            rw [if_pos d5, if_neg d4, if_neg e3]
    rw [fin] at q
    refine ⟨fun σ' H5 => H5 = H4 ∧ σ' = [some (.str x), some (.int (k : Int)), some (.int (E : Int)), v3, none] ∧ E ≠ x.length, ?_, ?_⟩
    · simp only [tVar, rIxTH, rIxLH, gTupH, line_le, HO.tup.injEq, HO.lst.injEq, List.length_cons, List.length_nil, at0, at1, rU, tOst, tTest, rIxL, rIxT, C8.tCut, cxOf_K, tC, tOp, tUn, tSeq, tAsg, tNext, tRet, tRetN, tDrop, tIfS, tNever, gName, gNil, gCons, gTup, gSub, tPar, rI, rI0, rU, rEq, rNe, tB, tAnd, tOr, tNot, tAndV, tOrV, tNotV, tIf, tTup, tLst, tNil, tCons, tCB, tCall, tMeth, tMake, tFld, sFld, tDGet, sDPut, tDisp, tPairs, tBreak, tCont, scal_ii, scal_bb, scal_ss, List.getElem?_cons_zero, List.getElem?_cons_succ, List.set_cons_zero, List.set_cons_succ, Option.some.injEq, exists_eq_left', exists_eq_left, exists_and_left, V.int.injEq, V.bl.injEq, V.ref.injEq, V.str.injEq, List.cons.injEq, and_true, true_and, Bool.true_eq, List.nil_append, List.append_nil, List.cons_append, exists_eq', and_self, reduceCtorEq, false_or, or_false, false_and, exists_false, exists_const, and_assoc, if_true, Bool.false_eq_true, if_false, Nat.reduceAdd, Nat.reduceLeDiff, Nat.zero_add, Nat.le_refl, forall_const, st_L_shape_column]
      refine ⟨le_line hx, ite2 (fun h1 => ?_) (fun h1 => ?_)⟩
      · rw [if_pos (by have := of_decide_eq_true h1; omega)] at q
        exact q _ s4
      · exact fun z => h1 (decide_eq_true (by omega))
    rintro σ' H5 ⟨rfl, rfl, e1⟩
    rw [if_neg e1] at q
    obtain ⟨cE, hcE⟩ : ∃ c, x.cps.toList[E]? = some c := ⟨_, List.getElem?_eq_getElem (by omega)⟩
    refine ⟨fun σ' H6 => H6 = H5 ∧ σ' = [some (.str x), some (.int (k : Int)), some (.int (E : Int)), v3, none] ∧ ¬ (x.cps.toList[E]? ≠ some 47 ∨ x.cps.toList[0]? = some 48), ?_, ?_⟩
    · simp only [tVar, rIxTH, rIxLH, gTupH, line_le, HO.tup.injEq, HO.lst.injEq, List.length_cons, List.length_nil, at0, at1, rU, tOst, tTest, rIxL, rIxT, C8.tCut, cxOf_K, tC, tOp, tUn, tSeq, tAsg, tNext, tRet, tRetN, tDrop, tIfS, tNever, gName, gNil, gCons, gTup, gSub, tPar, rI, rI0, rU, rEq, rNe, tB, tAnd, tOr, tNot, tAndV, tOrV, tNotV, tIf, tTup, tLst, tNil, tCons, tCB, tCall, tMeth, tMake, tFld, sFld, tDGet, sDPut, tDisp, tPairs, tBreak, tCont, scal_ii, scal_bb, scal_ss, List.getElem?_cons_zero, List.getElem?_cons_succ, List.set_cons_zero, List.set_cons_succ, Option.some.injEq, exists_eq_left', exists_eq_left, exists_and_left, V.int.injEq, V.bl.injEq, V.ref.injEq, V.str.injEq, List.cons.injEq, and_true, true_and, Bool.true_eq, List.nil_append, List.append_nil, List.cons_append, exists_eq', and_self, reduceCtorEq, false_or, or_false, false_and, exists_false, exists_const, and_assoc, if_true, Bool.false_eq_true, if_false, Nat.reduceAdd, Nat.reduceLeDiff, Nat.zero_add, Nat.le_refl, forall_const, st_L_shape_column, rIxS, tSl, rSlS, tNoPart, tPart]
      refine ⟨le_line hx, cE, atI_nat hcE, ?_⟩
      rw [s_slash, singS]
      refine ite2 (fun h1 => ?_) (fun h1 => ?_)
      · have h1 : cE ≠ 47 := by simpa using h1
        have d : x.cps.toList[E]? ≠ some 47 ∨ x.cps.toList[0]? = some 48 := .inl (by rw [hcE]; simpa using h1)
        rw [if_pos d] at q
        exact q _ s4
      · have h1 : cE = 47 := by simpa using h1
        refine ⟨le_line hx, ?_⟩
        rw [cut_to x (by omega), s_zero]
        refine ite2 (fun h2 => ?_) (fun h2 => ?_)
        · have h2 : x.cps.toList.take E = [48] := by
            have := congrArg (fun z : Str => z.cps.toList) (of_decide_eq_true h2)
            simpa [tx] using this
          have d : x.cps.toList[E]? ≠ some 47 ∨ x.cps.toList[0]? = some 48 := .inr (by
            have := congrArg (fun z : List Nat => z[0]?) h2
            have e0 : 0 < E := by
              cases E with
              | zero => simp at h2
              | succ n => omega
            simpa [List.getElem?_take, e0] using this)
          rw [if_pos d] at q
          exact q _ s4
        · rintro (z | z)
          · exact z (by rw [hcE, h1])
          · have k0 : k = 0 := by rw [hk, if_neg (by rw [z]; simp)]
            subst k0
            rw [if_pos z] at hE
            refine h2 (decide_eq_true ?_)
            have : x.cps.toList.take E = [48] := by
              rw [← hE]
              cases e : x.cps.toList with
              | nil => rw [e] at z; cases z
              | cons c r =>
                rw [e] at z
                have : c = 48 := by simpa using z
                rw [this]
                rfl
            rw [this]
            rfl
    rintro σ' H6 ⟨rfl, rfl, e2⟩
    rw [if_neg e2] at q
    refine ⟨fun σ' H7 => Same H' H7 ∧ σ' = [some (.str x), some (.int (k : Int)), some (.int (E : Int)), v3, none] ∧ nzAt x.cps.toList (E + 1) = true, ?_, ?_⟩
    · simp only [tVar, rIxTH, rIxLH, gTupH, line_le, HO.tup.injEq, HO.lst.injEq, List.length_cons, List.length_nil, at0, at1, rU, tOst, tTest, rIxL, rIxT, C8.tCut, cxOf_K, tC, tOp, tUn, tSeq, tAsg, tNext, tRet, tRetN, tDrop, tIfS, tNever, gName, gNil, gCons, gTup, gSub, tPar, rI, rI0, rU, rEq, rNe, tB, tAnd, tOr, tNot, tAndV, tOrV, tNotV, tIf, tTup, tLst, tNil, tCons, tCB, tCall, tMeth, tMake, tFld, sFld, tDGet, sDPut, tDisp, tPairs, tBreak, tCont, scal_ii, scal_bb, scal_ss, List.getElem?_cons_zero, List.getElem?_cons_succ, List.set_cons_zero, List.set_cons_succ, Option.some.injEq, exists_eq_left', exists_eq_left, exists_and_left, V.int.injEq, V.bl.injEq, V.ref.injEq, V.str.injEq, List.cons.injEq, and_true, true_and, Bool.true_eq, List.nil_append, List.append_nil, List.cons_append, exists_eq', and_self, reduceCtorEq, false_or, or_false, false_and, exists_false, exists_const, and_assoc, if_true, Bool.false_eq_true, if_false, Nat.reduceAdd, Nat.reduceLeDiff, Nat.zero_add, Nat.le_refl, forall_const, st_L_shape_column, tSl, rSlS, tNoPart, tPart]
      rw [show ((E : Int) + 1) = ((E + 1 : Nat) : Int) from rfl, show ((E : Int) + 2) = ((E + 1 : Nat) : Int) + 1 by omega]
      refine ⟨le_line hx, by decide +kernel, notin_read (b := nzAt x.cps.toList (E + 1)) (in_nine _ _) (by omega) fun p hp => ?_⟩
      have s5 := s4.trans (same_new (o := .tup (L2.signs ("123456789" : Str).cps.toList)) hp)
      cases hn : nzAt x.cps.toList (E + 1) with
      | false =>
        rw [if_pos hn] at q
        exact ⟨true, rfl, iteT (q _ s5)⟩
      | true => exact ⟨false, rfl, iteF ⟨s5, rfl⟩⟩
    rintro σ' H7 ⟨s7, rfl, hn⟩
    rw [if_neg (by rw [hn]; simp)] at q
    obtain ⟨c, hc, hcd, hc48⟩ := nz_some hn
    have E2 : E + 2 ≤ x.length := by rw [← lenx]; exact (List.getElem?_eq_some_iff.mp hc).1
    have rl := run_le x.cps.toList (E + 2) (by omega)
    refine ⟨fun σ' H8 => H8 = H7 ∧ σ' = [some (.str x), some (.int (k : Int)), some (.int (E : Int)), v3, some (.int ((E + 2 : Nat) : Int))], ?_, ?_⟩
    · simp only [tVar, rIxTH, rIxLH, gTupH, line_le, HO.tup.injEq, HO.lst.injEq, List.length_cons, List.length_nil, at0, at1, rU, tOst, tTest, rIxL, rIxT, C8.tCut, cxOf_K, tC, tOp, tUn, tSeq, tAsg, tNext, tRet, tRetN, tDrop, tIfS, tNever, gName, gNil, gCons, gTup, gSub, tPar, rI, rI0, rU, rEq, rNe, tB, tAnd, tOr, tNot, tAndV, tOrV, tNotV, tIf, tTup, tLst, tNil, tCons, tCB, tCall, tMeth, tMake, tFld, sFld, tDGet, sDPut, tDisp, tPairs, tBreak, tCont, scal_ii, scal_bb, scal_ss, List.getElem?_cons_zero, List.getElem?_cons_succ, List.set_cons_zero, List.set_cons_succ, Option.some.injEq, exists_eq_left', exists_eq_left, exists_and_left, V.int.injEq, V.bl.injEq, V.ref.injEq, V.str.injEq, List.cons.injEq, and_true, true_and, Bool.true_eq, List.nil_append, List.append_nil, List.cons_append, exists_eq', and_self, reduceCtorEq, false_or, or_false, false_and, exists_false, exists_const, and_assoc, if_true, Bool.false_eq_true, if_false, Nat.reduceAdd, Nat.reduceLeDiff, Nat.zero_add, Nat.le_refl, forall_const, st_L_shape_column]
      rfl
    rintro σ' H8 ⟨rfl, rfl⟩
    refine ⟨fun σ' H9 => Same H' H9 ∧ ∃ (v3 : Option V), σ' = [some (.str x), some (.int (k : Int)), some (.int (E : Int)), v3, some (.int ((E + 2 + run (x.cps.toList.drop (E + 2)) : Nat) : Int))], ?_, ?_⟩
    · refine ⟨.str x, rfl, x, rfl, le_line hx, (x.length : Int), rfl, by omega, by omega, for_range (lo := 0) (n := x.length) (fun i σ' H4 => Same H' H4 ∧ ∃ (e : Nat) (v3 : Option V), σ' = [some (.str x), some (.int (k : Int)), some (.int (E : Int)), v3, some (.int (e : Int))] ∧ e ≤ x.length ∧ e = E + 2 + i ∧ e + run (x.cps.toList.drop e) = E + 2 + run (x.cps.toList.drop (E + 2))) ?_ ?_ ?_⟩
      · exact ⟨s7, E + 2, v3, rfl, E2, rfl, rfl⟩
      · rintro i σ' H4 hi ⟨s4, e, v3, rfl, ex, ei, z1⟩
        simp only [tVar, rIxTH, rIxLH, gTupH, line_le, HO.tup.injEq, HO.lst.injEq, List.length_cons, List.length_nil, at0, at1, rU, tOst, tTest, rIxL, rIxT, C8.tCut, cxOf_K, tC, tOp, tUn, tSeq, tAsg, tNext, tRet, tRetN, tDrop, tIfS, tNever, gName, gNil, gCons, gTup, gSub, tPar, rI, rI0, rU, rEq, rNe, tB, tAnd, tOr, tNot, tAndV, tOrV, tNotV, tIf, tTup, tLst, tNil, tCons, tCB, tCall, tMeth, tMake, tFld, sFld, tDGet, sDPut, tDisp, tPairs, tBreak, tCont, scal_ii, scal_bb, scal_ss, List.getElem?_cons_zero, List.getElem?_cons_succ, List.set_cons_zero, List.set_cons_succ, Option.some.injEq, exists_eq_left', exists_eq_left, exists_and_left, V.int.injEq, V.bl.injEq, V.ref.injEq, V.str.injEq, List.cons.injEq, and_true, true_and, Bool.true_eq, List.nil_append, List.append_nil, List.cons_append, exists_eq', and_self, reduceCtorEq, false_or, or_false, false_and, exists_false, exists_const, and_assoc, if_true, Bool.false_eq_true, if_false, Nat.reduceAdd, Nat.reduceLeDiff, Nat.zero_add, Nat.le_refl, forall_const, st_L_shape_column, rIxS, tSl, rSlS, tNoPart, tPart]
        refine ⟨le_line hx, by decide +kernel, notin_read (b := dAt x.cps.toList e) (in_ten _ _) ex fun p hp => ?_⟩
        have s5 := s4.trans (same_new (o := .tup (L2.signs ("0123456789" : Str).cps.toList)) hp)
        cases de : dAt x.cps.toList e with
        | false => exact ⟨true, rfl, iteT ⟨s5, by rw [dAt_none de] at z1; omega⟩⟩
        | true =>
          obtain ⟨c, hc, dc⟩ := dAt_some de
          have st := run_step hc dc
          have lt : e < x.length := by rw [HwT.len_list]; exact (List.getElem?_eq_some_iff.mp hc).1
          exact ⟨false, rfl, iteF ⟨s5, e + 1, rfl, by omega, by omega, by omega⟩⟩
      · rintro σ' H4 ⟨s4, e, v3, rfl, ex, ei, _⟩
        omega
    rintro σ' H9 ⟨s9, v4, rfl⟩
    simp only [tVar, rIxTH, rIxLH, gTupH, line_le, HO.tup.injEq, HO.lst.injEq, List.length_cons, List.length_nil, at0, at1, rU, tOst, tTest, rIxL, rIxT, C8.tCut, cxOf_K, tC, tOp, tUn, tSeq, tAsg, tNext, tRet, tRetN, tDrop, tIfS, tNever, gName, gNil, gCons, gTup, gSub, tPar, rI, rI0, rU, rEq, rNe, tB, tAnd, tOr, tNot, tAndV, tOrV, tNotV, tIf, tTup, tLst, tNil, tCons, tCB, tCall, tMeth, tMake, tFld, sFld, tDGet, sDPut, tDisp, tPairs, tBreak, tCont, scal_ii, scal_bb, scal_ss, List.getElem?_cons_zero, List.getElem?_cons_succ, List.set_cons_zero, List.set_cons_succ, Option.some.injEq, exists_eq_left', exists_eq_left, exists_and_left, V.int.injEq, V.bl.injEq, V.ref.injEq, V.str.injEq, List.cons.injEq, and_true, true_and, Bool.true_eq, List.nil_append, List.append_nil, List.cons_append, exists_eq', and_self, reduceCtorEq, false_or, or_false, false_and, exists_false, exists_const, and_assoc, if_true, Bool.false_eq_true, if_false, Nat.reduceAdd, Nat.reduceLeDiff, Nat.zero_add, Nat.le_refl, forall_const, st_L_shape_column]
    refine ⟨le_line hx, ite2 (fun h1 => ?_) (fun h1 => ?_)⟩
    · rw [if_pos (by have := of_decide_eq_true h1; omega)] at q
      exact q _ s9
    · rw [if_neg (fun z => h1 (decide_eq_true (by omega)))] at q
      exact q _ s9


end HwL
end

section
namespace HwL
open PySem PySem.Spec PyProof.Rows L2 LamX HwT
variable {P : Program} {w : World} {K : PySem.W.Frag} {mg : Str → Option Value} {base : Heap}

def AnsV (H : Hp) (v : V) : Ans → Prop
  | .inl c => v = .int c
  | .inr (t, n) => ∃ p, v = .ref p ∧ H p = some (.tup [.int t, .int n])
def spDue : Sp := fun vs H Q _ => ∃ x : Str, vs = [.str x] ∧ x.length ≤ 600 ∧ ∀ H' v, Same H H' → AnsV H' v (ans x.cps.toList) → Q v H'
abbrev s_L_due : Stmt := top 28
abbrev N_L_due : List Str := ["_law_text", "_law_column", "_law_parts", "_law_top", "_law_bottom"]
theorem sc_L_due : FnScope N_L_due ["_law_text"] (defScope s_L_due) := ⟨rfl, rfl, rfl, by decide +kernel, rfl, by decide +kernel, by decide +kernel⟩
theorem st_L_due {v0 : V} : L2.start N_L_due [v0] = [some v0, none, none, none, none] := rfl
theorem ok_L_due {f : Addr} {fd : FuncData} (F : FD K s_L_due "_law_due" "_law_due" f fd) (z_len : mg "len" = none) (z_int : mg "int" = none) (g_L_gcd : Gf P w K mg base "_law_gcd" 1 ["_law_one", "_law_two"] (spGcd)) (g_L_shape_column : Gf P w K mg base "_law_shape_column" 1 ["_law_text"] (spShape)) : FnOk P w K mg base (L2.CX P w) 2 f fd ["_law_text"] (spDue) := by
  have nd := sc_L_due.nd
  refine F.ok0 sc_L_due (fun vs H Q E h => ?_) (fun cdv A outer s H vs Q E hr h => ?_)
  · obtain ⟨x, rfl, _⟩ := h
    rfl
  · obtain ⟨x, rfl, hx, q⟩ := h
    refine ⟨_, (C8.pss_cut (ps_set (i := 1) nd rfl (Or.inl rfl) (pe_g g_L_shape_column hr (by decide) passL rfl (pa_cons (pv 0) pa_nil)))
        (C8.pss_cut (ps_if (pt_cmpR op_gt (pv 1) pe_int (nomark _)) (pss_one (ps_ret (pv 1))) pss_nil)
        (C8.pss_cut (ps_set (i := 2) nd rfl (Or.inl rfl) (pe_split (pv 0) pe_str))
        (C8.pss_cut (ps_if (pt_cmpR op_eq (pe_callB call_len_seq (by rfl) z_len (by decide +kernel) (pa_cons (pv 2) pa_nil)) pe_int (nomark _)) (pss_one (ps_ret (pe_tup (pa_cons (pe_callTy call_int_str (by rfl) z_int (by decide +kernel) (pa_cons (pv 0) pa_nil)) (pa_cons pe_int pa_nil))))) pss_nil)
        (C8.pss_cut (ps_par (i := 3) (j := 4) (by rfl) nd rfl rfl (by decide) rfl rfl (pa_cons (pe_callTy call_int_str (by rfl) z_int (by decide +kernel) (pa_cons (pe_ix ix_listH (pv 2) pe_int (fun _ _ => rfl)) pa_nil)) (pa_cons (pe_callTy call_int_str (by rfl) z_int (by decide +kernel) (pa_cons (pe_ix ix_listH (pv 2) pe_int (fun _ _ => rfl)) pa_nil)) pa_nil)) (by rfl))
        (pss_one (ps_ret (pe_ifExp (PW.pt (pw_and (pt_cmpR op_gt (pv 4) pe_int (nomark _)) (pw_and1 (pt_cmpR op_eq (pe_g g_L_gcd hr (by decide) passL rfl (pa_cons (pv 3) (pa_cons (pv 4) pa_nil))) pe_int (nomark _))))) (pe_tup (pa_cons (pv 3) (pa_cons (pv 4) pa_nil))) (pe_op op_add (pe_callB call_len_str (by rfl) z_len (by decide +kernel) (pa_cons (pe_ix ix_listH (pv 2) pe_int (fun _ _ => rfl)) pa_nil)) pe_int))))))))), ?_⟩
    have lx : x.cps.toList.length ≤ 600 := by rw [← HwT.len_list]; exact hx
    refine ⟨fun σ' H' => Same H H' ∧ σ' = [some (.str x), some (.int (col x.cps.toList : Nat)), none, none, none], ?_, ?_⟩
    · simp only [tVar, rIxTH, rIxLH, gTupH, line_le, HO.tup.injEq, HO.lst.injEq, List.length_cons, List.length_nil, at0, at1, rU, tOst, tTest, rIxL, rIxT, C8.tCut, cxOf_K, tC, tOp, tUn, tSeq, tAsg, tNext, tRet, tRetN, tDrop, tIfS, tNever, gName, gNil, gCons, gTup, gSub, tPar, rI, rI0, rU, rEq, rNe, tB, tAnd, tOr, tNot, tAndV, tOrV, tNotV, tIf, tTup, tLst, tNil, tCons, tCB, tCall, tMeth, tMake, tFld, sFld, tDGet, sDPut, tDisp, tPairs, tBreak, tCont, scal_ii, scal_bb, scal_ss, List.getElem?_cons_zero, List.getElem?_cons_succ, List.set_cons_zero, List.set_cons_succ, Option.some.injEq, exists_eq_left', exists_eq_left, exists_and_left, V.int.injEq, V.bl.injEq, V.ref.injEq, V.str.injEq, List.cons.injEq, and_true, true_and, Bool.true_eq, List.nil_append, List.append_nil, List.cons_append, exists_eq', and_self, reduceCtorEq, false_or, or_false, false_and, exists_false, exists_const, and_assoc, if_true, Bool.false_eq_true, if_false, Nat.reduceAdd, Nat.reduceLeDiff, Nat.zero_add, Nat.le_refl, forall_const, st_L_due]
      exact ⟨x, rfl, hx, fun H1 s1 => ⟨s1, rfl⟩⟩
    rintro σ' H1 ⟨s1, rfl⟩
    refine ⟨fun σ' H' => H' = H1 ∧ σ' = [some (.str x), some (.int (col x.cps.toList : Nat)), none, none, none] ∧ col x.cps.toList = 0, ?_, ?_⟩
    · simp only [tVar, rIxTH, rIxLH, gTupH, line_le, HO.tup.injEq, HO.lst.injEq, List.length_cons, List.length_nil, at0, at1, rU, tOst, tTest, rIxL, rIxT, C8.tCut, cxOf_K, tC, tOp, tUn, tSeq, tAsg, tNext, tRet, tRetN, tDrop, tIfS, tNever, gName, gNil, gCons, gTup, gSub, tPar, rI, rI0, rU, rEq, rNe, tB, tAnd, tOr, tNot, tAndV, tOrV, tNotV, tIf, tTup, tLst, tNil, tCons, tCB, tCall, tMeth, tMake, tFld, sFld, tDGet, sDPut, tDisp, tPairs, tBreak, tCont, scal_ii, scal_bb, scal_ss, List.getElem?_cons_zero, List.getElem?_cons_succ, List.set_cons_zero, List.set_cons_succ, Option.some.injEq, exists_eq_left', exists_eq_left, exists_and_left, V.int.injEq, V.bl.injEq, V.ref.injEq, V.str.injEq, List.cons.injEq, and_true, true_and, Bool.true_eq, List.nil_append, List.append_nil, List.cons_append, exists_eq', and_self, reduceCtorEq, false_or, or_false, false_and, exists_false, exists_const, and_assoc, if_true, Bool.false_eq_true, if_false, Nat.reduceAdd, Nat.reduceLeDiff, Nat.zero_add, Nat.le_refl, forall_const, st_L_due]
      refine ite2 (fun hc => ?_) (fun hc => ?_)
      · have hc : col x.cps.toList ≠ 0 := by have := of_decide_eq_true hc; omega
        exact q _ _ s1 (by rw [ans_wrong hc]; rfl)
      · by_cases z : (0 : Int) < (col x.cps.toList : Nat)
        · exact absurd (decide_eq_true z) hc
        · omega
    rintro σ' H2 ⟨rfl, rfl, hc⟩
    have form := col_form hc
    refine ⟨fun σ' H' => Same H H' ∧ ∃ p, σ' = [some (.str x), some (.int (col x.cps.toList : Nat)), some (.ref p), none, none] ∧ H' p = some (.lst ((Txt.split x ⟨#[47]⟩).map V.str)), ?_, ?_⟩
    · simp only [tVar, rIxTH, rIxLH, gTupH, line_le, HO.tup.injEq, HO.lst.injEq, List.length_cons, List.length_nil, at0, at1, rU, tOst, tTest, rIxL, rIxT, C8.tCut, cxOf_K, tC, tOp, tUn, tSeq, tAsg, tNext, tRet, tRetN, tDrop, tIfS, tNever, gName, gNil, gCons, gTup, gSub, tPar, rI, rI0, rU, rEq, rNe, tB, tAnd, tOr, tNot, tAndV, tOrV, tNotV, tIf, tTup, tLst, tNil, tCons, tCB, tCall, tMeth, tMake, tFld, sFld, tDGet, sDPut, tDisp, tPairs, tBreak, tCont, scal_ii, scal_bb, scal_ss, List.getElem?_cons_zero, List.getElem?_cons_succ, List.set_cons_zero, List.set_cons_succ, Option.some.injEq, exists_eq_left', exists_eq_left, exists_and_left, V.int.injEq, V.bl.injEq, V.ref.injEq, V.str.injEq, List.cons.injEq, and_true, true_and, Bool.true_eq, List.nil_append, List.append_nil, List.cons_append, exists_eq', and_self, reduceCtorEq, false_or, or_false, false_and, exists_false, exists_const, and_assoc, if_true, Bool.false_eq_true, if_false, Nat.reduceAdd, Nat.reduceLeDiff, Nat.zero_add, Nat.le_refl, forall_const, st_L_due, tM1, rNewStrs, s_slash]
      exact ⟨rfl, line_le (by omega), fun p hp => ⟨s1.trans (same_new hp), upd_same⟩⟩
    rintro σ' H3 ⟨s3, p, rfl, hp⟩
    rcases form with ⟨hn, n47⟩ | ⟨a, b, hl, na, nb, hn, hb, bn, b0⟩
    · rw [split_none n47] at hp
      obtain ⟨n, hn1, hn2⟩ := num_val hn lx
      have hn1 : PySem.intText? x = some n := hn1
      refine ⟨fun _ _ => False, ?_, fun _ _ h => h.elim⟩
      simp only [tVar, rIxTH, rIxLH, gTupH, line_le, HO.tup.injEq, HO.lst.injEq, List.length_cons, List.length_nil, at0, at1, rU, tOst, tTest, rIxL, rIxT, C8.tCut, cxOf_K, tC, tOp, tUn, tSeq, tAsg, tNext, tRet, tRetN, tDrop, tIfS, tNever, gName, gNil, gCons, gTup, gSub, tPar, rI, rI0, rU, rEq, rNe, tB, tAnd, tOr, tNot, tAndV, tOrV, tNotV, tIf, tTup, tLst, tNil, tCons, tCB, tCall, tMeth, tMake, tFld, sFld, tDGet, sDPut, tDisp, tPairs, tBreak, tCont, scal_ii, scal_bb, scal_ss, List.getElem?_cons_zero, List.getElem?_cons_succ, List.set_cons_zero, List.set_cons_succ, Option.some.injEq, exists_eq_left', exists_eq_left, exists_and_left, V.int.injEq, V.bl.injEq, V.ref.injEq, V.str.injEq, List.cons.injEq, and_true, true_and, Bool.true_eq, List.nil_append, List.append_nil, List.cons_append, exists_eq', and_self, reduceCtorEq, false_or, or_false, false_and, exists_false, exists_const, and_assoc, if_true, Bool.false_eq_true, if_false, Nat.reduceAdd, Nat.reduceLeDiff, Nat.zero_add, Nat.le_refl, forall_const, st_L_due]
      refine ⟨[V.str x], .inl (SqL.of hp), ?_⟩
      rw [if_pos (show decide (([V.str x].length : Int) = 1) = true from rfl)]
      exact ⟨n, hn1, by omega, fun p2 hp2 => q _ _ (s3.trans (same_new hp2)) (by rw [ans_int hc n47 hn1]; exact ⟨p2, rfl, upd_same⟩)⟩
    · rw [split_some hl na nb] at hp
      have hp : H3 p = some (.lst [V.str (tx a), V.str (tx b)]) := hp
      have l2 : a.length + (b.length + 1) ≤ 600 := by
        have := congrArg List.length hl
        rw [List.length_append, List.length_cons] at this
        omega
      obtain ⟨t, ht, tb⟩ := num_val hn (by omega)
      obtain ⟨n, hn', nb2, n1, ne⟩ := dig_val hb bn b0 (by omega)
      have an := ans_q hc hl na ht hn'
      refine ⟨fun σ' H' => H' = H3 ∧ σ' = [some (.str x), some (.int (col x.cps.toList : Nat)), some (.ref p), none, none], ?_, ?_⟩
      · simp only [tVar, rIxTH, rIxLH, gTupH, line_le, HO.tup.injEq, HO.lst.injEq, List.length_cons, List.length_nil, at0, at1, rU, tOst, tTest, rIxL, rIxT, C8.tCut, cxOf_K, tC, tOp, tUn, tSeq, tAsg, tNext, tRet, tRetN, tDrop, tIfS, tNever, gName, gNil, gCons, gTup, gSub, tPar, rI, rI0, rU, rEq, rNe, tB, tAnd, tOr, tNot, tAndV, tOrV, tNotV, tIf, tTup, tLst, tNil, tCons, tCB, tCall, tMeth, tMake, tFld, sFld, tDGet, sDPut, tDisp, tPairs, tBreak, tCont, scal_ii, scal_bb, scal_ss, List.getElem?_cons_zero, List.getElem?_cons_succ, List.set_cons_zero, List.set_cons_succ, Option.some.injEq, exists_eq_left', exists_eq_left, exists_and_left, V.int.injEq, V.bl.injEq, V.ref.injEq, V.str.injEq, List.cons.injEq, and_true, true_and, Bool.true_eq, List.nil_append, List.append_nil, List.cons_append, exists_eq', and_self, reduceCtorEq, false_or, or_false, false_and, exists_false, exists_const, and_assoc, if_true, Bool.false_eq_true, if_false, Nat.reduceAdd, Nat.reduceLeDiff, Nat.zero_add, Nat.le_refl, forall_const, st_L_due]
        refine ⟨_, .inl (SqL.of hp), ?_⟩
        rw [if_neg (show ¬ decide (([V.str (tx a), V.str (tx b)].length : Int) = 1) = true by simp)]
        trivial
      rintro σ' H4 ⟨rfl, rfl⟩
      have p0 : atI [V.str (tx a), V.str (tx b)] 0 = some (V.str (tx a)) := atI_nat (j := 0) rfl
      have p1 : atI [V.str (tx a), V.str (tx b)] 1 = some (V.str (tx b)) := atI_nat (j := 1) rfl
      refine ⟨fun σ' H' => H' = H4 ∧ σ' = [some (.str x), some (.int (col x.cps.toList : Nat)), some (.ref p), some (.int t), some (.int n)], ?_, ?_⟩
      · simp only [tVar, rIxTH, rIxLH, gTupH, line_le, HO.tup.injEq, HO.lst.injEq, List.length_cons, List.length_nil, at0, at1, rU, tOst, tTest, rIxL, rIxT, C8.tCut, cxOf_K, tC, tOp, tUn, tSeq, tAsg, tNext, tRet, tRetN, tDrop, tIfS, tNever, gName, gNil, gCons, gTup, gSub, tPar, rI, rI0, rU, rEq, rNe, tB, tAnd, tOr, tNot, tAndV, tOrV, tNotV, tIf, tTup, tLst, tNil, tCons, tCB, tCall, tMeth, tMake, tFld, sFld, tDGet, sDPut, tDisp, tPairs, tBreak, tCont, scal_ii, scal_bb, scal_ss, List.getElem?_cons_zero, List.getElem?_cons_succ, List.set_cons_zero, List.set_cons_succ, Option.some.injEq, exists_eq_left', exists_eq_left, exists_and_left, V.int.injEq, V.bl.injEq, V.ref.injEq, V.str.injEq, List.cons.injEq, and_true, true_and, Bool.true_eq, List.nil_append, List.append_nil, List.cons_append, exists_eq', and_self, reduceCtorEq, false_or, or_false, false_and, exists_false, exists_const, and_assoc, if_true, Bool.false_eq_true, if_false, Nat.reduceAdd, Nat.reduceLeDiff, Nat.zero_add, Nat.le_refl, forall_const, st_L_due, hp, p0, p1]
        exact ⟨t, ht, by rw [tx_len]; omega, n, hn', by rw [tx_len]; omega, rfl, rfl⟩
      rintro σ' H5 ⟨rfl, rfl⟩
      simp only [tVar, rIxTH, rIxLH, gTupH, line_le, HO.tup.injEq, HO.lst.injEq, List.length_cons, List.length_nil, at0, at1, rU, tOst, tTest, rIxL, rIxT, C8.tCut, cxOf_K, tC, tOp, tUn, tSeq, tAsg, tNext, tRet, tRetN, tDrop, tIfS, tNever, gName, gNil, gCons, gTup, gSub, tPar, rI, rI0, rU, rEq, rNe, tB, tAnd, tOr, tNot, tAndV, tOrV, tNotV, tIf, tTup, tLst, tNil, tCons, tCB, tCall, tMeth, tMake, tFld, sFld, tDGet, sDPut, tDisp, tPairs, tBreak, tCont, scal_ii, scal_bb, scal_ss, List.getElem?_cons_zero, List.getElem?_cons_succ, List.set_cons_zero, List.set_cons_succ, Option.some.injEq, exists_eq_left', exists_eq_left, exists_and_left, V.int.injEq, V.bl.injEq, V.ref.injEq, V.str.injEq, List.cons.injEq, and_true, true_and, Bool.true_eq, List.nil_append, List.append_nil, List.cons_append, exists_eq', and_self, reduceCtorEq, false_or, or_false, false_and, exists_false, exists_const, and_assoc, if_true, Bool.false_eq_true, if_false, Nat.reduceAdd, Nat.reduceLeDiff, Nat.zero_add, Nat.le_refl, forall_const, st_L_due, hp, p0]
      have la : (tx a).length ≤ sizeLine := line_le (by rw [tx_len]; omega)
      have bad : ¬ (1 < (n : Int) ∧ Nat.gcd t.natAbs (n : Int).natAbs = 1) → Q (.int (((tx a).length : Int) + 2)) H5 := fun z => q _ _ s3 (by rw [an, if_neg z, tx_len]; rfl)
      refine ite2 (fun h1 => ?_) (fun h1 => ⟨la, bad fun z => h1 (decide_eq_true z.1)⟩)
      refine ⟨t, n, rfl, HwM.lt_mono tb (by decide), by rw [Int.natAbs_natCast]; exact HwM.lt_mono nb2 (by decide), rfl, ite2 (fun h2 => fun p2 hp2 => ?_) (fun h2 => ⟨_, hp, _, p0, _, rfl, la, bad fun z => h2 (decide_eq_true (by rw [z.2]; rfl))⟩)⟩
      refine q _ _ (s3.trans (same_new hp2)) ?_
      have g : Nat.gcd t.natAbs (n : Int).natAbs = 1 := by
        have h2 := of_decide_eq_true h2
        simp only [V.int.injEq] at h2
        omega
      rw [an, if_pos ⟨of_decide_eq_true h1, g⟩]
      exact ⟨p2, rfl, upd_same⟩
def spRead (K : PySem.W.Frag) : Sp := fun vs H Q _ => ∃ v, vs = [v] ∧ ((∃ x : Str, v = .str x ∧ x.length ≤ 600 ∧ ∀ H' w, Same H H' → AnsV H' w (ans x.cps.toList) → Q w H') ∨ (∃ t, TyX K H v t ∧ PySem.W.kitOne K t (.type "str") = some false ∧ ∀ H', Same H H' → Q (.int 1) H'))
abbrev s_L_read : Stmt := top 29
abbrev N_L_read : List Str := ["_law_value", "_law_one", "e"]
theorem sc_L_read : FnScope N_L_read ["_law_value"] (defScope s_L_read) := ⟨rfl, rfl, rfl, by decide +kernel, rfl, by decide +kernel, by decide +kernel⟩
theorem st_L_read {v0 : V} : L2.start N_L_read [v0] = [some v0, none, none] := rfl
theorem ok_L_read {f : Addr} {fd : FuncData} (F : FD K s_L_read "_law_read" "_law_read" f fd) {C_Ratio C_BadText : Addr} (R : RatC K C_Ratio) (z_isinstance : mg "isinstance" = none) (m_Ratio : mg "Ratio" = some (.ref C_Ratio)) (m_BadText : mg "BadText" = some (.ref C_BadText)) (BX_BadText : XrC K C_BadText "line" "column") (g_L_pair : Gf P w K mg base "_law_pair" 1 ["_law_value"] (fun vs H Q _ => ∃ (C dx a : Addr) (t n : Int), vs = [.ref a] ∧ Cls K C ∧ NoAttr K C "top" ∧ NoAttr K C "bottom" ∧ H a = some (.ins C dx [("top", .int t), ("bottom", .int n)]) ∧ ∀ p, H p = none → Q (.ref p) (upd H p (.tup [.int t, .int n])))) (g_ratio_of : Gf P w K mg base "ratio_of" 5 ["text"] (spRd K C_Ratio C_BadText)) : FnOk P w K mg base (L2.CX P w) 6 f fd ["_law_value"] (spRead K) := by
  have nd := sc_L_read.nd
  refine F.ok0 sc_L_read (fun vs H Q E h => ?_) (fun cdv A outer s H vs Q E hr h => ?_)
  · obtain ⟨v, rfl, _⟩ := h
    rfl
  · obtain ⟨v, rfl, h⟩ := h
    refine ⟨_, (C8.pss_cut (ps_try_as (i := 2) (c := .ref C_BadText) rfl rfl nd rfl rfl ⟨rfl, by decide, .inl m_BadText⟩ L2.takes0 (fun W pn xe tk _ => (pss_one (ps_set (i := 1) nd rfl (Or.inl rfl) (pe_gS g_ratio_of hr (by decide) tk rfl (pa_cons (pv 0) pa_nil))))) (fun a oe cls d pn hz hf => (pss_one (ps_ret (pe_ifExp (pt_cmpR op_eq (pe_xf BX_BadText.T BX_BadText.n1 hz hf (pv 2)) pe_int (nomark _)) (pe_xf BX_BadText.T BX_BadText.n2 hz hf (pv 2)) (pe_un un_neg pe_int))))))
        (pss_one (ps_ret (pe_ifExp (pt_val (pe_callB (id := "isinstance") (r := rIsi K) (call_isiE rfl) (by rfl) z_isinstance (by decide +kernel) (pa_cons (pv 1) (pa_cons (pe_glob (v := .ref C_Ratio) rfl m_Ratio rfl) pa_nil)))) (pe_g g_L_pair hr (by decide) passL rfl (pa_cons (pv 1) pa_nil)) pe_non)))), ?_⟩
    refine ⟨fun σ' H' => Same H H' ∧ ∃ (x : Str) (t n : Int) (y : V), v = .str x ∧ x.length ≤ 600 ∧ ans x.cps.toList = .inr (t, n) ∧ (∀ H' w, Same H H' → AnsV H' w (ans x.cps.toList) → Q w H') ∧ σ' = [some (.str x), some y, none] ∧ IsTB C_Ratio H' y t n, ?_, ?_⟩
    · refine ⟨v, rfl, v, rfl, ?_⟩
      have caught : ∀ {c : Int} {H' : Hp} {d : Addr} {nx : L2.St → Hp → Prop}, Same H H' → H' d = some (.xd [("column", .int c), ("line", .int 1)]) → Q (.int c) H' →
          wAs K (.ref C_BadText) 2 (fun a cls d => tRet (tIf (tTest (tOp rEq (tXf a cls d C_BadText "line" (tVar 2)) (tC (V.int 1)))) (tXf a cls d C_BadText "column" (tVar 2)) (tUn (rU fun i => V.int (-i)) (tC (V.int 1))))) (fun _ _ _ _ => False)
            { nx := nx, rt := Q } (.ref C_BadText) (some d) [some v, none, none] H' := fun {c H' d nx} s1 hd kq => by
        refine ⟨true, BX_BadText.me, fun _ a ha => ?_, fun z => by cases z⟩
        have l2 : List.lookup ("line" : Str) [(("column" : Str), V.int c), ("line", V.int 1)] = some (V.int 1) := by
          have e : (("line" : Str) == ("column" : Str)) = false := by decide
          simp [List.lookup, e]
        have l1 : List.lookup ("column" : Str) [(("column" : Str), V.int c), ("line", V.int 1)] = some (V.int c) := by simp [List.lookup]
        simp only [tVar, rIxTH, rIxLH, gTupH, line_le, HO.tup.injEq, HO.lst.injEq, List.length_cons, List.length_nil, at0, at1, rU, tOst, tTest, rIxL, rIxT, C8.tCut, cxOf_K, tC, tOp, tUn, tSeq, tAsg, tNext, tRet, tRetN, tDrop, tIfS, tNever, gName, gNil, gCons, gTup, gSub, tPar, rI, rI0, rU, rEq, rNe, tB, tAnd, tOr, tNot, tAndV, tOrV, tNotV, tIf, tTup, tLst, tNil, tCons, tCB, tCall, tMeth, tMake, tFld, sFld, tDGet, sDPut, tDisp, tPairs, tBreak, tCont, scal_ii, scal_bb, scal_ss, List.getElem?_cons_zero, List.getElem?_cons_succ, List.set_cons_zero, List.set_cons_succ, Option.some.injEq, exists_eq_left', exists_eq_left, exists_and_left, V.int.injEq, V.bl.injEq, V.ref.injEq, V.str.injEq, List.cons.injEq, and_true, true_and, Bool.true_eq, List.nil_append, List.append_nil, List.cons_append, exists_eq', and_self, reduceCtorEq, false_or, or_false, false_and, exists_false, exists_const, and_assoc, if_true, Bool.false_eq_true, if_false, Nat.reduceAdd, Nat.reduceLeDiff, Nat.zero_add, Nat.le_refl, forall_const, st_L_read, tXf, hd, HO.xd.injEq, l1, l2]
        exact iteT kq
      rcases h with ⟨x, rfl, hx, k⟩ | ⟨t, ht, hk, k⟩
      · refine .inl ⟨x, rfl, hx, fun c ec H' d s1 hd => ?_, fun t n ea H' y s1 hy => ?_⟩
        · exact caught s1 hd (k H' _ s1 (by rw [ec]; rfl))
        · exact ⟨s1, x, t, n, y, rfl, hx, ea, k, rfl, hy⟩
      · refine .inr ⟨t, ht, hk, fun H' d s1 hd => ?_⟩
        exact caught s1 hd (k H' s1)
    rintro σ' H1 ⟨s1, x, t, n, y, rfl, hx, ea, k, rfl, a, dx, rfl, ha⟩
    simp only [tVar, rIxTH, rIxLH, gTupH, line_le, HO.tup.injEq, HO.lst.injEq, List.length_cons, List.length_nil, at0, at1, rU, tOst, tTest, rIxL, rIxT, C8.tCut, cxOf_K, tC, tOp, tUn, tSeq, tAsg, tNext, tRet, tRetN, tDrop, tIfS, tNever, gName, gNil, gCons, gTup, gSub, tPar, rI, rI0, rU, rEq, rNe, tB, tAnd, tOr, tNot, tAndV, tOrV, tNotV, tIf, tTup, tLst, tNil, tCons, tCB, tCall, tMeth, tMake, tFld, sFld, tDGet, sDPut, tDisp, tPairs, tBreak, tCont, scal_ii, scal_bb, scal_ss, List.getElem?_cons_zero, List.getElem?_cons_succ, List.set_cons_zero, List.set_cons_succ, Option.some.injEq, exists_eq_left', exists_eq_left, exists_and_left, V.int.injEq, V.bl.injEq, V.ref.injEq, V.str.injEq, List.cons.injEq, and_true, true_and, Bool.true_eq, List.nil_append, List.append_nil, List.cons_append, exists_eq', and_self, reduceCtorEq, false_or, or_false, false_and, exists_false, exists_const, and_assoc, if_true, Bool.false_eq_true, if_false, Nat.reduceAdd, Nat.reduceLeDiff, Nat.zero_add, Nat.le_refl, forall_const, st_L_read, rIsi]
    refine ⟨.ref C_Ratio, .ref C_Ratio, .own _, .base (.ins ha R.cl R.ha R.hn R.htk R.hm), true, by unfold PySem.W.kitOne; simp, iteT ⟨C_Ratio, R.cl, R.nt, R.nb, dx, t, n, ha, fun p hp => k _ _ (s1.trans (same_new hp)) ?_⟩⟩
    rw [ea]
    exact ⟨p, rfl, upd_same⟩


end HwL
end

section
namespace HwL
open PySem PySem.Spec PyProof.Rows L2 LamX HwT
variable {P : Program} {w : World} {K : PySem.W.Frag} {mg : Str → Option Value} {base : Heap}

def strB (n : Nat) : V → Bool
  | .str x => decide (x.length ≤ n)
  | _ => false
theorem few_str {xs : List V} {i : Nat} {v : V} {n : Nat} (h : xs[i]? = some v) (hb : xs.all (strB n) = true) : ∃ x : Str, v = .str x ∧ x.length ≤ n := by
  have := List.all_eq_true.mp hb v (List.mem_of_getElem? h)
  cases v with
  | str x => exact ⟨x, rfl, of_decide_eq_true this⟩
  | _ => cases this
def spStart : Sp := fun vs H Q _ => ∃ (p l : Addr) (c : Int), vs = [.ref p] ∧ PenAt H p l c ∧ c < 10000000 ∧ ∀ H' x, Ext p H H' → PenAt H' p l (c + 3) → x.length ≤ 200 → Q (.str x) H'
abbrev s_L_start : Stmt := top 30
abbrev N_L_start : List Str := ["_law_pen_here", "_law_way", "_law_top", "_law_bottom"]
theorem sc_L_start : FnScope N_L_start ["_law_pen_here"] (defScope s_L_start) := ⟨rfl, rfl, rfl, by decide +kernel, rfl, by decide +kernel, by decide +kernel⟩
theorem st_L_start {v0 : V} : L2.start N_L_start [v0] = [some v0, none, none, none] := rfl
theorem ok_L_start {f : Addr} {fd : FuncData} (F : FD K s_L_start "_law_start" "_law_start" f fd) (z_str : mg "str" = none) (g_L_written : Gf P w K mg base "_law_written" 1 ["_law_one"] (fun vs H Q _ => ∃ (a : Addr) (q : Rat), vs = [.ref a] ∧ H a = some (.tup (qv q)) ∧ HwM.Bd 60 q ∧ ∀ x : Str, x.length ≤ 200 → Q (.str x) H)) (g_L_q : Gf P w K mg base "_law_q" 2 ["_law_top", "_law_bottom"] (spQ)) (g_L_draw : Gf P w K mg base "_law_draw" 1 ["_law_pen_here", "_law_many"] (spDraw)) (g_L_pick : Gf P w K mg base "_law_pick" 2 ["_law_pen_here", "_law_some"] (spPick)) : FnOk P w K mg base (L2.CX P w) 3 f fd ["_law_pen_here"] (spStart) := by
  have nd := sc_L_start.nd
  refine F.ok0 sc_L_start (fun vs H Q E h => ?_) (fun cdv A outer s H vs Q E hr h => ?_)
  · obtain ⟨p, l, c, rfl, _⟩ := h
    rfl
  · obtain ⟨p, l, c, rfl, hp, hc, k⟩ := h
    refine ⟨_, (C8.pss_cut (ps_set (i := 1) nd rfl (Or.inl rfl) (pe_g g_L_draw hr (by decide) passL rfl (pa_cons (pv 0) (pa_cons pe_int pa_nil))))
        (C8.pss_cut (ps_if (pt_cmpR op_eq (pv 1) pe_int (nomark _)) (pss_one (ps_ret (pe_g g_L_pick hr (by decide) passL rfl (pa_cons (pv 0) (pa_cons (pe_lst (pa_cons pe_str (pa_cons pe_str (pa_cons pe_str (pa_cons pe_str (pa_cons pe_str (pa_cons pe_str (pa_cons pe_str (pa_cons pe_str (pa_cons pe_str (pa_cons pe_str pa_nil))))))))))) pa_nil))))) pss_nil)
        (C8.pss_cut (ps_par (i := 2) (j := 3) (by rfl) nd rfl rfl (by decide) rfl rfl (pa_cons (pe_op op_sub (pe_g g_L_draw hr (by decide) passL rfl (pa_cons (pv 0) (pa_cons (pe_op op_pow pe_int pe_int) pa_nil))) pe_int) (pa_cons (pe_op op_add pe_int (pe_g g_L_draw hr (by decide) passL rfl (pa_cons (pv 0) (pa_cons pe_int pa_nil)))) pa_nil)) (by rfl))
        (pss_cons (ps_if (pt_cmpR op_eq (pv 1) pe_int (nomark _)) (pss_one (ps_ret (pe_op op_add_str (pe_op op_add_str (pe_callTy call_str_int (by rfl) z_str (by decide +kernel) (pa_cons (pv 2) pa_nil)) pe_str) (pe_callTy call_str_int (by rfl) z_str (by decide +kernel) (pa_cons (pv 3) pa_nil))))) pss_nil)
        (pss_one (ps_ret (pe_g g_L_written hr (by decide) passL rfl (pa_cons (pe_g g_L_q hr (by decide) passL rfl (pa_cons (pv 2) (pa_cons (pv 3) pa_nil))) pa_nil)))))))), ?_⟩
    refine ⟨fun σ' H' => Ext p H H' ∧ PenAt H' p l (c + 1) ∧ ∃ w : Int, σ' = [some (.ref p), some (.int w), none, none], ?_, ?_⟩
    · simp only [tVar, rIxTH, rIxLH, gTupH, line_le, HO.tup.injEq, HO.lst.injEq, List.length_cons, List.length_nil, at0, at1, rU, tOst, tTest, rIxL, rIxT, C8.tCut, cxOf_K, tC, tOp, tUn, tSeq, tAsg, tNext, tRet, tRetN, tDrop, tIfS, tNever, gName, gNil, gCons, gTup, gSub, tPar, rI, rI0, rU, rEq, rNe, tB, tAnd, tOr, tNot, tAndV, tOrV, tNotV, tIf, tTup, tLst, tNil, tCons, tCB, tCall, tMeth, tMake, tFld, sFld, tDGet, sDPut, tDisp, tPairs, tBreak, tCont, scal_ii, scal_bb, scal_ss, List.getElem?_cons_zero, List.getElem?_cons_succ, List.set_cons_zero, List.set_cons_succ, Option.some.injEq, exists_eq_left', exists_eq_left, exists_and_left, V.int.injEq, V.bl.injEq, V.ref.injEq, V.str.injEq, List.cons.injEq, and_true, true_and, Bool.true_eq, List.nil_append, List.append_nil, List.cons_append, exists_eq', and_self, reduceCtorEq, false_or, or_false, false_and, exists_false, exists_const, and_assoc, if_true, Bool.false_eq_true, if_false, Nat.reduceAdd, Nat.reduceLeDiff, Nat.zero_add, Nat.le_refl, forall_const, st_L_start]
      exact ⟨p, l, c, 4, rfl, hp, by omega, by decide, by decide, fun H1 r x1 p1 _ _ => ⟨x1, p1, r, rfl⟩⟩
    rintro σ' H1 ⟨x1, p1, w, rfl⟩
    refine ⟨fun σ' H' => H' = H1 ∧ σ' = [some (.ref p), some (.int w), none, none], ?_, ?_⟩
    · simp only [tVar, rIxTH, rIxLH, gTupH, line_le, HO.tup.injEq, HO.lst.injEq, List.length_cons, List.length_nil, at0, at1, rU, tOst, tTest, rIxL, rIxT, C8.tCut, cxOf_K, tC, tOp, tUn, tSeq, tAsg, tNext, tRet, tRetN, tDrop, tIfS, tNever, gName, gNil, gCons, gTup, gSub, tPar, rI, rI0, rU, rEq, rNe, tB, tAnd, tOr, tNot, tAndV, tOrV, tNotV, tIf, tTup, tLst, tNil, tCons, tCB, tCall, tMeth, tMake, tFld, sFld, tDGet, sDPut, tDisp, tPairs, tBreak, tCont, scal_ii, scal_bb, scal_ss, List.getElem?_cons_zero, List.getElem?_cons_succ, List.set_cons_zero, List.set_cons_succ, Option.some.injEq, exists_eq_left', exists_eq_left, exists_and_left, V.int.injEq, V.bl.injEq, V.ref.injEq, V.str.injEq, List.cons.injEq, and_true, true_and, Bool.true_eq, List.nil_append, List.append_nil, List.cons_append, exists_eq', and_self, reduceCtorEq, false_or, or_false, false_and, exists_false, exists_const, and_assoc, if_true, Bool.false_eq_true, if_false, Nat.reduceAdd, Nat.reduceLeDiff, Nat.zero_add, Nat.le_refl, forall_const, st_L_start]
      refine ite2 (fun _ => ?_) (fun _ => trivial)
      refine fun a1 ha1 => ⟨p, l, a1, c + 1, _, rfl, p1.same (same_new ha1), by omega, upd_same, by decide, by decide, fun H' i v x2 p2 hv => ?_⟩
      obtain ⟨x, rfl, hx⟩ := few_str (n := 200) hv (by decide +kernel)
      exact k _ x ((x1.trans (.of (same_new ha1))).trans x2) (p2.mono (by omega)) hx
    rintro σ' H2 ⟨rfl, rfl⟩
    refine ⟨fun σ' H' => Ext p H H' ∧ PenAt H' p l (c + 3) ∧ ∃ t b : Int, σ' = [some (.ref p), some (.int w), some (.int t), some (.int b)] ∧ t.natAbs < 2 ^ 30 ∧ b.natAbs < 2 ^ 30 ∧ b ≠ 0, ?_, ?_⟩
    · have e6 : (10 : Int) ^ Int.toNat 6 = 1000000 := by decide
      simp only [tVar, rIxTH, rIxLH, gTupH, line_le, HO.tup.injEq, HO.lst.injEq, List.length_cons, List.length_nil, at0, at1, rU, tOst, tTest, rIxL, rIxT, C8.tCut, cxOf_K, tC, tOp, tUn, tSeq, tAsg, tNext, tRet, tRetN, tDrop, tIfS, tNever, gName, gNil, gCons, gTup, gSub, tPar, rI, rI0, rU, rEq, rNe, tB, tAnd, tOr, tNot, tAndV, tOrV, tNotV, tIf, tTup, tLst, tNil, tCons, tCB, tCall, tMeth, tMake, tFld, sFld, tDGet, sDPut, tDisp, tPairs, tBreak, tCont, scal_ii, scal_bb, scal_ss, List.getElem?_cons_zero, List.getElem?_cons_succ, List.set_cons_zero, List.set_cons_succ, Option.some.injEq, exists_eq_left', exists_eq_left, exists_and_left, V.int.injEq, V.bl.injEq, V.ref.injEq, V.str.injEq, List.cons.injEq, and_true, true_and, Bool.true_eq, List.nil_append, List.append_nil, List.cons_append, exists_eq', and_self, reduceCtorEq, false_or, or_false, false_and, exists_false, exists_const, and_assoc, if_true, Bool.false_eq_true, if_false, Nat.reduceAdd, Nat.reduceLeDiff, Nat.zero_add, Nat.le_refl, forall_const, st_L_start, CPow, e6]
      refine ⟨by decide, by decide, by decide, p, l, c + 1, 1000000, rfl, p1, by omega, by decide, by decide, fun H3 r x2 p2 r0 r1 => ?_⟩
      exact ⟨r, rfl, p, l, c + 1 + 1, 60, rfl, p2, by omega, by decide, by decide, fun H4 u x3 p3 u0 u1 => ⟨u, rfl, (x1.trans x2).trans x3, p3.mono (by omega), by omega, by omega, by omega⟩⟩
    rintro σ' H3 ⟨x3, p3, t, b, rfl, tb, bb, b0⟩
    simp only [tVar, rIxTH, rIxLH, gTupH, line_le, HO.tup.injEq, HO.lst.injEq, List.length_cons, List.length_nil, at0, at1, rU, tOst, tTest, rIxL, rIxT, C8.tCut, cxOf_K, tC, tOp, tUn, tSeq, tAsg, tNext, tRet, tRetN, tDrop, tIfS, tNever, gName, gNil, gCons, gTup, gSub, tPar, rI, rI0, rU, rEq, rNe, tB, tAnd, tOr, tNot, tAndV, tOrV, tNotV, tIf, tTup, tLst, tNil, tCons, tCB, tCall, tMeth, tMake, tFld, sFld, tDGet, sDPut, tDisp, tPairs, tBreak, tCont, scal_ii, scal_bb, scal_ss, List.getElem?_cons_zero, List.getElem?_cons_succ, List.set_cons_zero, List.set_cons_succ, Option.some.injEq, exists_eq_left', exists_eq_left, exists_and_left, V.int.injEq, V.bl.injEq, V.ref.injEq, V.str.injEq, List.cons.injEq, and_true, true_and, Bool.true_eq, List.nil_append, List.append_nil, List.cons_append, exists_eq', and_self, reduceCtorEq, false_or, or_false, false_and, exists_false, exists_const, and_assoc, if_true, Bool.false_eq_true, if_false, Nat.reduceAdd, Nat.reduceLeDiff, Nat.zero_add, Nat.le_refl, forall_const, st_L_start]
    have l1 := str_len (i := t) (Nat.lt_trans tb (by decide))
    have l2 := str_len (i := b) (Nat.lt_trans bb (by decide))
    have len : ∀ a b : Str, (a ++ b).length = a.length + b.length := fun a b => by
      show (Str.append a b).length = _
      unfold Str.append Str.length
      simp
    have ls : ("/" : Str).length = 1 := by rw [s_slash]; rfl
    have f : ∀ n : Nat, n ≤ 1000 → n ≤ sizeLine := fun n h => line_le h
    refine ite2 (fun _ => ⟨l1.2, f _ (by omega), l2.2, f _ (by rw [len]; omega), k _ _ x3 p3 (by rw [len, len]; omega)⟩) (fun _ => ?_)
    refine ⟨t, b, rfl, b0, Nat.lt_of_lt_of_le tb (Nat.pow_le_pow_right (by decide) (by decide)), Nat.lt_of_lt_of_le bb (Nat.pow_le_pow_right (by decide) (by decide)), fun p2 hp2 => ⟨p2, rfl, _, upd_same, (HwM.divInt_bd (n := 30) (by decide) tb bb).mono (by decide), fun x hx => k _ x (x3.trans (.of (same_new hp2))) (p3.same (same_new hp2)) hx⟩⟩
/-- a value read that is as it should be -/
theorem made_rat2 {C CB : Addr} {H : Hp} {t b : Int} {Q : Addr → Hp → Prop} {E : XK} (hb : b.natAbs < 2 ^ 9000) (k : b ≠ 0 → ∀ H' x, Same H H' → IsR C H' (.ref x) (Rat.divInt t b) → Q x H') (ke : b = 0 → Bot0 CB H E) (x dx : Addr) (hx : H x = none) (hd : H dx = none) (hne : dx ≠ x) :
    spInit C CB [.ref x, .int t, .int b] (upd (upd H dx (.own x)) x (.ins C dx [])) (fun v H2 => v = .non ∧ Q x H2) E := by
  have sm : Same H (upd (upd H dx (.own x)) x (.ins C dx [])) := fun c o e => by rw [upd_ne (ne_of_none e hx), upd_ne (ne_of_none e hd)]; exact e
  refine ⟨x, dx, t, b, rfl, upd_same, hb, fun h => ⟨rfl, k h _ _ (fun c o e => ?_) ⟨x, dx, rfl, upd_same⟩⟩, fun h H' d e1 e2 => ke h H' d (sm.trans e1) e2⟩
  rw [upd_ne (ne_of_none e hx)]
  exact sm _ _ e
theorem ans_ne {K : PySem.W.Frag} {H : Hp} {v w : V} {r : Ans} {Q : VK} (hv : AnsV H v r) (hw : AnsV H w r) (k : Q (.bl false) H) : rNeD K v w H Q := by
  cases r with
  | inl c =>
    cases hv
    cases hw
    refine ⟨.int c, .int c, .int c, .int c, by rfl, by rfl, ?_⟩
    rw [show PyData.eqv (.int c) (.int c) = true by simp [PyData.eqv]]
    exact k
  | inr tn =>
    obtain ⟨t, n⟩ := tn
    obtain ⟨p, rfl, hp⟩ := hv
    obtain ⟨q, rfl, hq⟩ := hw
    refine ⟨.tuple [.int t, .int n], .tuple [.int t, .int n], .tup (SqT.of hp) (.cons (.int _) (.cons (.int _) .nil)), .tup (SqT.of hq) (.cons (.int _) (.cons (.int _) .nil)), by rfl, by rfl, ?_⟩
    rw [show PyData.eqv (.tuple [.int t, .int n]) (.tuple [.int t, .int n]) = true by simp [PyData.eqv, PyData.eqvAll]]
    exact k
theorem AnsV.same {H H' : Hp} {v : V} {r : Ans} (h : AnsV H v r) (e : Same H H') : AnsV H' v r := by
  cases r with
  | inl c => exact h
  | inr tn =>
    obtain ⟨t, n⟩ := tn
    obtain ⟨p, rfl, hp⟩ := h
    exact ⟨p, rfl, e _ _ hp⟩
def spLaw2 (K : PySem.W.Frag) : Sp := fun vs H Q _ => ∃ (a : Addr) (ns : List Int), vs = [.ref a] ∧ SqL K H a (ns.map V.int) ∧ ns.length ≤ 63 ∧ ∀ H', Q (.bl true) H'
abbrev s_law : Stmt := top 31
abbrev N_law : List Str := ["_law_script", "_law_pen_here", "_law_turn", "_law_text", "_law_bend", "_law_at", "_law_sign", "_law_odd"]
theorem sc_law : FnScope N_law ["_law_script"] (defScope s_law) := ⟨rfl, rfl, rfl, by decide +kernel, rfl, by decide +kernel, by decide +kernel⟩
theorem st_law {v0 : V} : L2.start N_law [v0] = [some v0, none, none, none, none, none, none, none] := rfl
theorem ok_law {f : Addr} {fd : FuncData} (F : FD K s_law "law" "law" f fd) {C_Ratio C_BadNumber : Addr} (R : RatC K C_Ratio) (kS : PySem.W.kitOne K (.ref C_Ratio) (.type "str") = some false) (z_range : mg "range" = none) (z_len : mg "len" = none) (g_L_read : Gf P w K mg base "_law_read" 6 ["_law_value"] (spRead K)) (g_Ratio : Kf P w K mg base "Ratio" C_Ratio 3 ["self", "top", "bottom"] [] (spInit C_Ratio C_BadNumber)) (g_L_draw : Gf P w K mg base "_law_draw" 1 ["_law_pen_here", "_law_many"] (spDraw)) (g_L_pick : Gf P w K mg base "_law_pick" 2 ["_law_pen_here", "_law_some"] (spPick)) (g_L_due : Gf P w K mg base "_law_due" 2 ["_law_text"] (spDue)) (g_L_start : Gf P w K mg base "_law_start" 3 ["_law_pen_here"] (spStart)) (g_L_pen : Gf P w K mg base "_law_pen" 1 ["_law_script"] (spPen K)) : FnOk P w K mg base (L2.CX P w) 7 f fd ["_law_script"] (spLaw2 K) := by
  have nd := sc_law.nd
  refine F.ok0 sc_law (fun vs H Q E h => ?_) (fun cdv A outer s H vs Q E hr h => ?_)
  · obtain ⟨a, ns, rfl, _⟩ := h
    rfl
  · obtain ⟨a, ns, rfl, hS, hlen, k⟩ := h
    refine ⟨_, (pss_cons (ps_set (i := 1) nd rfl (Or.inl rfl) (pe_g g_L_pen hr (by decide) passL rfl (pa_cons (pv 0) pa_nil)))
        (pss_cons (ps_for PassesOwn.never rfl (pi_range1 rfl z_range (pa_cons pe_int pa_nil)) (pg_name (i := 2) nd rfl (Or.inl rfl)) (C8.pss_cut (ps_set (i := 3) nd rfl (Or.inl rfl) (pe_g g_L_start hr (by decide) passL rfl (pa_cons (pv 1) pa_nil)))
        (C8.pss_cut (ps_for PassesOwn.never rfl (pi_range1 rfl z_range (pa_cons pe_int pa_nil)) (pg_name (i := 4) nd rfl (Or.inl rfl)) (pss_cons (ps_if (pt_cmpR (op_neD hr.units) (pe_g g_L_read hr (by decide) passL rfl (pa_cons (pv 3) pa_nil)) (pe_g g_L_due hr (by decide) passL rfl (pa_cons (pv 3) pa_nil)) (nomark _)) (pss_one (ps_ret pe_bl)) pss_nil)
        (pss_cons (ps_set (i := 5) nd rfl (Or.inl rfl) (pe_g g_L_draw hr (by decide) passL rfl (pa_cons (pv 1) (pa_cons (pe_op op_add (pe_callB call_len_str (by rfl) z_len (by decide +kernel) (pa_cons (pv 3) pa_nil)) pe_int) pa_nil))))
        (pss_cons (ps_set (i := 6) nd rfl (Or.inl rfl) (pe_g g_L_pick hr (by decide) passL rfl (pa_cons (pv 1) (pa_cons (pe_lst (pa_cons pe_str (pa_cons pe_str (pa_cons pe_str (pa_cons pe_str (pa_cons pe_str (pa_cons pe_str (pa_cons pe_str (pa_cons pe_str (pa_cons pe_str pa_nil)))))))))) pa_nil))))
        (pss_one (ps_set (i := 3) nd rfl (Or.inl rfl) (pe_op op_add_str (pe_op op_add_str (pe_slice sl_str (pv 3) po_none (po_some (pv 5))) (pv 6)) (pe_slice sl_str (pv 3) (po_some (pe_op op_add (pv 5) (pe_g g_L_draw hr (by decide) passL rfl (pa_cons (pv 1) (pa_cons pe_int pa_nil))))) po_none))))))))
        (C8.pss_cut (ps_set (i := 7) nd rfl (Or.inl rfl) (pe_ix ix_listH (pe_lst (pa_cons pe_non (pa_cons pe_int (pa_cons (pe_k g_Ratio hr (by decide) passL rfl (pa_cons pe_int (pa_cons pe_int pa_nil))) (pa_cons (pe_tup (pa_cons pe_str pa_nil)) (pa_cons (pe_lst (pa_cons pe_str pa_nil)) (pa_cons pe_bl pa_nil))))))) (pe_g g_L_draw hr (by decide) passL rfl (pa_cons (pv 1) (pa_cons pe_int pa_nil))) (fun _ _ => rfl)))
        (pss_one (ps_if (pt_cmpR op_ne (pe_g g_L_read hr (by decide) passL rfl (pa_cons (pv 7) pa_nil)) pe_int (nomark _)) (pss_one (ps_ret pe_bl)) pss_nil))))))
        (pss_one (ps_ret pe_bl)))), ?_⟩
    simp only [tVar, rIxTH, rIxLH, gTupH, line_le, HO.tup.injEq, HO.lst.injEq, List.length_cons, List.length_nil, at0, at1, rU, tOst, tTest, rIxL, rIxT, C8.tCut, cxOf_K, tC, tOp, tUn, tSeq, tAsg, tNext, tRet, tRetN, tDrop, tIfS, tNever, gName, gNil, gCons, gTup, gSub, tPar, rI, rI0, rU, rEq, rNe, tB, tAnd, tOr, tNot, tAndV, tOrV, tNotV, tIf, tTup, tLst, tNil, tCons, tCB, tCall, tMeth, tMake, tFld, sFld, tDGet, sDPut, tDisp, tPairs, tBreak, tCont, scal_ii, scal_bb, scal_ss, List.getElem?_cons_zero, List.getElem?_cons_succ, List.set_cons_zero, List.set_cons_succ, Option.some.injEq, exists_eq_left', exists_eq_left, exists_and_left, V.int.injEq, V.bl.injEq, V.ref.injEq, V.str.injEq, List.cons.injEq, and_true, true_and, Bool.true_eq, List.nil_append, List.append_nil, List.cons_append, exists_eq', and_self, reduceCtorEq, false_or, or_false, false_and, exists_false, exists_const, and_assoc, if_true, Bool.false_eq_true, if_false, Nat.reduceAdd, Nat.reduceLeDiff, Nat.zero_add, Nat.le_refl, forall_const, st_law]
    refine ⟨a, ns, rfl, hS, hlen, fun H0 p l s0 hp0 hpen => ?_⟩
    clear hS s0 hp0
    refine ⟨4, rfl, by decide, by decide, ?_⟩
    refine for_range (lo := 0) (n := 4) (fun i σ H' => ∃ v2 v3 v4 v5 v6 v7, σ = [some (.ref a), some (.ref p), v2, v3, v4, v5, v6, v7] ∧ PenAt H' p l (40 * i)) ?_ ?_ ?_
    · exact ⟨_, _, _, _, _, _, rfl, hpen⟩
    · rintro i σ H1 hi ⟨v2, v3, v4, v5, v6, v7, rfl, p1⟩
      refine ⟨fun σ' H' => PenAt H' p l (40 * i + 3) ∧ ∃ (x : Str) (v4 v5 v6 v7 : Option V), σ' = [some (.ref a), some (.ref p), some (.int (0 + (i : Int))), some (.str x), v4, v5, v6, v7] ∧ x.length ≤ 200, ?_, ?_⟩
      · simp only [tVar, rIxTH, rIxLH, gTupH, line_le, HO.tup.injEq, HO.lst.injEq, List.length_cons, List.length_nil, at0, at1, rU, tOst, tTest, rIxL, rIxT, C8.tCut, cxOf_K, tC, tOp, tUn, tSeq, tAsg, tNext, tRet, tRetN, tDrop, tIfS, tNever, gName, gNil, gCons, gTup, gSub, tPar, rI, rI0, rU, rEq, rNe, tB, tAnd, tOr, tNot, tAndV, tOrV, tNotV, tIf, tTup, tLst, tNil, tCons, tCB, tCall, tMeth, tMake, tFld, sFld, tDGet, sDPut, tDisp, tPairs, tBreak, tCont, scal_ii, scal_bb, scal_ss, List.getElem?_cons_zero, List.getElem?_cons_succ, List.set_cons_zero, List.set_cons_succ, Option.some.injEq, exists_eq_left', exists_eq_left, exists_and_left, V.int.injEq, V.bl.injEq, V.ref.injEq, V.str.injEq, List.cons.injEq, and_true, true_and, Bool.true_eq, List.nil_append, List.append_nil, List.cons_append, exists_eq', and_self, reduceCtorEq, false_or, or_false, false_and, exists_false, exists_const, and_assoc, if_true, Bool.false_eq_true, if_false, Nat.reduceAdd, Nat.reduceLeDiff, Nat.zero_add, Nat.le_refl, forall_const, st_law]
        exact ⟨p, l, 40 * i, rfl, p1, by omega, fun H2 x x2 p2 hx => ⟨p2, x, rfl, hx⟩⟩
      rintro σ' H2 ⟨p2, x, v4, v5, v6, v7, rfl, hx⟩
      refine ⟨fun σ' H' => PenAt H' p l (40 * i + 15) ∧ ∃ (x : Str) (v4 v5 v6 v7 : Option V), σ' = [some (.ref a), some (.ref p), some (.int (0 + (i : Int))), some (.str x), v4, v5, v6, v7], ?_, ?_⟩
      · refine ⟨4, rfl, by decide, by decide, for_range (lo := 0) (n := 4) (fun j σ' H' => PenAt H' p l (40 * i + 3 + 3 * j) ∧ ∃ (x : Str) (v4 v5 v6 v7 : Option V), σ' = [some (.ref a), some (.ref p), some (.int (0 + (i : Int))), some (.str x), v4, v5, v6, v7] ∧ x.length ≤ 200 + j) ?_ ?_ ?_⟩
        · exact ⟨by simpa using p2, x, v4, v5, v6, v7, rfl, by omega⟩
        · rintro j σ' H3 hj ⟨p3, x, v4, v5, v6, v7, rfl, hx⟩
          simp only [tVar, rIxTH, rIxLH, gTupH, line_le, HO.tup.injEq, HO.lst.injEq, List.length_cons, List.length_nil, at0, at1, rU, tOst, tTest, rIxL, rIxT, C8.tCut, cxOf_K, tC, tOp, tUn, tSeq, tAsg, tNext, tRet, tRetN, tDrop, tIfS, tNever, gName, gNil, gCons, gTup, gSub, tPar, rI, rI0, rU, rEq, rNe, tB, tAnd, tOr, tNot, tAndV, tOrV, tNotV, tIf, tTup, tLst, tNil, tCons, tCB, tCall, tMeth, tMake, tFld, sFld, tDGet, sDPut, tDisp, tPairs, tBreak, tCont, scal_ii, scal_bb, scal_ss, List.getElem?_cons_zero, List.getElem?_cons_succ, List.set_cons_zero, List.set_cons_succ, Option.some.injEq, exists_eq_left', exists_eq_left, exists_and_left, V.int.injEq, V.bl.injEq, V.ref.injEq, V.str.injEq, List.cons.injEq, and_true, true_and, Bool.true_eq, List.nil_append, List.append_nil, List.cons_append, exists_eq', and_self, reduceCtorEq, false_or, or_false, false_and, exists_false, exists_const, and_assoc, if_true, Bool.false_eq_true, if_false, Nat.reduceAdd, Nat.reduceLeDiff, Nat.zero_add, Nat.le_refl, forall_const, st_law, tSl, rSlS, tNoPart, tPart]
          refine ⟨_, rfl, .inl ⟨x, rfl, by omega, fun H4 w s4 a4 => ?_⟩⟩
          refine ⟨x, rfl, by omega, fun H5 w2 s5 a5 => ans_ne (a4.same s5) a5 ?_⟩
          have p5 := (p3.same s4).same s5
          have lx : x.length ≤ sizeLine := line_le (by omega)
          have len : ∀ a b : Str, (a ++ b).length = a.length + b.length := fun a b => by
            show (Str.append a b).length = _
            unfold Str.append Str.length
            simp
          refine ⟨false, rfl, iteF ⟨lx, p, l, _, (x.length : Int) + 1, rfl, p5, by omega, by omega, ?_, fun H6 r x6 p6 r0 r1 a1 ha1 => ?_⟩⟩
          · exact Nat.lt_of_lt_of_le (show ((x.length : Int) + 1).natAbs < 2 ^ 10 by omega) (Nat.pow_le_pow_right (by decide) (by decide))
          refine ⟨p, l, a1, _, _, rfl, p6.same (same_new ha1), by omega, upd_same, by decide, by decide, fun H7 i7 w7 x7 p7 hv => ?_⟩
          obtain ⟨sg, rfl, hsg⟩ := few_str (n := 1) hv (by decide +kernel)
          obtain ⟨k1, rfl⟩ : ∃ k1 : Nat, r = (k1 : Int) := ⟨r.toNat, by omega⟩
          have c1 : (cutS x none (some (k1 : Int))).length = k1 := by
            rw [cut_to x (by omega), tx_len, List.length_take, ← HwT.len_list]
            omega
          refine ⟨k1, rfl, lx, sg, rfl, line_le (by omega), p, l, _, 2, rfl, p7, by omega, by decide, by decide, fun H8 u x8 p8 u0 u1 => ?_⟩
          obtain ⟨d, rfl⟩ : ∃ d : Nat, u = (d : Int) := ⟨u.toNat, by omega⟩
          refine ⟨k1, rfl, d, rfl, lx, ?_⟩
          rw [show ((k1 : Int) + (d : Int)) = ((k1 + d : Nat) : Int) by omega]
          have c2 := cut_from x (k1 + d)
          exact ⟨line_le (by rw [len]; omega), p8.mono (by omega), by rw [len, len]; omega⟩
        · rintro σ' H3 ⟨p3, x, v4, v5, v6, v7, rfl, hx⟩
          exact ⟨p3.mono (by omega), x, v4, v5, v6, v7, rfl⟩
      rintro σ' H3 ⟨p3, x, v4, v5, v6, v7, rfl⟩
      refine ⟨fun σ' H' => PenAt H' p l (40 * i + 16) ∧ ∃ (x : Str) (v4 v5 v6 : Option V) (o : V) (t : Value), σ' = [some (.ref a), some (.ref p), some (.int (0 + (i : Int))), some (.str x), v4, v5, v6, some o] ∧ TyX K H' o t ∧ PySem.W.kitOne K t (.type "str") = some false, ?_, ?_⟩
      · simp only [tVar, rIxTH, rIxLH, gTupH, line_le, HO.tup.injEq, HO.lst.injEq, List.length_cons, List.length_nil, at0, at1, rU, tOst, tTest, rIxL, rIxT, C8.tCut, cxOf_K, tC, tOp, tUn, tSeq, tAsg, tNext, tRet, tRetN, tDrop, tIfS, tNever, gName, gNil, gCons, gTup, gSub, tPar, rI, rI0, rU, rEq, rNe, tB, tAnd, tOr, tNot, tAndV, tOrV, tNotV, tIf, tTup, tLst, tNil, tCons, tCB, tCall, tMeth, tMake, tFld, sFld, tDGet, sDPut, tDisp, tPairs, tBreak, tCont, scal_ii, scal_bb, scal_ss, List.getElem?_cons_zero, List.getElem?_cons_succ, List.set_cons_zero, List.set_cons_succ, Option.some.injEq, exists_eq_left', exists_eq_left, exists_and_left, V.int.injEq, V.bl.injEq, V.ref.injEq, V.str.injEq, List.cons.injEq, and_true, true_and, Bool.true_eq, List.nil_append, List.append_nil, List.cons_append, exists_eq', and_self, reduceCtorEq, false_or, or_false, false_and, exists_false, exists_const, and_assoc, if_true, Bool.false_eq_true, if_false, Nat.reduceAdd, Nat.reduceLeDiff, Nat.zero_add, Nat.le_refl, forall_const, st_law]
        refine made_rat2 (CB := C_BadNumber) (b := 2) (by decide) (fun _ H4 y s4 ry => ?_) (fun h => by cases h)
        obtain ⟨ya, dy, ey, hy⟩ := ry
        cases ey
        refine fun a1 ha1 a2 ha2 a3 ha3 => ?_
        have e1 := same_new (o := .tup [V.str "1"]) ha1
        have e2 := same_new (o := .lst [V.str "1"]) ha2
        have e3 := same_new (o := .lst [V.non, V.int 3, V.ref y, V.ref a1, V.ref a2, V.bl true]) ha3
        have p4 := (((p3.same s4).same e1).same e2).same e3
        have t1 := e3 _ _ (e2 _ _ (upd_same (H := H4) (a := a1) (o := .tup [V.str "1"])))
        have t2 := e3 _ _ (upd_same (H := upd H4 a1 (.tup [V.str "1"])) (a := a2) (o := .lst [V.str "1"]))
        have t3 := e3 _ _ (e2 _ _ (e1 _ _ hy))
        have t4 := upd_same (H := upd (upd H4 a1 (.tup [V.str "1"])) a2 (.lst [V.str "1"])) (a := a3) (o := .lst [V.non, V.int 3, V.ref y, V.ref a1, V.ref a2, V.bl true])
        generalize upd (upd (upd H4 a1 (.tup [V.str "1"])) a2 (.lst [V.str "1"])) a3 (.lst [V.non, V.int 3, V.ref y, V.ref a1, V.ref a2, V.bl true]) = H5 at p4 t1 t2 t3 t4
        refine ⟨p, l, _, 6, rfl, p4, by omega, by decide, by decide, fun H6 r x6 p6 r0 r1 => ?_⟩
        have ne : ∀ {b : Addr} {o : HO}, H5 b = some o → (∀ ks, o ≠ .dK ks) → b ≠ p := fun {b o} e n z => by
          obtain ⟨cs, i, dg, m, f, h1, _⟩ := p4
          rw [z, h1] at e
          exact n _ (Option.some.inj e).symm
        have u1 := x6 _ _ (ne t1 fun _ z => by cases z) t1
        have u2 := x6 _ _ (ne t2 fun _ z => by cases z) t2
        have u3 := x6 _ _ (ne t3 fun _ z => by cases z) t3
        have u4 := x6 _ _ (ne t4 fun _ z => by cases z) t4
        refine ⟨_, r, rfl, u4, ?_⟩
        have p7 : PenAt H6 p l (40 * i + 16) := p6.mono (by omega)
        have hr : r = 0 ∨ r = 1 ∨ r = 2 ∨ r = 3 ∨ r = 4 ∨ r = 5 := by omega
        rcases hr with rfl | rfl | rfl | rfl | rfl | rfl
        · exact ⟨_, atI_nat (j := 0) rfl, p7, _, .base .non, kit_ty (by decide +kernel)⟩
        · exact ⟨_, atI_nat (j := 1) rfl, p7, _, .base (.int 3), kit_ty (by decide +kernel)⟩
        · exact ⟨_, atI_nat (j := 2) rfl, p7, _, .base (.ins u3 R.cl R.ha R.hn R.htk R.hm), kS⟩
        · exact ⟨_, atI_nat (j := 3) rfl, p7, _, .base (.tup u1), kit_ty (by decide +kernel)⟩
        · exact ⟨_, atI_nat (j := 4) rfl, p7, _, .base (.lst u2), kit_ty (by decide +kernel)⟩
        · exact ⟨_, atI_nat (j := 5) rfl, p7, _, .base (.bl true), kit_ty (by decide +kernel)⟩
      rintro σ' H4 ⟨p4, x, v4, v5, v6, o, t, rfl, ht, hk⟩
      simp only [tVar, rIxTH, rIxLH, gTupH, line_le, HO.tup.injEq, HO.lst.injEq, List.length_cons, List.length_nil, at0, at1, rU, tOst, tTest, rIxL, rIxT, C8.tCut, cxOf_K, tC, tOp, tUn, tSeq, tAsg, tNext, tRet, tRetN, tDrop, tIfS, tNever, gName, gNil, gCons, gTup, gSub, tPar, rI, rI0, rU, rEq, rNe, tB, tAnd, tOr, tNot, tAndV, tOrV, tNotV, tIf, tTup, tLst, tNil, tCons, tCB, tCall, tMeth, tMake, tFld, sFld, tDGet, sDPut, tDisp, tPairs, tBreak, tCont, scal_ii, scal_bb, scal_ss, List.getElem?_cons_zero, List.getElem?_cons_succ, List.set_cons_zero, List.set_cons_succ, Option.some.injEq, exists_eq_left', exists_eq_left, exists_and_left, V.int.injEq, V.bl.injEq, V.ref.injEq, V.str.injEq, List.cons.injEq, and_true, true_and, Bool.true_eq, List.nil_append, List.append_nil, List.cons_append, exists_eq', and_self, reduceCtorEq, false_or, or_false, false_and, exists_false, exists_const, and_assoc, if_true, Bool.false_eq_true, if_false, Nat.reduceAdd, Nat.reduceLeDiff, Nat.zero_add, Nat.le_refl, forall_const, st_law]
      refine ⟨o, rfl, .inr ⟨t, ht, hk, fun H5 s5 => ⟨rfl, ?_⟩⟩⟩
      rw [if_neg (by decide)]
      exact (p4.same s5).mono (by omega)
    · rintro σ H1 -
      exact k _


end HwL
end

section
namespace HwL
open PySem PySem.Spec PyProof.Rows L2 LamX HwT
variable {P : Program} {w : World} {K : PySem.W.Frag} {mg : Str → Option Value} {base : Heap}

theorem noCX {P : Program} {w : World} {H : Hp} {s : Shared} {e : Value} {s' : Shared} (z : L2.CX P w [] H s (fun _ _ _ => False) e s') : False := by
  obtain ⟨_, _, _, _, _, _, _, _, _, _, _, _, q⟩ := z
  exact q
def fnL : List He.DefD := [⟨("_law_pen", none), "_law_pen", "_law_pen", defArgs s_L_pen, defBody s_L_pen, defScope s_L_pen, [], []⟩,
  ⟨("_law_draw", none), "_law_draw", "_law_draw", defArgs s_L_draw, defBody s_L_draw, defScope s_L_draw, [], []⟩,
  ⟨("BadNumber", some "__init__"), "__init__", "BadNumber.__init__", defArgs s_BadNumberD_initD, defBody s_BadNumberD_initD, defScope s_BadNumberD_initD, [], []⟩,
  ⟨("Ratio", some "__init__"), "__init__", "Ratio.__init__", defArgs s_RatioD_initD, defBody s_RatioD_initD, defScope s_RatioD_initD, [.int 1], []⟩,
  ⟨("is_integer", none), "is_integer", "is_integer", defArgs s_is_integer, defBody s_is_integer, defScope s_is_integer, [], []⟩,
  ⟨("is_ratio", none), "is_ratio", "is_ratio", defArgs s_is_ratio, defBody s_is_ratio, defScope s_is_ratio, [], []⟩,
  ⟨("as_ratio", none), "as_ratio", "as_ratio", defArgs s_as_ratio, defBody s_as_ratio, defScope s_as_ratio, [], []⟩,
  ⟨("_law_gcd", none), "_law_gcd", "_law_gcd", defArgs s_L_gcd, defBody s_L_gcd, defScope s_L_gcd, [], []⟩,
  ⟨("_law_q", none), "_law_q", "_law_q", defArgs s_L_q, defBody s_L_q, defScope s_L_q, [], []⟩,
  ⟨("BadText", some "__init__"), "__init__", "BadText.__init__", defArgs s_BadTextD_initD, defBody s_BadTextD_initD, defScope s_BadTextD_initD, [], []⟩,
  ⟨("whole_end", none), "whole_end", "whole_end", defArgs s_whole_end, defBody s_whole_end, defScope s_whole_end, [], []⟩,
  ⟨("wrong_column", none), "wrong_column", "wrong_column", defArgs s_wrong_column, defBody s_wrong_column, defScope s_wrong_column, [], []⟩,
  ⟨("ratio_of", none), "ratio_of", "ratio_of", defArgs s_ratio_of, defBody s_ratio_of, defScope s_ratio_of, [], []⟩,
  ⟨("_law_pick", none), "_law_pick", "_law_pick", defArgs s_L_pick, defBody s_L_pick, defScope s_L_pick, [], []⟩,
  ⟨("_law_written", none), "_law_written", "_law_written", defArgs s_L_written, defBody s_L_written, defScope s_L_written, [], []⟩,
  ⟨("_law_pair", none), "_law_pair", "_law_pair", defArgs s_L_pair, defBody s_L_pair, defScope s_L_pair, [], []⟩,
  ⟨("_law_shape_column", none), "_law_shape_column", "_law_shape_column", defArgs s_L_shape_column, defBody s_L_shape_column, defScope s_L_shape_column, [], []⟩,
  ⟨("_law_due", none), "_law_due", "_law_due", defArgs s_L_due, defBody s_L_due, defScope s_L_due, [], []⟩,
  ⟨("_law_read", none), "_law_read", "_law_read", defArgs s_L_read, defBody s_L_read, defScope s_L_read, [], []⟩,
  ⟨("_law_start", none), "_law_start", "_law_start", defArgs s_L_start, defBody s_L_start, defScope s_L_start, [], []⟩,
  ⟨("law", none), "law", "law", defArgs s_law, defBody s_law, defScope s_law, [], []⟩]
def faL : List He.Fa := [.glo "_law_pen", .glo "_law_draw", .glo "is_integer", .glo "is_ratio", .glo "as_ratio", .glo "_law_gcd", .glo "_law_q", .glo "whole_end", .glo "wrong_column", .glo "ratio_of", .glo "_law_pick", .glo "_law_written", .glo "_law_pair", .glo "_law_shape_column", .glo "_law_due", .glo "_law_read", .glo "_law_start", .glo "law", .glo "BadNumber", .glo "Ratio", .glo "BadText", .free "list", .free "int", .free "len", .free "isinstance", .free "bool", .free "range", .free "abs", .str "DIGITS" "0123456789", .free "max", .free "str", .int "MOST_DIGITS" 4000, .free "tuple", .cls "Ratio", .noat "Ratio" "top", .noat "Ratio" "bottom", .noat "BadNumber" "what", .noat "BadNumber" "number", .noat "BadText" "line", .noat "BadText" "column", .mkr "Ratio"]
def exL (K : PySem.W.Frag) : Bool := [HwH.bfunB K "gcd" "math.gcd", ratB K (He.ga K "Ratio"), HwH.oexB K (He.ga K "BadNumber"), HwH.oexB K (He.ga K "BadText"), HwH.xrB K (He.ga K "BadText") "line" "column", decide (PySem.W.kitOne K (.ref (He.ga K "Ratio")) (.type "str") = some false), HwH.iniB K (He.ga K "BadNumber"), HwH.iniB K (He.ga K "BadText")].all id
def tfL : List He.Defn := []
theorem facts {w : World} {K : PySem.W.Frag} {h : Heap} {mg : Str → Option Value} {f : Addr} (X : K.In h) (G : h.Ns mainGlobals mg) (hfa : mg ("law" : Str) = some (.ref f)) (c : He.SaysX faL fnL [] tfL exL w h K) :
    LamX.LawAtS PySem.Challenge.rw_hingeworks_k02_ratio_texts w K (L2.CX PySem.Challenge.rw_hingeworks_k02_ratio_texts.prog w) 7 63 "_law_script" mg f h := by
  have cd := c.t.d
  have exx : ∀ (i : Nat) {b : Bool}, [HwH.bfunB K "gcd" "math.gcd", ratB K (He.ga K "Ratio"), HwH.oexB K (He.ga K "BadNumber"), HwH.oexB K (He.ga K "BadText"), HwH.xrB K (He.ga K "BadText") "line" "column", decide (PySem.W.kitOne K (.ref (He.ga K "Ratio")) (.type "str") = some false), HwH.iniB K (He.ga K "BadNumber"), HwH.iniB K (He.ga K "BadText")][i]? = some b → b = true := fun i b e => List.all_eq_true.mp c.more _ (List.mem_of_getElem? e)
  have m__law_pen : mg "_law_pen" = some (.ref (He.ga K "_law_pen")) := He.glo_ok X G (cd.fact 0 (f := .glo "_law_pen") rfl)
  have m__law_draw : mg "_law_draw" = some (.ref (He.ga K "_law_draw")) := He.glo_ok X G (cd.fact 1 (f := .glo "_law_draw") rfl)
  have m_is_integer : mg "is_integer" = some (.ref (He.ga K "is_integer")) := He.glo_ok X G (cd.fact 2 (f := .glo "is_integer") rfl)
  have m_is_ratio : mg "is_ratio" = some (.ref (He.ga K "is_ratio")) := He.glo_ok X G (cd.fact 3 (f := .glo "is_ratio") rfl)
  have m_as_ratio : mg "as_ratio" = some (.ref (He.ga K "as_ratio")) := He.glo_ok X G (cd.fact 4 (f := .glo "as_ratio") rfl)
  have m__law_gcd : mg "_law_gcd" = some (.ref (He.ga K "_law_gcd")) := He.glo_ok X G (cd.fact 5 (f := .glo "_law_gcd") rfl)
  have m__law_q : mg "_law_q" = some (.ref (He.ga K "_law_q")) := He.glo_ok X G (cd.fact 6 (f := .glo "_law_q") rfl)
  have m_whole_end : mg "whole_end" = some (.ref (He.ga K "whole_end")) := He.glo_ok X G (cd.fact 7 (f := .glo "whole_end") rfl)
  have m_wrong_column : mg "wrong_column" = some (.ref (He.ga K "wrong_column")) := He.glo_ok X G (cd.fact 8 (f := .glo "wrong_column") rfl)
  have m_ratio_of : mg "ratio_of" = some (.ref (He.ga K "ratio_of")) := He.glo_ok X G (cd.fact 9 (f := .glo "ratio_of") rfl)
  have m__law_pick : mg "_law_pick" = some (.ref (He.ga K "_law_pick")) := He.glo_ok X G (cd.fact 10 (f := .glo "_law_pick") rfl)
  have m__law_written : mg "_law_written" = some (.ref (He.ga K "_law_written")) := He.glo_ok X G (cd.fact 11 (f := .glo "_law_written") rfl)
  have m__law_pair : mg "_law_pair" = some (.ref (He.ga K "_law_pair")) := He.glo_ok X G (cd.fact 12 (f := .glo "_law_pair") rfl)
  have m__law_shape_column : mg "_law_shape_column" = some (.ref (He.ga K "_law_shape_column")) := He.glo_ok X G (cd.fact 13 (f := .glo "_law_shape_column") rfl)
  have m__law_due : mg "_law_due" = some (.ref (He.ga K "_law_due")) := He.glo_ok X G (cd.fact 14 (f := .glo "_law_due") rfl)
  have m__law_read : mg "_law_read" = some (.ref (He.ga K "_law_read")) := He.glo_ok X G (cd.fact 15 (f := .glo "_law_read") rfl)
  have m__law_start : mg "_law_start" = some (.ref (He.ga K "_law_start")) := He.glo_ok X G (cd.fact 16 (f := .glo "_law_start") rfl)
  have m_law : mg "law" = some (.ref (He.ga K "law")) := He.glo_ok X G (cd.fact 17 (f := .glo "law") rfl)
  have m_BadNumber : mg "BadNumber" = some (.ref (He.ga K "BadNumber")) := He.glo_ok X G (cd.fact 18 (f := .glo "BadNumber") rfl)
  have m_Ratio : mg "Ratio" = some (.ref (He.ga K "Ratio")) := He.glo_ok X G (cd.fact 19 (f := .glo "Ratio") rfl)
  have m_BadText : mg "BadText" = some (.ref (He.ga K "BadText")) := He.glo_ok X G (cd.fact 20 (f := .glo "BadText") rfl)
  have z_list : mg "list" = none := He.free_ok X G (cd.fact 21 (f := .free "list") rfl)
  have z_int : mg "int" = none := He.free_ok X G (cd.fact 22 (f := .free "int") rfl)
  have z_len : mg "len" = none := He.free_ok X G (cd.fact 23 (f := .free "len") rfl)
  have m_gcd : mg "gcd" = some (.builtin "math.gcd") := HwH.bfunB_ok X G (exx 0 rfl)
  have z_isinstance : mg "isinstance" = none := He.free_ok X G (cd.fact 24 (f := .free "isinstance") rfl)
  have z_bool : mg "bool" = none := He.free_ok X G (cd.fact 25 (f := .free "bool") rfl)
  have z_range : mg "range" = none := He.free_ok X G (cd.fact 26 (f := .free "range") rfl)
  have z_abs : mg "abs" = none := He.free_ok X G (cd.fact 27 (f := .free "abs") rfl)
  obtain ⟨t_DIGITS, k_DIGITS⟩ := He.str_ok (x := "DIGITS") X G (cd.fact 28 (f := .str "DIGITS" "0123456789") rfl)
  have z_max : mg "max" = none := He.free_ok X G (cd.fact 29 (f := .free "max") rfl)
  have z_str : mg "str" = none := He.free_ok X G (cd.fact 30 (f := .free "str") rfl)
  obtain ⟨t_MOST_DIGITS, k_MOST_DIGITS⟩ := He.int_ok (x := "MOST_DIGITS") X G (cd.fact 31 (f := .int "MOST_DIGITS" 4000) rfl)
  have z_tuple : mg "tuple" = none := He.free_ok X G (cd.fact 32 (f := .free "tuple") rfl)
  obtain ⟨fd_L_pen, F0_L_pen⟩ := cd.def_ 0 rfl
  have F_L_pen : FunD K "_law_pen" "_law_pen" (defArgs s_L_pen) (defBody s_L_pen) (defScope s_L_pen) [] [] (He.ga K "_law_pen") fd_L_pen := F0_L_pen
  have B_L_pen : Binds K fd_L_pen ["_law_script"] [] := F_L_pen.bindsN fun _ _ _ _ _ _ us hl => match us, hl with | [_], _ => rfl
  obtain ⟨fd_L_draw, F0_L_draw⟩ := cd.def_ 1 rfl
  have F_L_draw : FunD K "_law_draw" "_law_draw" (defArgs s_L_draw) (defBody s_L_draw) (defScope s_L_draw) [] [] (He.ga K "_law_draw") fd_L_draw := F0_L_draw
  have B_L_draw : Binds K fd_L_draw ["_law_pen_here", "_law_many"] [] := F_L_draw.bindsN fun _ _ _ _ _ _ us hl => match us, hl with | [_, _], _ => rfl
  obtain ⟨fd_BadNumberD_initD, F0_BadNumberD_initD⟩ := cd.def_ 2 rfl
  have F_BadNumberD_initD : FunD K "__init__" "BadNumber.__init__" (defArgs s_BadNumberD_initD) (defBody s_BadNumberD_initD) (defScope s_BadNumberD_initD) [] [] (He.ma K (He.ga K "BadNumber") "__init__") fd_BadNumberD_initD := F0_BadNumberD_initD
  have B_BadNumberD_initD : Binds K fd_BadNumberD_initD ["self", "what", "number"] [] := F_BadNumberD_initD.bindsN fun _ _ _ _ _ _ us hl => match us, hl with | [_, _, _], _ => rfl
  obtain ⟨fd_RatioD_initD, F0_RatioD_initD⟩ := cd.def_ 3 rfl
  have F_RatioD_initD : FunD K "__init__" "Ratio.__init__" (defArgs s_RatioD_initD) (defBody s_RatioD_initD) (defScope s_RatioD_initD) [.int 1] [] (He.ma K (He.ga K "Ratio") "__init__") fd_RatioD_initD := F0_RatioD_initD
  obtain ⟨ds0_RatioD_initD, V0_RatioD_initD, B0_RatioD_initD⟩ := F_RatioD_initD.binds1 (ps := ["self", "top", "bottom"]) 2 0 (by simp) (by rfl) fun T kV doc pm an cdv ct us its hu hi => match us, hu, its, hi with | [_, _], _, [_], _ => ⟨_, rfl, rfl⟩
  obtain ⟨ds1_RatioD_initD, V1_RatioD_initD, B1_RatioD_initD⟩ := F_RatioD_initD.binds1 (ps := ["self", "top", "bottom"]) 3 1 (by simp) (by rfl) fun T kV doc pm an cdv ct us its hu hi => match us, hu, its, hi with | [_, _, _], _, [_], _ => ⟨_, rfl, rfl⟩
  obtain ⟨fd_is_integer, F0_is_integer⟩ := cd.def_ 4 rfl
  have F_is_integer : FunD K "is_integer" "is_integer" (defArgs s_is_integer) (defBody s_is_integer) (defScope s_is_integer) [] [] (He.ga K "is_integer") fd_is_integer := F0_is_integer
  have B_is_integer : Binds K fd_is_integer ["value"] [] := F_is_integer.bindsN fun _ _ _ _ _ _ us hl => match us, hl with | [_], _ => rfl
  obtain ⟨fd_is_ratio, F0_is_ratio⟩ := cd.def_ 5 rfl
  have F_is_ratio : FunD K "is_ratio" "is_ratio" (defArgs s_is_ratio) (defBody s_is_ratio) (defScope s_is_ratio) [] [] (He.ga K "is_ratio") fd_is_ratio := F0_is_ratio
  have B_is_ratio : Binds K fd_is_ratio ["value"] [] := F_is_ratio.bindsN fun _ _ _ _ _ _ us hl => match us, hl with | [_], _ => rfl
  obtain ⟨fd_as_ratio, F0_as_ratio⟩ := cd.def_ 6 rfl
  have F_as_ratio : FunD K "as_ratio" "as_ratio" (defArgs s_as_ratio) (defBody s_as_ratio) (defScope s_as_ratio) [] [] (He.ga K "as_ratio") fd_as_ratio := F0_as_ratio
  have B_as_ratio : Binds K fd_as_ratio ["value"] [] := F_as_ratio.bindsN fun _ _ _ _ _ _ us hl => match us, hl with | [_], _ => rfl
  obtain ⟨fd_L_gcd, F0_L_gcd⟩ := cd.def_ 7 rfl
  have F_L_gcd : FunD K "_law_gcd" "_law_gcd" (defArgs s_L_gcd) (defBody s_L_gcd) (defScope s_L_gcd) [] [] (He.ga K "_law_gcd") fd_L_gcd := F0_L_gcd
  have B_L_gcd : Binds K fd_L_gcd ["_law_one", "_law_two"] [] := F_L_gcd.bindsN fun _ _ _ _ _ _ us hl => match us, hl with | [_, _], _ => rfl
  obtain ⟨fd_L_q, F0_L_q⟩ := cd.def_ 8 rfl
  have F_L_q : FunD K "_law_q" "_law_q" (defArgs s_L_q) (defBody s_L_q) (defScope s_L_q) [] [] (He.ga K "_law_q") fd_L_q := F0_L_q
  have B_L_q : Binds K fd_L_q ["_law_top", "_law_bottom"] [] := F_L_q.bindsN fun _ _ _ _ _ _ us hl => match us, hl with | [_, _], _ => rfl
  obtain ⟨fd_BadTextD_initD, F0_BadTextD_initD⟩ := cd.def_ 9 rfl
  have F_BadTextD_initD : FunD K "__init__" "BadText.__init__" (defArgs s_BadTextD_initD) (defBody s_BadTextD_initD) (defScope s_BadTextD_initD) [] [] (He.ma K (He.ga K "BadText") "__init__") fd_BadTextD_initD := F0_BadTextD_initD
  have B_BadTextD_initD : Binds K fd_BadTextD_initD ["self", "line", "column"] [] := F_BadTextD_initD.bindsN fun _ _ _ _ _ _ us hl => match us, hl with | [_, _, _], _ => rfl
  obtain ⟨fd_whole_end, F0_whole_end⟩ := cd.def_ 10 rfl
  have F_whole_end : FunD K "whole_end" "whole_end" (defArgs s_whole_end) (defBody s_whole_end) (defScope s_whole_end) [] [] (He.ga K "whole_end") fd_whole_end := F0_whole_end
  have B_whole_end : Binds K fd_whole_end ["text", "start"] [] := F_whole_end.bindsN fun _ _ _ _ _ _ us hl => match us, hl with | [_, _], _ => rfl
  obtain ⟨fd_wrong_column, F0_wrong_column⟩ := cd.def_ 11 rfl
  have F_wrong_column : FunD K "wrong_column" "wrong_column" (defArgs s_wrong_column) (defBody s_wrong_column) (defScope s_wrong_column) [] [] (He.ga K "wrong_column") fd_wrong_column := F0_wrong_column
  have B_wrong_column : Binds K fd_wrong_column ["text"] [] := F_wrong_column.bindsN fun _ _ _ _ _ _ us hl => match us, hl with | [_], _ => rfl
  obtain ⟨fd_ratio_of, F0_ratio_of⟩ := cd.def_ 12 rfl
  have F_ratio_of : FunD K "ratio_of" "ratio_of" (defArgs s_ratio_of) (defBody s_ratio_of) (defScope s_ratio_of) [] [] (He.ga K "ratio_of") fd_ratio_of := F0_ratio_of
  have B_ratio_of : Binds K fd_ratio_of ["text"] [] := F_ratio_of.bindsN fun _ _ _ _ _ _ us hl => match us, hl with | [_], _ => rfl
  obtain ⟨fd_L_pick, F0_L_pick⟩ := cd.def_ 13 rfl
  have F_L_pick : FunD K "_law_pick" "_law_pick" (defArgs s_L_pick) (defBody s_L_pick) (defScope s_L_pick) [] [] (He.ga K "_law_pick") fd_L_pick := F0_L_pick
  have B_L_pick : Binds K fd_L_pick ["_law_pen_here", "_law_some"] [] := F_L_pick.bindsN fun _ _ _ _ _ _ us hl => match us, hl with | [_, _], _ => rfl
  obtain ⟨fd_L_written, F0_L_written⟩ := cd.def_ 14 rfl
  have F_L_written : FunD K "_law_written" "_law_written" (defArgs s_L_written) (defBody s_L_written) (defScope s_L_written) [] [] (He.ga K "_law_written") fd_L_written := F0_L_written
  have B_L_written : Binds K fd_L_written ["_law_one"] [] := F_L_written.bindsN fun _ _ _ _ _ _ us hl => match us, hl with | [_], _ => rfl
  obtain ⟨fd_L_pair, F0_L_pair⟩ := cd.def_ 15 rfl
  have F_L_pair : FunD K "_law_pair" "_law_pair" (defArgs s_L_pair) (defBody s_L_pair) (defScope s_L_pair) [] [] (He.ga K "_law_pair") fd_L_pair := F0_L_pair
  have B_L_pair : Binds K fd_L_pair ["_law_value"] [] := F_L_pair.bindsN fun _ _ _ _ _ _ us hl => match us, hl with | [_], _ => rfl
  obtain ⟨fd_L_shape_column, F0_L_shape_column⟩ := cd.def_ 16 rfl
  have F_L_shape_column : FunD K "_law_shape_column" "_law_shape_column" (defArgs s_L_shape_column) (defBody s_L_shape_column) (defScope s_L_shape_column) [] [] (He.ga K "_law_shape_column") fd_L_shape_column := F0_L_shape_column
  have B_L_shape_column : Binds K fd_L_shape_column ["_law_text"] [] := F_L_shape_column.bindsN fun _ _ _ _ _ _ us hl => match us, hl with | [_], _ => rfl
  obtain ⟨fd_L_due, F0_L_due⟩ := cd.def_ 17 rfl
  have F_L_due : FunD K "_law_due" "_law_due" (defArgs s_L_due) (defBody s_L_due) (defScope s_L_due) [] [] (He.ga K "_law_due") fd_L_due := F0_L_due
  have B_L_due : Binds K fd_L_due ["_law_text"] [] := F_L_due.bindsN fun _ _ _ _ _ _ us hl => match us, hl with | [_], _ => rfl
  obtain ⟨fd_L_read, F0_L_read⟩ := cd.def_ 18 rfl
  have F_L_read : FunD K "_law_read" "_law_read" (defArgs s_L_read) (defBody s_L_read) (defScope s_L_read) [] [] (He.ga K "_law_read") fd_L_read := F0_L_read
  have B_L_read : Binds K fd_L_read ["_law_value"] [] := F_L_read.bindsN fun _ _ _ _ _ _ us hl => match us, hl with | [_], _ => rfl
  obtain ⟨fd_L_start, F0_L_start⟩ := cd.def_ 19 rfl
  have F_L_start : FunD K "_law_start" "_law_start" (defArgs s_L_start) (defBody s_L_start) (defScope s_L_start) [] [] (He.ga K "_law_start") fd_L_start := F0_L_start
  have B_L_start : Binds K fd_L_start ["_law_pen_here"] [] := F_L_start.bindsN fun _ _ _ _ _ _ us hl => match us, hl with | [_], _ => rfl
  obtain ⟨fd_law, F0_law⟩ := cd.def_ 20 rfl
  have F_law : FunD K "law" "law" (defArgs s_law) (defBody s_law) (defScope s_law) [] [] (He.ga K "law") fd_law := F0_law
  have B_law : Binds K fd_law ["_law_script"] [] := F_law.bindsN fun _ _ _ _ _ _ us hl => match us, hl with | [_], _ => rfl
  have cl_Ratio : Cls K (He.ga K "Ratio") := He.cls_ok (cd.fact 33 (f := .cls "Ratio") rfl)
  have R_Ratio := ratB_ok (K := K) cl_Ratio (He.noat_ok (cd.fact 34 (f := .noat "Ratio" "top") rfl)) (He.noat_ok (cd.fact 35 (f := .noat "Ratio" "bottom") rfl)) (exx 1 rfl)
  have TX_BadNumber : OexC K (He.ga K "BadNumber") := HwH.oexB_ok (exx 2 rfl)
  have n1_BadNumber := He.noat_ok (cd.fact 36 (f := .noat "BadNumber" "what") rfl)
  have n2_BadNumber := He.noat_ok (cd.fact 37 (f := .noat "BadNumber" "number") rfl)
  have TX_BadText : OexC K (He.ga K "BadText") := HwH.oexB_ok (exx 3 rfl)
  have n1_BadText := He.noat_ok (cd.fact 38 (f := .noat "BadText" "line") rfl)
  have n2_BadText := He.noat_ok (cd.fact 39 (f := .noat "BadText" "column") rfl)
  have BX_BadText : XrC K (He.ga K "BadText") "line" "column" := HwH.xrB_ok (exx 4 rfl)
  have kS := of_decide_eq_true (exx 5 rfl)
  have e := hfa.symm.trans m_law
  cases e
  refine ⟨fd_law, [], spLaw2 K, fun p hp => (nomatch hp), fun p hp => (nomatch hp), fun p hp => (nomatch hp), fun s u => F_law.bindsA (ps := ["_law_script"]) (fun _ _ _ _ _ _ us hl => match us, hl with | [_], _ => rfl) s [u] rfl, ?_, fun base Kb Gb TBs => ?_⟩
  · exact fun H a ns hl _ _ hS => ⟨a, ns, rfl, hS, hl, fun _ => rfl⟩
  ·
    have o_L_pen : FnOk PySem.Challenge.rw_hingeworks_k02_ratio_texts.prog w K mg base (L2.CX PySem.Challenge.rw_hingeworks_k02_ratio_texts.prog w) 1 _ fd_L_pen ["_law_script"] (spPen K) := ok_L_pen F_L_pen (z_list := z_list) (z_int := z_int)
    have g_L_pen : Gf PySem.Challenge.rw_hingeworks_k02_ratio_texts.prog w K mg base "_law_pen" 1 ["_law_script"] (spPen K) := ⟨_, fd_L_pen, m__law_pen, F_L_pen.kp, B_L_pen, o_L_pen⟩
    have o_L_draw : FnOk PySem.Challenge.rw_hingeworks_k02_ratio_texts.prog w K mg base (L2.CX PySem.Challenge.rw_hingeworks_k02_ratio_texts.prog w) 1 _ fd_L_draw ["_law_pen_here", "_law_many"] (spDraw) := ok_L_draw F_L_draw (z_int := z_int) (z_len := z_len)
    have g_L_draw : Gf PySem.Challenge.rw_hingeworks_k02_ratio_texts.prog w K mg base "_law_draw" 1 ["_law_pen_here", "_law_many"] (spDraw) := ⟨_, fd_L_draw, m__law_draw, F_L_draw.kp, B_L_draw, o_L_draw⟩
    have o_BadNumberD_initD : FnOk PySem.Challenge.rw_hingeworks_k02_ratio_texts.prog w K mg base (L2.CX PySem.Challenge.rw_hingeworks_k02_ratio_texts.prog w) 1 _ fd_BadNumberD_initD ["self", "what", "number"] (spX2 (He.ga K "BadNumber") "what" "number") := ok_BadNumberD_initD F_BadNumberD_initD (C_BadNumber := (He.ga K "BadNumber")) (TX := TX_BadNumber) (n1 := n1_BadNumber) (n2 := n2_BadNumber)
    have g_BadNumber : Xf PySem.Challenge.rw_hingeworks_k02_ratio_texts.prog w K mg base "BadNumber" (He.ga K "BadNumber") 1 (spX2 (He.ga K "BadNumber") "what" "number") := ⟨_, fd_BadNumberD_initD, ["self", "what", "number"], m_BadNumber, TX_BadNumber, (HwH.iniB_ok (exx 6 rfl)).1, (HwH.iniB_ok (exx 6 rfl)).2, B_BadNumberD_initD, o_BadNumberD_initD⟩
    have o_RatioD_initD : FnOk PySem.Challenge.rw_hingeworks_k02_ratio_texts.prog w K mg base (L2.CX PySem.Challenge.rw_hingeworks_k02_ratio_texts.prog w) 3 _ fd_RatioD_initD ["self", "top", "bottom"] (spInit (He.ga K "Ratio") (He.ga K "BadNumber")) := ok_RatioD_initD F_RatioD_initD (m_gcd := m_gcd) (g_BadNumber := g_BadNumber) (C_Ratio := (He.ga K "Ratio")) (R := R_Ratio)
    have g_Ratio : Kf PySem.Challenge.rw_hingeworks_k02_ratio_texts.prog w K mg base "Ratio" (He.ga K "Ratio") 3 ["self", "top", "bottom"] [] (spInit (He.ga K "Ratio") (He.ga K "BadNumber")) := ⟨_, fd_RatioD_initD, ds1_RatioD_initD, m_Ratio, He.mkr_ok (cd.fact 40 (f := .mkr "Ratio") rfl), B1_RatioD_initD, V1_RatioD_initD, o_RatioD_initD⟩
    have g_Ratio1 : Kf PySem.Challenge.rw_hingeworks_k02_ratio_texts.prog w K mg base "Ratio" (He.ga K "Ratio") 3 ["self", "top", "bottom"] [.int 1] (spInit (He.ga K "Ratio") (He.ga K "BadNumber")) := ⟨_, fd_RatioD_initD, ds0_RatioD_initD, m_Ratio, He.mkr_ok (cd.fact 40 (f := .mkr "Ratio") rfl), B0_RatioD_initD, V0_RatioD_initD, o_RatioD_initD⟩
    have o_is_integer : FnOk PySem.Challenge.rw_hingeworks_k02_ratio_texts.prog w K mg base (L2.CX PySem.Challenge.rw_hingeworks_k02_ratio_texts.prog w) 1 _ fd_is_integer ["value"] (spIsInt K (He.ga K "Ratio")) := ok_is_integer F_is_integer (z_isinstance := z_isinstance) (z_bool := z_bool) (z_int := z_int) (C_Ratio := (He.ga K "Ratio"))
    have g_is_integer : Gf PySem.Challenge.rw_hingeworks_k02_ratio_texts.prog w K mg base "is_integer" 1 ["value"] (spIsInt K (He.ga K "Ratio")) := ⟨_, fd_is_integer, m_is_integer, F_is_integer.kp, B_is_integer, o_is_integer⟩
    have o_is_ratio : FnOk PySem.Challenge.rw_hingeworks_k02_ratio_texts.prog w K mg base (L2.CX PySem.Challenge.rw_hingeworks_k02_ratio_texts.prog w) 2 _ fd_is_ratio ["value"] (spIsRat K (He.ga K "Ratio")) := ok_is_ratio F_is_ratio (z_isinstance := z_isinstance) (m_Ratio := m_Ratio) (g_is_integer := g_is_integer) (C_Ratio := (He.ga K "Ratio"))
    have g_is_ratio : Gf PySem.Challenge.rw_hingeworks_k02_ratio_texts.prog w K mg base "is_ratio" 2 ["value"] (spIsRat K (He.ga K "Ratio")) := ⟨_, fd_is_ratio, m_is_ratio, F_is_ratio.kp, B_is_ratio, o_is_ratio⟩
    have o_as_ratio : FnOk PySem.Challenge.rw_hingeworks_k02_ratio_texts.prog w K mg base (L2.CX PySem.Challenge.rw_hingeworks_k02_ratio_texts.prog w) 5 _ fd_as_ratio ["value"] (spAs (He.ga K "Ratio")) := ok_as_ratio F_as_ratio (z_isinstance := z_isinstance) (m_Ratio := m_Ratio) (g_Ratio1 := g_Ratio1) (C_Ratio := (He.ga K "Ratio")) (C_BadNumber := (He.ga K "BadNumber")) (R := R_Ratio)
    have g_as_ratio : Gf PySem.Challenge.rw_hingeworks_k02_ratio_texts.prog w K mg base "as_ratio" 5 ["value"] (spAs (He.ga K "Ratio")) := ⟨_, fd_as_ratio, m_as_ratio, F_as_ratio.kp, B_as_ratio, o_as_ratio⟩
    have o_L_gcd : FnOk PySem.Challenge.rw_hingeworks_k02_ratio_texts.prog w K mg base (L2.CX PySem.Challenge.rw_hingeworks_k02_ratio_texts.prog w) 1 _ fd_L_gcd ["_law_one", "_law_two"] (spGcd) := ok_L_gcd F_L_gcd (z_range := z_range) (z_int := z_int) (z_abs := z_abs)
    have g_L_gcd : Gf PySem.Challenge.rw_hingeworks_k02_ratio_texts.prog w K mg base "_law_gcd" 1 ["_law_one", "_law_two"] (spGcd) := ⟨_, fd_L_gcd, m__law_gcd, F_L_gcd.kp, B_L_gcd, o_L_gcd⟩
    have o_L_q : FnOk PySem.Challenge.rw_hingeworks_k02_ratio_texts.prog w K mg base (L2.CX PySem.Challenge.rw_hingeworks_k02_ratio_texts.prog w) 2 _ fd_L_q ["_law_top", "_law_bottom"] (spQ) := ok_L_q F_L_q (g_L_gcd := g_L_gcd)
    have g_L_q : Gf PySem.Challenge.rw_hingeworks_k02_ratio_texts.prog w K mg base "_law_q" 2 ["_law_top", "_law_bottom"] (spQ) := ⟨_, fd_L_q, m__law_q, F_L_q.kp, B_L_q, o_L_q⟩
    have o_BadTextD_initD : FnOk PySem.Challenge.rw_hingeworks_k02_ratio_texts.prog w K mg base (L2.CX PySem.Challenge.rw_hingeworks_k02_ratio_texts.prog w) 1 _ fd_BadTextD_initD ["self", "line", "column"] (spX2 (He.ga K "BadText") "line" "column") := ok_BadTextD_initD F_BadTextD_initD (C_BadText := (He.ga K "BadText")) (TX := TX_BadText) (n1 := n1_BadText) (n2 := n2_BadText)
    have g_BadText : Xf PySem.Challenge.rw_hingeworks_k02_ratio_texts.prog w K mg base "BadText" (He.ga K "BadText") 1 (spX2 (He.ga K "BadText") "line" "column") := ⟨_, fd_BadTextD_initD, ["self", "line", "column"], m_BadText, TX_BadText, (HwH.iniB_ok (exx 7 rfl)).1, (HwH.iniB_ok (exx 7 rfl)).2, B_BadTextD_initD, o_BadTextD_initD⟩
    have o_whole_end : FnOk PySem.Challenge.rw_hingeworks_k02_ratio_texts.prog w K mg base (L2.CX PySem.Challenge.rw_hingeworks_k02_ratio_texts.prog w) 1 _ fd_whole_end ["text", "start"] (spWe) := ok_whole_end F_whole_end (z_len := z_len) (k_DIGITS := k_DIGITS)
    have g_whole_end : Gf PySem.Challenge.rw_hingeworks_k02_ratio_texts.prog w K mg base "whole_end" 1 ["text", "start"] (spWe) := ⟨_, fd_whole_end, m_whole_end, F_whole_end.kp, B_whole_end, o_whole_end⟩
    have o_wrong_column : FnOk PySem.Challenge.rw_hingeworks_k02_ratio_texts.prog w K mg base (L2.CX PySem.Challenge.rw_hingeworks_k02_ratio_texts.prog w) 2 _ fd_wrong_column ["text"] (spCol) := ok_wrong_column F_wrong_column (z_len := z_len) (g_whole_end := g_whole_end)
    have g_wrong_column : Gf PySem.Challenge.rw_hingeworks_k02_ratio_texts.prog w K mg base "wrong_column" 2 ["text"] (spCol) := ⟨_, fd_wrong_column, m_wrong_column, F_wrong_column.kp, B_wrong_column, o_wrong_column⟩
    have o_ratio_of : FnOk PySem.Challenge.rw_hingeworks_k02_ratio_texts.prog w K mg base (L2.CX PySem.Challenge.rw_hingeworks_k02_ratio_texts.prog w) 5 _ fd_ratio_of ["text"] (spRd K (He.ga K "Ratio") (He.ga K "BadText")) := ok_ratio_of F_ratio_of (z_int := z_int) (z_len := z_len) (z_max := z_max) (z_isinstance := z_isinstance) (z_str := z_str) (m_gcd := m_gcd) (k_MOST_DIGITS := k_MOST_DIGITS) (g_Ratio := g_Ratio) (g_BadText := g_BadText) (g_Ratio1 := g_Ratio1) (g_wrong_column := g_wrong_column) (C_Ratio := (He.ga K "Ratio")) (C_BadText := (He.ga K "BadText")) (C_BadNumber := (He.ga K "BadNumber")) (R := R_Ratio)
    have g_ratio_of : Gf PySem.Challenge.rw_hingeworks_k02_ratio_texts.prog w K mg base "ratio_of" 5 ["text"] (spRd K (He.ga K "Ratio") (He.ga K "BadText")) := ⟨_, fd_ratio_of, m_ratio_of, F_ratio_of.kp, B_ratio_of, o_ratio_of⟩
    have o_L_pick : FnOk PySem.Challenge.rw_hingeworks_k02_ratio_texts.prog w K mg base (L2.CX PySem.Challenge.rw_hingeworks_k02_ratio_texts.prog w) 2 _ fd_L_pick ["_law_pen_here", "_law_some"] (spPick) := ok_L_pick F_L_pick (z_len := z_len) (g_L_draw := g_L_draw)
    have g_L_pick : Gf PySem.Challenge.rw_hingeworks_k02_ratio_texts.prog w K mg base "_law_pick" 2 ["_law_pen_here", "_law_some"] (spPick) := ⟨_, fd_L_pick, m__law_pick, F_L_pick.kp, B_L_pick, o_L_pick⟩
    have o_L_written : FnOk PySem.Challenge.rw_hingeworks_k02_ratio_texts.prog w K mg base (L2.CX PySem.Challenge.rw_hingeworks_k02_ratio_texts.prog w) 1 _ fd_L_written ["_law_one"] (fun vs H Q _ => ∃ (a : Addr) (q : Rat), vs = [.ref a] ∧ H a = some (.tup (qv q)) ∧ HwM.Bd 60 q ∧ ∀ x : Str, x.length ≤ 200 → Q (.str x) H) := ok_L_written F_L_written (z_str := z_str)
    have g_L_written : Gf PySem.Challenge.rw_hingeworks_k02_ratio_texts.prog w K mg base "_law_written" 1 ["_law_one"] (fun vs H Q _ => ∃ (a : Addr) (q : Rat), vs = [.ref a] ∧ H a = some (.tup (qv q)) ∧ HwM.Bd 60 q ∧ ∀ x : Str, x.length ≤ 200 → Q (.str x) H) := ⟨_, fd_L_written, m__law_written, F_L_written.kp, B_L_written, o_L_written⟩
    have o_L_pair : FnOk PySem.Challenge.rw_hingeworks_k02_ratio_texts.prog w K mg base (L2.CX PySem.Challenge.rw_hingeworks_k02_ratio_texts.prog w) 1 _ fd_L_pair ["_law_value"] (fun vs H Q _ => ∃ (C dx a : Addr) (t n : Int), vs = [.ref a] ∧ Cls K C ∧ NoAttr K C "top" ∧ NoAttr K C "bottom" ∧ H a = some (.ins C dx [("top", .int t), ("bottom", .int n)]) ∧ ∀ p, H p = none → Q (.ref p) (upd H p (.tup [.int t, .int n]))) := ok_L_pair F_L_pair 
    have g_L_pair : Gf PySem.Challenge.rw_hingeworks_k02_ratio_texts.prog w K mg base "_law_pair" 1 ["_law_value"] (fun vs H Q _ => ∃ (C dx a : Addr) (t n : Int), vs = [.ref a] ∧ Cls K C ∧ NoAttr K C "top" ∧ NoAttr K C "bottom" ∧ H a = some (.ins C dx [("top", .int t), ("bottom", .int n)]) ∧ ∀ p, H p = none → Q (.ref p) (upd H p (.tup [.int t, .int n]))) := ⟨_, fd_L_pair, m__law_pair, F_L_pair.kp, B_L_pair, o_L_pair⟩
    have o_L_shape_column : FnOk PySem.Challenge.rw_hingeworks_k02_ratio_texts.prog w K mg base (L2.CX PySem.Challenge.rw_hingeworks_k02_ratio_texts.prog w) 1 _ fd_L_shape_column ["_law_text"] (spShape) := ok_L_shape_column F_L_shape_column (z_len := z_len) (z_range := z_range) (z_tuple := z_tuple) (z_int := z_int)
    have g_L_shape_column : Gf PySem.Challenge.rw_hingeworks_k02_ratio_texts.prog w K mg base "_law_shape_column" 1 ["_law_text"] (spShape) := ⟨_, fd_L_shape_column, m__law_shape_column, F_L_shape_column.kp, B_L_shape_column, o_L_shape_column⟩
    have o_L_due : FnOk PySem.Challenge.rw_hingeworks_k02_ratio_texts.prog w K mg base (L2.CX PySem.Challenge.rw_hingeworks_k02_ratio_texts.prog w) 2 _ fd_L_due ["_law_text"] (spDue) := ok_L_due F_L_due (z_len := z_len) (z_int := z_int) (g_L_gcd := g_L_gcd) (g_L_shape_column := g_L_shape_column)
    have g_L_due : Gf PySem.Challenge.rw_hingeworks_k02_ratio_texts.prog w K mg base "_law_due" 2 ["_law_text"] (spDue) := ⟨_, fd_L_due, m__law_due, F_L_due.kp, B_L_due, o_L_due⟩
    have o_L_read : FnOk PySem.Challenge.rw_hingeworks_k02_ratio_texts.prog w K mg base (L2.CX PySem.Challenge.rw_hingeworks_k02_ratio_texts.prog w) 6 _ fd_L_read ["_law_value"] (spRead K) := ok_L_read F_L_read (z_isinstance := z_isinstance) (m_Ratio := m_Ratio) (m_BadText := m_BadText) (BX_BadText := BX_BadText) (g_L_pair := g_L_pair) (g_ratio_of := g_ratio_of) (C_Ratio := (He.ga K "Ratio")) (C_BadText := (He.ga K "BadText")) (R := R_Ratio)
    have g_L_read : Gf PySem.Challenge.rw_hingeworks_k02_ratio_texts.prog w K mg base "_law_read" 6 ["_law_value"] (spRead K) := ⟨_, fd_L_read, m__law_read, F_L_read.kp, B_L_read, o_L_read⟩
    have o_L_start : FnOk PySem.Challenge.rw_hingeworks_k02_ratio_texts.prog w K mg base (L2.CX PySem.Challenge.rw_hingeworks_k02_ratio_texts.prog w) 3 _ fd_L_start ["_law_pen_here"] (spStart) := ok_L_start F_L_start (z_str := z_str) (g_L_written := g_L_written) (g_L_q := g_L_q) (g_L_draw := g_L_draw) (g_L_pick := g_L_pick)
    have g_L_start : Gf PySem.Challenge.rw_hingeworks_k02_ratio_texts.prog w K mg base "_law_start" 3 ["_law_pen_here"] (spStart) := ⟨_, fd_L_start, m__law_start, F_L_start.kp, B_L_start, o_L_start⟩
    have o_law : FnOk PySem.Challenge.rw_hingeworks_k02_ratio_texts.prog w K mg base (L2.CX PySem.Challenge.rw_hingeworks_k02_ratio_texts.prog w) 7 _ fd_law ["_law_script"] (spLaw2 K) := ok_law F_law (z_range := z_range) (z_len := z_len) (g_L_read := g_L_read) (g_Ratio := g_Ratio) (g_L_draw := g_L_draw) (g_L_pick := g_L_pick) (g_L_due := g_L_due) (g_L_start := g_L_start) (g_L_pen := g_L_pen) (C_Ratio := (He.ga K "Ratio")) (C_BadNumber := (He.ga K "BadNumber")) (R := R_Ratio) (kS := kS)
    exact o_law
abbrev RR0 : PySem.W.OpenRow := PySem.W.OpenLaw.row PySem.Challenge.rw_hingeworks_k02_ratio_texts
abbrev hk : PySem.W.Hook := He.hookX 5 faL fnL [] tfL exL
def ob (s : PySem.W.SharedT) : He.AlX := He.obsX 5 faL fnL [] tfL exL (HandSHeadRun.getT s)
theorem ob_eq (s : PySem.W.SharedT) : ob s = hk.obs s.abs := He.obsX_eq (HandSHeadRun.getT_eq s)

end HwL
end

section
namespace HwL
open PySem PySem.Spec PyProof.Rows L2 LamX HwT
variable {P : Program} {w : World} {K : PySem.W.Frag} {mg : Str → Option Value} {base : Heap}

def names : List PySem.Str := ["_wall", "__name__", "HingeError", "BadText", "BadNumber", "TooLong", "MOST_DIGITS", "DIGITS", "PLAIN_BITS", "Ratio", "is_integer", "is_ratio", "as_ratio", "digits_of", "ratio_of", "wrong_column", "whole_end", "_law_pen", "_law_draw", "_law_pick", "_law_gcd", "_law_q", "_law_written", "_law_pair", "_law_shape_column", "_law_due", "_law_read", "_law_start"]
theorem run (w : World) : HandSHeadRun.RunEqI RR0 (PySem.W.view RR0.prog [0, 31]) hk ob 6000 names w := by
  unfold HandSHeadRun.RunEqI
  kernel_rfl
end HwL
open PySem PySem.W PySem.Calls PyProof.Rows
theorem PySem.Challenge.cw_hingeworks_k02_ratio_texts_holds : PySem.Challenge.rw_hingeworks_k02_ratio_texts.Holds := by
  w_on; o_law
  refine HandSHeadRun.head_imp (r := HwL.RR0) (q := view HwL.RR0.prog [0, 31]) (H := HwL.hk) (ob := HwL.ob) (M := 6000) (loose := HwL.names) (d := HandSHeadRun.topDef HwL.RR0.prog 31) (kwd := []) HwL.ob_eq
    HwL.run (by kernel_rfl) (by kernel_rfl) (by kernel_rfl) (by rfl) (by first | assumption | decide +kernel) (by decide +kernel) ⟨rfl, rfl, rfl, rfl, rfl, by decide +kernel⟩ ?hw ?hc
  case hw => w_witness2
  case hc =>
    refine LamX.walk_ofTsE (l := PySem.Challenge.rw_hingeworks_k02_ratio_texts) (n := 63) (k := 7) (x := "_law_script") (CX := fun w => L2.CX PySem.Challenge.rw_hingeworks_k02_ratio_texts.prog w) rfl (by decide) (by kernel_rfl) ⟨rfl, by decide, by decide⟩ ?F (fun w H s e s' z => HwL.noCX z)
    intro w mg fa h Y G hmg0
    obtain ⟨K, KX, c⟩ := Y
    have hmg : mg ("law" : PySem.Str) = some (.ref fa) := by
      have e : (HandSHeadRun.topDef HwL.RR0.prog 31).name = ("law" : PySem.Str) := by kernel_rfl
      rw [← e]
      exact hmg0
    exact ⟨K, KX, HwL.facts KX G hmg c⟩
namespace HwL


end HwL
end

