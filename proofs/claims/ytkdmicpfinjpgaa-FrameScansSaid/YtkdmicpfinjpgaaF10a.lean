/- frame, plain: the check sum. Nothing of the program. -/
import Derived.Lib.Hide
namespace Go.Proofs.Ytkdmicpfinjpgaa

/-- One step of the register. -/
def cst (v : Nat) : Nat := if v % 2 = 1 then (v / 2) ^^^ 3988292384 else v / 2
def csn : Nat → Nat → Nat
  | 0, v => v
  | n + 1, v => csn n (cst v)
def crcB (v : Nat) (b : UInt8) : Nat := csn 8 (v ^^^ b.toNat)
def crcR (v : Nat) (l : List UInt8) : Nat := l.foldl crcB v
def crc (l : List UInt8) : Nat := crcR 4294967295 l ^^^ 4294967295

theorem xor_mod2 (a b : Nat) : (a ^^^ b) % 2 = (a % 2 + b % 2) % 2 := by
  have h := Nat.xor_mod_two_pow (a := a) (b := b) (n := 1)
  rw [show 2 ^ 1 = 2 from rfl] at h
  rw [h]
  rcases Nat.mod_two_eq_zero_or_one a with ha | ha <;> rcases Nat.mod_two_eq_zero_or_one b with hb | hb <;> rw [ha, hb] <;> rfl
theorem xor_div2 (a b : Nat) : (a ^^^ b) / 2 = (a / 2) ^^^ (b / 2) := by
  have h := Nat.xor_div_two_pow (a := a) (b := b) (n := 1)
  simpa using h
theorem xor_left_comm' (a b c : Nat) : a ^^^ (b ^^^ c) = b ^^^ (a ^^^ c) := by
  rw [← Nat.xor_assoc, Nat.xor_comm a b, Nat.xor_assoc]
theorem xor_same_left (a b : Nat) : a ^^^ (a ^^^ b) = b := by rw [← Nat.xor_assoc, Nat.xor_self, Nat.zero_xor]
theorem xor_eq_zero {a b : Nat} (h : a ^^^ b = 0) : a = b := by
  have := xor_same_left a b
  rw [h, Nat.xor_zero] at this
  exact this
theorem cst_xor (a b : Nat) : cst (a ^^^ b) = cst a ^^^ cst b := by
  unfold cst
  rw [xor_mod2, xor_div2]
  rcases Nat.mod_two_eq_zero_or_one a with ha | ha <;> rcases Nat.mod_two_eq_zero_or_one b with hb | hb
  · simp [ha, hb]
  · simp [ha, hb]
    rw [Nat.xor_assoc]
  · simp only [ha, hb]
    simp
    rw [Nat.xor_assoc, Nat.xor_assoc, Nat.xor_comm (b / 2)]
  · simp only [ha, hb]
    simp
    rw [Nat.xor_assoc, xor_left_comm' 3988292384, Nat.xor_self, Nat.xor_zero]
theorem cst_lt {v : Nat} (h : v < 4294967296) : cst v < 4294967296 := by
  unfold cst
  split
  · exact Nat.xor_lt_two_pow (n := 32) (by omega) (by decide)
  · omega
theorem cst_zero {v : Nat} (h : v < 4294967296) (hz : cst v = 0) : v = 0 := by
  unfold cst at hz
  split at hz
  · have := xor_eq_zero hz
    omega
  · omega
theorem csn_xor (n : Nat) : ∀ (a b : Nat), csn n (a ^^^ b) = csn n a ^^^ csn n b := by
  induction n with
  | zero => intro a b; rfl
  | succ n ih => intro a b; simp only [csn]; rw [cst_xor, ih]
theorem csn_lt (n : Nat) : ∀ {v : Nat}, v < 4294967296 → csn n v < 4294967296 := by
  induction n with
  | zero => intro v h; exact h
  | succ n ih => intro v h; exact ih (cst_lt h)
theorem csn_zero (n : Nat) : ∀ {v : Nat}, v < 4294967296 → csn n v = 0 → v = 0 := by
  induction n with
  | zero => intro v _ h; exact h
  | succ n ih => intro v h hz; exact cst_zero h (ih (cst_lt h) hz)
theorem csn_nought (n : Nat) : csn n 0 = 0 := by
  induction n with
  | zero => rfl
  | succ n ih => simp only [csn]; rw [show cst 0 = 0 from rfl, ih]
theorem csn_add (m n v : Nat) : csn (m + n) v = csn n (csn m v) := by
  induction m generalizing v with
  | zero => simp [csn]
  | succ m ih => rw [show m + 1 + n = (m + n) + 1 by omega]; simp only [csn]; exact ih _
theorem csn_pow (n : Nat) : ∀ k : Nat, csn n (2 ^ n * k) = k := by
  induction n with
  | zero => intro k; simp [csn]
  | succ n ih =>
    intro k
    have : cst (2 ^ (n + 1) * k) = 2 ^ n * k := by
      unfold cst
      have e : 2 ^ (n + 1) * k = 2 * (2 ^ n * k) := by rw [Nat.pow_succ]; ac_rfl
      rw [e, if_neg (by omega)]
      omega
    simp only [csn]
    rw [this, ih]
theorem xor_add {n a : Nat} (h : a < 2 ^ n) (k : Nat) : a ^^^ (2 ^ n * k) = 2 ^ n * k + a := by
  apply Nat.eq_of_testBit_eq
  intro i
  rw [Nat.testBit_xor, Nat.testBit_two_pow_mul_add _ h, Nat.testBit_two_pow_mul]
  by_cases hi : i < n
  · have : ¬ n ≤ i := by omega
    simp [hi, this]
  · have h1 : a.testBit i = false := Nat.testBit_lt_two_pow (Nat.lt_of_lt_of_le h (Nat.pow_le_pow_right (by omega) (by omega)))
    have h2 : n ≤ i := by omega
    simp [hi, h1, h2]
theorem cs8_split (v : Nat) : csn 8 v = (v >>> 8) ^^^ csn 8 (v % 256) := by
  have e : v = (2 ^ 8 * (v / 256)) ^^^ (v % 256) := by
    rw [Nat.xor_comm, xor_add (by omega)]; omega
  conv => lhs; rw [e]
  rw [csn_xor, csn_pow, Nat.shiftRight_eq_div_pow]
theorem crcB_lt {v : Nat} (h : v < 4294967296) (b : UInt8) : crcB v b < 4294967296 :=
  csn_lt 8 (Nat.xor_lt_two_pow (n := 32) h (Nat.lt_of_lt_of_le b.toNat_lt (by decide)))
theorem crcB_table {v : Nat} (b : UInt8) : crcB v b = (v >>> 8) ^^^ csn 8 ((v % 256) ^^^ b.toNat) := by
  unfold crcB
  rw [cs8_split]
  have h1 : (v ^^^ b.toNat) >>> 8 = v >>> 8 := by
    rw [Nat.shiftRight_xor_distrib, show b.toNat >>> 8 = 0 from by rw [Nat.shiftRight_eq_div_pow]; have := b.toNat_lt; omega, Nat.xor_zero]
  have h2 : (v ^^^ b.toNat) % 256 = (v % 256) ^^^ b.toNat := by
    have := Nat.xor_mod_two_pow (a := v) (b := b.toNat) (n := 8)
    rw [show 2 ^ 8 = 256 from rfl] at this
    rw [this, Nat.mod_eq_of_lt b.toNat_lt]
  rw [h1, h2]
theorem crcR_lt (l : List UInt8) : ∀ {v : Nat}, v < 4294967296 → crcR v l < 4294967296 := by
  induction l with
  | nil => intro v h; exact h
  | cons b l ih => intro v h; exact ih (crcB_lt h b)
theorem crc_lt (l : List UInt8) : crc l < 4294967296 :=
  Nat.xor_lt_two_pow (n := 32) (crcR_lt l (by decide)) (by decide)
theorem crcR_append (v : Nat) (a b : List UInt8) : crcR v (a ++ b) = crcR (crcR v a) b := by simp [crcR]
theorem crcR_cons (v : Nat) (b : UInt8) (l : List UInt8) : crcR v (b :: l) = crcR (crcB v b) l := rfl
/-- Registers that differ stay unlike. -/
theorem crcB_ne {v u : Nat} (hv : v < 4294967296) (hu : u < 4294967296) (b : UInt8) (h : v ≠ u) : crcB v b ≠ crcB u b := by
  intro e
  unfold crcB at e
  have h0 : csn 8 ((v ^^^ b.toNat) ^^^ (u ^^^ b.toNat)) = 0 := by rw [csn_xor, e, Nat.xor_self]
  have h1 : (v ^^^ b.toNat) ^^^ (u ^^^ b.toNat) = v ^^^ u := by
    rw [Nat.xor_comm u, Nat.xor_assoc, xor_same_left]
  rw [h1] at h0
  exact h (xor_eq_zero (csn_zero 8 (Nat.xor_lt_two_pow (n := 32) hv hu) h0))
theorem crcR_ne (l : List UInt8) : ∀ {v u : Nat}, v < 4294967296 → u < 4294967296 → v ≠ u → crcR v l ≠ crcR u l := by
  induction l with
  | nil => intro v u _ _ h; exact h
  | cons b l ih => intro v u hv hu h; exact ih (crcB_lt hv b) (crcB_lt hu b) (crcB_ne hv hu b h)
theorem crc_of_ne {a b : List UInt8} (h : crcR 4294967295 a ≠ crcR 4294967295 b) : crc a ≠ crc b := by
  intro e
  unfold crc at e
  apply h
  have := congrArg (4294967295 ^^^ ·) e
  simp only [Nat.xor_comm _ 4294967295, xor_same_left] at this
  exact this
/-- One byte turned. -/
theorem crc_turned (p s : List UInt8) {x y : UInt8} (h : x ≠ y) : crc (p ++ x :: s) ≠ crc (p ++ y :: s) := by
  apply crc_of_ne
  rw [crcR_append, crcR_append, crcR_cons, crcR_cons]
  have hp := crcR_lt p (v := 4294967295) (by decide)
  refine crcR_ne s (crcB_lt hp x) (crcB_lt hp y) (fun e => ?_)
  unfold crcB at e
  generalize crcR 4294967295 p = v at hp e
  have h0 : csn 8 ((v ^^^ x.toNat) ^^^ (v ^^^ y.toNat)) = 0 := by rw [csn_xor, e, Nat.xor_self]
  have h1 : (v ^^^ x.toNat) ^^^ (v ^^^ y.toNat) = x.toNat ^^^ y.toNat := by
    rw [Nat.xor_assoc, xor_left_comm' x.toNat, xor_same_left]
  rw [h1] at h0
  have := xor_eq_zero (csn_zero 8 (Nat.xor_lt_two_pow (n := 32) (Nat.lt_of_lt_of_le x.toNat_lt (by decide)) (Nat.lt_of_lt_of_le y.toNat_lt (by decide))) h0)
  exact h (UInt8.toNat_inj.1 this)
theorem crcB_xor (v d : Nat) (b e : UInt8) : crcB (v ^^^ d) (b ^^^ e) = crcB v b ^^^ crcB d e := by
  unfold crcB
  rw [← csn_xor, UInt8.toNat_xor]
  congr 1
  rw [Nat.xor_assoc, Nat.xor_assoc, xor_left_comm' d]
/-- Four bytes turned by a number's own four. -/
theorem crc_burst (p s : List UInt8) (b0 b1 b2 b3 : UInt8) {t : Nat} (ht : 0 < t) (hm : t < 4294967296) {e0 e1 e2 e3 : UInt8}
    (h0 : e0.toNat = t % 256) (h1 : e1.toNat = t / 256 % 256) (h2 : e2.toNat = t / 65536 % 256) (h3 : e3.toNat = t / 16777216 % 256) :
    crc (p ++ [b0, b1, b2, b3] ++ s) ≠ crc (p ++ [b0 ^^^ e0, b1 ^^^ e1, b2 ^^^ e2, b3 ^^^ e3] ++ s) := by
  apply crc_of_ne
  rw [crcR_append, crcR_append, crcR_append, crcR_append]
  have hp := crcR_lt p (v := 4294967295) (by decide)
  refine crcR_ne s (crcR_lt _ hp) (crcR_lt _ hp) (fun e => ?_)
  generalize crcR 4294967295 p = v at hp e
  have hx : crcR v [b0 ^^^ e0, b1 ^^^ e1, b2 ^^^ e2, b3 ^^^ e3] = crcR v [b0, b1, b2, b3] ^^^ crcR 0 [e0, e1, e2, e3] := by
    simp only [crcR, List.foldl_cons, List.foldl_nil]
    conv => lhs; rw [← Nat.xor_zero v]
    rw [crcB_xor, crcB_xor, crcB_xor, crcB_xor]
  have hz : crcR 0 [e0, e1, e2, e3] = 0 := by
    rw [hx] at e
    have := congrArg (crcR v [b0, b1, b2, b3] ^^^ ·) e
    simp only [xor_same_left, Nat.xor_self] at this
    exact this.symm
  have hq : ∀ n x k : Nat, csn n x ^^^ k = csn n (x ^^^ (2 ^ n * k)) := by
    intro n x k
    rw [csn_xor, csn_pow]
  have hw : crcR 0 [e0, e1, e2, e3] = csn 32 (e0.toNat ^^^ (2 ^ 8 * e1.toNat) ^^^ (2 ^ 16 * e2.toNat) ^^^ (2 ^ 24 * e3.toNat)) := by
    simp only [crcR, List.foldl_cons, List.foldl_nil, crcB, Nat.zero_xor]
    rw [hq 8 e0.toNat e1.toNat, ← csn_add, hq 16, ← csn_add, hq 24, ← csn_add]
  have g0 := e0.toNat_lt; have g1 := e1.toNat_lt; have g2 := e2.toNat_lt
  have hs : e0.toNat ^^^ (2 ^ 8 * e1.toNat) ^^^ (2 ^ 16 * e2.toNat) ^^^ (2 ^ 24 * e3.toNat) = t := by
    rw [xor_add (n := 8) (by omega), xor_add (n := 16) (by omega), xor_add (n := 24) (by omega)]
    omega
  rw [hw, hs] at hz
  have := csn_zero 32 hm hz
  omega
end Go.Proofs.Ytkdmicpfinjpgaa
