/- Contracts and plain mathematics that the statement's proof wants: no statement is proved here, nothing is assumed. -/
/- CPlain -/
/- The sum of bytes as plain mathematics: the register, its steps, and that up to four other bytes side by side turn it. No statement is proved here. -/
namespace Go.Proofs.YtnbbijpmkhdgpaaGreat.Crc

/-- One step down. -/
def dn (n : Nat) : Nat := if n % 2 = 1 then n / 2 ^^^ 2197175160 else n / 2

def dnK : Nat → Nat → Nat
  | 0, n => n
  | k + 1, n => dnK k (dn n)

theorem dnK_add (j k n : Nat) : dnK (j + k) n = dnK k (dnK j n) := by
  induction j generalizing n with
  | zero => rw [Nat.zero_add]; rfl
  | succ j ih => rw [Nat.succ_add]; exact ih (dn n)

theorem dnK_succ (k n : Nat) : dnK (k + 1) n = dn (dnK k n) := dnK_add k 1 n

theorem dn_lt {n : Nat} (h : n < 4294967296) : dn n < 4294967296 := by
  unfold dn
  split
  · exact Nat.xor_lt_two_pow (n := 32) (by omega) (by omega)
  · omega

theorem dnK_lt (k : Nat) {n : Nat} (h : n < 4294967296) : dnK k n < 4294967296 := by
  induction k generalizing n with
  | zero => exact h
  | succ k ih => exact ih (dn_lt h)

theorem xor_half (a b : Nat) : (a ^^^ b) / 2 = a / 2 ^^^ b / 2 := by
  apply Nat.eq_of_testBit_eq
  intro i
  rw [Nat.testBit_xor, ← Nat.testBit_succ, ← Nat.testBit_succ, ← Nat.testBit_succ, Nat.testBit_xor]

theorem xor_odd (a b : Nat) : (a ^^^ b) % 2 = (a + b) % 2 := by
  have h := Nat.testBit_xor (x := a) (y := b) (i := 0)
  rw [Nat.testBit_zero, Nat.testBit_zero, Nat.testBit_zero] at h
  have h1 : a % 2 = 0 ∨ a % 2 = 1 := by omega
  have h2 : b % 2 = 0 ∨ b % 2 = 1 := by omega
  have h3 : (a ^^^ b) % 2 = 0 ∨ (a ^^^ b) % 2 = 1 := by omega
  rcases h1 with h1 | h1 <;> rcases h2 with h2 | h2 <;> rcases h3 with h3 | h3 <;> simp [h1, h2, h3] at h <;> omega

theorem dn_xor (a b : Nat) : dn (a ^^^ b) = dn a ^^^ dn b := by
  unfold dn
  rw [xor_half, xor_odd]
  have h1 : a % 2 = 0 ∨ a % 2 = 1 := by omega
  have h2 : b % 2 = 0 ∨ b % 2 = 1 := by omega
  rcases h1 with h1 | h1 <;> rcases h2 with h2 | h2
  · rw [if_neg (by omega), if_neg (by omega), if_neg (by omega)]
  · rw [if_pos (by omega), if_neg (by omega), if_pos (by omega), Nat.xor_assoc]
  · rw [if_pos (by omega), if_pos (by omega), if_neg (by omega), Nat.xor_assoc, Nat.xor_assoc, Nat.xor_comm (b / 2)]
  · rw [if_neg (by omega), if_pos (by omega), if_pos (by omega), Nat.xor_assoc, Nat.xor_comm 2197175160, Nat.xor_assoc, Nat.xor_self, Nat.xor_zero]

theorem dnK_xor (k a b : Nat) : dnK k (a ^^^ b) = dnK k a ^^^ dnK k b := by
  induction k generalizing a b with
  | zero => rfl
  | succ k ih => show dnK k (dn (a ^^^ b)) = _; rw [dn_xor]; exact ih _ _

theorem dn_double (n : Nat) : dn (2 * n) = n := by
  unfold dn
  rw [if_neg (by omega)]; omega

theorem dnK_up (k n : Nat) : dnK k (2 ^ k * n) = n := by
  induction k generalizing n with
  | zero => simp [dnK]
  | succ k ih =>
    show dnK k (dn (2 ^ (k + 1) * n)) = n
    rw [show 2 ^ (k + 1) * n = 2 * (2 ^ k * n) by rw [Nat.pow_succ, Nat.mul_comm (2 ^ k) 2, Nat.mul_assoc], dn_double]
    exact ih n

theorem dnK_zero (k : Nat) : dnK k 0 = 0 := by
  have := dnK_up k 0
  simpa using this

theorem xor_eq_zero {a b : Nat} (h : a ^^^ b = 0) : a = b := by
  have := congrArg (· ^^^ b) h
  simpa [Nat.xor_assoc, Nat.xor_self] using this

theorem dn_none {n : Nat} (h : n < 4294967296) (h0 : dn n = 0) : n = 0 := by
  unfold dn at h0
  split at h0
  · have := xor_eq_zero h0; omega
  · omega

theorem dnK_none (k : Nat) {n : Nat} (h : n < 4294967296) (h0 : dnK k n = 0) : n = 0 := by
  induction k generalizing n with
  | zero => exact h0
  | succ k ih => exact dn_none h (ih (dn_lt h) h0)

theorem dnK_inj (k : Nat) {a b : Nat} (ha : a < 4294967296) (hb : b < 4294967296) (h : dnK k a = dnK k b) : a = b := by
  apply xor_eq_zero
  apply dnK_none k (Nat.xor_lt_two_pow (n := 32) ha hb)
  rw [dnK_xor, h, Nat.xor_self]

/-- A number is its upper bits and its lower ones. -/
theorem xor_parts (k a b : Nat) (h : b < 2 ^ k) : b ^^^ 2 ^ k * a = b + 2 ^ k * a := by
  apply Nat.eq_of_testBit_eq
  intro i
  rw [Nat.add_comm, Nat.testBit_two_pow_mul_add a h, Nat.testBit_xor, Nat.testBit_two_pow_mul]
  by_cases hi : i < k
  · rw [if_pos hi, decide_eq_false (by omega)]; simp
  · have : b.testBit i = false := Nat.testBit_lt_two_pow (Nat.lt_of_lt_of_le h (Nat.pow_le_pow_right (by omega) (by omega)))
    rw [if_neg hi, decide_eq_true (by omega), this]; simp

theorem nibble (n : Nat) : n / 16 ^^^ dnK 4 (n % 16) = dnK 4 n := by
  have h : n % 16 ^^^ 2 ^ 4 * (n / 16) = n := by rw [xor_parts 4 _ _ (by omega)]; omega
  have h2 : dnK 4 (n % 16 ^^^ 2 ^ 4 * (n / 16)) = dnK 4 n := by rw [h]
  rw [dnK_xor, dnK_up] at h2
  rw [Nat.xor_comm]; exact h2

/-- A byte goes into the register. -/
def feed (n c : Nat) : Nat := dnK 8 (n ^^^ c)

def reg (n : Nat) (l : List UInt8) : Nat := l.foldl (fun n c => feed n c.toNat) n

theorem reg_app (n : Nat) (l m : List UInt8) : reg n (l ++ m) = reg (reg n l) m := List.foldl_append ..

theorem feed_lt {n c : Nat} (h : n < 4294967296) (hc : c < 256) : feed n c < 4294967296 :=
  dnK_lt 8 (Nat.xor_lt_two_pow (n := 32) h (by omega))

theorem reg_lt {n : Nat} (l : List UInt8) (h : n < 4294967296) : reg n l < 4294967296 := by
  induction l generalizing n with
  | nil => exact h
  | cons c l ih => exact ih (feed_lt h c.toNat_lt)

/-- The bytes as one number, the first one lowest. -/
def wordL : List UInt8 → Nat
  | [] => 0
  | c :: l => c.toNat ^^^ 2 ^ 8 * wordL l

theorem reg_word (n : Nat) (l : List UInt8) : reg n l = dnK (8 * l.length) (n ^^^ wordL l) := by
  induction l generalizing n with
  | nil => simp [reg, wordL, dnK]
  | cons c l ih =>
    show reg (feed n c.toNat) l = _
    rw [ih, List.length_cons, show 8 * (l.length + 1) = 8 + 8 * l.length by omega, dnK_add]
    have : feed n c.toNat ^^^ wordL l = dnK 8 (n ^^^ wordL (c :: l)) := by
      unfold feed
      have e : wordL l = dnK 8 (2 ^ 8 * wordL l) := (dnK_up 8 _).symm
      rw [e, ← dnK_xor, Nat.xor_assoc]
      rfl
    rw [this]

theorem wordL_cons (c : UInt8) (l : List UInt8) : wordL (c :: l) = c.toNat + 2 ^ 8 * wordL l := xor_parts 8 _ _ c.toNat_lt

theorem wordL_none {l : List UInt8} (h : wordL l = 0) : ∀ c ∈ l, c = 0 := by
  induction l with
  | nil => simp
  | cons c l ih =>
    rw [wordL_cons] at h
    have h1 : c.toNat = 0 := by omega
    have h2 : wordL l = 0 := by omega
    intro d hd
    rcases List.mem_cons.1 hd with rfl | hd
    · exact UInt8.toNat_inj.1 h1
    · exact ih h2 d hd

theorem wordL_zeros {l : List UInt8} (h : ∀ c ∈ l, c = 0) : wordL l = 0 := by
  induction l with
  | nil => rfl
  | cons c l ih => rw [wordL_cons, h c (by simp), ih (fun d hd => h d (by simp [hd]))]; rfl

theorem wordL_lt (l : List UInt8) : wordL l < 2 ^ (8 * l.length) := by
  induction l with
  | nil => simp [wordL]
  | cons c l ih =>
    rw [wordL_cons, List.length_cons, show 8 * (l.length + 1) = 8 * l.length + 8 by omega, Nat.pow_add]
    have := c.toNat_lt
    omega

theorem wordL_lt4 {l : List UInt8} (h : l.length ≤ 4) : wordL l < 4294967296 := by
  have h1 := wordL_lt l
  have h2 : 2 ^ (8 * l.length) ≤ 2 ^ 32 := Nat.pow_le_pow_right (by omega) (by omega)
  exact Nat.lt_of_lt_of_le h1 (by simpa using h2)

/-- The sum. -/
def crcN (l : List UInt8) : Nat := 4294967295 ^^^ reg 4294967295 l

theorem crcN_lt (l : List UInt8) : crcN l < 4294967296 := Nat.xor_lt_two_pow (n := 32) (by omega) (reg_lt l (by omega))

/-- A number in four bytes, the lowest first. -/
def tailB (n : Nat) : List UInt8 := [UInt8.ofNat n, UInt8.ofNat (n / 256), UInt8.ofNat (n / 65536), UInt8.ofNat (n / 16777216)]

theorem toNat_ofNat8 (n : Nat) : (UInt8.ofNat n).toNat = n % 256 := by simp

theorem wordL_tail {n : Nat} (h : n < 4294967296) : wordL (tailB n) = n := by
  unfold tailB
  rw [wordL_cons, wordL_cons, wordL_cons, wordL_cons]
  simp only [toNat_ofNat8, wordL]
  omega

theorem wordL_inj {l m : List UInt8} (hl : l.length = m.length) (h : wordL l = wordL m) : l = m := by
  induction l generalizing m with
  | nil => cases m with
    | nil => rfl
    | cons _ _ => cases hl
  | cons c l ih => cases m with
    | nil => cases hl
    | cons d m =>
      rw [wordL_cons, wordL_cons] at h
      have := c.toNat_lt
      have := d.toNat_lt
      rw [UInt8.toNat_inj.1 (show c.toNat = d.toNat by omega), ih (by simpa using hl) (by omega)]

def sealB (l : List UInt8) : List UInt8 := l ++ tailB (crcN l)

theorem tailB_len (n : Nat) : (tailB n).length = 4 := rfl

theorem sealB_len (l : List UInt8) : (sealB l).length = l.length + 4 := by simp [sealB, tailB_len]

/-- What is sealed, in one equation. -/
def full : Nat := dnK 32 4294967295

theorem reg_four (n : Nat) (hn : n < 4294967296) (t : List UInt8) (ht : t.length = 4) : reg n t = full ↔ t = tailB (4294967295 ^^^ n) := by
  have hx : 4294967295 ^^^ n < 4294967296 := Nat.xor_lt_two_pow (n := 32) (by omega) hn
  rw [reg_word, ht]
  constructor
  · intro h
    have e := dnK_inj (8 * 4) (Nat.xor_lt_two_pow (n := 32) hn (wordL_lt4 (by omega))) (by omega) h
    apply wordL_inj (by rw [ht, tailB_len])
    rw [wordL_tail hx, ← e, Nat.xor_comm n, Nat.xor_assoc, Nat.xor_self, Nat.xor_zero]
  · rintro rfl
    rw [wordL_tail hx, Nat.xor_comm, Nat.xor_assoc, Nat.xor_self, Nat.xor_zero]
    rfl

/-- Whether bytes are sealed ones. -/
def opens (l : List UInt8) : Bool := decide (4 ≤ l.length) && decide (l.drop (l.length - 4) = tailB (crcN (l.take (l.length - 4))))

theorem opens_iff (l : List UInt8) (h : 4 ≤ l.length) : opens l = true ↔ reg 4294967295 l = full := by
  have e : reg 4294967295 l = reg (reg 4294967295 (l.take (l.length - 4))) (l.drop (l.length - 4)) := by rw [← reg_app, List.take_append_drop]
  rw [e, reg_four _ (reg_lt _ (by omega)) _ (by simp; omega)]
  unfold opens crcN
  rw [decide_eq_true h, Bool.true_and, decide_eq_true_iff]

theorem opens_seal (l : List UInt8) : opens (sealB l) = true := by
  have h1 : (sealB l).length - 4 = l.length := by rw [sealB_len]; omega
  unfold opens
  rw [h1, sealB_len]
  simp [sealB]

theorem sealB_take (l : List UInt8) : (sealB l).take ((sealB l).length - 4) = l := by
  rw [sealB_len, Nat.add_sub_cancel]; simp [sealB]

/-- Only what is sealed opens. -/
theorem opens_is (l : List UInt8) (h : opens l = true) : sealB (l.take (l.length - 4)) = l := by
  simp [opens] at h
  unfold sealB
  rw [← h.2, List.take_append_drop]

theorem sealB_inj {l m : List UInt8} (h : sealB l = sealB m) : l = m := by
  have := congrArg (fun x : List UInt8 => x.take (x.length - 4)) h
  simpa only [sealB_take] using this

/-- Bytes with others laid over them. -/
def over : List UInt8 → List UInt8 → List UInt8
  | a :: l, b :: m => (a ^^^ b) :: over l m
  | l, [] => l
  | [], _ => []

theorem xor_rot (a b c d : Nat) : (a ^^^ b) ^^^ (c ^^^ d) = (a ^^^ c) ^^^ (b ^^^ d) := by
  rw [Nat.xor_assoc, Nat.xor_assoc, ← Nat.xor_assoc b, ← Nat.xor_assoc c, Nat.xor_comm b c]

theorem feed_xor (n m c d : Nat) : feed (n ^^^ m) (c ^^^ d) = feed n c ^^^ feed m d := by
  unfold feed; rw [xor_rot, dnK_xor]

theorem reg_over (l e : List UInt8) (h : l.length = e.length) (n m : Nat) : reg (n ^^^ m) (over l e) = reg n l ^^^ reg m e := by
  induction l generalizing e n m with
  | nil => cases e with
    | nil => rfl
    | cons _ _ => cases h
  | cons a l ih => cases e with
    | nil => cases h
    | cons b e =>
      show reg (feed (n ^^^ m) (a ^^^ b).toNat) (over l e) = _
      rw [UInt8.toNat_xor, feed_xor]
      exact ih e (by simpa using h) _ _

def zeros (k : Nat) : List UInt8 := List.replicate k 0

theorem reg_zeros (n k : Nat) : reg n (zeros k) = dnK (8 * k) n := by
  unfold zeros
  rw [reg_word, wordL_zeros (fun c hc => (List.mem_replicate.1 hc).2), Nat.xor_zero, List.length_replicate]

/-- What four bytes side by side at most, with noughts about them, leave in the register. -/
theorem reg_burst (k j : Nat) (f : List UInt8) (hf : f.length ≤ 4) : reg 0 (zeros k ++ f ++ zeros j) = 0 ↔ ∀ c ∈ f, c = 0 := by
  rw [reg_app, reg_app, reg_zeros, reg_zeros, dnK_zero, reg_word, Nat.zero_xor]
  constructor
  · intro h
    exact wordL_none (dnK_none _ (wordL_lt4 hf) (dnK_none _ (dnK_lt _ (wordL_lt4 hf)) h))
  · intro h
    rw [wordL_zeros h, dnK_zero, dnK_zero]

/-- Up to four other bytes side by side, anywhere, are told. -/
theorem burst (l : List UInt8) (k j : Nat) (f : List UInt8) (hf : f.length ≤ 4) (hl : l.length = k + f.length + j) (h4 : 4 ≤ l.length) (ho : opens l = true) :
    opens (over l (zeros k ++ f ++ zeros j)) = true ↔ ∀ c ∈ f, c = 0 := by
  have hlen : l.length = (zeros k ++ f ++ zeros j).length := by simp [zeros]; omega
  have ol : ∀ (l e : List UInt8), l.length = e.length → (over l e).length = l.length := by
    intro l
    induction l with
    | nil => intro e h; cases e with
      | nil => rfl
      | cons _ _ => cases h
    | cons a l ih => intro e h; cases e with
      | nil => cases h
      | cons b e => simp [over]; exact ih e (by simpa using h)
  rw [opens_iff _ (by rw [ol _ _ hlen]; exact h4)]
  rw [opens_iff l h4] at ho
  have e := reg_over l _ hlen 4294967295 0
  rw [Nat.xor_zero, ho] at e
  rw [e, ← reg_burst k j f hf]
  constructor
  · intro h
    have := congrArg (full ^^^ ·) h
    simpa [← Nat.xor_assoc, Nat.xor_self] using this
  · intro h; rw [h, Nat.xor_zero]

theorem crc_example : crcN [49, 50, 51, 52, 53, 54, 55, 56, 57] = 3808858755 := by decide +kernel
theorem crc_empty : crcN [] = 0 := by decide +kernel

end Go.Proofs.YtnbbijpmkhdgpaaGreat.Crc
