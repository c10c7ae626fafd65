/- Contracts and plain mathematics that the statement's proof wants: no statement is proved here, nothing is assumed. -/
/- BPlain -/
/- Page 0's bytes, plainly: which pages are taken, marks, how many are free, runs that are free, where the catalog begins. No statement is proved here. -/
namespace Go.Proofs.YtgeiemccjionpaaGreat.Bit

/-- Has l a bit for page p? -/
def has (l : List UInt8) (p : Nat) : Bool := decide (p < 512) && decide (p / 8 < l.length)
/-- Is page p taken? -/
def tk (l : List UInt8) (p : Nat) : Bool := has l p && (l.getD (p / 8) 0).toNat.testBit (7 - p % 8)
def tkI (l : List UInt8) (p : Int) : Bool := decide (0 ≤ p) && tk l p.toNat
theorem tkI_nat (l : List UInt8) (p : Nat) : tkI l (p : Int) = tk l p := by
  unfold tkI
  rw [decide_eq_true (Int.natCast_nonneg p), Int.toNat_natCast, Bool.true_and]

/-- A byte with page p's bit set, or not. -/
def setB (b : UInt8) (t : Bool) (p : Nat) : UInt8 := if t = true then UInt8.ofNat (b.toNat ||| 2 ^ (7 - p % 8)) else UInt8.ofNat (b.toNat &&& (255 - 2 ^ (7 - p % 8)))
/-- Page p marked. -/
def mk1 (l : List UInt8) (t : Bool) (p : Nat) : List UInt8 := if has l p = true then l.set (p / 8) (setB (l.getD (p / 8) 0) t p) else l
def mkI (l : List UInt8) (t : Bool) (p : Int) : List UInt8 := if 0 ≤ p then mk1 l t p.toNat else l
/-- So many pages from s on marked. -/
def markR (l : List UInt8) (t : Bool) (s : Int) : Nat → List UInt8
  | 0 => l
  | k + 1 => mkI (markR l t s k) t (s + k)
def markOne (l : List UInt8) (t : Bool) (x : Int × Int) : List UInt8 := markR l t x.1 (min x.2 512).toNat
def markL (l : List UInt8) (t : Bool) (r : List (Int × Int)) : List UInt8 := r.foldl (fun m x => markOne m t x) l

theorem pow7 (p : Nat) : 2 ^ (7 - p % 8) < 256 := Nat.lt_of_le_of_lt (Nat.pow_le_pow_right (by omega) (show 7 - p % 8 ≤ 7 by omega)) (by decide)
theorem setB_or (b : UInt8) (p : Nat) : (setB b true p).toNat = b.toNat ||| 2 ^ (7 - p % 8) := by
  unfold setB
  rw [if_pos rfl, UInt8.toNat_ofNat']
  exact Nat.mod_eq_of_lt (Nat.or_lt_two_pow b.toNat_lt (pow7 p))
theorem setB_and (b : UInt8) (p : Nat) : (setB b false p).toNat = b.toNat &&& (255 - 2 ^ (7 - p % 8)) := by
  unfold setB
  rw [if_neg (by simp), UInt8.toNat_ofNat']
  exact Nat.mod_eq_of_lt (Nat.and_lt_two_pow (n := 8) _ (Nat.lt_of_le_of_lt (Nat.sub_le 255 _) (by decide)))
theorem off_bit : ∀ j < 8, ∀ i < 8, (255 - 2 ^ j).testBit i = !(decide (j = i)) := by decide
theorem setB_bit (b : UInt8) (t : Bool) (p i : Nat) (hi : i < 8) : (setB b t p).toNat.testBit i = if 7 - p % 8 = i then t else b.toNat.testBit i := by
  cases t with
  | true =>
    rw [setB_or, Nat.testBit_or, Nat.testBit_two_pow]
    by_cases h : 7 - p % 8 = i
    · simp [h]
    · simp [h]
  | false =>
    rw [setB_and, Nat.testBit_and, off_bit _ (by omega) _ hi]
    by_cases h : 7 - p % 8 = i
    · simp [h]
    · simp [h]

theorem has_is (l : List UInt8) (p : Nat) : has l p = true ↔ p < 512 ∧ p / 8 < l.length := by unfold has; simp
theorem mk1_len (l : List UInt8) (t : Bool) (p : Nat) : (mk1 l t p).length = l.length := by unfold mk1; split <;> simp
theorem mkI_len (l : List UInt8) (t : Bool) (p : Int) : (mkI l t p).length = l.length := by unfold mkI; split <;> simp [mk1_len]
theorem markR_len (l : List UInt8) (t : Bool) (s : Int) (k : Nat) : (markR l t s k).length = l.length := by
  induction k with
  | zero => rfl
  | succ k ih => unfold markR; rw [mkI_len, ih]
theorem markOne_len (l : List UInt8) (t : Bool) (x : Int × Int) : (markOne l t x).length = l.length := markR_len _ _ _ _
theorem markL_len (t : Bool) (r : List (Int × Int)) : ∀ l : List UInt8, (markL l t r).length = l.length := by
  induction r with
  | nil => intro l; rfl
  | cons x r ih => intro l; show (markL (markOne l t x) t r).length = _; rw [ih, markOne_len]
theorem has_len {l m : List UInt8} (h : m.length = l.length) (p : Nat) : has m p = has l p := by unfold has; rw [h]

theorem mk1_drop (l : List UInt8) (t : Bool) (p : Nat) : (mk1 l t p).drop 64 = l.drop 64 := by
  unfold mk1
  split
  · rename_i h
    have := (has_is l p).1 h
    rw [List.drop_set_of_lt (by omega)]
  · rfl
theorem mkI_drop (l : List UInt8) (t : Bool) (p : Int) : (mkI l t p).drop 64 = l.drop 64 := by unfold mkI; split <;> simp [mk1_drop]
theorem markR_drop (l : List UInt8) (t : Bool) (s : Int) (k : Nat) : (markR l t s k).drop 64 = l.drop 64 := by
  induction k with
  | zero => rfl
  | succ k ih => unfold markR; rw [mkI_drop, ih]
theorem markL_drop (t : Bool) (r : List (Int × Int)) : ∀ l : List UInt8, (markL l t r).drop 64 = l.drop 64 := by
  induction r with
  | nil => intro l; rfl
  | cons x r ih => intro l; show (markL (markOne l t x) t r).drop 64 = _; rw [ih]; exact markR_drop _ _ _ _

theorem getD_set (l : List UInt8) (n : Nat) (a : UInt8) (j : Nat) (hn : n < l.length) : (l.set n a).getD j 0 = if n = j then a else l.getD j 0 := by
  rw [List.getD_eq_getElem?_getD, List.getElem?_set, List.getD_eq_getElem?_getD]
  by_cases h : n = j
  · subst h; simp [hn]
  · simp [h]
theorem tk_mk1 (l : List UInt8) (t : Bool) (p q : Nat) : tk (mk1 l t p) q = if has l q = true ∧ p = q then t else tk l q := by
  unfold tk
  rw [has_len (mk1_len l t p)]
  cases hq : has l q with
  | false => simp
  | true =>
    have hq' := (has_is l q).1 hq
    unfold mk1
    by_cases hp : has l p = true
    · have hp' := (has_is l p).1 hp
      rw [if_pos hp, getD_set _ _ _ _ hp'.2]
      by_cases e : p / 8 = q / 8
      · rw [if_pos e, setB_bit _ _ _ _ (by omega), e]
        by_cases e2 : p = q
        · subst e2; simp
        · rw [if_neg (show ¬ 7 - p % 8 = 7 - q % 8 by omega), if_neg (fun h => e2 h.2)]
      · rw [if_neg e, if_neg (fun h => e (by rw [h.2]))]
    · rw [if_neg hp, if_neg (fun h => hp (by rw [h.2]; exact hq))]
theorem tk_mkI (l : List UInt8) (t : Bool) (p : Int) (q : Nat) : tk (mkI l t p) q = if has l q = true ∧ p = q then t else tk l q := by
  unfold mkI
  by_cases h : 0 ≤ p
  · rw [if_pos h, tk_mk1]
    have : (p.toNat = q) ↔ (p = (q : Int)) := by omega
    simp only [this]
  · rw [if_neg h, if_neg (fun hh => by omega)]
theorem tk_markR (l : List UInt8) (t : Bool) (s : Int) (k q : Nat) : tk (markR l t s k) q = if has l q = true ∧ s ≤ q ∧ (q : Int) < s + k then t else tk l q := by
  induction k with
  | zero => unfold markR; rw [if_neg (fun h => by omega)]
  | succ k ih =>
    unfold markR
    rw [tk_mkI, has_len (markR_len l t s k), ih]
    by_cases h : has l q = true
    · by_cases e : s + k = (q : Int)
      · rw [if_pos ⟨h, e⟩, if_pos ⟨h, by omega, by omega⟩]
      · rw [if_neg (fun hh => e hh.2)]
        by_cases e2 : s ≤ q ∧ (q : Int) < s + k
        · rw [if_pos ⟨h, e2⟩, if_pos ⟨h, by omega, by omega⟩]
        · rw [if_neg (fun hh => e2 hh.2), if_neg (fun hh => by omega)]
    · rw [if_neg (fun hh => h hh.1), if_neg (fun hh => h hh.1), if_neg (fun hh => h hh.1)]

/-- Is page q in one of the runs? -/
def inR (r : List (Int × Int)) (q : Nat) : Bool := r.any fun x => decide (x.1 ≤ q) && decide ((q : Int) < x.1 + x.2)
theorem tk_markL (t : Bool) (q : Nat) (r : List (Int × Int)) : ∀ l : List UInt8, (∀ x ∈ r, 0 ≤ x.2 ∧ x.2 ≤ 512) → tk (markL l t r) q = if has l q = true ∧ inR r q = true then t else tk l q := by
  induction r with
  | nil => intro l _; rw [if_neg (fun h => by simp [inR] at h)]; rfl
  | cons x r ih =>
    intro l h
    have hx := h x List.mem_cons_self
    show tk (markL (markOne l t x) t r) q = _
    rw [ih _ (fun y hy => h y (List.mem_cons_of_mem _ hy)), has_len (markOne_len l t x)]
    unfold markOne
    rw [tk_markR]
    have e : (((min x.2 512).toNat : Nat) : Int) = x.2 := by omega
    rw [e]
    have e2 : inR (x :: r) q = ((decide (x.1 ≤ q) && decide ((q : Int) < x.1 + x.2)) || inR r q) := rfl
    rw [e2]
    cases has l q <;> cases inR r q <;> simp

theorem mkI_out (l : List UInt8) (t : Bool) (p : Int) (h : ¬ (0 ≤ p ∧ has l p.toNat = true)) : mkI l t p = l := by
  unfold mkI
  split
  · rename_i h0
    unfold mk1
    rw [if_neg (fun hh => h ⟨h0, hh⟩)]
  · rfl
theorem markR_skip (l : List UInt8) (t : Bool) (s : Int) (k : Nat) (d : Nat) (h : ∀ j, k ≤ j → j < k + d → ¬ (0 ≤ s + (j : Int) ∧ has l (s + (j : Int)).toNat = true)) : markR l t s (k + d) = markR l t s k := by
  induction d with
  | zero => rfl
  | succ d ih =>
    show mkI (markR l t s (k + d)) t (s + ((k + d : Nat) : Int)) = _
    rw [mkI_out _ _ _ (by rw [has_len (markR_len l t s (k + d))]; exact h (k + d) (by omega) (by omega)), ih (fun j h1 h2 => h j h1 (by omega))]
theorem markR_same (l : List UInt8) (t : Bool) (s : Int) (k m : Nat) (hk : k ≤ m) (h : ∀ j, k ≤ j → j < m → ¬ (0 ≤ s + (j : Int) ∧ has l (s + (j : Int)).toNat = true)) : markR l t s m = markR l t s k := by
  obtain ⟨d, rfl⟩ : ∃ d, m = k + d := ⟨m - k, by omega⟩
  exact markR_skip l t s k d h
theorem markL_snoc (l : List UInt8) (t : Bool) (r : List (Int × Int)) (x : Int × Int) : markL l t (r ++ [x]) = markOne (markL l t r) t x := by
  unfold markL; rw [List.foldl_append]; rfl

theorem bytes_ext {l m : List UInt8} (hl : l.length = m.length) (ht : ∀ p, tk l p = tk m p) (hd : l.drop 64 = m.drop 64) : l = m := by
  apply List.ext_getElem hl
  intro i h1 h2
  by_cases hi : i < 64
  · apply UInt8.toNat_inj.1
    apply Nat.eq_of_testBit_eq
    intro j
    by_cases hj : j < 8
    · have h := ht (8 * i + (7 - j))
      unfold tk at h
      have e1 : (8 * i + (7 - j)) / 8 = i := by omega
      have e2 : 7 - (8 * i + (7 - j)) % 8 = j := by omega
      rw [(has_is l _).2 ⟨by omega, by omega⟩, (has_is m _).2 ⟨by omega, by omega⟩, e1, e2] at h
      rw [List.getD_eq_getElem?_getD, List.getElem?_eq_getElem h1, List.getD_eq_getElem?_getD, List.getElem?_eq_getElem h2] at h
      simpa using h
    · have a := l[i].toNat_lt
      have b := m[i].toNat_lt
      have c : 2 ^ 8 ≤ 2 ^ j := Nat.pow_le_pow_right (by omega) (by omega)
      rw [Nat.testBit_lt_two_pow (by omega), Nat.testBit_lt_two_pow (by omega)]
  · have a : l[i]? = m[i]? := by
      have : (l.drop 64)[i - 64]? = (m.drop 64)[i - 64]? := by rw [hd]
      rw [List.getElem?_drop, List.getElem?_drop, show 64 + (i - 64) = i by omega] at this
      exact this
    rw [List.getElem?_eq_getElem h1, List.getElem?_eq_getElem h2] at a
    exact Option.some.inj a

/-- How many of the first n pages are free. -/
def freeN (l : List UInt8) : Nat → Nat
  | 0 => 0
  | n + 1 => freeN l n + if tk l n = true then 0 else 1
/-- How many pages side by side, up to page n, are free. -/
def haveN (l : List UInt8) : Nat → Nat
  | 0 => 0
  | n + 1 => if tk l n = true then 0 else haveN l n + 1
def capN (pages : Int) : Nat := (min pages 512).toNat
/-- The first place, of the first i, where n pages side by side end that are free. -/
def sideN (l : List UInt8) (n : Int) : Nat → Option Nat
  | 0 => none
  | i + 1 => match sideN l n i with
    | some x => some x
    | none => if (haveN l (i + 1) : Int) = n then some i else none
def sideX (l : List UInt8) (pages n : Int) : Option Nat := if n < 1 then none else sideN l n (capN pages)
def sideV (l : List UInt8) (pages n : Int) : Int × Int := match sideX l pages n with | some i => ((i : Int) + 1 - n, n) | none => (0, 0)
def sideB (l : List UInt8) (pages n : Int) : Bool := (sideX l pages n).isSome

theorem freeN_le (l : List UInt8) (n : Nat) : freeN l n ≤ n := by
  induction n with
  | zero => exact Nat.le_refl _
  | succ n ih => unfold freeN; split <;> omega
theorem haveN_le (l : List UInt8) (n : Nat) : haveN l n ≤ freeN l n := by
  induction n with
  | zero => exact Nat.le_refl _
  | succ n ih => unfold haveN freeN; split <;> omega
theorem freeN_mono (l : List UInt8) {i n : Nat} (h : i ≤ n) : freeN l i ≤ freeN l n := by
  induction n with
  | zero => obtain rfl : i = 0 := by omega
            exact Nat.le_refl _
  | succ n ih =>
    by_cases e : i = n + 1
    · subst e; exact Nat.le_refl _
    · have := ih (by omega)
      show _ ≤ freeN l n + _
      omega
theorem sideN_keep (l : List UInt8) (n : Int) {i m x : Nat} (h : sideN l n i = some x) (hm : i ≤ m) : sideN l n m = some x := by
  induction m with
  | zero => obtain rfl : i = 0 := by omega
            exact h
  | succ m ih =>
    by_cases e : i = m + 1
    · subst e; exact h
    · unfold sideN; rw [ih (by omega)]
theorem sideN_hit (l : List UInt8) (n : Int) {i m : Nat} (h0 : sideN l n i = none) (h : (haveN l (i + 1) : Int) = n) (hm : i < m) : sideN l n m = some i := by
  refine sideN_keep l n (i := i + 1) ?_ hm
  unfold sideN
  rw [h0]
  exact if_pos h
theorem sideN_miss (l : List UInt8) (n : Int) {i : Nat} (h0 : sideN l n i = none) (h : ¬ (haveN l (i + 1) : Int) = n) : sideN l n (i + 1) = none := by
  unfold sideN
  rw [h0]
  exact if_neg h
theorem sideN_free (l : List UInt8) (n : Int) {m x : Nat} (h : sideN l n m = some x) : n ≤ freeN l m := by
  induction m with
  | zero => cases h
  | succ m ih =>
    have hm := freeN_mono l (show m ≤ m + 1 by omega)
    unfold sideN at h
    cases h0 : sideN l n m with
    | some y => have := ih (by rw [h0] at h; rw [h0]; exact h)
                omega
    | none =>
      rw [h0] at h
      by_cases e : (haveN l (m + 1) : Int) = n
      · have := haveN_le l (m + 1)
        omega
      · simp [e] at h

/-- Runs with page i behind them. -/
def addP (r : List (Int × Int)) (i : Int) : List (Int × Int) := match r.getLast? with
  | some x => if x.1 + x.2 = i then r.dropLast ++ [(x.1, x.2 + 1)] else r ++ [(i, 1)]
  | none => [(i, 1)]
theorem addP_nil (i : Int) : addP [] i = [(i, 1)] := rfl
theorem addP_on (r : List (Int × Int)) (x : Int × Int) (i : Int) (h : x.1 + x.2 = i) : addP (r ++ [x]) i = r ++ [(x.1, x.2 + 1)] := by
  unfold addP
  rw [List.getLast?_concat]
  simp only [h, if_true, List.dropLast_concat]
theorem addP_new (r : List (Int × Int)) (x : Int × Int) (i : Int) (h : ¬ x.1 + x.2 = i) : addP (r ++ [x]) i = r ++ [x] ++ [(i, 1)] := by
  unfold addP
  rw [List.getLast?_concat]
  simp only [h, if_false]
/-- The first k free pages of the first i, as runs. -/
def runsN (l : List UInt8) (k : Nat) : Nat → List (Int × Int)
  | 0 => []
  | i + 1 => if freeN l i < k ∧ tk l i = false then addP (runsN l k i) i else runsN l k i
def someB (l : List UInt8) (pages n : Int) : Bool := decide (n.toNat ≤ freeN l (capN pages))
def someV (l : List UInt8) (pages n : Int) : List (Int × Int) := if someB l pages n = true then runsN l n.toNat (capN pages) else []

theorem runsN_full (l : List UInt8) (k : Nat) {i m : Nat} (h : k ≤ freeN l i) (hm : i ≤ m) : runsN l k m = runsN l k i := by
  induction m with
  | zero => obtain rfl : i = 0 := by omega
            rfl
  | succ m ih =>
    by_cases e : i = m + 1
    · subst e; rfl
    · have := freeN_mono l (show i ≤ m by omega)
      rw [← ih (by omega)]
      show (if freeN l m < k ∧ tk l m = false then addP (runsN l k m) m else runsN l k m) = _
      rw [if_neg (fun hh => by omega)]

def endOf (a : Int) (r : List (Int × Int)) : Int := r.foldl (fun _ x => x.1 + x.2) a
theorem endOf_snoc (a : Int) (r : List (Int × Int)) (x : Int × Int) : endOf a (r ++ [x]) = x.1 + x.2 := by unfold endOf; rw [List.foldl_append]; rfl
def sumL : List (Int × Int) → Int
  | [] => 0
  | x :: r => x.2 + sumL r
theorem sumL_snoc (r : List (Int × Int)) (x : Int × Int) : sumL (r ++ [x]) = sumL r + x.2 := by
  induction r with
  | nil => show x.2 + 0 = 0 + x.2; omega
  | cons y r ih => show y.2 + sumL (r ++ [x]) = y.2 + sumL r + x.2; rw [ih]; omega
/-- Runs from a on: free, all between is taken. -/
def Gap (l : List UInt8) : Int → List (Int × Int) → Prop
  | _, [] => True
  | a, x :: r => a ≤ x.1 ∧ 1 ≤ x.2 ∧ (∀ p, a ≤ p → p < x.1 → tkI l p = true) ∧ (∀ p, x.1 ≤ p → p < x.1 + x.2 → tkI l p = false) ∧ Gap l (x.1 + x.2) r
theorem Gap_snoc (l : List UInt8) (x : Int × Int) (r : List (Int × Int)) : ∀ a, Gap l a (r ++ [x]) ↔ Gap l a r ∧ Gap l (endOf a r) [x] := by
  induction r with
  | nil => intro a; show Gap l a [x] ↔ True ∧ Gap l a [x]; simp
  | cons y r ih =>
    intro a
    show (_ ∧ _ ∧ _ ∧ _ ∧ Gap l (y.1 + y.2) (r ++ [x])) ↔ (_ ∧ _ ∧ _ ∧ _ ∧ Gap l (y.1 + y.2) r) ∧ Gap l (endOf (y.1 + y.2) r) [x]
    rw [ih]
    constructor
    · rintro ⟨a, b, c, d, e, f⟩; exact ⟨⟨a, b, c, d, e⟩, f⟩
    · rintro ⟨⟨a, b, c, d, e⟩, f⟩; exact ⟨a, b, c, d, e, f⟩
theorem snoc_cases (r : List (Int × Int)) : r = [] ∨ ∃ r' x, r = r' ++ [x] := by
  by_cases h : r = []
  · exact .inl h
  · exact .inr ⟨r.dropLast, r.getLast h, (List.dropLast_concat_getLast h).symm⟩
theorem inR_snoc (r : List (Int × Int)) (x : Int × Int) (q : Nat) : inR (r ++ [x]) q = (inR r q || (decide (x.1 ≤ q) && decide ((q : Int) < x.1 + x.2))) := by
  unfold inR; rw [List.any_append]; simp

structure Runs (l : List UInt8) (k i : Nat) (r : List (Int × Int)) : Prop where
  gap : Gap l 0 r
  sum : sumL r = (min k (freeN l i) : Nat)
  last : endOf 0 r ≤ i
  pos : 0 ≤ endOf 0 r
  rest : freeN l i < k → ∀ p : Int, endOf 0 r ≤ p → p < i → tkI l p = true
  has : ∀ q : Nat, inR r q = decide (q < i ∧ tk l q = false ∧ freeN l q < k)
  all : ∀ x ∈ r, 0 ≤ x.1 ∧ 1 ≤ x.2 ∧ x.1 + x.2 ≤ i

theorem freeN_free {l : List UInt8} {i : Nat} (h : tk l i = false) : freeN l (i + 1) = freeN l i + 1 := by
  show freeN l i + _ = _; rw [h]; rfl
theorem freeN_taken {l : List UInt8} {i : Nat} (h : tk l i = true) : freeN l (i + 1) = freeN l i := by
  show freeN l i + _ = _; rw [h]; rfl
theorem has_step {l : List UInt8} {k i q : Nat} (h : freeN l i < k) (ht : tk l i = false) : decide (q < i + 1 ∧ tk l q = false ∧ freeN l q < k) = (decide (q < i ∧ tk l q = false ∧ freeN l q < k) || decide (q = i)) := by
  by_cases e : q = i
  · subst e; simp [h, ht]
  · have : q < i + 1 ↔ q < i := by omega
    simp [e, this]
theorem runs_is (l : List UInt8) (k i : Nat) : Runs l k i (runsN l k i) := by
  induction i with
  | zero =>
    have e0 : endOf 0 (runsN l k 0) = 0 := rfl
    refine ⟨trivial, ?_, Int.le_refl _, Int.le_refl _, ?_, fun q => by simp [inR, runsN], fun x hx => by cases hx⟩
    · show (0 : Int) = _; simp [freeN]
    · intro _ p h1 h2; rw [e0] at h1; omega
  | succ i ih =>
    unfold runsN
    by_cases h : freeN l i < k ∧ tk l i = false
    · rw [if_pos h]
      obtain ⟨h1, h2⟩ := h
      have hf := freeN_free h2
      have hi0 : tkI l (i : Int) = false := by rw [tkI_nat]; exact h2
      obtain ⟨g, s, hl, hp, hr, hh, ha⟩ := ih
      rcases snoc_cases (runsN l k i) with e | ⟨r, x, e⟩
      · rw [e] at g s hl hp hr hh ha
        rw [e, addP_nil]
        have hr' := hr h1
        have e0 : endOf 0 ([] : List (Int × Int)) = 0 := rfl
        have e1 : sumL ([] : List (Int × Int)) = 0 := rfl
        rw [e0] at hr'
        have e2 : endOf 0 [((i : Int), (1 : Int))] = i + 1 := rfl
        refine ⟨⟨by show (0 : Int) ≤ (i : Int); omega, Int.le_refl _, fun p a b => hr' p a b, fun p a b => ?_, trivial⟩, ?_, ?_, ?_, ?_, ?_, ?_⟩
        · have : p = (i : Int) := by simp at a b; omega
          rw [this]; exact hi0
        · show (1 : Int) + 0 = _
          rw [e1] at s
          omega
        · rw [e2]; omega
        · rw [e2]; omega
        · intro _ p a b; rw [e2] at a; omega
        · intro q
          rw [has_step h1 h2, ← hh q]
          show ((decide ((i : Int) ≤ q) && decide ((q : Int) < i + 1)) || false) = (false || _)
          by_cases c : q = i
          · subst c; simp; omega
          · have : ¬ ((i : Int) ≤ q ∧ (q : Int) < i + 1) := by omega
            simp [c]; omega
        · intro y hy
          obtain rfl : y = ((i : Int), 1) := by simpa using hy
          exact ⟨by show (0 : Int) ≤ i; omega, Int.le_refl _, by show (i : Int) + 1 ≤ _; omega⟩
      · rw [e] at g s hl hp hr hh ha
        rw [e]
        rw [endOf_snoc] at hl hp hr
        rw [sumL_snoc] at s
        have hx := ha x (by simp)
        have hr' := hr h1
        rw [Gap_snoc] at g
        obtain ⟨g1, g2, g3, g4, g5, _⟩ := g
        by_cases c : x.1 + x.2 = i
        · rw [addP_on _ _ _ c]
          refine ⟨?_, ?_, ?_, ?_, ?_, ?_, ?_⟩
          · rw [Gap_snoc]
            refine ⟨g1, g2, by show (1 : Int) ≤ x.2 + 1; omega, g4, fun p a b => ?_, trivial⟩
            by_cases cc : p = (i : Int)
            · rw [cc]; exact hi0
            · exact g5 p a (by show p < x.1 + x.2; have : p < x.1 + (x.2 + 1) := b; omega)
          · rw [sumL_snoc]; show sumL r + (x.2 + 1) = _; omega
          · rw [endOf_snoc]; show x.1 + (x.2 + 1) ≤ _; omega
          · rw [endOf_snoc]; show 0 ≤ x.1 + (x.2 + 1); omega
          · intro _ p a b; rw [endOf_snoc] at a; have : x.1 + (x.2 + 1) ≤ p := a; omega
          · intro q
            rw [has_step h1 h2, ← hh q, inR_snoc, inR_snoc]
            have : (decide (x.1 ≤ (q : Int)) && decide ((q : Int) < x.1 + (x.2 + 1))) = ((decide (x.1 ≤ (q : Int)) && decide ((q : Int) < x.1 + x.2)) || decide (q = i)) := by
              rw [Bool.eq_iff_iff]
              simp only [Bool.and_eq_true, Bool.or_eq_true, decide_eq_true_eq]
              omega
            show (inR r q || (decide (x.1 ≤ (q : Int)) && decide ((q : Int) < x.1 + (x.2 + 1)))) = _
            rw [this, Bool.or_assoc]
          · intro y hy
            rcases List.mem_append.1 hy with hy | hy
            · have := ha y (List.mem_append.2 (.inl hy)); omega
            · obtain rfl : y = (x.1, x.2 + 1) := by simpa using hy
              exact ⟨hx.1, by show (1 : Int) ≤ x.2 + 1; omega, by show x.1 + (x.2 + 1) ≤ _; omega⟩
        · rw [addP_new _ _ _ c]
          refine ⟨?_, ?_, ?_, ?_, ?_, ?_, ?_⟩
          · rw [Gap_snoc, Gap_snoc, endOf_snoc]
            refine ⟨⟨g1, g2, g3, g4, g5, trivial⟩, by show x.1 + x.2 ≤ (i : Int); omega, Int.le_refl _, fun p a b => hr' p a b, fun p a b => ?_, trivial⟩
            have : p = (i : Int) := by simp at a b; omega
            rw [this]; exact hi0
          · rw [sumL_snoc, sumL_snoc]; show sumL r + x.2 + 1 = _; omega
          · rw [endOf_snoc]; show (i : Int) + 1 ≤ _; omega
          · rw [endOf_snoc]; show 0 ≤ (i : Int) + 1; omega
          · intro _ p a b; rw [endOf_snoc] at a; have : (i : Int) + 1 ≤ p := a; omega
          · intro q
            rw [has_step h1 h2, ← hh q, inR_snoc _ ((i : Int), 1)]
            congr 1
            rw [Bool.eq_iff_iff]
            simp only [Bool.and_eq_true, decide_eq_true_eq]
            omega
          · intro y hy
            rcases List.mem_append.1 hy with hy | hy
            · have := ha y hy; omega
            · obtain rfl : y = ((i : Int), 1) := by simpa using hy
              exact ⟨by show (0 : Int) ≤ i; omega, Int.le_refl _, by show (i : Int) + 1 ≤ _; omega⟩
    · rw [if_neg h]
      obtain ⟨g, s, hl, hp, hr, hh, ha⟩ := ih
      refine ⟨g, ?_, by omega, hp, ?_, ?_, fun x hx => by have := ha x hx; omega⟩
      · rw [s]
        cases ht : tk l i with
        | true => rw [freeN_taken ht]
        | false =>
          rw [freeN_free ht]
          have : ¬ freeN l i < k := fun hh => h ⟨hh, ht⟩
          omega
      · intro hk p a b
        cases ht : tk l i with
        | true =>
          rw [freeN_taken ht] at hk
          by_cases c : p = (i : Int)
          · rw [c, tkI_nat]; exact ht
          · exact hr hk p a (by omega)
        | false =>
          rw [freeN_free ht] at hk
          exact absurd ⟨by omega, ht⟩ h
      · intro q
        rw [hh q]
        by_cases c : q = i
        · subst c
          simp
          intro a
          have : ¬ freeN l q < k := fun hh => h ⟨hh, a⟩
          omega
        · have : q < i + 1 ↔ q < i := by omega
          simp [this]

theorem runs_few (l : List UInt8) (k i : Nat) (hi : i ≤ 512) : ∀ x ∈ runsN l k i, 0 ≤ x.2 ∧ x.2 ≤ 512 := fun x hx => by
  have := (runs_is l k i).all x hx
  omega
theorem freeN_marked (l : List UInt8) (k m : Nat) (hm : m ≤ 512) (h64 : 64 ≤ l.length) : ∀ i, i ≤ m → freeN (markL l true (runsN l k m)) i = freeN l i - k := by
  intro i
  induction i with
  | zero => intro _; show 0 = 0 - k; omega
  | succ i ih =>
    intro hi
    have hx : tk (markL l true (runsN l k m)) i = (tk l i || decide (freeN l i < k)) := by
      rw [tk_markL true i _ l (runs_few l k m hm), (runs_is l k m).has i, (has_is l i).2 ⟨by omega, by omega⟩]
      cases tk l i
      · simp; omega
      · simp
    show freeN (markL l true (runsN l k m)) i + _ = freeN l i + _ - k
    rw [hx, ih (by omega)]
    cases ht : tk l i with
    | true => simp
    | false =>
      by_cases c : freeN l i < k
      · simp [c]; omega
      · simp [c]; omega
theorem mark_back (l : List UInt8) (k m : Nat) (hm : m ≤ 512) : markL (markL l true (runsN l k m)) false (runsN l k m) = l := by
  have hr := runs_few l k m hm
  refine bytes_ext (by rw [markL_len, markL_len]) (fun p => ?_) (by rw [markL_drop, markL_drop])
  rw [tk_markL false p _ _ hr, tk_markL true p _ _ hr, has_len (markL_len true _ l), (runs_is l k m).has p]
  by_cases h : has l p = true
  · cases ht : tk l p with
    | true => simp
    | false =>
      by_cases c : p < m ∧ freeN l p < k
      · simp [h, c]
      · have : ¬ (p < m ∧ freeN l p < k) := c
        have e : ¬ (p < m ∧ freeN l p < k) := this
        simp [h, e]
  · rw [if_neg (fun hh => h hh.1), if_neg (fun hh => h hh.1)]

/-- Where the catalog begins. -/
def rootN (l : List UInt8) : Nat := if l.length < 66 then 0 else (l.getD 64 0).toNat * 256 + (l.getD 65 0).toNat
def setR (l : List UInt8) (no : Int) : List UInt8 := if l.length < 66 ∨ no < 0 ∨ 512 ≤ no then l else l.take 64 ++ [UInt8.ofNat (no.toNat / 256), UInt8.ofNat (no.toNat % 256)] ++ l.drop 66
theorem getD_drop (l : List UInt8) (j : Nat) : l.getD (64 + j) 0 = (l.drop 64).getD j 0 := by
  rw [List.getD_eq_getElem?_getD, List.getD_eq_getElem?_getD, List.getElem?_drop]
theorem rootN_same {l m : List UInt8} (h : m.length = l.length) (hd : m.drop 64 = l.drop 64) : rootN m = rootN l := by
  unfold rootN
  rw [h, getD_drop m 0, getD_drop m 1, hd, ← getD_drop l 0, ← getD_drop l 1]
theorem setR_len (l : List UInt8) (no : Int) : (setR l no).length = l.length := by
  unfold setR
  split
  · rfl
  · simp; omega
theorem rootN_set (l : List UInt8) (no : Nat) (h : 66 ≤ l.length) (hn : no < 512) : rootN (setR l no) = no := by
  have hl := setR_len l no
  unfold rootN
  rw [hl, if_neg (by omega)]
  unfold setR
  rw [if_neg (by omega), Int.toNat_natCast]
  have ht : (l.take 64).length = 64 := by simp; omega
  have e0 : (l.take 64 ++ [UInt8.ofNat (no / 256), UInt8.ofNat (no % 256)] ++ l.drop 66).getD 64 0 = UInt8.ofNat (no / 256) := by
    rw [List.append_assoc, List.getD_eq_getElem?_getD, List.getElem?_append_right (by omega), ht]
    rfl
  have e1 : (l.take 64 ++ [UInt8.ofNat (no / 256), UInt8.ofNat (no % 256)] ++ l.drop 66).getD 65 0 = UInt8.ofNat (no % 256) := by
    rw [List.append_assoc, List.getD_eq_getElem?_getD, List.getElem?_append_right (by omega), ht]
    rfl
  rw [e0, e1, UInt8.toNat_ofNat', UInt8.toNat_ofNat']
  omega
theorem tk_setR (l : List UInt8) (no : Int) (p : Nat) : tk (setR l no) p = tk l p := by
  unfold tk
  rw [has_len (setR_len l no)]
  cases h : has l p with
  | false => rfl
  | true =>
    have h' := (has_is l p).1 h
    congr 2
    unfold setR
    split
    · rfl
    · rw [List.append_assoc, List.getD_eq_getElem?_getD, List.getElem?_append_left (by simp; omega), List.getElem?_take, if_pos (by omega), List.getD_eq_getElem?_getD]

end Go.Proofs.YtgeiemccjionpaaGreat.Bit

/- HPlain -/
namespace Go.Proofs.YtgeiemccjionpaaGreat.Chn
open Bit (tk markL runsN freeN inR sumL)

/-! Pages of texts -/
def two (n : Nat) : List UInt8 := [UInt8.ofNat (n / 256), UInt8.ofNat (n % 256)]
def pad (l : List UInt8) : List UInt8 := l ++ List.replicate (208 - l.length) 0
def pageB (next : Nat) (s : List UInt8) : List UInt8 := pad (two next ++ two s.length ++ s)
def nextB (d : List UInt8) : Nat := (d.getD 0 0).toNat * 256 + (d.getD 1 0).toNat
def lenB (d : List UInt8) : Nat := (d.getD 2 0).toNat * 256 + (d.getD 3 0).toNat
def partB (d : List UInt8) : List UInt8 := (d.drop 4).take (lenB d)
theorem two_sum (n : Nat) (h : n < 65536) : (UInt8.ofNat (n / 256)).toNat * 256 + (UInt8.ofNat (n % 256)).toNat = n := by
  rw [UInt8.toNat_ofNat', UInt8.toNat_ofNat']
  omega
theorem next_page {n : Nat} (s : List UInt8) (h : n < 65536) : nextB (pageB n s) = n := by
  unfold nextB pageB pad two
  exact two_sum n h
theorem len_page (n : Nat) {s : List UInt8} (h : s.length ≤ 204) : lenB (pageB n s) = s.length := by
  unfold lenB pageB pad two
  exact two_sum s.length (by omega)
theorem part_page (n : Nat) {s : List UInt8} (h : s.length ≤ 204) : partB (pageB n s) = s := by
  unfold partB
  rw [len_page n h]
  unfold pageB pad two
  show ((s ++ _).take s.length) = s
  rw [List.take_append_of_le_length (Nat.le_refl _), List.take_length]
theorem page_len (n : Nat) {s : List UInt8} (h : s.length ≤ 204) : (pageB n s).length = 208 := by
  unfold pageB pad two
  simp only [List.length_append, List.length_replicate, List.length_cons, List.length_nil]
  omega

/-- How many pages so many bytes take. -/
def needC (k : Nat) : Nat := max 1 ((k + 203) / 204)
theorem need_pos (k : Nat) : 1 ≤ needC k := Nat.le_max_left _ _
/-- The i-th part of a text. -/
def chunk (t : List UInt8) (i : Nat) : List UInt8 := (t.drop (204 * i)).take 204
theorem chunk_len (t : List UInt8) (i : Nat) : (chunk t i).length ≤ 204 := by unfold chunk; rw [List.length_take]; omega
theorem chunk_next (t : List UInt8) (i : Nat) : t.take (204 * (i + 1)) = t.take (204 * i) ++ chunk t i := by
  unfold chunk
  rw [show 204 * (i + 1) = 204 * i + 204 by omega, List.take_add]
theorem chunk_all (t : List UInt8) : t.take (204 * needC t.length) = t := by
  apply List.take_of_length_le
  unfold needC
  omega

/-- A text lies in these pages. -/
structure IsCh (C : Nat → List UInt8) (l : List Nat) (t : List UInt8) : Prop where
  len : l.length = needC t.length
  at_ : ∀ i p, l[i]? = some p → C p = pageB (l.getD (i + 1) 0) (chunk t i)
theorem IsCh.ext {C D : Nat → List UInt8} {l : List Nat} {t : List UInt8} (h : IsCh C l t) (e : ∀ p ∈ l, D p = C p) : IsCh D l t :=
  ⟨h.len, fun i p hp => (e p (List.mem_of_getElem? hp)).trans (h.at_ i p hp)⟩
theorem IsCh.ne {C : Nat → List UInt8} {l : List Nat} {t : List UInt8} (h : IsCh C l t) : l ≠ [] := fun e => by
  have := h.len
  have := need_pos t.length
  rw [e] at *
  simp at *
  omega

/-! The walk -/
def walkC (C : Nat → List UInt8) (n : Nat) : Nat → List Nat → List UInt8 → Nat → List Nat × List UInt8 × Int
  | _, ps, t, 0 => if ps = [] then ([], [], 1) else (ps, t, 0)
  | 0, _, _, _ + 1 => ([], [], 2)
  | f + 1, ps, t, no + 1 => if n ≤ no + 1 then ([], [], 2) else if 204 < lenB (C (no + 1)) then ([], [], 2) else walkC C n f (ps ++ [no + 1]) (t ++ partB (C (no + 1))) (nextB (C (no + 1)))
theorem walk_zero (C : Nat → List UInt8) (n f : Nat) (ps : List Nat) (t : List UInt8) : walkC C n f ps t 0 = if ps = [] then ([], [], 1) else (ps, t, 0) := by
  cases f <;> rfl
theorem walk_next (C : Nat → List UInt8) (n f : Nat) (ps : List Nat) (t : List UInt8) {no : Nat} (h0 : no ≠ 0) (hn : no < n) (hl : lenB (C no) ≤ 204) : walkC C n (f + 1) ps t no = walkC C n f (ps ++ [no]) (t ++ partB (C no)) (nextB (C no)) := by
  obtain ⟨k, rfl⟩ : ∃ k, no = k + 1 := ⟨no - 1, by omega⟩
  show (if n ≤ k + 1 then _ else _) = _
  rw [if_neg (by omega), if_neg (by omega)]
theorem walk_from {C : Nat → List UInt8} {n : Nat} {l : List Nat} {t : List UInt8} (h : IsCh C l t) (hn : ∀ p ∈ l, 1 ≤ p ∧ p < n) (hb : n ≤ 65536) : ∀ (m i f : Nat), i + m = l.length → m ≤ f → walkC C n f (l.take i) (t.take (204 * i)) (l.getD i 0) = (l, t, 0) := by
  intro m
  induction m with
  | zero =>
    intro i f hi _
    have e1 : l.getD i 0 = 0 := by rw [List.getD_eq_getElem?_getD, List.getElem?_eq_none (by omega)]; rfl
    rw [e1, walk_zero, List.take_of_length_le (by omega), if_neg h.ne]
    have : t.take (204 * i) = t := by
      have := chunk_all t
      rw [← h.len, ← hi] at this
      simpa using this
    rw [this]
  | succ m ih =>
    intro i f hi hf
    obtain ⟨f, rfl⟩ : ∃ g, f = g + 1 := ⟨f - 1, by omega⟩
    obtain ⟨p, hp⟩ : ∃ p, l[i]? = some p := ⟨_, List.getElem?_eq_getElem (by omega)⟩
    have hm := hn p (List.mem_of_getElem? hp)
    have hc := h.at_ i p hp
    have hcl := chunk_len t i
    have e1 : l.getD i 0 = p := by rw [List.getD_eq_getElem?_getD, hp]; rfl
    have hnx : l.getD (i + 1) 0 < 65536 := by
      rw [List.getD_eq_getElem?_getD]
      cases hq : l[i + 1]? with
      | none => simp
      | some q => have := hn q (List.mem_of_getElem? hq); simp; omega
    rw [e1, walk_next C n f _ _ (by omega) hm.2 (by rw [hc, len_page _ hcl]; exact hcl), hc, part_page _ hcl, next_page _ hnx, ← chunk_next]
    have e2 : l.take i ++ [p] = l.take (i + 1) := by rw [List.take_add_one, hp]; rfl
    rw [e2]
    exact ih (i + 1) f (by omega) (by omega)
/-- What a text's walk answers. -/
theorem walk_is {C : Nat → List UInt8} {n : Nat} {l : List Nat} {t : List UInt8} (h : IsCh C l t) (hn : ∀ p ∈ l, 1 ≤ p ∧ p < n) (hb : n ≤ 65536) (hl : l.length ≤ n) : walkC C n n [] [] (l.getD 0 0) = (l, t, 0) := by
  have := walk_from h hn hb l.length 0 n (by omega) hl
  simpa using this

/-! Runs of pages -/
def flat (r : List (Int × Int)) : List Nat := r.flatMap fun x => (List.range x.2.toNat).map fun k : Nat => (x.1 + (k : Int)).toNat
theorem flat_mem {r : List (Int × Int)} (h : ∀ x ∈ r, 0 ≤ x.1) (q : Nat) : q ∈ flat r ↔ inR r q = true := by
  unfold flat inR
  rw [List.mem_flatMap, List.any_eq_true]
  constructor
  · rintro ⟨x, hx, hq⟩
    obtain ⟨k, hk, rfl⟩ := List.mem_map.1 hq
    have h0 := h x hx
    rw [List.mem_range] at hk
    refine ⟨x, hx, ?_⟩
    rw [Bool.and_eq_true, decide_eq_true_eq, decide_eq_true_eq]
    omega
  · rintro ⟨x, hx, hq⟩
    rw [Bool.and_eq_true, decide_eq_true_eq, decide_eq_true_eq] at hq
    have h0 := h x hx
    refine ⟨x, hx, List.mem_map.2 ⟨q - x.1.toNat, ?_, ?_⟩⟩
    · rw [List.mem_range]; omega
    · omega
theorem flat_len {r : List (Int × Int)} (h : ∀ x ∈ r, 0 ≤ x.2) : ((flat r).length : Int) = sumL r := by
  induction r with
  | nil => rfl
  | cons x r ih =>
    have h0 := h x (by simp)
    have := ih fun y hy => h y (by simp [hy])
    have e : flat (x :: r) = ((List.range x.2.toNat).map fun k : Nat => (x.1 + (k : Int)).toNat) ++ flat r := by simp [flat]
    rw [e, List.length_append, List.length_map, List.length_range]
    show _ = x.2 + sumL r
    omega
theorem flat_nodup : ∀ {r : List (Int × Int)} {l : List UInt8} {a : Int}, 0 ≤ a → Bit.Gap l a r → (flat r).Nodup ∧ ∀ q ∈ flat r, a ≤ (q : Int)
  | [], _, _, _, _ => ⟨List.nodup_nil, by simp [flat]⟩
  | x :: r, l, a, ha, hg => by
    obtain ⟨g1, g2, _, _, g5⟩ : a ≤ x.1 ∧ 1 ≤ x.2 ∧ (∀ p, a ≤ p → p < x.1 → Bit.tkI l p = true) ∧ (∀ p, x.1 ≤ p → p < x.1 + x.2 → Bit.tkI l p = false) ∧ Bit.Gap l (x.1 + x.2) r := hg
    obtain ⟨i1, i2⟩ := flat_nodup (a := x.1 + x.2) (by omega) g5
    have e : flat (x :: r) = ((List.range x.2.toNat).map fun k : Nat => (x.1 + (k : Int)).toNat) ++ flat r := by simp [flat]
    have hm : ∀ q, q ∈ ((List.range x.2.toNat).map fun k : Nat => (x.1 + (k : Int)).toNat) → x.1 ≤ (q : Int) ∧ (q : Int) < x.1 + x.2 := by
      intro q hq
      obtain ⟨k, hk, rfl⟩ := List.mem_map.1 hq
      rw [List.mem_range] at hk
      omega
    rw [e]
    constructor
    · rw [List.nodup_append]
      refine ⟨?_, i1, fun q hq p hp e => ?_⟩
      · refine List.Pairwise.map _ (R := fun a b => a ≠ b) ?_ List.nodup_range
        intro k1 k2 hk e
        omega
      · have := hm q hq
        have := i2 p hp
        omega
    · intro q hq
      rcases List.mem_append.1 hq with hq | hq
      · have := hm q hq; omega
      · have := i2 q hq; omega
/-- The first k free pages of n. -/
theorem some_is (l : List UInt8) (k n : Nat) : (flat (runsN l k n)).Nodup ∧ (flat (runsN l k n)).length = min k (freeN l n) ∧ ∀ q, q ∈ flat (runsN l k n) ↔ (q < n ∧ tk l q = false ∧ freeN l q < k) := by
  have h := Bit.runs_is l k n
  refine ⟨(flat_nodup (Int.le_refl 0) h.gap).1, ?_, fun q => ?_⟩
  · have := flat_len (r := runsN l k n) (fun x hx => by have := h.all x hx; omega)
    have := h.sum
    omega
  · rw [flat_mem (fun x hx => (h.all x hx).1), h.has q, decide_eq_true_eq]
/-- Pages as runs of one. -/
def ones (l : List Nat) : List (Int × Int) := l.map fun p : Nat => ((p : Int), (1 : Int))
theorem ones_in (l : List Nat) (q : Nat) : inR (ones l) q = decide (q ∈ l) := by
  unfold inR ones
  rw [Bool.eq_iff_iff, List.any_map, List.any_eq_true, decide_eq_true_eq]
  constructor
  · rintro ⟨p, hp, hq⟩
    simp only [Function.comp, Bool.and_eq_true, decide_eq_true_eq] at hq
    have : q = p := by omega
    rw [this]
    exact hp
  · intro hq
    refine ⟨q, hq, ?_⟩
    simp only [Function.comp, Bool.and_eq_true, decide_eq_true_eq]
    omega
theorem tk_ones (m : List UInt8) (t : Bool) (l : List Nat) (q : Nat) : tk (markL m t (ones l)) q = if Bit.has m q = true ∧ q ∈ l then t else tk m q := by
  rw [Bit.tk_markL t q (ones l) m (fun x hx => by obtain ⟨p, _, rfl⟩ := List.mem_map.1 hx; exact ⟨by dsimp only; omega, by dsimp only; omega⟩), ones_in]
  by_cases h : q ∈ l <;> simp [h]

end Go.Proofs.YtgeiemccjionpaaGreat.Chn

/- HPut -/
namespace Go.Proofs.YtgeiemccjionpaaGreat.Chn
open Bit (tk markL runsN freeN inR sumL)

/-- The pages of a text are written, the first i. -/
def wrC (C : Nat → List UInt8) (l : List Nat) (t : List UInt8) : Nat → Nat → List UInt8
  | 0 => C
  | i + 1 => fun p => if p = l.getD i 0 then pageB (l.getD (i + 1) 0) (chunk t i) else wrC C l t i p
theorem wr_out (C : Nat → List UInt8) (l : List Nat) (t : List UInt8) {p : Nat} (hp : p ∉ l) : ∀ m, m ≤ l.length → wrC C l t m p = C p
  | 0, _ => rfl
  | i + 1, h => by
    obtain ⟨q, hq⟩ : ∃ q, l[i]? = some q := ⟨_, List.getElem?_eq_getElem (by omega)⟩
    have e : l.getD i 0 = q := by rw [List.getD_eq_getElem?_getD, hq]; rfl
    show (if p = l.getD i 0 then _ else _) = _
    rw [e, if_neg (fun e2 => hp (by rw [e2]; exact List.mem_of_getElem? hq))]
    exact wr_out C l t hp i (by omega)
theorem nodup_at {l : List Nat} (h : l.Nodup) {i j p : Nat} (hi : l[i]? = some p) (hj : l[j]? = some p) : i = j := by
  obtain ⟨h1, e1⟩ := List.getElem?_eq_some_iff.1 hi
  obtain ⟨h2, e2⟩ := List.getElem?_eq_some_iff.1 hj
  exact (List.getElem_inj h).1 (e1.trans e2.symm)
theorem wr_at (C : Nat → List UInt8) {l : List Nat} (t : List UInt8) (hl : l.Nodup) {i p : Nat} (hi : l[i]? = some p) : ∀ m, m ≤ l.length → i < m → wrC C l t m p = pageB (l.getD (i + 1) 0) (chunk t i)
  | 0, _, h => by omega
  | j + 1, hm, h => by
    obtain ⟨q, hq⟩ : ∃ q, l[j]? = some q := ⟨_, List.getElem?_eq_getElem (by omega)⟩
    have e : l.getD j 0 = q := by rw [List.getD_eq_getElem?_getD, hq]; rfl
    show (if p = l.getD j 0 then _ else _) = _
    rw [e]
    by_cases hpq : p = q
    · subst hpq
      obtain rfl := nodup_at hl hi hq
      rw [if_pos rfl]
    · rw [if_neg hpq]
      refine wr_at C t hl hi j (by omega) ?_
      by_cases hij : i = j
      · subst hij
        rw [hi] at hq
        exact absurd (Option.some.inj hq) hpq
      · omega

/-- The texts of a vault: their pages and bytes. -/
structure Inv (C : Nat → List UInt8) (n : Nat) (ts : List (List Nat × List UInt8)) : Prop where
  n1 : 1 ≤ n
  n2 : n ≤ 512
  z : (C 0).length = 208
  ch : ∀ x ∈ ts, IsCh C x.1 x.2
  inn : ∀ x ∈ ts, ∀ p ∈ x.1, 1 ≤ p ∧ p < n
  nd : ∀ x ∈ ts, x.1.Nodup
  ap : ts.Pairwise fun x y => ∀ p ∈ x.1, p ∉ y.1
  mrk : ∀ p, 1 ≤ p → p < n → (tk (C 0) p = true ↔ ∃ x ∈ ts, p ∈ x.1)
  m0 : ts ≠ [] → tk (C 0) 0 = true

/-- Page 0's bytes on the way of a Put. -/
def m0C (C : Nat → List UInt8) : List UInt8 := markL (C 0) true [(0, 1)]
def m1C (C : Nat → List UInt8) (old : List Nat) (need : Nat) : List UInt8 := if need < old.length then markL (m0C C) false (ones (old.drop need)) else m0C C
def moreC (C : Nat → List UInt8) (n : Nat) (old : List Nat) (need : Nat) : List (Int × Int) := runsN (m1C C old need) (need - (old.take need).length) n
def m2C (C : Nat → List UInt8) (n : Nat) (old : List Nat) (need : Nat) : List UInt8 := markL (m1C C old need) true (moreC C n old need)
def allC (C : Nat → List UInt8) (n : Nat) (old : List Nat) (need : Nat) : List Nat := old.take need ++ flat (moreC C n old need)
def fitC (C : Nat → List UInt8) (n : Nat) (old : List Nat) (need : Nat) : Prop := need - (old.take need).length ≤ freeN (m1C C old need) n
def putC (C : Nat → List UInt8) (n : Nat) (old : List Nat) (t : List UInt8) : Nat → List UInt8 := fun p => if p = 0 then m2C C n old (needC t.length) else wrC C (allC C n old (needC t.length)) t (needC t.length) p

theorem has_all {l : List UInt8} (h : l.length = 208) {p : Nat} (hp : p < 512) : Bit.has l p = true := (Bit.has_is l p).2 ⟨hp, by omega⟩
theorem m1_len (C : Nat → List UInt8) (old : List Nat) (need : Nat) : (m1C C old need).length = (C 0).length := by
  unfold m1C m0C
  split <;> simp [Bit.markL_len]
theorem tk_m0 {C : Nat → List UInt8} (h : (C 0).length = 208) {p : Nat} (hp : p < 512) : tk (m0C C) p = if p = 0 then true else tk (C 0) p := by
  have e : m0C C = markL (C 0) true (ones [0]) := rfl
  rw [e, tk_ones]
  by_cases h0 : p = 0
  · rw [if_pos ⟨has_all h hp, by simp [h0]⟩, if_pos h0]
  · rw [if_neg (by simp [h0]), if_neg h0]
theorem tk_m1 {C : Nat → List UInt8} (h : (C 0).length = 208) (old : List Nat) (need : Nat) {p : Nat} (hp : p < 512) : tk (m1C C old need) p = if p ∈ old.drop need then false else if p = 0 then true else tk (C 0) p := by
  unfold m1C
  by_cases hn : need < old.length
  · rw [if_pos hn, tk_ones]
    have hl : (m0C C).length = 208 := by unfold m0C; rw [Bit.markL_len]; exact h
    by_cases hd : p ∈ old.drop need
    · rw [if_pos ⟨has_all hl hp, hd⟩, if_pos hd]
    · rw [if_neg (fun e => hd e.2), if_neg hd, tk_m0 h hp]
  · have hd : p ∉ old.drop need := by
      rw [List.drop_eq_nil_of_le (by omega)]
      simp
    rw [if_neg hn, tk_m0 h hp, if_neg hd]

section
variable {C : Nat → List UInt8} {n : Nat} {A O B : List (List Nat × List UInt8)} {old : List Nat} {t : List UInt8}
/-- What a Put knows of the others' pages: each page beside 0 is free, the old text's, or another's. -/
theorem put_marks (h : Inv C n (A ++ O ++ B)) (hO : (O = [] ∧ old = []) ∨ ∃ t0, O = [(old, t0)]) :
    old.Nodup ∧ (∀ p ∈ old, 1 ≤ p ∧ p < n ∧ ∀ x ∈ A ++ B, p ∉ x.1) ∧ (∀ p, 1 ≤ p → p < n → (tk (C 0) p = true ↔ p ∈ old ∨ ∃ x ∈ A ++ B, p ∈ x.1)) := by
  rcases hO with ⟨rfl, rfl⟩ | ⟨t0, rfl⟩
  · refine ⟨List.nodup_nil, by simp, fun p h1 h2 => ?_⟩
    rw [h.mrk p h1 h2]
    simp
  · have hm : (old, t0) ∈ A ++ [(old, t0)] ++ B := by simp
    refine ⟨h.nd _ hm, fun p hp => ?_, fun p h1 h2 => ?_⟩
    · obtain ⟨i1, i2⟩ := h.inn _ hm p hp
      refine ⟨i1, i2, fun x hx => ?_⟩
      have ap := h.ap
      rw [List.pairwise_append, List.pairwise_append] at ap
      obtain ⟨⟨_, _, q1⟩, _, q2⟩ := ap
      rcases List.mem_append.1 hx with hx | hx
      · intro hpx
        exact q1 x hx (old, t0) (by simp) p hpx hp
      · exact q2 (old, t0) (by simp) x hx p hp
    · rw [h.mrk p h1 h2]
      constructor
      · rintro ⟨x, hx, hp⟩
        rcases List.mem_append.1 hx with hx | hx
        · rcases List.mem_append.1 hx with hx | hx
          · exact .inr ⟨x, by simp [hx], hp⟩
          · rw [List.mem_singleton] at hx
            subst hx
            exact .inl hp
        · exact .inr ⟨x, by simp [hx], hp⟩
      · rintro (hp | ⟨x, hx, hp⟩)
        · exact ⟨_, hm, hp⟩
        · refine ⟨x, ?_, hp⟩
          rcases List.mem_append.1 hx with hx | hx <;> simp [hx]

/-- A text that fits. -/
theorem put_inv (h : Inv C n (A ++ O ++ B)) (hO : (O = [] ∧ old = []) ∨ ∃ t0, O = [(old, t0)]) (hf : fitC C n old (needC t.length)) :
    Inv (putC C n old t) n (A ++ [(allC C n old (needC t.length), t)] ++ B) ∧ (allC C n old (needC t.length)).length = needC t.length ∧ (old ≠ [] → (allC C n old (needC t.length)).getD 0 0 = old.getD 0 0) := by
  obtain ⟨need, hne⟩ : ∃ k, k = needC t.length := ⟨_, rfl⟩
  have hn1 : 1 ≤ need := by rw [hne]; exact need_pos _
  obtain ⟨o1, o2, o3⟩ := put_marks h hO
  have hz := h.z
  have hN := h.n2
  rw [← hne] at hf ⊢
  obtain ⟨s1, s2, s3⟩ := some_is (m1C C old need) (need - (old.take need).length) n
  have s2' : (flat (moreC C n old need)).length = need - (old.take need).length := by
    unfold moreC
    rw [s2]
    unfold fitC at hf
    omega
  have hlen : (allC C n old need).length = need := by
    unfold allC
    rw [List.length_append, s2', List.length_take]
    omega
  -- a page of the new ones
  have hmore : ∀ p ∈ flat (moreC C n old need), 1 ≤ p ∧ p < n ∧ p ∉ old.take need ∧ ∀ x ∈ A ++ B, p ∉ x.1 := by
    intro p hp
    obtain ⟨q1, q2, _⟩ := (s3 p).1 hp
    rw [tk_m1 hz old need (by omega)] at q2
    by_cases hd : p ∈ old.drop need
    · obtain ⟨w1, w2, w3⟩ := o2 p (List.mem_of_mem_drop hd)
      refine ⟨w1, w2, fun ht => ?_, w3⟩
      have hnd : (old.take need ++ old.drop need).Nodup := by rw [List.take_append_drop]; exact o1
      rw [List.nodup_append] at hnd
      exact hnd.2.2 p ht p hd rfl
    · rw [if_neg hd] at q2
      by_cases h0 : p = 0
      · rw [if_pos h0] at q2; cases q2
      · rw [if_neg h0] at q2
        have hnot : ¬ (p ∈ old ∨ ∃ x ∈ A ++ B, p ∈ x.1) := fun e => by
          have := (o3 p (by omega) q1).2 e
          rw [this] at q2
          cases q2
        exact ⟨by omega, q1, fun ht => hnot (.inl (List.mem_of_mem_take ht)), fun x hx hpx => hnot (.inr ⟨x, hx, hpx⟩)⟩
  have hall : ∀ p ∈ allC C n old need, 1 ≤ p ∧ p < n ∧ ∀ x ∈ A ++ B, p ∉ x.1 := by
    intro p hp
    rcases List.mem_append.1 hp with hp | hp
    · exact o2 p (List.mem_of_mem_take hp)
    · obtain ⟨a, b, _, d⟩ := hmore p hp
      exact ⟨a, b, d⟩
  have hnd : (allC C n old need).Nodup := by
    unfold allC
    rw [List.nodup_append]
    refine ⟨(List.take_sublist _ _).nodup o1, s1, fun p hp q hq e => ?_⟩
    subst e
    exact (hmore p hq).2.2.1 hp
  have hm2 : ∀ p, p < n → (tk (m2C C n old need) p = true ↔ p = 0 ∨ p ∈ allC C n old need ∨ ∃ x ∈ A ++ B, p ∈ x.1) := by
    intro p hp
    unfold m2C
    have hr : ∀ x ∈ moreC C n old need, 0 ≤ x.2 ∧ x.2 ≤ 512 := Bit.runs_few _ _ _ (by omega)
    rw [Bit.tk_markL true p (moreC C n old need) (m1C C old need) hr]
    have hin : inR (moreC C n old need) p = true ↔ p ∈ flat (moreC C n old need) := by
      exact (flat_mem (r := moreC C n old need) (fun x hx => ((Bit.runs_is _ _ _).all x hx).1) p).symm
    have hhas : Bit.has (m1C C old need) p = true := has_all (by rw [m1_len]; exact hz) (by omega)
    by_cases hi : p ∈ flat (moreC C n old need)
    · rw [if_pos ⟨hhas, hin.2 hi⟩]
      simp only [true_iff]
      exact .inr (.inl (List.mem_append.2 (.inr hi)))
    · rw [if_neg (fun e => hi (hin.1 e.2)), tk_m1 hz old need (by omega)]
      by_cases hd : p ∈ old.drop need
      · obtain ⟨w1, w2, w3⟩ := o2 p (List.mem_of_mem_drop hd)
        rw [if_pos hd]
        simp only [Bool.false_eq_true, false_iff]
        rintro (e | e | ⟨x, hx, e⟩)
        · omega
        · rcases List.mem_append.1 e with e | e
          · have hn : (old.take need ++ old.drop need).Nodup := by rw [List.take_append_drop]; exact o1
            rw [List.nodup_append] at hn
            exact hn.2.2 p e p hd rfl
          · exact hi e
        · exact w3 x hx e
      · rw [if_neg hd]
        by_cases h0 : p = 0
        · rw [if_pos h0]; simp [h0]
        · rw [if_neg h0, o3 p (by omega) hp]
          constructor
          · rintro (e | e)
            · refine .inr (.inl (List.mem_append.2 (.inl ?_)))
              have : p ∈ old.take need ++ old.drop need := by rw [List.take_append_drop]; exact e
              rcases List.mem_append.1 this with q | q
              · exact q
              · exact absurd q hd
            · exact .inr (.inr e)
          · rintro (e | e | e)
            · exact absurd e h0
            · rcases List.mem_append.1 e with e | e
              · exact .inl (List.mem_of_mem_take e)
              · exact absurd e hi
            · exact .inr e
  have h0 : putC C n old t 0 = m2C C n old need := by unfold putC; rw [if_pos rfl, ← hne]
  have hout : ∀ p, p ≠ 0 → p ∉ allC C n old need → putC C n old t p = C p := fun p hp hq => by
    unfold putC
    rw [if_neg hp, ← hne]
    exact wr_out C _ t hq need (by omega)
  refine ⟨⟨h.n1, h.n2, ?_, ?_, ?_, ?_, ?_, ?_, ?_⟩, hlen, ?_⟩
  · rw [h0]; unfold m2C; rw [Bit.markL_len, m1_len]; exact hz
  · intro x hx
    rcases List.mem_append.1 hx with hx | hx
    · rcases List.mem_append.1 hx with hx | hx
      · have hm : x ∈ A ++ O ++ B := by simp [hx]
        refine (h.ch x hm).ext fun p hp => hout p (by have := h.inn x hm p hp; omega) fun e => (hall p e).2.2 x (by simp [hx]) hp
      · rw [List.mem_singleton] at hx
        subst hx
        refine ⟨by dsimp only; rw [hlen, hne], fun i p hi => ?_⟩
        dsimp only at hi ⊢
        have hm := hall p (List.mem_of_getElem? hi)
        unfold putC
        rw [if_neg (by omega), ← hne]
        exact wr_at C t hnd hi need (by omega) (by have := (List.getElem?_eq_some_iff.1 hi).1; omega)
    · have hm : x ∈ A ++ O ++ B := by simp [hx]
      refine (h.ch x hm).ext fun p hp => hout p (by have := h.inn x hm p hp; omega) fun e => (hall p e).2.2 x (by simp [hx]) hp
  · intro x hx p hp
    rcases List.mem_append.1 hx with hx | hx
    · rcases List.mem_append.1 hx with hx | hx
      · exact h.inn x (by simp [hx]) p hp
      · rw [List.mem_singleton] at hx
        subst hx
        exact ⟨(hall p hp).1, (hall p hp).2.1⟩
    · exact h.inn x (by simp [hx]) p hp
  · intro x hx
    rcases List.mem_append.1 hx with hx | hx
    · rcases List.mem_append.1 hx with hx | hx
      · exact h.nd x (by simp [hx])
      · rw [List.mem_singleton] at hx
        subst hx
        exact hnd
    · exact h.nd x (by simp [hx])
  · have ap := h.ap
    rw [List.pairwise_append, List.pairwise_append] at ap ⊢
    obtain ⟨⟨a1, _, _⟩, a4, a5⟩ := ap
    refine ⟨⟨a1, by simp, fun x hx y hy p hp => ?_⟩, a4, fun x hx y hy p hp => ?_⟩
    · rw [List.mem_singleton] at hy
      subst hy
      exact fun e => (hall p e).2.2 x (by simp [hx]) hp
    · rcases List.mem_append.1 hx with hx | hx
      · exact a5 x (by simp [hx]) y hy p hp
      · rw [List.mem_singleton] at hx
        subst hx
        exact (hall p hp).2.2 y (by simp [hy])
  · intro p h1 h2
    rw [h0, hm2 p h2]
    constructor
    · rintro (e | e | ⟨x, hx, e⟩)
      · omega
      · exact ⟨(allC C n old need, t), by simp, e⟩
      · refine ⟨x, ?_, e⟩
        rcases List.mem_append.1 hx with hx | hx <;> simp [hx]
    · rintro ⟨x, hx, e⟩
      rcases List.mem_append.1 hx with hx | hx
      · rcases List.mem_append.1 hx with hx | hx
        · exact .inr (.inr ⟨x, by simp [hx], e⟩)
        · rw [List.mem_singleton] at hx
          subst hx
          exact .inr (.inl e)
      · exact .inr (.inr ⟨x, by simp [hx], e⟩)
  · intro _
    rw [h0]
    exact (hm2 0 (by have := h.n1; omega)).2 (.inl rfl)
  · intro hne0
    unfold allC
    obtain ⟨a, l, rfl⟩ : ∃ a l, old = a :: l := by cases old with
      | nil => exact absurd rfl hne0
      | cons a l => exact ⟨a, l, rfl⟩
    obtain ⟨k, rfl⟩ : ∃ k, need = k + 1 := ⟨need - 1, by omega⟩
    rfl

/-- A text is dropped. -/
def dropC (C : Nat → List UInt8) (l : List Nat) : Nat → List UInt8 := fun p => if p = 0 then markL (C 0) false (ones l) else C p
theorem drop_inv {l : List Nat} {t0 : List UInt8} (h : Inv C n (A ++ [(l, t0)] ++ B)) : Inv (dropC C l) n (A ++ B) := by
  obtain ⟨o1, o2, o3⟩ := put_marks (old := l) h (.inr ⟨t0, rfl⟩)
  have hz := h.z
  have hN := h.n2
  have hin : ∀ x ∈ A ++ B, x ∈ A ++ [(l, t0)] ++ B := fun x hx => by
    rcases List.mem_append.1 hx with hx | hx <;> simp [hx]
  have ht : ∀ p, p < 512 → tk (dropC C l 0) p = if p ∈ l then false else tk (C 0) p := fun p hp => by
    show tk (if (0 : Nat) = 0 then _ else _) p = _
    rw [if_pos rfl, tk_ones]
    by_cases e : p ∈ l
    · rw [if_pos ⟨has_all hz hp, e⟩, if_pos e]
    · rw [if_neg (fun q => e q.2), if_neg e]
  refine ⟨h.n1, h.n2, ?_, ?_, ?_, ?_, ?_, ?_, ?_⟩
  · show (if (0 : Nat) = 0 then _ else _ : List UInt8).length = _
    rw [if_pos rfl, Bit.markL_len]; exact hz
  · intro x hx
    refine (h.ch x (hin x hx)).ext fun p hp => ?_
    have := h.inn x (hin x hx) p hp
    show (if p = 0 then _ else _) = _
    rw [if_neg (by omega)]
  · exact fun x hx => h.inn x (hin x hx)
  · exact fun x hx => h.nd x (hin x hx)
  · have ap := h.ap
    rw [List.pairwise_append, List.pairwise_append] at ap
    obtain ⟨⟨a1, _, _⟩, a4, a5⟩ := ap
    rw [List.pairwise_append]
    exact ⟨a1, a4, fun x hx y hy => a5 x (by simp [hx]) y hy⟩
  · intro p h1 h2
    rw [ht p (by omega)]
    by_cases e : p ∈ l
    · rw [if_pos e]
      simp only [Bool.false_eq_true, false_iff]
      rintro ⟨x, hx, hp⟩
      exact (o2 p e).2.2 x hx hp
    · rw [if_neg e, o3 p h1 h2]
      constructor
      · rintro (q | q)
        · exact absurd q e
        · exact q
      · exact .inr
  · intro _
    rw [ht 0 (by omega)]
    rw [if_neg (fun e => by have := (o2 0 e).1; omega)]
    exact h.m0 (by simp)
end

/-- Free pages, counted. -/
theorem free_count (l : List UInt8) : ∀ (n : Nat) (S : List Nat), S.Nodup → (∀ q ∈ S, q < n) → (∀ q, q < n → (tk l q = true ↔ q ∈ S)) → freeN l n + S.length = n
  | 0, S, _, h, _ => by
    cases S with
    | nil => rfl
    | cons a S => have := h a (by simp); omega
  | n + 1, S, hd, h, ht => by
    have hS := free_count l n (S.erase n) (hd.erase n) (fun q hq => by
      have h1 := h q (List.mem_of_mem_erase hq)
      have h2 := (List.Nodup.mem_erase_iff hd).1 hq
      omega) (fun q hq => by
      rw [ht q (by omega), List.Nodup.mem_erase_iff hd]
      exact ⟨fun e => ⟨by omega, e⟩, fun e => e.2⟩)
    cases hb : tk l n with
    | true =>
      have hm : n ∈ S := (ht n (by omega)).1 hb
      have := List.length_erase_of_mem hm
      have := List.length_pos_of_mem hm
      rw [Bit.freeN_taken hb]
      omega
    | false =>
      have hm : n ∉ S := fun e => by
        have := (ht n (by omega)).2 e
        rw [hb] at this
        cases this
      rw [List.erase_of_not_mem hm] at hS
      rw [Bit.freeN_free hb]
      omega

end Go.Proofs.YtgeiemccjionpaaGreat.Chn

/- HFit -/
namespace Go.Proofs.YtgeiemccjionpaaGreat.Chn
open Bit (tk markL runsN freeN inR sumL)

def pagesOf (ts : List (List Nat × List UInt8)) : List Nat := ts.flatMap (·.1)
theorem mem_pages {ts : List (List Nat × List UInt8)} {p : Nat} : p ∈ pagesOf ts ↔ ∃ x ∈ ts, p ∈ x.1 := by unfold pagesOf; rw [List.mem_flatMap]
theorem pages_nodup : ∀ {ts : List (List Nat × List UInt8)}, (∀ x ∈ ts, x.1.Nodup) → (ts.Pairwise fun x y => ∀ p ∈ x.1, p ∉ y.1) → (pagesOf ts).Nodup
  | [], _, _ => List.nodup_nil
  | a :: ts, h, ap => by
    rw [List.pairwise_cons] at ap
    have e : pagesOf (a :: ts) = a.1 ++ pagesOf ts := by simp [pagesOf]
    rw [e, List.nodup_append]
    refine ⟨h a (by simp), pages_nodup (fun x hx => h x (by simp [hx])) ap.2, fun p hp q hq e => ?_⟩
    subst e
    obtain ⟨x, hx, hpx⟩ := mem_pages.1 hq
    exact ap.1 x hx p hp hpx
section
variable {C : Nat → List UInt8} {n : Nat} {A O B ts : List (List Nat × List UInt8)} {old : List Nat} {t : List UInt8}
theorem Inv.pages (h : Inv C n ts) : (pagesOf ts).Nodup ∧ ∀ p ∈ pagesOf ts, 1 ≤ p ∧ p < n :=
  ⟨pages_nodup h.nd h.ap, fun p hp => by obtain ⟨x, hx, hpx⟩ := mem_pages.1 hp; exact h.inn x hx p hpx⟩
/-- What is free where texts are. -/
theorem free_is (h : Inv C n ts) (hne : ts ≠ []) : freeN (C 0) n + (1 + (pagesOf ts).length) = n := by
  obtain ⟨h1, h2⟩ := h.pages
  have := free_count (C 0) n (0 :: pagesOf ts) (List.nodup_cons.2 ⟨fun e => by have := h2 0 e; omega, h1⟩) (fun q hq => by
    rcases List.mem_cons.1 hq with rfl | hq
    · exact h.n1
    · exact (h2 q hq).2) (fun q hq => by
    by_cases h0 : q = 0
    · subst h0
      simp [h.m0 hne]
    · rw [h.mrk q (by omega) hq, List.mem_cons, ← mem_pages]
      exact ⟨.inr, fun e => e.resolve_left h0⟩)
  rw [List.length_cons] at this
  omega
/-- A text fits just if as many pages are free, with those of the one in whose place it comes, as it takes. -/
theorem fit_iff (h : Inv C n (A ++ O ++ B)) (hO : (O = [] ∧ old = []) ∨ ∃ t0, O = [(old, t0)]) (need : Nat) : fitC C n old need ↔ need + (1 + (pagesOf (A ++ B)).length) ≤ n := by
  obtain ⟨o1, o2, o3⟩ := put_marks h hO
  have hz := h.z
  have hN := h.n2
  have hR : (pagesOf (A ++ B)).Nodup := by
    refine pages_nodup (fun x hx => h.nd x ?_) ?_
    · rcases List.mem_append.1 hx with hx | hx <;> simp [hx]
    · have ap := h.ap
      rw [List.pairwise_append, List.pairwise_append] at ap
      obtain ⟨⟨a1, _, _⟩, a4, a5⟩ := ap
      rw [List.pairwise_append]
      exact ⟨a1, a4, fun x hx y hy => a5 x (by simp [hx]) y hy⟩
  have hRi : ∀ p ∈ pagesOf (A ++ B), 1 ≤ p ∧ p < n := fun p hp => by
    obtain ⟨x, hx, hpx⟩ := mem_pages.1 hp
    exact h.inn x (by rcases List.mem_append.1 hx with hx | hx <;> simp [hx]) p hpx
  have hcount := free_count (m1C C old need) n (0 :: (old.take need ++ pagesOf (A ++ B))) (by
    rw [List.nodup_cons, List.nodup_append]
    refine ⟨fun e => ?_, (List.take_sublist _ _).nodup o1, hR, fun p hp q hq e => ?_⟩
    · rcases List.mem_append.1 e with e | e
      · have := (o2 0 (List.mem_of_mem_take e)).1; omega
      · have := (hRi 0 e).1; omega
    · subst e
      obtain ⟨x, hx, hpx⟩ := mem_pages.1 hq
      exact (o2 p (List.mem_of_mem_take hp)).2.2 x hx hpx) (fun q hq => by
    rcases List.mem_cons.1 hq with rfl | hq
    · exact h.n1
    · rcases List.mem_append.1 hq with hq | hq
      · exact (o2 q (List.mem_of_mem_take hq)).2.1
      · exact (hRi q hq).2) (fun q hq => by
    rw [tk_m1 hz old need (by omega), List.mem_cons, List.mem_append, mem_pages]
    have hsplit : q ∈ old ↔ q ∈ old.take need ∨ q ∈ old.drop need := by rw [← List.mem_append, List.take_append_drop]
    have hnd : (old.take need ++ old.drop need).Nodup := by rw [List.take_append_drop]; exact o1
    rw [List.nodup_append] at hnd
    by_cases hd : q ∈ old.drop need
    · rw [if_pos hd]
      simp only [Bool.false_eq_true, false_iff]
      obtain ⟨w1, w2, w3⟩ := o2 q (List.mem_of_mem_drop hd)
      rintro (e | e | ⟨x, hx, e⟩)
      · omega
      · exact hnd.2.2 q e q hd rfl
      · exact w3 x hx e
    · rw [if_neg hd]
      by_cases h0 : q = 0
      · rw [if_pos h0]; simp [h0]
      · rw [if_neg h0, o3 q (by omega) hq, hsplit]
        constructor
        · rintro ((e | e) | e)
          · exact .inr (.inl e)
          · exact absurd e hd
          · exact .inr (.inr e)
        · rintro (e | e | e)
          · exact absurd e h0
          · exact .inl (.inl e)
          · exact .inr e)
  rw [List.length_cons, List.length_append] at hcount
  have hk : (old.take need).length ≤ need := by rw [List.length_take]; omega
  unfold fitC
  omega
end

end Go.Proofs.YtgeiemccjionpaaGreat.Chn

/- CPlain -/
/- The sum of bytes as plain mathematics: the register, its steps, and that up to four other bytes side by side turn it. No statement is proved here. -/
namespace Go.Proofs.YtgeiemccjionpaaGreat.Crc

/-- One step down. -/
def dn (n : Nat) : Nat := if n % 2 = 1 then n / 2 ^^^ 2197175160 else n / 2

def dnK : Nat → Nat → Nat
  | 0, n => n
  | k + 1, n => dnK k (dn n)

theorem dnK_add (j k n : Nat) : dnK (j + k) n = dnK k (dnK j n) := by
  induction j generalizing n with
  | zero => rw [Nat.zero_add]; rfl
  | succ j ih => rw [Nat.succ_add]; exact ih (dn n)

theorem dnK_succ (k n : Nat) : dnK (k + 1) n = dn (dnK k n) := dnK_add k 1 n

theorem dn_lt {n : Nat} (h : n < 4294967296) : dn n < 4294967296 := by
  unfold dn
  split
  · exact Nat.xor_lt_two_pow (n := 32) (by omega) (by omega)
  · omega

theorem dnK_lt (k : Nat) {n : Nat} (h : n < 4294967296) : dnK k n < 4294967296 := by
  induction k generalizing n with
  | zero => exact h
  | succ k ih => exact ih (dn_lt h)

theorem xor_half (a b : Nat) : (a ^^^ b) / 2 = a / 2 ^^^ b / 2 := by
  apply Nat.eq_of_testBit_eq
  intro i
  rw [Nat.testBit_xor, ← Nat.testBit_succ, ← Nat.testBit_succ, ← Nat.testBit_succ, Nat.testBit_xor]

theorem xor_odd (a b : Nat) : (a ^^^ b) % 2 = (a + b) % 2 := by
  have h := Nat.testBit_xor (x := a) (y := b) (i := 0)
  rw [Nat.testBit_zero, Nat.testBit_zero, Nat.testBit_zero] at h
  have h1 : a % 2 = 0 ∨ a % 2 = 1 := by omega
  have h2 : b % 2 = 0 ∨ b % 2 = 1 := by omega
  have h3 : (a ^^^ b) % 2 = 0 ∨ (a ^^^ b) % 2 = 1 := by omega
  rcases h1 with h1 | h1 <;> rcases h2 with h2 | h2 <;> rcases h3 with h3 | h3 <;> simp [h1, h2, h3] at h <;> omega

theorem dn_xor (a b : Nat) : dn (a ^^^ b) = dn a ^^^ dn b := by
  unfold dn
  rw [xor_half, xor_odd]
  have h1 : a % 2 = 0 ∨ a % 2 = 1 := by omega
  have h2 : b % 2 = 0 ∨ b % 2 = 1 := by omega
  rcases h1 with h1 | h1 <;> rcases h2 with h2 | h2
  · rw [if_neg (by omega), if_neg (by omega), if_neg (by omega)]
  · rw [if_pos (by omega), if_neg (by omega), if_pos (by omega), Nat.xor_assoc]
  · rw [if_pos (by omega), if_pos (by omega), if_neg (by omega), Nat.xor_assoc, Nat.xor_assoc, Nat.xor_comm (b / 2)]
  · rw [if_neg (by omega), if_pos (by omega), if_pos (by omega), Nat.xor_assoc, Nat.xor_comm 2197175160, Nat.xor_assoc, Nat.xor_self, Nat.xor_zero]

theorem dnK_xor (k a b : Nat) : dnK k (a ^^^ b) = dnK k a ^^^ dnK k b := by
  induction k generalizing a b with
  | zero => rfl
  | succ k ih => show dnK k (dn (a ^^^ b)) = _; rw [dn_xor]; exact ih _ _

theorem dn_double (n : Nat) : dn (2 * n) = n := by
  unfold dn
  rw [if_neg (by omega)]; omega

theorem dnK_up (k n : Nat) : dnK k (2 ^ k * n) = n := by
  induction k generalizing n with
  | zero => simp [dnK]
  | succ k ih =>
    show dnK k (dn (2 ^ (k + 1) * n)) = n
    rw [show 2 ^ (k + 1) * n = 2 * (2 ^ k * n) by rw [Nat.pow_succ, Nat.mul_comm (2 ^ k) 2, Nat.mul_assoc], dn_double]
    exact ih n

theorem dnK_zero (k : Nat) : dnK k 0 = 0 := by
  have := dnK_up k 0
  simpa using this

theorem xor_eq_zero {a b : Nat} (h : a ^^^ b = 0) : a = b := by
  have := congrArg (· ^^^ b) h
  simpa [Nat.xor_assoc, Nat.xor_self] using this

theorem dn_none {n : Nat} (h : n < 4294967296) (h0 : dn n = 0) : n = 0 := by
  unfold dn at h0
  split at h0
  · have := xor_eq_zero h0; omega
  · omega

theorem dnK_none (k : Nat) {n : Nat} (h : n < 4294967296) (h0 : dnK k n = 0) : n = 0 := by
  induction k generalizing n with
  | zero => exact h0
  | succ k ih => exact dn_none h (ih (dn_lt h) h0)

theorem dnK_inj (k : Nat) {a b : Nat} (ha : a < 4294967296) (hb : b < 4294967296) (h : dnK k a = dnK k b) : a = b := by
  apply xor_eq_zero
  apply dnK_none k (Nat.xor_lt_two_pow (n := 32) ha hb)
  rw [dnK_xor, h, Nat.xor_self]

/-- A number is its upper bits and its lower ones. -/
theorem xor_parts (k a b : Nat) (h : b < 2 ^ k) : b ^^^ 2 ^ k * a = b + 2 ^ k * a := by
  apply Nat.eq_of_testBit_eq
  intro i
  rw [Nat.add_comm, Nat.testBit_two_pow_mul_add a h, Nat.testBit_xor, Nat.testBit_two_pow_mul]
  by_cases hi : i < k
  · rw [if_pos hi, decide_eq_false (by omega)]; simp
  · have : b.testBit i = false := Nat.testBit_lt_two_pow (Nat.lt_of_lt_of_le h (Nat.pow_le_pow_right (by omega) (by omega)))
    rw [if_neg hi, decide_eq_true (by omega), this]; simp

theorem nibble (n : Nat) : n / 16 ^^^ dnK 4 (n % 16) = dnK 4 n := by
  have h : n % 16 ^^^ 2 ^ 4 * (n / 16) = n := by rw [xor_parts 4 _ _ (by omega)]; omega
  have h2 : dnK 4 (n % 16 ^^^ 2 ^ 4 * (n / 16)) = dnK 4 n := by rw [h]
  rw [dnK_xor, dnK_up] at h2
  rw [Nat.xor_comm]; exact h2

/-- A byte goes into the register. -/
def feed (n c : Nat) : Nat := dnK 8 (n ^^^ c)

def reg (n : Nat) (l : List UInt8) : Nat := l.foldl (fun n c => feed n c.toNat) n

theorem reg_app (n : Nat) (l m : List UInt8) : reg n (l ++ m) = reg (reg n l) m := List.foldl_append ..

theorem feed_lt {n c : Nat} (h : n < 4294967296) (hc : c < 256) : feed n c < 4294967296 :=
  dnK_lt 8 (Nat.xor_lt_two_pow (n := 32) h (by omega))

theorem reg_lt {n : Nat} (l : List UInt8) (h : n < 4294967296) : reg n l < 4294967296 := by
  induction l generalizing n with
  | nil => exact h
  | cons c l ih => exact ih (feed_lt h c.toNat_lt)

/-- The bytes as one number, the first one lowest. -/
def wordL : List UInt8 → Nat
  | [] => 0
  | c :: l => c.toNat ^^^ 2 ^ 8 * wordL l

theorem reg_word (n : Nat) (l : List UInt8) : reg n l = dnK (8 * l.length) (n ^^^ wordL l) := by
  induction l generalizing n with
  | nil => simp [reg, wordL, dnK]
  | cons c l ih =>
    show reg (feed n c.toNat) l = _
    rw [ih, List.length_cons, show 8 * (l.length + 1) = 8 + 8 * l.length by omega, dnK_add]
    have : feed n c.toNat ^^^ wordL l = dnK 8 (n ^^^ wordL (c :: l)) := by
      unfold feed
      have e : wordL l = dnK 8 (2 ^ 8 * wordL l) := (dnK_up 8 _).symm
      rw [e, ← dnK_xor, Nat.xor_assoc]
      rfl
    rw [this]

theorem wordL_cons (c : UInt8) (l : List UInt8) : wordL (c :: l) = c.toNat + 2 ^ 8 * wordL l := xor_parts 8 _ _ c.toNat_lt

theorem wordL_none {l : List UInt8} (h : wordL l = 0) : ∀ c ∈ l, c = 0 := by
  induction l with
  | nil => simp
  | cons c l ih =>
    rw [wordL_cons] at h
    have h1 : c.toNat = 0 := by omega
    have h2 : wordL l = 0 := by omega
    intro d hd
    rcases List.mem_cons.1 hd with rfl | hd
    · exact UInt8.toNat_inj.1 h1
    · exact ih h2 d hd

theorem wordL_zeros {l : List UInt8} (h : ∀ c ∈ l, c = 0) : wordL l = 0 := by
  induction l with
  | nil => rfl
  | cons c l ih => rw [wordL_cons, h c (by simp), ih (fun d hd => h d (by simp [hd]))]; rfl

theorem wordL_lt (l : List UInt8) : wordL l < 2 ^ (8 * l.length) := by
  induction l with
  | nil => simp [wordL]
  | cons c l ih =>
    rw [wordL_cons, List.length_cons, show 8 * (l.length + 1) = 8 * l.length + 8 by omega, Nat.pow_add]
    have := c.toNat_lt
    omega

theorem wordL_lt4 {l : List UInt8} (h : l.length ≤ 4) : wordL l < 4294967296 := by
  have h1 := wordL_lt l
  have h2 : 2 ^ (8 * l.length) ≤ 2 ^ 32 := Nat.pow_le_pow_right (by omega) (by omega)
  exact Nat.lt_of_lt_of_le h1 (by simpa using h2)

/-- The sum. -/
def crcN (l : List UInt8) : Nat := 4294967295 ^^^ reg 4294967295 l

theorem crcN_lt (l : List UInt8) : crcN l < 4294967296 := Nat.xor_lt_two_pow (n := 32) (by omega) (reg_lt l (by omega))

/-- A number in four bytes, the lowest first. -/
def tailB (n : Nat) : List UInt8 := [UInt8.ofNat n, UInt8.ofNat (n / 256), UInt8.ofNat (n / 65536), UInt8.ofNat (n / 16777216)]

theorem toNat_ofNat8 (n : Nat) : (UInt8.ofNat n).toNat = n % 256 := by simp

theorem wordL_tail {n : Nat} (h : n < 4294967296) : wordL (tailB n) = n := by
  unfold tailB
  rw [wordL_cons, wordL_cons, wordL_cons, wordL_cons]
  simp only [toNat_ofNat8, wordL]
  omega

theorem wordL_inj {l m : List UInt8} (hl : l.length = m.length) (h : wordL l = wordL m) : l = m := by
  induction l generalizing m with
  | nil => cases m with
    | nil => rfl
    | cons _ _ => cases hl
  | cons c l ih => cases m with
    | nil => cases hl
    | cons d m =>
      rw [wordL_cons, wordL_cons] at h
      have := c.toNat_lt
      have := d.toNat_lt
      rw [UInt8.toNat_inj.1 (show c.toNat = d.toNat by omega), ih (by simpa using hl) (by omega)]

def sealB (l : List UInt8) : List UInt8 := l ++ tailB (crcN l)

theorem tailB_len (n : Nat) : (tailB n).length = 4 := rfl

theorem sealB_len (l : List UInt8) : (sealB l).length = l.length + 4 := by simp [sealB, tailB_len]

/-- What is sealed, in one equation. -/
def full : Nat := dnK 32 4294967295

theorem reg_four (n : Nat) (hn : n < 4294967296) (t : List UInt8) (ht : t.length = 4) : reg n t = full ↔ t = tailB (4294967295 ^^^ n) := by
  have hx : 4294967295 ^^^ n < 4294967296 := Nat.xor_lt_two_pow (n := 32) (by omega) hn
  rw [reg_word, ht]
  constructor
  · intro h
    have e := dnK_inj (8 * 4) (Nat.xor_lt_two_pow (n := 32) hn (wordL_lt4 (by omega))) (by omega) h
    apply wordL_inj (by rw [ht, tailB_len])
    rw [wordL_tail hx, ← e, Nat.xor_comm n, Nat.xor_assoc, Nat.xor_self, Nat.xor_zero]
  · rintro rfl
    rw [wordL_tail hx, Nat.xor_comm, Nat.xor_assoc, Nat.xor_self, Nat.xor_zero]
    rfl

/-- Whether bytes are sealed ones. -/
def opens (l : List UInt8) : Bool := decide (4 ≤ l.length) && decide (l.drop (l.length - 4) = tailB (crcN (l.take (l.length - 4))))

theorem opens_iff (l : List UInt8) (h : 4 ≤ l.length) : opens l = true ↔ reg 4294967295 l = full := by
  have e : reg 4294967295 l = reg (reg 4294967295 (l.take (l.length - 4))) (l.drop (l.length - 4)) := by rw [← reg_app, List.take_append_drop]
  rw [e, reg_four _ (reg_lt _ (by omega)) _ (by simp; omega)]
  unfold opens crcN
  rw [decide_eq_true h, Bool.true_and, decide_eq_true_iff]

theorem opens_seal (l : List UInt8) : opens (sealB l) = true := by
  have h1 : (sealB l).length - 4 = l.length := by rw [sealB_len]; omega
  unfold opens
  rw [h1, sealB_len]
  simp [sealB]

theorem sealB_take (l : List UInt8) : (sealB l).take ((sealB l).length - 4) = l := by
  rw [sealB_len, Nat.add_sub_cancel]; simp [sealB]

/-- Only what is sealed opens. -/
theorem opens_is (l : List UInt8) (h : opens l = true) : sealB (l.take (l.length - 4)) = l := by
  simp [opens] at h
  unfold sealB
  rw [← h.2, List.take_append_drop]

theorem sealB_inj {l m : List UInt8} (h : sealB l = sealB m) : l = m := by
  have := congrArg (fun x : List UInt8 => x.take (x.length - 4)) h
  simpa only [sealB_take] using this

/-- Bytes with others laid over them. -/
def over : List UInt8 → List UInt8 → List UInt8
  | a :: l, b :: m => (a ^^^ b) :: over l m
  | l, [] => l
  | [], _ => []

theorem xor_rot (a b c d : Nat) : (a ^^^ b) ^^^ (c ^^^ d) = (a ^^^ c) ^^^ (b ^^^ d) := by
  rw [Nat.xor_assoc, Nat.xor_assoc, ← Nat.xor_assoc b, ← Nat.xor_assoc c, Nat.xor_comm b c]

theorem feed_xor (n m c d : Nat) : feed (n ^^^ m) (c ^^^ d) = feed n c ^^^ feed m d := by
  unfold feed; rw [xor_rot, dnK_xor]

theorem reg_over (l e : List UInt8) (h : l.length = e.length) (n m : Nat) : reg (n ^^^ m) (over l e) = reg n l ^^^ reg m e := by
  induction l generalizing e n m with
  | nil => cases e with
    | nil => rfl
    | cons _ _ => cases h
  | cons a l ih => cases e with
    | nil => cases h
    | cons b e =>
      show reg (feed (n ^^^ m) (a ^^^ b).toNat) (over l e) = _
      rw [UInt8.toNat_xor, feed_xor]
      exact ih e (by simpa using h) _ _

def zeros (k : Nat) : List UInt8 := List.replicate k 0

theorem reg_zeros (n k : Nat) : reg n (zeros k) = dnK (8 * k) n := by
  unfold zeros
  rw [reg_word, wordL_zeros (fun c hc => (List.mem_replicate.1 hc).2), Nat.xor_zero, List.length_replicate]

/-- What four bytes side by side at most, with noughts about them, leave in the register. -/
theorem reg_burst (k j : Nat) (f : List UInt8) (hf : f.length ≤ 4) : reg 0 (zeros k ++ f ++ zeros j) = 0 ↔ ∀ c ∈ f, c = 0 := by
  rw [reg_app, reg_app, reg_zeros, reg_zeros, dnK_zero, reg_word, Nat.zero_xor]
  constructor
  · intro h
    exact wordL_none (dnK_none _ (wordL_lt4 hf) (dnK_none _ (dnK_lt _ (wordL_lt4 hf)) h))
  · intro h
    rw [wordL_zeros h, dnK_zero, dnK_zero]

/-- Up to four other bytes side by side, anywhere, are told. -/
theorem burst (l : List UInt8) (k j : Nat) (f : List UInt8) (hf : f.length ≤ 4) (hl : l.length = k + f.length + j) (h4 : 4 ≤ l.length) (ho : opens l = true) :
    opens (over l (zeros k ++ f ++ zeros j)) = true ↔ ∀ c ∈ f, c = 0 := by
  have hlen : l.length = (zeros k ++ f ++ zeros j).length := by simp [zeros]; omega
  have ol : ∀ (l e : List UInt8), l.length = e.length → (over l e).length = l.length := by
    intro l
    induction l with
    | nil => intro e h; cases e with
      | nil => rfl
      | cons _ _ => cases h
    | cons a l ih => intro e h; cases e with
      | nil => cases h
      | cons b e => simp [over]; exact ih e (by simpa using h)
  rw [opens_iff _ (by rw [ol _ _ hlen]; exact h4)]
  rw [opens_iff l h4] at ho
  have e := reg_over l _ hlen 4294967295 0
  rw [Nat.xor_zero, ho] at e
  rw [e, ← reg_burst k j f hf]
  constructor
  · intro h
    have := congrArg (full ^^^ ·) h
    simpa [← Nat.xor_assoc, Nat.xor_self] using this
  · intro h; rw [h, Nat.xor_zero]

theorem crc_example : crcN [49, 50, 51, 52, 53, 54, 55, 56, 57] = 3808858755 := by decide +kernel
theorem crc_empty : crcN [] = 0 := by decide +kernel

end Go.Proofs.YtgeiemccjionpaaGreat.Crc
