/- Page 0's bytes, plainly: which pages are taken, marks, how many are free, runs that are free, where the catalog begins. No statement is proved here. -/
namespace Go.Proofs.Ytjlcmmidbeikdaa

/-- Has l a bit for page p? -/
def has (l : List UInt8) (p : Nat) : Bool := decide (p < 512) && decide (p / 8 < l.length)
/-- Is page p taken? -/
def tk (l : List UInt8) (p : Nat) : Bool := has l p && (l.getD (p / 8) 0).toNat.testBit (7 - p % 8)
def tkI (l : List UInt8) (p : Int) : Bool := decide (0 ≤ p) && tk l p.toNat
theorem tkI_nat (l : List UInt8) (p : Nat) : tkI l (p : Int) = tk l p := by
  unfold tkI
  rw [decide_eq_true (Int.natCast_nonneg p), Int.toNat_natCast, Bool.true_and]

/-- A byte with page p's bit set, or not. -/
def setB (b : UInt8) (t : Bool) (p : Nat) : UInt8 := if t = true then UInt8.ofNat (b.toNat ||| 2 ^ (7 - p % 8)) else UInt8.ofNat (b.toNat &&& (255 - 2 ^ (7 - p % 8)))
/-- Page p marked. -/
def mk1 (l : List UInt8) (t : Bool) (p : Nat) : List UInt8 := if has l p = true then l.set (p / 8) (setB (l.getD (p / 8) 0) t p) else l
def mkI (l : List UInt8) (t : Bool) (p : Int) : List UInt8 := if 0 ≤ p then mk1 l t p.toNat else l
/-- So many pages from s on marked. -/
def markR (l : List UInt8) (t : Bool) (s : Int) : Nat → List UInt8
  | 0 => l
  | k + 1 => mkI (markR l t s k) t (s + k)
def markOne (l : List UInt8) (t : Bool) (x : Int × Int) : List UInt8 := markR l t x.1 (min x.2 512).toNat
def markL (l : List UInt8) (t : Bool) (r : List (Int × Int)) : List UInt8 := r.foldl (fun m x => markOne m t x) l

theorem pow7 (p : Nat) : 2 ^ (7 - p % 8) < 256 := Nat.lt_of_le_of_lt (Nat.pow_le_pow_right (by omega) (show 7 - p % 8 ≤ 7 by omega)) (by decide)
theorem setB_or (b : UInt8) (p : Nat) : (setB b true p).toNat = b.toNat ||| 2 ^ (7 - p % 8) := by
  unfold setB
  rw [if_pos rfl, UInt8.toNat_ofNat']
  exact Nat.mod_eq_of_lt (Nat.or_lt_two_pow b.toNat_lt (pow7 p))
theorem setB_and (b : UInt8) (p : Nat) : (setB b false p).toNat = b.toNat &&& (255 - 2 ^ (7 - p % 8)) := by
  unfold setB
  rw [if_neg (by simp), UInt8.toNat_ofNat']
  exact Nat.mod_eq_of_lt (Nat.and_lt_two_pow (n := 8) _ (Nat.lt_of_le_of_lt (Nat.sub_le 255 _) (by decide)))
theorem off_bit : ∀ j < 8, ∀ i < 8, (255 - 2 ^ j).testBit i = !(decide (j = i)) := by decide
theorem setB_bit (b : UInt8) (t : Bool) (p i : Nat) (hi : i < 8) : (setB b t p).toNat.testBit i = if 7 - p % 8 = i then t else b.toNat.testBit i := by
  cases t with
  | true =>
    rw [setB_or, Nat.testBit_or, Nat.testBit_two_pow]
    by_cases h : 7 - p % 8 = i
    · simp [h]
    · simp [h]
  | false =>
    rw [setB_and, Nat.testBit_and, off_bit _ (by omega) _ hi]
    by_cases h : 7 - p % 8 = i
    · simp [h]
    · simp [h]

theorem has_is (l : List UInt8) (p : Nat) : has l p = true ↔ p < 512 ∧ p / 8 < l.length := by unfold has; simp
theorem mk1_len (l : List UInt8) (t : Bool) (p : Nat) : (mk1 l t p).length = l.length := by unfold mk1; split <;> simp
theorem mkI_len (l : List UInt8) (t : Bool) (p : Int) : (mkI l t p).length = l.length := by unfold mkI; split <;> simp [mk1_len]
theorem markR_len (l : List UInt8) (t : Bool) (s : Int) (k : Nat) : (markR l t s k).length = l.length := by
  induction k with
  | zero => rfl
  | succ k ih => unfold markR; rw [mkI_len, ih]
theorem markOne_len (l : List UInt8) (t : Bool) (x : Int × Int) : (markOne l t x).length = l.length := markR_len _ _ _ _
theorem markL_len (t : Bool) (r : List (Int × Int)) : ∀ l : List UInt8, (markL l t r).length = l.length := by
  induction r with
  | nil => intro l; rfl
  | cons x r ih => intro l; show (markL (markOne l t x) t r).length = _; rw [ih, markOne_len]
theorem has_len {l m : List UInt8} (h : m.length = l.length) (p : Nat) : has m p = has l p := by unfold has; rw [h]

theorem mk1_drop (l : List UInt8) (t : Bool) (p : Nat) : (mk1 l t p).drop 64 = l.drop 64 := by
  unfold mk1
  split
  · rename_i h
    have := (has_is l p).1 h
    rw [List.drop_set_of_lt (by omega)]
  · rfl
theorem mkI_drop (l : List UInt8) (t : Bool) (p : Int) : (mkI l t p).drop 64 = l.drop 64 := by unfold mkI; split <;> simp [mk1_drop]
theorem markR_drop (l : List UInt8) (t : Bool) (s : Int) (k : Nat) : (markR l t s k).drop 64 = l.drop 64 := by
  induction k with
  | zero => rfl
  | succ k ih => unfold markR; rw [mkI_drop, ih]
theorem markL_drop (t : Bool) (r : List (Int × Int)) : ∀ l : List UInt8, (markL l t r).drop 64 = l.drop 64 := by
  induction r with
  | nil => intro l; rfl
  | cons x r ih => intro l; show (markL (markOne l t x) t r).drop 64 = _; rw [ih]; exact markR_drop _ _ _ _

theorem getD_set (l : List UInt8) (n : Nat) (a : UInt8) (j : Nat) (hn : n < l.length) : (l.set n a).getD j 0 = if n = j then a else l.getD j 0 := by
  rw [List.getD_eq_getElem?_getD, List.getElem?_set, List.getD_eq_getElem?_getD]
  by_cases h : n = j
  · subst h; simp [hn]
  · simp [h]
theorem tk_mk1 (l : List UInt8) (t : Bool) (p q : Nat) : tk (mk1 l t p) q = if has l q = true ∧ p = q then t else tk l q := by
  unfold tk
  rw [has_len (mk1_len l t p)]
  cases hq : has l q with
  | false => simp
  | true =>
    have hq' := (has_is l q).1 hq
    unfold mk1
    by_cases hp : has l p = true
    · have hp' := (has_is l p).1 hp
      rw [if_pos hp, getD_set _ _ _ _ hp'.2]
      by_cases e : p / 8 = q / 8
      · rw [if_pos e, setB_bit _ _ _ _ (by omega), e]
        by_cases e2 : p = q
        · subst e2; simp
        · rw [if_neg (show ¬ 7 - p % 8 = 7 - q % 8 by omega), if_neg (fun h => e2 h.2)]
      · rw [if_neg e, if_neg (fun h => e (by rw [h.2]))]
    · rw [if_neg hp, if_neg (fun h => hp (by rw [h.2]; exact hq))]
theorem tk_mkI (l : List UInt8) (t : Bool) (p : Int) (q : Nat) : tk (mkI l t p) q = if has l q = true ∧ p = q then t else tk l q := by
  unfold mkI
  by_cases h : 0 ≤ p
  · rw [if_pos h, tk_mk1]
    have : (p.toNat = q) ↔ (p = (q : Int)) := by omega
    simp only [this]
  · rw [if_neg h, if_neg (fun hh => by omega)]
theorem tk_markR (l : List UInt8) (t : Bool) (s : Int) (k q : Nat) : tk (markR l t s k) q = if has l q = true ∧ s ≤ q ∧ (q : Int) < s + k then t else tk l q := by
  induction k with
  | zero => unfold markR; rw [if_neg (fun h => by omega)]
  | succ k ih =>
    unfold markR
    rw [tk_mkI, has_len (markR_len l t s k), ih]
    by_cases h : has l q = true
    · by_cases e : s + k = (q : Int)
      · rw [if_pos ⟨h, e⟩, if_pos ⟨h, by omega, by omega⟩]
      · rw [if_neg (fun hh => e hh.2)]
        by_cases e2 : s ≤ q ∧ (q : Int) < s + k
        · rw [if_pos ⟨h, e2⟩, if_pos ⟨h, by omega, by omega⟩]
        · rw [if_neg (fun hh => e2 hh.2), if_neg (fun hh => by omega)]
    · rw [if_neg (fun hh => h hh.1), if_neg (fun hh => h hh.1), if_neg (fun hh => h hh.1)]

/-- Is page q in one of the runs? -/
def inR (r : List (Int × Int)) (q : Nat) : Bool := r.any fun x => decide (x.1 ≤ q) && decide ((q : Int) < x.1 + x.2)
theorem tk_markL (t : Bool) (q : Nat) (r : List (Int × Int)) : ∀ l : List UInt8, (∀ x ∈ r, 0 ≤ x.2 ∧ x.2 ≤ 512) → tk (markL l t r) q = if has l q = true ∧ inR r q = true then t else tk l q := by
  induction r with
  | nil => intro l _; rw [if_neg (fun h => by simp [inR] at h)]; rfl
  | cons x r ih =>
    intro l h
    have hx := h x List.mem_cons_self
    show tk (markL (markOne l t x) t r) q = _
    rw [ih _ (fun y hy => h y (List.mem_cons_of_mem _ hy)), has_len (markOne_len l t x)]
    unfold markOne
    rw [tk_markR]
    have e : (((min x.2 512).toNat : Nat) : Int) = x.2 := by omega
    rw [e]
    have e2 : inR (x :: r) q = ((decide (x.1 ≤ q) && decide ((q : Int) < x.1 + x.2)) || inR r q) := rfl
    rw [e2]
    cases has l q <;> cases inR r q <;> simp

theorem mkI_out (l : List UInt8) (t : Bool) (p : Int) (h : ¬ (0 ≤ p ∧ has l p.toNat = true)) : mkI l t p = l := by
  unfold mkI
  split
  · rename_i h0
    unfold mk1
    rw [if_neg (fun hh => h ⟨h0, hh⟩)]
  · rfl
theorem markR_skip (l : List UInt8) (t : Bool) (s : Int) (k : Nat) (d : Nat) (h : ∀ j, k ≤ j → j < k + d → ¬ (0 ≤ s + (j : Int) ∧ has l (s + (j : Int)).toNat = true)) : markR l t s (k + d) = markR l t s k := by
  induction d with
  | zero => rfl
  | succ d ih =>
    show mkI (markR l t s (k + d)) t (s + ((k + d : Nat) : Int)) = _
    rw [mkI_out _ _ _ (by rw [has_len (markR_len l t s (k + d))]; exact h (k + d) (by omega) (by omega)), ih (fun j h1 h2 => h j h1 (by omega))]
theorem markR_same (l : List UInt8) (t : Bool) (s : Int) (k m : Nat) (hk : k ≤ m) (h : ∀ j, k ≤ j → j < m → ¬ (0 ≤ s + (j : Int) ∧ has l (s + (j : Int)).toNat = true)) : markR l t s m = markR l t s k := by
  obtain ⟨d, rfl⟩ : ∃ d, m = k + d := ⟨m - k, by omega⟩
  exact markR_skip l t s k d h
theorem markL_snoc (l : List UInt8) (t : Bool) (r : List (Int × Int)) (x : Int × Int) : markL l t (r ++ [x]) = markOne (markL l t r) t x := by
  unfold markL; rw [List.foldl_append]; rfl

theorem bytes_ext {l m : List UInt8} (hl : l.length = m.length) (ht : ∀ p, tk l p = tk m p) (hd : l.drop 64 = m.drop 64) : l = m := by
  apply List.ext_getElem hl
  intro i h1 h2
  by_cases hi : i < 64
  · apply UInt8.toNat_inj.1
    apply Nat.eq_of_testBit_eq
    intro j
    by_cases hj : j < 8
    · have h := ht (8 * i + (7 - j))
      unfold tk at h
      have e1 : (8 * i + (7 - j)) / 8 = i := by omega
      have e2 : 7 - (8 * i + (7 - j)) % 8 = j := by omega
      rw [(has_is l _).2 ⟨by omega, by omega⟩, (has_is m _).2 ⟨by omega, by omega⟩, e1, e2] at h
      rw [List.getD_eq_getElem?_getD, List.getElem?_eq_getElem h1, List.getD_eq_getElem?_getD, List.getElem?_eq_getElem h2] at h
      simpa using h
    · have a := l[i].toNat_lt
      have b := m[i].toNat_lt
      have c : 2 ^ 8 ≤ 2 ^ j := Nat.pow_le_pow_right (by omega) (by omega)
      rw [Nat.testBit_lt_two_pow (by omega), Nat.testBit_lt_two_pow (by omega)]
  · have a : l[i]? = m[i]? := by
      have : (l.drop 64)[i - 64]? = (m.drop 64)[i - 64]? := by rw [hd]
      rw [List.getElem?_drop, List.getElem?_drop, show 64 + (i - 64) = i by omega] at this
      exact this
    rw [List.getElem?_eq_getElem h1, List.getElem?_eq_getElem h2] at a
    exact Option.some.inj a

/-- How many of the first n pages are free. -/
def freeN (l : List UInt8) : Nat → Nat
  | 0 => 0
  | n + 1 => freeN l n + if tk l n = true then 0 else 1
/-- How many pages side by side, up to page n, are free. -/
def haveN (l : List UInt8) : Nat → Nat
  | 0 => 0
  | n + 1 => if tk l n = true then 0 else haveN l n + 1
def capN (pages : Int) : Nat := (min pages 512).toNat
/-- The first place, of the first i, where n pages side by side end that are free. -/
def sideN (l : List UInt8) (n : Int) : Nat → Option Nat
  | 0 => none
  | i + 1 => match sideN l n i with
    | some x => some x
    | none => if (haveN l (i + 1) : Int) = n then some i else none
def sideX (l : List UInt8) (pages n : Int) : Option Nat := if n < 1 then none else sideN l n (capN pages)
def sideV (l : List UInt8) (pages n : Int) : Int × Int := match sideX l pages n with | some i => ((i : Int) + 1 - n, n) | none => (0, 0)
def sideB (l : List UInt8) (pages n : Int) : Bool := (sideX l pages n).isSome

theorem freeN_le (l : List UInt8) (n : Nat) : freeN l n ≤ n := by
  induction n with
  | zero => exact Nat.le_refl _
  | succ n ih => unfold freeN; split <;> omega
theorem haveN_le (l : List UInt8) (n : Nat) : haveN l n ≤ freeN l n := by
  induction n with
  | zero => exact Nat.le_refl _
  | succ n ih => unfold haveN freeN; split <;> omega
theorem freeN_mono (l : List UInt8) {i n : Nat} (h : i ≤ n) : freeN l i ≤ freeN l n := by
  induction n with
  | zero => obtain rfl : i = 0 := by omega
            exact Nat.le_refl _
  | succ n ih =>
    by_cases e : i = n + 1
    · subst e; exact Nat.le_refl _
    · have := ih (by omega)
      show _ ≤ freeN l n + _
      omega
theorem sideN_keep (l : List UInt8) (n : Int) {i m x : Nat} (h : sideN l n i = some x) (hm : i ≤ m) : sideN l n m = some x := by
  induction m with
  | zero => obtain rfl : i = 0 := by omega
            exact h
  | succ m ih =>
    by_cases e : i = m + 1
    · subst e; exact h
    · unfold sideN; rw [ih (by omega)]
theorem sideN_hit (l : List UInt8) (n : Int) {i m : Nat} (h0 : sideN l n i = none) (h : (haveN l (i + 1) : Int) = n) (hm : i < m) : sideN l n m = some i := by
  refine sideN_keep l n (i := i + 1) ?_ hm
  unfold sideN
  rw [h0]
  exact if_pos h
theorem sideN_miss (l : List UInt8) (n : Int) {i : Nat} (h0 : sideN l n i = none) (h : ¬ (haveN l (i + 1) : Int) = n) : sideN l n (i + 1) = none := by
  unfold sideN
  rw [h0]
  exact if_neg h
theorem sideN_free (l : List UInt8) (n : Int) {m x : Nat} (h : sideN l n m = some x) : n ≤ freeN l m := by
  induction m with
  | zero => cases h
  | succ m ih =>
    have hm := freeN_mono l (show m ≤ m + 1 by omega)
    unfold sideN at h
    cases h0 : sideN l n m with
    | some y => have := ih (by rw [h0] at h; rw [h0]; exact h)
                omega
    | none =>
      rw [h0] at h
      by_cases e : (haveN l (m + 1) : Int) = n
      · have := haveN_le l (m + 1)
        omega
      · simp [e] at h

/-- Runs with page i behind them. -/
def addP (r : List (Int × Int)) (i : Int) : List (Int × Int) := match r.getLast? with
  | some x => if x.1 + x.2 = i then r.dropLast ++ [(x.1, x.2 + 1)] else r ++ [(i, 1)]
  | none => [(i, 1)]
theorem addP_nil (i : Int) : addP [] i = [(i, 1)] := rfl
theorem addP_on (r : List (Int × Int)) (x : Int × Int) (i : Int) (h : x.1 + x.2 = i) : addP (r ++ [x]) i = r ++ [(x.1, x.2 + 1)] := by
  unfold addP
  rw [List.getLast?_concat]
  simp only [h, if_true, List.dropLast_concat]
theorem addP_new (r : List (Int × Int)) (x : Int × Int) (i : Int) (h : ¬ x.1 + x.2 = i) : addP (r ++ [x]) i = r ++ [x] ++ [(i, 1)] := by
  unfold addP
  rw [List.getLast?_concat]
  simp only [h, if_false]
/-- The first k free pages of the first i, as runs. -/
def runsN (l : List UInt8) (k : Nat) : Nat → List (Int × Int)
  | 0 => []
  | i + 1 => if freeN l i < k ∧ tk l i = false then addP (runsN l k i) i else runsN l k i
def someB (l : List UInt8) (pages n : Int) : Bool := decide (n.toNat ≤ freeN l (capN pages))
def someV (l : List UInt8) (pages n : Int) : List (Int × Int) := if someB l pages n = true then runsN l n.toNat (capN pages) else []

theorem runsN_full (l : List UInt8) (k : Nat) {i m : Nat} (h : k ≤ freeN l i) (hm : i ≤ m) : runsN l k m = runsN l k i := by
  induction m with
  | zero => obtain rfl : i = 0 := by omega
            rfl
  | succ m ih =>
    by_cases e : i = m + 1
    · subst e; rfl
    · have := freeN_mono l (show i ≤ m by omega)
      rw [← ih (by omega)]
      show (if freeN l m < k ∧ tk l m = false then addP (runsN l k m) m else runsN l k m) = _
      rw [if_neg (fun hh => by omega)]

def endOf (a : Int) (r : List (Int × Int)) : Int := r.foldl (fun _ x => x.1 + x.2) a
theorem endOf_snoc (a : Int) (r : List (Int × Int)) (x : Int × Int) : endOf a (r ++ [x]) = x.1 + x.2 := by unfold endOf; rw [List.foldl_append]; rfl
def sumL : List (Int × Int) → Int
  | [] => 0
  | x :: r => x.2 + sumL r
theorem sumL_snoc (r : List (Int × Int)) (x : Int × Int) : sumL (r ++ [x]) = sumL r + x.2 := by
  induction r with
  | nil => show x.2 + 0 = 0 + x.2; omega
  | cons y r ih => show y.2 + sumL (r ++ [x]) = y.2 + sumL r + x.2; rw [ih]; omega
/-- Runs from a on: free, all between is taken. -/
def Gap (l : List UInt8) : Int → List (Int × Int) → Prop
  | _, [] => True
  | a, x :: r => a ≤ x.1 ∧ 1 ≤ x.2 ∧ (∀ p, a ≤ p → p < x.1 → tkI l p = true) ∧ (∀ p, x.1 ≤ p → p < x.1 + x.2 → tkI l p = false) ∧ Gap l (x.1 + x.2) r
theorem Gap_snoc (l : List UInt8) (x : Int × Int) (r : List (Int × Int)) : ∀ a, Gap l a (r ++ [x]) ↔ Gap l a r ∧ Gap l (endOf a r) [x] := by
  induction r with
  | nil => intro a; show Gap l a [x] ↔ True ∧ Gap l a [x]; simp
  | cons y r ih =>
    intro a
    show (_ ∧ _ ∧ _ ∧ _ ∧ Gap l (y.1 + y.2) (r ++ [x])) ↔ (_ ∧ _ ∧ _ ∧ _ ∧ Gap l (y.1 + y.2) r) ∧ Gap l (endOf (y.1 + y.2) r) [x]
    rw [ih]
    constructor
    · rintro ⟨a, b, c, d, e, f⟩; exact ⟨⟨a, b, c, d, e⟩, f⟩
    · rintro ⟨⟨a, b, c, d, e⟩, f⟩; exact ⟨a, b, c, d, e, f⟩
theorem snoc_cases (r : List (Int × Int)) : r = [] ∨ ∃ r' x, r = r' ++ [x] := by
  by_cases h : r = []
  · exact .inl h
  · exact .inr ⟨r.dropLast, r.getLast h, (List.dropLast_concat_getLast h).symm⟩
theorem inR_snoc (r : List (Int × Int)) (x : Int × Int) (q : Nat) : inR (r ++ [x]) q = (inR r q || (decide (x.1 ≤ q) && decide ((q : Int) < x.1 + x.2))) := by
  unfold inR; rw [List.any_append]; simp

structure Runs (l : List UInt8) (k i : Nat) (r : List (Int × Int)) : Prop where
  gap : Gap l 0 r
  sum : sumL r = (min k (freeN l i) : Nat)
  last : endOf 0 r ≤ i
  pos : 0 ≤ endOf 0 r
  rest : freeN l i < k → ∀ p : Int, endOf 0 r ≤ p → p < i → tkI l p = true
  has : ∀ q : Nat, inR r q = decide (q < i ∧ tk l q = false ∧ freeN l q < k)
  all : ∀ x ∈ r, 0 ≤ x.1 ∧ 1 ≤ x.2 ∧ x.1 + x.2 ≤ i

theorem freeN_free {l : List UInt8} {i : Nat} (h : tk l i = false) : freeN l (i + 1) = freeN l i + 1 := by
  show freeN l i + _ = _; rw [h]; rfl
theorem freeN_taken {l : List UInt8} {i : Nat} (h : tk l i = true) : freeN l (i + 1) = freeN l i := by
  show freeN l i + _ = _; rw [h]; rfl
theorem has_step {l : List UInt8} {k i q : Nat} (h : freeN l i < k) (ht : tk l i = false) : decide (q < i + 1 ∧ tk l q = false ∧ freeN l q < k) = (decide (q < i ∧ tk l q = false ∧ freeN l q < k) || decide (q = i)) := by
  by_cases e : q = i
  · subst e; simp [h, ht]
  · have : q < i + 1 ↔ q < i := by omega
    simp [e, this]
theorem runs_is (l : List UInt8) (k i : Nat) : Runs l k i (runsN l k i) := by
  induction i with
  | zero =>
    have e0 : endOf 0 (runsN l k 0) = 0 := rfl
    refine ⟨trivial, ?_, Int.le_refl _, Int.le_refl _, ?_, fun q => by simp [inR, runsN], fun x hx => by cases hx⟩
    · show (0 : Int) = _; simp [freeN]
    · intro _ p h1 h2; rw [e0] at h1; omega
  | succ i ih =>
    unfold runsN
    by_cases h : freeN l i < k ∧ tk l i = false
    · rw [if_pos h]
      obtain ⟨h1, h2⟩ := h
      have hf := freeN_free h2
      have hi0 : tkI l (i : Int) = false := by rw [tkI_nat]; exact h2
      obtain ⟨g, s, hl, hp, hr, hh, ha⟩ := ih
      rcases snoc_cases (runsN l k i) with e | ⟨r, x, e⟩
      · rw [e] at g s hl hp hr hh ha
        rw [e, addP_nil]
        have hr' := hr h1
        have e0 : endOf 0 ([] : List (Int × Int)) = 0 := rfl
        have e1 : sumL ([] : List (Int × Int)) = 0 := rfl
        rw [e0] at hr'
        have e2 : endOf 0 [((i : Int), (1 : Int))] = i + 1 := rfl
        refine ⟨⟨by show (0 : Int) ≤ (i : Int); omega, Int.le_refl _, fun p a b => hr' p a b, fun p a b => ?_, trivial⟩, ?_, ?_, ?_, ?_, ?_, ?_⟩
        · have : p = (i : Int) := by simp at a b; omega
          rw [this]; exact hi0
        · show (1 : Int) + 0 = _
          rw [e1] at s
          omega
        · rw [e2]; omega
        · rw [e2]; omega
        · intro _ p a b; rw [e2] at a; omega
        · intro q
          rw [has_step h1 h2, ← hh q]
          show ((decide ((i : Int) ≤ q) && decide ((q : Int) < i + 1)) || false) = (false || _)
          by_cases c : q = i
          · subst c; simp; omega
          · have : ¬ ((i : Int) ≤ q ∧ (q : Int) < i + 1) := by omega
            simp [c]; omega
        · intro y hy
          obtain rfl : y = ((i : Int), 1) := by simpa using hy
          exact ⟨by show (0 : Int) ≤ i; omega, Int.le_refl _, by show (i : Int) + 1 ≤ _; omega⟩
      · rw [e] at g s hl hp hr hh ha
        rw [e]
        rw [endOf_snoc] at hl hp hr
        rw [sumL_snoc] at s
        have hx := ha x (by simp)
        have hr' := hr h1
        rw [Gap_snoc] at g
        obtain ⟨g1, g2, g3, g4, g5, _⟩ := g
        by_cases c : x.1 + x.2 = i
        · rw [addP_on _ _ _ c]
          refine ⟨?_, ?_, ?_, ?_, ?_, ?_, ?_⟩
          · rw [Gap_snoc]
            refine ⟨g1, g2, by show (1 : Int) ≤ x.2 + 1; omega, g4, fun p a b => ?_, trivial⟩
            by_cases cc : p = (i : Int)
            · rw [cc]; exact hi0
            · exact g5 p a (by show p < x.1 + x.2; have : p < x.1 + (x.2 + 1) := b; omega)
          · rw [sumL_snoc]; show sumL r + (x.2 + 1) = _; omega
          · rw [endOf_snoc]; show x.1 + (x.2 + 1) ≤ _; omega
          · rw [endOf_snoc]; show 0 ≤ x.1 + (x.2 + 1); omega
          · intro _ p a b; rw [endOf_snoc] at a; have : x.1 + (x.2 + 1) ≤ p := a; omega
          · intro q
            rw [has_step h1 h2, ← hh q, inR_snoc, inR_snoc]
            have : (decide (x.1 ≤ (q : Int)) && decide ((q : Int) < x.1 + (x.2 + 1))) = ((decide (x.1 ≤ (q : Int)) && decide ((q : Int) < x.1 + x.2)) || decide (q = i)) := by
              rw [Bool.eq_iff_iff]
              simp only [Bool.and_eq_true, Bool.or_eq_true, decide_eq_true_eq]
              omega
            show (inR r q || (decide (x.1 ≤ (q : Int)) && decide ((q : Int) < x.1 + (x.2 + 1)))) = _
            rw [this, Bool.or_assoc]
          · intro y hy
            rcases List.mem_append.1 hy with hy | hy
            · have := ha y (List.mem_append.2 (.inl hy)); omega
            · obtain rfl : y = (x.1, x.2 + 1) := by simpa using hy
              exact ⟨hx.1, by show (1 : Int) ≤ x.2 + 1; omega, by show x.1 + (x.2 + 1) ≤ _; omega⟩
        · rw [addP_new _ _ _ c]
          refine ⟨?_, ?_, ?_, ?_, ?_, ?_, ?_⟩
          · rw [Gap_snoc, Gap_snoc, endOf_snoc]
            refine ⟨⟨g1, g2, g3, g4, g5, trivial⟩, by show x.1 + x.2 ≤ (i : Int); omega, Int.le_refl _, fun p a b => hr' p a b, fun p a b => ?_, trivial⟩
            have : p = (i : Int) := by simp at a b; omega
            rw [this]; exact hi0
          · rw [sumL_snoc, sumL_snoc]; show sumL r + x.2 + 1 = _; omega
          · rw [endOf_snoc]; show (i : Int) + 1 ≤ _; omega
          · rw [endOf_snoc]; show 0 ≤ (i : Int) + 1; omega
          · intro _ p a b; rw [endOf_snoc] at a; have : (i : Int) + 1 ≤ p := a; omega
          · intro q
            rw [has_step h1 h2, ← hh q, inR_snoc _ ((i : Int), 1)]
            congr 1
            rw [Bool.eq_iff_iff]
            simp only [Bool.and_eq_true, decide_eq_true_eq]
            omega
          · intro y hy
            rcases List.mem_append.1 hy with hy | hy
            · have := ha y hy; omega
            · obtain rfl : y = ((i : Int), 1) := by simpa using hy
              exact ⟨by show (0 : Int) ≤ i; omega, Int.le_refl _, by show (i : Int) + 1 ≤ _; omega⟩
    · rw [if_neg h]
      obtain ⟨g, s, hl, hp, hr, hh, ha⟩ := ih
      refine ⟨g, ?_, by omega, hp, ?_, ?_, fun x hx => by have := ha x hx; omega⟩
      · rw [s]
        cases ht : tk l i with
        | true => rw [freeN_taken ht]
        | false =>
          rw [freeN_free ht]
          have : ¬ freeN l i < k := fun hh => h ⟨hh, ht⟩
          omega
      · intro hk p a b
        cases ht : tk l i with
        | true =>
          rw [freeN_taken ht] at hk
          by_cases c : p = (i : Int)
          · rw [c, tkI_nat]; exact ht
          · exact hr hk p a (by omega)
        | false =>
          rw [freeN_free ht] at hk
          exact absurd ⟨by omega, ht⟩ h
      · intro q
        rw [hh q]
        by_cases c : q = i
        · subst c
          simp
          intro a
          have : ¬ freeN l q < k := fun hh => h ⟨hh, a⟩
          omega
        · have : q < i + 1 ↔ q < i := by omega
          simp [this]

theorem runs_few (l : List UInt8) (k i : Nat) (hi : i ≤ 512) : ∀ x ∈ runsN l k i, 0 ≤ x.2 ∧ x.2 ≤ 512 := fun x hx => by
  have := (runs_is l k i).all x hx
  omega
theorem freeN_marked (l : List UInt8) (k m : Nat) (hm : m ≤ 512) (h64 : 64 ≤ l.length) : ∀ i, i ≤ m → freeN (markL l true (runsN l k m)) i = freeN l i - k := by
  intro i
  induction i with
  | zero => intro _; show 0 = 0 - k; omega
  | succ i ih =>
    intro hi
    have hx : tk (markL l true (runsN l k m)) i = (tk l i || decide (freeN l i < k)) := by
      rw [tk_markL true i _ l (runs_few l k m hm), (runs_is l k m).has i, (has_is l i).2 ⟨by omega, by omega⟩]
      cases tk l i
      · simp; omega
      · simp
    show freeN (markL l true (runsN l k m)) i + _ = freeN l i + _ - k
    rw [hx, ih (by omega)]
    cases ht : tk l i with
    | true => simp
    | false =>
      by_cases c : freeN l i < k
      · simp [c]; omega
      · simp [c]; omega
theorem mark_back (l : List UInt8) (k m : Nat) (hm : m ≤ 512) : markL (markL l true (runsN l k m)) false (runsN l k m) = l := by
  have hr := runs_few l k m hm
  refine bytes_ext (by rw [markL_len, markL_len]) (fun p => ?_) (by rw [markL_drop, markL_drop])
  rw [tk_markL false p _ _ hr, tk_markL true p _ _ hr, has_len (markL_len true _ l), (runs_is l k m).has p]
  by_cases h : has l p = true
  · cases ht : tk l p with
    | true => simp
    | false =>
      by_cases c : p < m ∧ freeN l p < k
      · simp [h, c]
      · have : ¬ (p < m ∧ freeN l p < k) := c
        have e : ¬ (p < m ∧ freeN l p < k) := this
        simp [h, e]
  · rw [if_neg (fun hh => h hh.1), if_neg (fun hh => h hh.1)]

/-- Where the catalog begins. -/
def rootN (l : List UInt8) : Nat := if l.length < 66 then 0 else (l.getD 64 0).toNat * 256 + (l.getD 65 0).toNat
def setR (l : List UInt8) (no : Int) : List UInt8 := if l.length < 66 ∨ no < 0 ∨ 512 ≤ no then l else l.take 64 ++ [UInt8.ofNat (no.toNat / 256), UInt8.ofNat (no.toNat % 256)] ++ l.drop 66
theorem getD_drop (l : List UInt8) (j : Nat) : l.getD (64 + j) 0 = (l.drop 64).getD j 0 := by
  rw [List.getD_eq_getElem?_getD, List.getD_eq_getElem?_getD, List.getElem?_drop]
theorem rootN_same {l m : List UInt8} (h : m.length = l.length) (hd : m.drop 64 = l.drop 64) : rootN m = rootN l := by
  unfold rootN
  rw [h, getD_drop m 0, getD_drop m 1, hd, ← getD_drop l 0, ← getD_drop l 1]
theorem setR_len (l : List UInt8) (no : Int) : (setR l no).length = l.length := by
  unfold setR
  split
  · rfl
  · simp; omega
theorem rootN_set (l : List UInt8) (no : Nat) (h : 66 ≤ l.length) (hn : no < 512) : rootN (setR l no) = no := by
  have hl := setR_len l no
  unfold rootN
  rw [hl, if_neg (by omega)]
  unfold setR
  rw [if_neg (by omega), Int.toNat_natCast]
  have ht : (l.take 64).length = 64 := by simp; omega
  have e0 : (l.take 64 ++ [UInt8.ofNat (no / 256), UInt8.ofNat (no % 256)] ++ l.drop 66).getD 64 0 = UInt8.ofNat (no / 256) := by
    rw [List.append_assoc, List.getD_eq_getElem?_getD, List.getElem?_append_right (by omega), ht]
    rfl
  have e1 : (l.take 64 ++ [UInt8.ofNat (no / 256), UInt8.ofNat (no % 256)] ++ l.drop 66).getD 65 0 = UInt8.ofNat (no % 256) := by
    rw [List.append_assoc, List.getD_eq_getElem?_getD, List.getElem?_append_right (by omega), ht]
    rfl
  rw [e0, e1, UInt8.toNat_ofNat', UInt8.toNat_ofNat']
  omega
theorem tk_setR (l : List UInt8) (no : Int) (p : Nat) : tk (setR l no) p = tk l p := by
  unfold tk
  rw [has_len (setR_len l no)]
  cases h : has l p with
  | false => rfl
  | true =>
    have h' := (has_is l p).1 h
    congr 2
    unfold setR
    split
    · rfl
    · rw [List.append_assoc, List.getD_eq_getElem?_getD, List.getElem?_append_left (by simp; omega), List.getElem?_take, if_pos (by omega), List.getD_eq_getElem?_getD]

end Go.Proofs.Ytjlcmmidbeikdaa
