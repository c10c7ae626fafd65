/- Contracts and plain mathematics that the statement's proof wants: no statement is proved here, nothing is assumed. -/
import Derived.Test.YtnbbijpmkhdgpaaGreatRows
import Derived.WalkKit
import Derived.WalkSpells
import Derived.WalkLawsBesides
import Derived.Lib.Hide
import Derived.Deep.AppendLies
import Derived.Deep.Draws
import Derived.Test.YtnbbijpmkhdgpaaGreatMg02
import Derived.Test.YtnbbijpmkhdgpaaGreatMg03
import Derived.Test.YtnbbijpmkhdgpaaGreatMg04
/- VLaws -/
namespace Go.Proofs.YtnbbijpmkhdgpaaGreat.Vlt
open Go.RowKit
open Dsk
open Ent (isE parseE leafL homeB homeV)

section
variable {x : Sh} {P Q : Nat → List UInt8} {m : Int} {v : VK}

theorem home_len {s : List UInt8} {no : Int} (h : homeB s no = true) : (homeV s no).length = 208 := by
  unfold homeB at h
  unfold homeV
  split
  · exact Ent.zer_len _
  · rename_i hz
    have hz' : (s == Ent.zer 256) = false := by simpa using hz
    rw [hz', Bool.false_or] at h
    rw [if_pos h]
    rw [Bool.and_eq_true, beq_iff_eq] at h
    obtain ⟨hb, hl⟩ := h
    unfold Ent.dataH at *
    rw [List.length_take]
    have hgood : s.length = 256 := by
      rw [← hl]
      exact Ent.leaf_len (by rw [List.length_take]; omega)
    have : 250 ≤ (Ent.tapeH s no).rest.length := by
      unfold Ent.tapeH at hb ⊢
      have hm : Wire.markS Ent.leafK ⟨s, false⟩ = ⟨s.drop 4, false⟩ := by
        by_cases e : s.take 4 = Ent.leafK
        · exact Ent.mark_good (by show 4 ≤ _; omega) e
        · have := Ent.num_bad (k := 2) (lo := no) (hi := no) (Ent.mark_bad (m := Ent.leafK) (s := s) e)
          rw [this] at hb
          cases hb
      rw [hm]
      unfold Wire.numS
      split
      · show 250 ≤ ((s.drop 4).drop 2).length
        rw [List.length_drop, List.length_drop]; omega
      · show 250 ≤ (s.drop 4).length
        rw [List.length_drop]; omega
    omega

/-- The law's knowledge of a vault, live or without power. -/
inductive KInv (x : Sh) (m : Int) (v : VK) (now sure maybe : Nat → List UInt8) : Prop where
  | live (r : Rest x sure m v) (n : ∀ p, p < PN x → ovr v.dirty sure p = now p) : KInv x m v now sure maybe
  | down (d : Down x sure maybe m v.disk) (s : v.shape = x) (y : v.dirty = []) (n : ∀ p, p < PN x → now p = sure p) : KInv x m v now sure maybe

theorem Rest.to (h : Rest x P m v) (e : ∀ p, p < PN x → P p = Q p) : Rest x Q m v :=
  { h with homes := h.homes.to e, recs := by obtain ⟨R, r1, r2⟩ := h.recs; exact ⟨R, r1, fun p g => (r2 p g).trans (e p g)⟩ }
theorem Up.to {S : Nat → ByteArray} (h : Up x P m S) (e : ∀ p, p < PN x → P p = Q p) : Up x Q m S :=
  ⟨h.head, by obtain ⟨R, r1, r2⟩ := h.recs; exact ⟨R, r1, fun p g => (r2 p g).trans (e p g)⟩, h.seqs⟩
theorem Down.to {P' Q' : Nat → List UInt8} {d : DK} (h : Down x P Q m d) (e : ∀ p, p < PN x → P p = P' p) (f : ∀ p, p < PN x → Q p = Q' p) : Down x P' Q' m d :=
  ⟨h.pl, h.dead, fun S hS => by
    rcases h.mix S hS with u | u
    · exact .inl (u.to e)
    · exact .inr (u.to f)⟩
theorem Down.more {d : DK} {m' : Int} (h : Down x P Q m d) (hm : m ≤ m') : Down x P Q m' d :=
  ⟨h.pl, h.dead, fun S hS => by
    rcases h.mix S hS with u | u
    · exact .inl (u.more hm)
    · exact .inr (u.more hm)⟩
theorem Down.armed {d : DK} (h : Down x P Q m d) (k : Int) (h1 : -1 ≤ k) (h2 : k ≤ 9223372036854775807) : Down x P Q m { d with left := k } := by
  obtain ⟨i, hp, hi⟩ := h.pl
  exact ⟨⟨i, ⟨⟨hp.good.sure, hp.good.wet, h1, h2⟩, hp.rise, hp.inn⟩, hi⟩, h.dead, h.mix⟩

theorem read_down {no : Int} (h : v.disk.dead = true) : (readV v no).2 = 1 ∨ (readV v no).2 = 12 := by
  unfold readV
  split
  · exact .inl rfl
  · first | exact .inr rfl | (rw [if_pos h]; exact .inr rfl)
theorem write_down {no : Int} {data : List UInt8} (h : v.disk.dead = true) : (writeV v no data).1 = v ∧ ((writeV v no data).2 = 1 ∨ (writeV v no data).2 = 12) := by
  unfold writeV
  split
  · exact ⟨rfl, .inl rfl⟩
  · first | exact ⟨rfl, .inr rfl⟩ | (rw [if_pos h]; exact ⟨rfl, .inr rfl⟩)
theorem commit_down (h : v.disk.dead = true) : commitV v = (v, 12) := by unfold commitV; rw [if_pos h]

/-- A page is written, or refused. -/
theorem write_any (hx : rightS x = true) (h : Rest x P m v) (no : Int) (data : List UInt8) :
    ((writeV v no data).2 = 0 ∧ ∃ k : Nat, no = k ∧ k < PN x ∧ data.length ≤ 208 ∧ Rest x P m (writeV v no data).1 ∧ (writeV v no data).1.seq = v.seq ∧ (writeV v no data).1.disk = v.disk ∧ ∀ j, ovr (writeV v no data).1.dirty P j = if j = k then padP data else ovr v.dirty P j) ∨
    ((writeV v no data).2 = 1 ∧ (writeV v no data).1 = v) := by
  obtain ⟨a, b, c, e1, e2, f⟩ := right_nat hx
  by_cases hc : hasP v no ∧ data.length ≤ 208
  · obtain ⟨k, rfl⟩ : ∃ k : Nat, no = (k : Int) := ⟨no.toNat, by have := hc.1.1; omega⟩
    have hk : k < PN x := by
      have := hc.1.2
      rw [h.shape, a] at this
      omega
    obtain ⟨g1, g2, g3, g4, g5⟩ := write_rest hx h hk hc.2
    exact .inl ⟨g1, k, rfl, hk, hc.2, g2, g3, g4, g5⟩
  · rw [write_no hc]
    exact .inr ⟨rfl, rfl⟩
theorem read_any (hx : rightS x = true) (h : Rest x P m v) (no : Int) :
    ((readV v no).2 = 0 ∧ ∃ k : Nat, no = k ∧ k < PN x ∧ (readV v no).1 = ovr v.dirty P k) ∨ (readV v no).2 = 1 := by
  obtain ⟨a, b, c, e1, e2, f⟩ := right_nat hx
  by_cases hc : hasP v no
  · obtain ⟨k, rfl⟩ : ∃ k : Nat, no = (k : Int) := ⟨no.toNat, by have := hc.1; omega⟩
    have hk : k < PN x := by
      have := hc.2
      rw [h.shape, a] at this
      omega
    rw [read_rest hx h hk]
    exact .inl ⟨rfl, k, rfl, hk, rfl⟩
  · unfold readV
    rw [if_pos hc]
    exact .inr rfl

/-- It never dies that may do any number of deeds. -/
theorem commit_left (hx : rightS x = true) (h : Rest x P m v) (hm : m ≤ 2147483647) (hl : v.disk.left = -1) : (commitV v).2 ≠ 12 ∧ (commitV v).1.disk.left = -1 := by
  have hs := h.shape
  obtain ⟨a, b, c, d, e, f⟩ := right_nat hx
  unfold commitV
  rw [if_neg (by simp [h.up])]
  by_cases hd : v.dirty = []
  · rw [if_pos hd]; exact ⟨by simp, hl⟩
  rw [if_neg hd]
  by_cases hc : (v.dirty.length : Int) + 1 > v.shape.journal
  · rw [if_pos hc]; exact ⟨by simp, hl⟩
  rw [if_neg hc]
  have hc' : v.dirty.length < JN x := by rw [hs, b] at hc; omega
  have hlow := h.low
  have hlw := log_ok (s := v.seq) hx h.lok h.seq1 (by omega) hc'
  obtain ⟨w1, w2⟩ := wf_left h.pl h.up hl hlw
  rw [if_neg (by simp [w1]), hs]
  rcases wf_is h.pl h.up hlw with ⟨g1, g2, g3, g4, g5, g6⟩ | ⟨g1, _⟩
  · obtain ⟨u1, u2⟩ := wf_left g4 g2 w2 (home_ok hx h.lok)
    rw [if_neg (by simp [u1])]
    exact ⟨by simp, u2⟩
  · omega

/-- Whatever stands on a disk that has its shape. -/
theorem open_any {d : DK} (hx : rightS x = true) (hp : Pl (NN x) 0 d) (hup : d.dead = false) (hleft : d.left = -1) (hh : sureB d 0 = strB (printL x)) :
    (openV d = (zeroV, d, 14)) ∨ ∃ v, openV d = (v, v.disk, 0) ∧ v.shape = x ∧ v.dirty = [] ∧ 1 ≤ v.seq ∧ v.seq ≤ 2147483647 ∧ Pl (NN x) 0 v.disk ∧ v.disk.dead = false := by
  obtain ⟨a, b, c, e1, e2, f⟩ := right_nat hx
  obtain ⟨s1, s2, s3⟩ := sec_is hp hup
  have hh : headS d = printL x := by rw [s2, hh, strB_toL]
  have hps : x = parseS (headS d) := by rw [hh, parse_print hx]
  have his : isS (headS d) = true := by rw [hh]; exact is_print hx
  have hsz : (d.sure.length : Int) = sizeX x := by rw [size_nat hx, hp.good.sure]
  obtain ⟨mo, hmo⟩ : ∃ mo, mo = mostF (secK d) x.journal.toNat := ⟨_, rfl⟩
  obtain ⟨l, hl⟩ : ∃ l, l = jl x.pages x.journal.toNat (secK d) := ⟨_, rfl⟩
  have hm0 : 0 ≤ mo := by rw [hmo]; exact most_nn _ _
  have hlo : LOk (PN x) l := by rw [hl, a]; exact jl_ok _ _ _
  rw [openV_is hps hmo hl rfl, s3, if_neg (by omega), if_neg (by simp [his, hsz])]
  by_cases hm : 2147483647 ≤ mo
  · rw [if_pos hm]; exact .inl rfl
  rw [if_neg hm]
  refine .inr ?_
  by_cases hn : l = []
  · rw [if_pos hn]
    exact ⟨_, rfl, rfl, rfl, by dsimp only; omega, by dsimp only; omega, hp, hup⟩
  · rw [if_neg hn]
    have hok := home_ok hx hlo
    obtain ⟨w1, w2⟩ := wf_left hp hup hleft hok
    rw [if_neg (by simp [w1])]
    rcases wf_is hp hup hok with ⟨k1, k2, k3, k4, k5, k6⟩ | ⟨k1, _⟩
    · exact ⟨_, rfl, rfl, rfl, by dsimp only; omega, by dsimp only; omega, k4, k2⟩
    · omega
/-- What is read of it. -/
theorem read_opened {no : Nat} (hx : rightS x = true) (hs : v.shape = x) (hd : v.dirty = []) (hp : Pl (NN x) 0 v.disk) (hup : v.disk.dead = false) (hn : no < PN x) :
    ((readV v no).2 = 0 ∧ (readV v no).1.length = 208) ∨ (readV v no).2 = 2 := by
  obtain ⟨a, b, c, e1, e2, f⟩ := right_nat hx
  have hok : hasP v no := ⟨by omega, by rw [hs, a]; omega⟩
  have hf : findL v.dirty no = none := by rw [hd]; rfl
  have hr := rd_is hp hup (a := 1 + JN x + no) (by unfold NN; omega)
  have e : readV v no = if homeB (nowB v.disk (1 + JN x + no)).data.toList no = true then (homeV (nowB v.disk (1 + JN x + no)).data.toList no, 0) else ([], 2) := by
    unfold readV
    rw [if_neg (by simp [hok]), if_neg (by simp [hup]), hf]
    dsimp only
    rw [hs, place_nat hx (by omega), hr.2, if_neg (by omega), hr.1]
  rw [e]
  split
  · rename_i h
    exact .inl ⟨rfl, home_len h⟩
  · exact .inr rfl

/-- VaultKeeps' steps, live. -/
theorem keep_write {now sure maybe : Nat → List UInt8} (hx : rightS x = true) (h : KInv x m v now sure maybe) (no : Int) (data : List UInt8) :
    (((writeV v no data).2 = 0 ∧ ∃ k : Nat, no = k ∧ k < PN x ∧ data.length ≤ 208 ∧ KInv x m (writeV v no data).1 (fun j => if j = k then padP data else now j) sure maybe) ∨
    ((writeV v no data).2 ≠ 0 ∧ (writeV v no data).1 = v)) ∧ (writeV v no data).1.disk.dead = v.disk.dead := by
  cases h with
  | live r n =>
    rcases write_any hx r no data with ⟨e, k, e1, e2, e3, e4, e5, e6, e7⟩ | ⟨e, e1⟩
    · refine ⟨.inl ⟨e, k, e1, e2, e3, .live e4 fun p hp => ?_⟩, by rw [e6]⟩
      rw [e7]
      split
      · rfl
      · exact n p hp
    · exact ⟨.inr ⟨by omega, e1⟩, by rw [e1]⟩
  | down d s y n =>
    obtain ⟨e1, e2⟩ := write_down (v := v) (no := no) (data := data) d.dead
    exact ⟨.inr ⟨by omega, e1⟩, by rw [e1]⟩
theorem keep_read {now sure maybe : Nat → List UInt8} (hx : rightS x = true) (h : KInv x m v now sure maybe) (no : Int) :
    ((readV v no).2 = 0 ∧ ∃ k : Nat, no = k ∧ k < PN x ∧ (readV v no).1 = now k) ∨ (readV v no).2 ≠ 0 := by
  cases h with
  | live r n =>
    rcases read_any hx r no with ⟨e, k, e1, e2, e3⟩ | e
    · exact .inl ⟨e, k, e1, e2, e3.trans (n k e2)⟩
    · exact .inr (by omega)
  | down d s y n =>
    have := read_down (v := v) (no := no) d.dead
    exact .inr (by omega)
/-- A commit: done (0), refused (8), or the power gone (12). -/
theorem keep_commit {now sure maybe : Nat → List UInt8} (hx : rightS x = true) (h : KInv x m v now sure maybe) (hm : m ≤ 2147483647) :
    ((commitV v).2 = 0 ∧ (commitV v).1.disk.dead = false ∧ KInv x (m + 1) (commitV v).1 now now now) ∨
    ((commitV v).2 = 8 ∧ (commitV v).1.disk.dead = false ∧ KInv x (m + 1) (commitV v).1 sure sure maybe) ∨
    ((commitV v).2 = 12 ∧ v.disk.dead = false ∧ (commitV v).1.disk.dead = true ∧ KInv x (m + 1) { (commitV v).1 with dirty := [] } sure sure now) ∨
    ((commitV v).2 = 12 ∧ v.disk.dead = true ∧ (commitV v).1 = v) := by
  cases h with
  | live r n =>
    rcases commit_is hx r hm with ⟨a, b⟩ | ⟨a, b, c⟩ | ⟨a, b, c, d, e, f⟩ | ⟨a, b, c, d, e, f, g⟩
    · rw [b]
      refine .inl ⟨rfl, r.up, .live ((r.to (Q := now) fun p hp => ?_).more (by omega)) fun p hp => ?_⟩
      · rw [← n p hp, a]; rfl
      · rw [a]; rfl
    · rw [c]
      exact .inr (.inl ⟨rfl, r.up, .live (r.clean.more (by omega)) fun p hp => rfl⟩)
    · exact .inl ⟨c, d.up, .live (d.to (Q := now) n) fun p hp => by rw [e]; rfl⟩
    · exact .inr (.inr (.inl ⟨c, r.up, d.dead, .down ((d.to (fun _ _ => rfl) n).more (by omega)) g rfl fun p hp => rfl⟩))
  | down d s y n =>
    rw [commit_down d.dead]
    exact .inr (.inr (.inr ⟨rfl, d.dead, rfl⟩))
theorem keep_arm {now sure maybe : Nat → List UInt8} (h : KInv x m v now sure maybe) (k : Int) (h1 : -1 ≤ k) (h2 : k ≤ 9223372036854775807) : KInv x m { v with disk := { v.disk with left := k } } now sure maybe := by
  cases h with
  | live r n => exact .live (r.armed k h1 h2) n
  | down d s y n => exact .down (d.armed k h1 h2) s y n
/-- Started and opened: as was sure, or as may be. -/
theorem keep_open {now sure maybe : Nat → List UInt8} (hx : rightS x = true) (h : KInv x m v now sure maybe) (h0 : 1 ≤ m) (hm : m < 2147483647) (stay : Nat) :
    ∃ u, openV (stD v.disk stay) = (u, u.disk, 0) ∧ u.disk.dead = false ∧ ∃ got : Nat → List UInt8, ((∀ p, p < PN x → got p = sure p) ∨ (∀ p, p < PN x → got p = maybe p)) ∧ KInv x (m + 1) u got got got ∧ (∀ k, k < PN x → readV u k = (got k, 0)) := by
  cases h with
  | live r n =>
    obtain ⟨a, b, c, d, e⟩ := start_rest r stay
    obtain ⟨u, u1, u2, u3, u4, u5⟩ := open_is hx a b c d (by omega) (by omega)
    refine ⟨u, u1, u2.up, sure, .inl fun _ _ => rfl, .live (u2.more (by omega)) fun p hp => by rw [u3]; rfl, fun k hk => ?_⟩
    rw [read_rest hx u2 hk, u3]; rfl
  | down d s y n =>
    obtain ⟨a, b, c, e⟩ := start_down d stay
    rcases e with e | e
    · obtain ⟨u, u1, u2, u3, u4, u5⟩ := open_is hx a b c e (by omega) (by omega)
      refine ⟨u, u1, u2.up, sure, .inl fun _ _ => rfl, .live (u2.more (by omega)) fun p hp => by rw [u3]; rfl, fun k hk => ?_⟩
      rw [read_rest hx u2 hk, u3]; rfl
    · obtain ⟨u, u1, u2, u3, u4, u5⟩ := open_is hx a b c e (by omega) (by omega)
      refine ⟨u, u1, u2.up, maybe, .inr fun _ _ => rfl, .live (u2.more (by omega)) fun p hp => by rw [u3]; rfl, fun k hk => ?_⟩
      rw [read_rest hx u2 hk, u3]; rfl
theorem KInv.more {now sure maybe : Nat → List UInt8} {m' : Int} (h : KInv x m v now sure maybe) (hm : m ≤ m') : KInv x m' v now sure maybe := by
  cases h with
  | live r n => exact .live (r.more hm) n
  | down d s y n => exact .down (d.more hm) s y n
end

end Go.Proofs.YtnbbijpmkhdgpaaGreat.Vlt

/- DBase -/
namespace Go.Proofs.YtnbbijpmkhdgpaaGreat.Dsk
open Go.RowKit

/-- The slice of n elements of 'size' cells each at A lies in a block of cells of type e, and holds the cells xs. -/
def Reads (w : World) (e : TypeId) (size : Nat) (A : Option Addr) (n : Nat) (xs : List Value) : Prop :=
  xs.length = n * size ∧ (0 < n → ∃ b off cur fr, A = some ⟨b, off, none⟩ ∧ w.heap[b]? = some (.cells cur e fr) ∧ ∀ (j : Nat) (u : Value), xs[j]? = some u → cur[off + j]? = some u)

section
variable {w w' : World} {e : TypeId} {size n : Nat} {A : Option Addr} {xs : List Value}
theorem Reads.none_ : Reads w e size A 0 [] := ⟨by simp, fun h => absurd h (by omega)⟩
theorem Reads.keep (h : Reads w e size A n xs) (hk : ∀ (b : Nat) (cur : Array Value) (fr : Nat × Nat), w.heap[b]? = some (Obj.cells cur e fr) → w'.heap[b]? = some (Obj.cells cur e fr)) : Reads w' e size A n xs :=
  ⟨h.1, fun hn => by
    obtain ⟨b, off, cur, fr, ea, hb, hc⟩ := h.2 hn
    exact ⟨b, off, cur, fr, ea, hk _ _ _ hb, hc⟩⟩
theorem Reads.at_ (h : Reads w e size A n xs) (hn : 0 < n) : ∃ b off, A = some ⟨b, off, none⟩ ∧ b < w.heap.size ∧ ∀ (j : Nat) (u : Value), xs[j]? = some u → w.cell? ⟨b, off + j, none⟩ = some u := by
  obtain ⟨b, off, cur, fr, ea, hb, hc⟩ := h.2 hn
  refine ⟨b, off, ea, (Array.getElem?_eq_some_iff.1 hb).1, fun j u hu => ?_⟩
  rw [cell_of_row w b _ _ _ _ hb]
  exact hc j u hu
theorem Reads.of_own {base : Nat} {c : Nat} (h : w.ownsRow base e size (.slice A n c) n xs) : Reads w e size A n xs := by
  refine ⟨h.1, fun hn => ?_⟩
  rcases h.2 with ⟨hv, h0⟩ | ⟨g, cap, cur, hv, _, hg, _, _, _, ht⟩
  · omega
  · injection hv with hA
    refine ⟨g, 0, cur, _, hA, hg, fun j u hj => ?_⟩
    rw [← ht, List.getElem?_take] at hj
    split at hj
    · rw [Nat.zero_add]; simpa using hj
    · cases hj
end

/-- The value v is a slice that reads as the cells xs, n elements of 'size' cells each, in a block of cells of type e. -/
def SL (w : World) (e : TypeId) (size : Nat) (v : Value) (n : Nat) (xs : List Value) : Prop :=
  ∃ A c, v = .slice A n c ∧ n ≤ c ∧ Reads w e size A n xs

section
variable {w w' : World} {e : TypeId} {size n : Nat} {v : Value} {xs : List Value}
theorem SL.keep (h : SL w e size v n xs) (hk : ∀ (b : Nat) (cur : Array Value) (fr : Nat × Nat), w.heap[b]? = some (Obj.cells cur e fr) → w'.heap[b]? = some (Obj.cells cur e fr)) : SL w' e size v n xs := by
  obtain ⟨A, c, ev, hc, hr⟩ := h
  exact ⟨A, c, ev, hc, hr.keep hk⟩
theorem SL.below (h : SL w e size v n xs) (hb : Below w.heap.size w w') : SL w' e size v n xs :=
  h.keep fun b _ _ hh => (hb.block b (Array.getElem?_eq_some_iff.1 hh).1).trans hh
/-- Stores into a block of another type leave it. -/
theorem SL.other (h : SL w e size v n xs) {g : Nat} {t : TypeId} {cur : Array Value} {fr : Nat × Nat} (hg : w.heap[g]? = some (.cells cur t fr)) (hne : t ≠ e) (hk : ∀ b : Nat, b ≠ g → w'.heap[b]? = w.heap[b]?) : SL w' e size v n xs :=
  h.keep fun b c' f' hh => (hk b (fun eq => by
    subst eq
    rw [hg] at hh
    injection hh with hh
    injection hh with _ h2
    exact hne h2)).trans hh
theorem SL.nil (w : World) (e : TypeId) (size : Nat) : SL w e size (.slice none 0 0) 0 [] := ⟨none, 0, rfl, Nat.le_refl _, Reads.none_⟩
theorem SL.of_own {base : Nat} (h : w.ownsRow base e size v n xs) : SL w e size v n xs := by
  rcases id h.2 with ⟨rfl, rfl⟩ | ⟨g, cap, cur, rfl, _, _, hn, _⟩
  · have : xs = [] := List.eq_nil_of_length_eq_zero (by simpa using h.1)
    subst this
    exact SL.nil w e size
  · exact ⟨_, cap, rfl, hn, Reads.of_own h⟩
end

/-- Four stores into one block leave every other one. -/
theorem store4_other (w : World) (g : Nat) (a b c d : Value) (k : Nat) (h : k ≠ g) :
    ((((w.setCell ⟨g, 0, none⟩ a).setCell ⟨g, 1, none⟩ b).setCell ⟨g, 2, none⟩ c).setCell ⟨g, 3, none⟩ d).heap[k]? = w.heap[k]? := by
  rw [Below.heap_setCell _ _ _ _ h, Below.heap_setCell _ _ _ _ h, Below.heap_setCell _ _ _ _ h, Below.heap_setCell _ _ _ _ h]

theorem below_store4 {B : Nat} {a w : World} (hb : Below B a w) (g : Nat) (hg : B ≤ g) (v0 v1 v2 v3 : Value) :
    Below B a ((((w.setCell ⟨g, 0, none⟩ v0).setCell ⟨g, 1, none⟩ v1).setCell ⟨g, 2, none⟩ v2).setCell ⟨g, 3, none⟩ v3) :=
  (((hb.setCell (p := ⟨g, 0, none⟩) hg _).setCell (p := ⟨g, 1, none⟩) hg _).setCell (p := ⟨g, 2, none⟩) hg _).setCell (p := ⟨g, 3, none⟩) hg _

/-- A box of four cells: each is there, and may be written. -/
theorem box4 {W : World} {g : Nat} {t : TypeId} {v0 v1 v2 v3 : Value} (h : W.heap[g]? = some (.cells #[v0, v1, v2, v3] t (0, 0))) :
    (W.cell? ⟨g, 0, none⟩ = some v0 ∧ W.cell? ⟨g, 1, none⟩ = some v1 ∧ W.cell? ⟨g, 2, none⟩ = some v2 ∧ W.cell? ⟨g, 3, none⟩ = some v3) ∧
    (W.frozen? ⟨g, 0, none⟩ = false ∧ W.frozen? ⟨g, 1, none⟩ = false ∧ W.frozen? ⟨g, 2, none⟩ = false ∧ W.frozen? ⟨g, 3, none⟩ = false) := by
  refine ⟨⟨?_, ?_, ?_, ?_⟩, ?_, ?_, ?_, ?_⟩ <;> simp [World.cell?, World.frozen?, h]

/-- A box that was laid stays as it was behind a call that turns nothing old. -/
theorem box_kept {W w' : World} {o : Obj} (g : Nat) (h : W.heap[g]? = some o) (hb : Below W.heap.size W w') : w'.heap[g]? = some o :=
  (hb.block g (Array.getElem?_eq_some_iff.1 h).1).trans h

theorem box_alloc {W : World} {o : Obj} {g : Nat} (h : W.heap[g]? = some o) (o' : Obj) : (W.alloc o').heap[g]? = some o :=
  (Below.heap_alloc W o' g (Array.getElem?_eq_some_iff.1 h).1).trans h

theorem cell_new1 (W : World) (v : Value) (t : TypeId) : (W.alloc (.cells #[v] t)).cell? ⟨W.heap.size, 0, none⟩ = some v := by
  rw [cell_of_row _ _ _ _ _ _ (heap_alloc_new W _)]; rfl

def wetCells (l : List (Int × ByteArray)) : List Value := l.flatMap fun p => [.int .i64 p.1, .string p.2]

/-- The value v is a disk that reads as d. -/
def IsDisk (w : World) (v : Value) (d : DK) : Prop :=
  ∃ vs vw, v = .agg #[vs, vw, .bool d.dead, .int .i64 d.left] ∧ SL w 9 1 vs d.sure.length (d.sure.map Value.string) ∧ SL w 72 2 vw d.wet.length (wetCells d.wet)

theorem IsDisk.below {w w' : World} {v : Value} {d : DK} (h : IsDisk w v d) (hb : Below w.heap.size w w') : IsDisk w' v d := by
  obtain ⟨vs, vw, e, h1, h2⟩ := h
  exact ⟨vs, vw, e, h1.below hb, h2.below hb⟩

/-- One call behind another: what lay ahead of the first lies as it did. -/
theorem below_trans' {a b c : World} (h : Below a.heap.size a b) (k : Below b.heap.size b c) : Below a.heap.size a c := h.trans (k.mono h.size)

set_option maxRecDepth 100000 in
set_option maxHeartbeats 400000 in
theorem has_any (A : Option Addr) (n c : Nat) (A' : Option Addr) (m c' : Nat) (dead : Bool) (left at_ : Int) (w : World) :
    Calls Tryz.prog 78 #[.agg #[.slice A n c, .slice A' m c', .bool dead, .int .i64 left], .int .i64 at_] w fun e w' => e = .returned (.bool (decide (0 ≤ at_) && decide (at_ < n))) ∧ Below w.heap.size w w' := by
  by_cases h : 0 ≤ at_
  · have hd : decide (0 ≤ at_) = true := by simpa using h
    go_enter Tryz.func78, Tryz.ntmps78
    go_wp2
    go_ret
    exact ⟨by simp [h], (Below.refl _ _).alloc (Nat.le_refl _) _⟩
  · have hd : decide (0 ≤ at_) = false := by simpa using h
    go_enter Tryz.func78, Tryz.ntmps78
    go_wp2
    go_ret
    exact ⟨by simp [h], (Below.refl _ _).alloc (Nat.le_refl _) _⟩

end Go.Proofs.YtnbbijpmkhdgpaaGreat.Dsk

/- DDeed -/
namespace Go.Proofs.YtnbbijpmkhdgpaaGreat.Dsk
open Go.RowKit

set_option maxRecDepth 100000 in
set_option maxHeartbeats 400000 in
theorem deed_dead (A : Option Addr) (n c : Nat) (A' : Option Addr) (m c' : Nat) (left : Int) (w : World) :
    Calls Tryz.prog 94 #[.agg #[.slice A n c, .slice A' m c', .bool true, .int .i64 left]] w fun e w' =>
      e = .returned (.tuple #[.agg #[.slice A n c, .slice A' m c', .bool true, .int .i64 left], .bool false]) ∧ Below w.heap.size w w' := by
  go_enter Tryz.func94, Tryz.ntmps94
  go_wp2
  refine bodyPost_ret (v := .tuple #[.agg #[.slice A n c, .slice A' m c', .bool true, .int .i64 left], .bool false]) (by simp [results, Tryz.results94, go_sem]) rfl ⟨rfl, ?_⟩
  exact ((Below.refl _ _).alloc (Nat.le_refl _) _).alloc (by simp) _

set_option maxRecDepth 100000 in
set_option maxHeartbeats 400000 in
theorem deed_none (A : Option Addr) (n c : Nat) (A' : Option Addr) (m c' : Nat) (w : World) :
    Calls Tryz.prog 94 #[.agg #[.slice A n c, .slice A' m c', .bool false, .int .i64 0]] w fun e w' =>
      e = .returned (.tuple #[.agg #[.slice A n c, .slice A' m c', .bool true, .int .i64 0], .bool false]) ∧ Below w.heap.size w w' := by
  go_enter Tryz.func94, Tryz.ntmps94
  go_wp2
  refine bodyPost_ret (v := .tuple #[.agg #[.slice A n c, .slice A' m c', .bool true, .int .i64 0], .bool false]) (by simp [results, Tryz.results94, go_sem]) rfl ⟨rfl, ?_⟩
  exact ((Below.refl _ _).alloc (Nat.le_refl _) _).alloc (by simp) _

set_option maxRecDepth 100000 in
set_option maxHeartbeats 400000 in
theorem deed_some (A : Option Addr) (n c : Nat) (A' : Option Addr) (m c' : Nat) (left : Int) (w : World) (h1 : 0 < left) (h2 : left ≤ 9223372036854775807) :
    Calls Tryz.prog 94 #[.agg #[.slice A n c, .slice A' m c', .bool false, .int .i64 left]] w fun e w' =>
      e = .returned (.tuple #[.agg #[.slice A n c, .slice A' m c', .bool false, .int .i64 (left - 1)], .bool true]) ∧ Below w.heap.size w w' := by
  have hd : (left == 0) = false := by simp; omega
  go_enter Tryz.func94, Tryz.ntmps94
  go_wp2
  refine bodyPost_ret (v := .tuple #[.agg #[.slice A n c, .slice A' m c', .bool false, .int .i64 (left - 1)], .bool true]) (by simp [results, Tryz.results94, go_sem]) rfl ⟨rfl, ?_⟩
  exact ((Below.refl _ _).alloc (Nat.le_refl _) _).alloc (by simp) _

set_option maxRecDepth 100000 in
set_option maxHeartbeats 400000 in
theorem deed_any (A : Option Addr) (n c : Nat) (A' : Option Addr) (m c' : Nat) (left : Int) (w : World) (h1 : left < 0) :
    Calls Tryz.prog 94 #[.agg #[.slice A n c, .slice A' m c', .bool false, .int .i64 left]] w fun e w' =>
      e = .returned (.tuple #[.agg #[.slice A n c, .slice A' m c', .bool false, .int .i64 left], .bool true]) ∧ Below w.heap.size w w' := by
  have hd : (left == 0) = false := by simp; omega
  have hp : ¬ 0 < left := by omega
  go_enter Tryz.func94, Tryz.ntmps94
  go_wp2
  refine bodyPost_ret (v := .tuple #[.agg #[.slice A n c, .slice A' m c', .bool false, .int .i64 left], .bool true]) (by simp [results, Tryz.results94, go_sem]) rfl ⟨rfl, ?_⟩
  exact ((Below.refl _ _).alloc (Nat.le_refl _) _).alloc (by simp) _

/-- disk.deed: the disk behind one more deed, and whether it is done. -/
theorem deed_calls (v : Value) (d : DK) (w : World) (hv : IsDisk w v d) (h2 : d.left ≤ 9223372036854775807) :
    Calls Tryz.prog 94 #[v] w fun e w' => ∃ v', e = .returned (.tuple #[v', .bool (deedB d)]) ∧ IsDisk w' v' (deedD d) ∧ Below w.heap.size w w' := by
  obtain ⟨sure, wet, dead, left⟩ := d
  obtain ⟨_, _, rfl, h3, h4⟩ := hv
  obtain ⟨A, c, rfl, hc, hr⟩ := id h3
  obtain ⟨A', c', rfl, hc', hr'⟩ := id h4
  dsimp only at *
  cases dead with
  | true =>
    refine (deed_dead A _ c A' _ c' left w).mono ?_
    rintro e w' ⟨rfl, hb⟩
    exact ⟨_, rfl, ⟨_, _, rfl, h3.below hb, h4.below hb⟩, hb⟩
  | false =>
    rcases Int.lt_trichotomy left 0 with h | h | h
    · refine (deed_any A _ c A' _ c' left w h).mono ?_
      rintro e w' ⟨rfl, hb⟩
      have e1 : deedB ⟨sure, wet, false, left⟩ = true := by simp [deedB]; omega
      have e2 : deedD ⟨sure, wet, false, left⟩ = ⟨sure, wet, false, left⟩ := by unfold deedD; rw [if_neg (by simp; omega), if_neg (by simp; omega)]
      rw [e1, e2]
      exact ⟨_, rfl, ⟨_, _, rfl, h3.below hb, h4.below hb⟩, hb⟩
    · subst h
      refine (deed_none A _ c A' _ c' w).mono ?_
      rintro e w' ⟨rfl, hb⟩
      exact ⟨_, rfl, ⟨_, _, rfl, h3.below hb, h4.below hb⟩, hb⟩
    · refine (deed_some A _ c A' _ c' left w h h2).mono ?_
      rintro e w' ⟨rfl, hb⟩
      have e1 : deedB ⟨sure, wet, false, left⟩ = true := by simp [deedB]; omega
      have e2 : deedD ⟨sure, wet, false, left⟩ = ⟨sure, wet, false, left - 1⟩ := by unfold deedD; rw [if_neg (by simp; omega), if_pos h]
      rw [e1, e2]
      exact ⟨_, rfl, ⟨_, _, rfl, h3.below hb, h4.below hb⟩, hb⟩

end Go.Proofs.YtnbbijpmkhdgpaaGreat.Dsk

/- DRDeed -/
namespace Go.Proofs.YtnbbijpmkhdgpaaGreat.Dsk
open Go.RowKit

set_option maxRecDepth 100000 in
set_option maxHeartbeats 400000 in
theorem rdeed_dead (A : Option Addr) (n c : Nat) (A' : Option Addr) (m c' : Nat) (left : Int) (w : World) :
    Calls Tryz.prog 50 #[.agg #[.slice A n c, .slice A' m c', .bool true, .int .i64 left]] w fun e w' =>
      e = .returned (.tuple #[.agg #[.slice A n c, .slice A' m c', .bool true, .int .i64 left], .bool false]) ∧ Below w.heap.size w w' := by
  go_enter Tryz.func50, Tryz.ntmps50
  go_wp2
  refine bodyPost_ret (v := .tuple #[.agg #[.slice A n c, .slice A' m c', .bool true, .int .i64 left], .bool false]) (by simp [results, Tryz.results50, go_sem]) rfl ⟨rfl, ?_⟩
  exact ((Below.refl _ _).alloc (Nat.le_refl _) _).alloc (by simp) _

set_option maxRecDepth 100000 in
set_option maxHeartbeats 400000 in
theorem rdeed_none (A : Option Addr) (n c : Nat) (A' : Option Addr) (m c' : Nat) (w : World) :
    Calls Tryz.prog 50 #[.agg #[.slice A n c, .slice A' m c', .bool false, .int .i64 0]] w fun e w' =>
      e = .returned (.tuple #[.agg #[.slice A n c, .slice A' m c', .bool true, .int .i64 0], .bool false]) ∧ Below w.heap.size w w' := by
  go_enter Tryz.func50, Tryz.ntmps50
  go_wp2
  refine bodyPost_ret (v := .tuple #[.agg #[.slice A n c, .slice A' m c', .bool true, .int .i64 0], .bool false]) (by simp [results, Tryz.results50, go_sem]) rfl ⟨rfl, ?_⟩
  exact ((Below.refl _ _).alloc (Nat.le_refl _) _).alloc (by simp) _

set_option maxRecDepth 100000 in
set_option maxHeartbeats 400000 in
theorem rdeed_some (A : Option Addr) (n c : Nat) (A' : Option Addr) (m c' : Nat) (left : Int) (w : World) (h1 : 0 < left) (h2 : left ≤ 9223372036854775807) :
    Calls Tryz.prog 50 #[.agg #[.slice A n c, .slice A' m c', .bool false, .int .i64 left]] w fun e w' =>
      e = .returned (.tuple #[.agg #[.slice A n c, .slice A' m c', .bool false, .int .i64 (left - 1)], .bool true]) ∧ Below w.heap.size w w' := by
  have hd : (left == 0) = false := by simp; omega
  go_enter Tryz.func50, Tryz.ntmps50
  go_wp2
  refine bodyPost_ret (v := .tuple #[.agg #[.slice A n c, .slice A' m c', .bool false, .int .i64 (left - 1)], .bool true]) (by simp [results, Tryz.results50, go_sem]) rfl ⟨rfl, ?_⟩
  exact ((Below.refl _ _).alloc (Nat.le_refl _) _).alloc (by simp) _

set_option maxRecDepth 100000 in
set_option maxHeartbeats 400000 in
theorem rdeed_any (A : Option Addr) (n c : Nat) (A' : Option Addr) (m c' : Nat) (w : World) :
    Calls Tryz.prog 50 #[.agg #[.slice A n c, .slice A' m c', .bool false, .int .i64 (-1)]] w fun e w' =>
      e = .returned (.tuple #[.agg #[.slice A n c, .slice A' m c', .bool false, .int .i64 (-1)], .bool true]) ∧ Below w.heap.size w w' := by
  go_enter Tryz.func50, Tryz.ntmps50
  go_wp2
  refine bodyPost_ret (v := .tuple #[.agg #[.slice A n c, .slice A' m c', .bool false, .int .i64 (-1)], .bool true]) (by simp [results, Tryz.results50, go_sem]) rfl ⟨rfl, ?_⟩
  exact ((Below.refl _ _).alloc (Nat.le_refl _) _).alloc (by simp) _

/-- ref.deed: the disk behind one more deed, and whether it is done. -/
theorem rdeed_calls (v : Value) (d : DK) (w : World) (hv : IsDisk w v d) (h1 : -1 ≤ d.left) (h2 : d.left ≤ 9223372036854775807) :
    Calls Tryz.prog 50 #[v] w fun e w' => ∃ v', e = .returned (.tuple #[v', .bool (deedB d)]) ∧ IsDisk w' v' (deedD d) ∧ Below w.heap.size w w' := by
  obtain ⟨sure, wet, dead, left⟩ := d
  obtain ⟨_, _, rfl, h3, h4⟩ := hv
  obtain ⟨A, c, rfl, hc, hr⟩ := id h3
  obtain ⟨A', c', rfl, hc', hr'⟩ := id h4
  dsimp only at *
  cases dead with
  | true =>
    refine (rdeed_dead A _ c A' _ c' left w).mono ?_
    rintro e w' ⟨rfl, hb⟩
    exact ⟨_, rfl, ⟨_, _, rfl, h3.below hb, h4.below hb⟩, hb⟩
  | false =>
    rcases Int.lt_trichotomy left 0 with h | h | h
    · obtain rfl : left = -1 := by omega
      refine (rdeed_any A _ c A' _ c' w).mono ?_
      rintro e w' ⟨rfl, hb⟩
      have e1 : deedB ⟨sure, wet, false, -1⟩ = true := by simp [deedB]
      have e2 : deedD ⟨sure, wet, false, -1⟩ = ⟨sure, wet, false, -1⟩ := by unfold deedD; rw [if_neg (by simp), if_neg (by simp)]
      rw [e1, e2]
      exact ⟨_, rfl, ⟨_, _, rfl, h3.below hb, h4.below hb⟩, hb⟩
    · subst h
      refine (rdeed_none A _ c A' _ c' w).mono ?_
      rintro e w' ⟨rfl, hb⟩
      exact ⟨_, rfl, ⟨_, _, rfl, h3.below hb, h4.below hb⟩, hb⟩
    · refine (rdeed_some A _ c A' _ c' left w h h2).mono ?_
      rintro e w' ⟨rfl, hb⟩
      have e1 : deedB ⟨sure, wet, false, left⟩ = true := by simp [deedB]; omega
      have e2 : deedD ⟨sure, wet, false, left⟩ = ⟨sure, wet, false, left - 1⟩ := by unfold deedD; rw [if_neg (by simp; omega), if_pos h]
      rw [e1, e2]
      exact ⟨_, rfl, ⟨_, _, rfl, h3.below hb, h4.below hb⟩, hb⟩

set_option maxRecDepth 100000 in
set_option maxHeartbeats 400000 in
theorem rarm_hi (A : Option Addr) (n c : Nat) (A' : Option Addr) (m c' : Nat) (dead : Bool) (left k : Int) (w : World) (hk : -1 ≤ k) :
    Calls Tryz.prog 37 #[.agg #[.slice A n c, .slice A' m c', .bool dead, .int .i64 left], .int .i64 k] w fun e w' =>
      e = .returned (.agg #[.slice A n c, .slice A' m c', .bool dead, .int .i64 k]) ∧ Below w.heap.size w w' := by
  go_enter Tryz.func37, Tryz.ntmps37
  go_wp2
  refine bodyPost_ret (v := .agg #[.slice A n c, .slice A' m c', .bool dead, .int .i64 k]) (by simp [results, Tryz.results37, go_sem]) rfl ⟨rfl, ?_⟩
  exact ((Below.refl _ _).alloc (Nat.le_refl _) _).alloc (by simp) _

set_option maxRecDepth 100000 in
set_option maxHeartbeats 400000 in
theorem rarm_lo (A : Option Addr) (n c : Nat) (A' : Option Addr) (m c' : Nat) (dead : Bool) (left k : Int) (w : World) (hk : k < -1) :
    Calls Tryz.prog 37 #[.agg #[.slice A n c, .slice A' m c', .bool dead, .int .i64 left], .int .i64 k] w fun e w' =>
      e = .returned (.agg #[.slice A n c, .slice A' m c', .bool dead, .int .i64 (-1)]) ∧ Below w.heap.size w w' := by
  go_enter Tryz.func37, Tryz.ntmps37
  go_wp2
  refine bodyPost_ret (v := .agg #[.slice A n c, .slice A' m c', .bool dead, .int .i64 (-1)]) (by simp [results, Tryz.results37, go_sem]) rfl ⟨rfl, ?_⟩
  exact ((Below.refl _ _).alloc (Nat.le_refl _) _).alloc (by simp) _

/-- ref.Arm. -/
theorem rarm_calls (v : Value) (d : DK) (k : Int) (w : World) (hv : IsDisk w v d) :
    Calls Tryz.prog 37 #[v, .int .i64 k] w fun e w' => ∃ v', e = .returned v' ∧ IsDisk w' v' { d with left := max k (-1) } ∧ Below w.heap.size w w' := by
  obtain ⟨sure, wet, dead, left⟩ := d
  obtain ⟨_, _, rfl, h3, h4⟩ := hv
  obtain ⟨A, c, rfl, hc, hr⟩ := id h3
  obtain ⟨A', c', rfl, hc', hr'⟩ := id h4
  dsimp only at *
  by_cases h : -1 ≤ k
  · refine (rarm_hi A _ c A' _ c' dead left k w h).mono ?_
    rintro e w' ⟨rfl, hb⟩
    rw [Int.max_eq_left h]
    exact ⟨_, rfl, ⟨_, _, rfl, h3.below hb, h4.below hb⟩, hb⟩
  · refine (rarm_lo A _ c A' _ c' dead left k w (by omega)).mono ?_
    rintro e w' ⟨rfl, hb⟩
    rw [Int.max_eq_right (by omega)]
    exact ⟨_, rfl, ⟨_, _, rfl, h3.below hb, h4.below hb⟩, hb⟩

end Go.Proofs.YtnbbijpmkhdgpaaGreat.Dsk

/- DPad -/
namespace Go.Proofs.YtnbbijpmkhdgpaaGreat.Dsk
open Go.RowKit

theorem repeatL_zero : ∀ k : Nat, Lib.repeatL [0] k = List.replicate k 0
  | 0 => rfl
  | k + 1 => by rw [Lib.repeatL, repeatL_zero k, List.replicate_succ]; rfl

set_option maxRecDepth 100000 in
set_option maxHeartbeats 400000 in
theorem padded_calls (s : ByteArray) (w : World) (h : s.size ≤ 256) :
    Calls Tryz.prog 62 #[.string s] w fun e w' => e = .returned (.string (padB s)) ∧ Below w.heap.size w w' := by
  obtain ⟨k, hk⟩ : ∃ k : Nat, k = 256 - s.size := ⟨_, rfl⟩
  have hk2 : (256 : Int) - (s.size : Int) = (k : Int) := by omega
  have HK := Lib.hid hk
  have HK2 := Lib.hid hk2
  have hk3 : k ≤ 256 := by omega
  clear hk hk2
  go_enter Tryz.func62, Tryz.ntmps62
  go_wp2_with fail
  rw [HK2.out]
  refine (Tryz.strings_Repeat ⟨#[0]⟩ k w (by omega) (by simp [ByteArray.size]; omega)).mono ?_
  rintro e w' ⟨rfl, hb⟩
  have e1 : Lib.repeatL (ByteArray.mk #[0]).data.toList k = List.replicate k 0 := repeatL_zero k
  rw [e1]
  have e2 := padB_eq s k HK.out
  obtain ⟨t, ht⟩ : ∃ t : ByteArray, t = ⟨(List.replicate k (0 : UInt8)).toArray⟩ := ⟨_, rfl⟩
  have hts : t.size = k := by rw [ht]; simp [ByteArray.size]
  have hts2 : t.size ≤ 256 := by omega
  rw [← ht] at e2 ⊢
  have E2 := Lib.hid e2
  clear e2 ht hts e1
  go_wp2_with fail
  go_ret
  exact ⟨congrArg (fun x => Ending.returned (Value.string x)) E2.out, hb⟩

theorem Tryz.info5 : (Tryz.prog.info? 5).map (fun i => (i.zero, i.size, i.bytes)) = some (some (.int .u8 0), 1, 1) := by kernel_rfl

end Go.Proofs.YtnbbijpmkhdgpaaGreat.Dsk

/- DClone -/
namespace Go.Proofs.YtnbbijpmkhdgpaaGreat.Dsk
open Go.RowKit

/-- The slice's cells as the library's contract asks for them. -/
theorem clone_calls (v : Value) (ss : List ByteArray) (w : World) (h : SL w 9 1 v ss.length (ss.map Value.string)) (hn : ss.length ≤ 1000000) :
    Calls Tryz.prog 89 #[v] w fun e w' => ∃ v', e = .returned v' ∧ w'.ownsRow w.heap.size 9 1 v' ss.length (ss.map Value.string) ∧ Below w.heap.size w w' := by
  obtain ⟨A, c, rfl, hc, hr⟩ := h
  cases A with
  | none =>
    have h0 : ss.length = 0 := by
      rcases Nat.eq_zero_or_pos ss.length with h | h
      · exact h
      · obtain ⟨b, off, e, _⟩ := hr.at_ h
        cases e
    refine (Tryz.slices_Clone_string_nil ss.length c w).mono ?_
    rintro e w' ⟨rfl, rfl⟩
    have e0 : ss = [] := List.eq_nil_of_length_eq_zero h0
    subst e0
    exact ⟨_, rfl, World.ownsRow_nil _ _ _ _, Below.refl _ _⟩
  | some a =>
    rcases Nat.eq_zero_or_pos ss.length with h | h
    · have e0 : ss = [] := List.eq_nil_of_length_eq_zero h
      subst e0
      refine (Tryz.slices_Clone_string_zero a c w).mono ?_
      rintro e w' ⟨v', rfl, ho, _, hb⟩
      exact ⟨_, rfl, ho, hb⟩
    · obtain ⟨b, off, e, hb, hcell⟩ := hr.at_ h
      cases e
      refine (Tryz.slices_Clone_string b off ss.length c ss w (Nat.le_refl _) (by omega) ?_).mono ?_
      · intro j hj
        exact hcell j _ (by simp [List.getD, List.getElem?_eq_getElem hj])
      · rintro e w' ⟨v', rfl, ho, _, hb⟩
        rw [List.take_length] at ho
        exact ⟨_, rfl, ho, hb⟩

end Go.Proofs.YtnbbijpmkhdgpaaGreat.Dsk
