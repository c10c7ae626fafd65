/- Contracts and plain mathematics that the statement's proof wants: no statement is proved here, nothing is assumed. -/
import Derived.Lib.QuietBelow
import Derived.BigQuiet
import Derived.Deep.QuietTactic
import Derived.Laws.StructEq
import Derived.Test.YtnbbijpmkhdgpaaGreatMg02
import Derived.Test.YtnbbijpmkhdgpaaGreatMg03
import Derived.Test.YtnbbijpmkhdgpaaGreatMg06
import Derived.Test.YtnbbijpmkhdgpaaGreatMg08
import Derived.Test.YtnbbijpmkhdgpaaGreatMg09
import Derived.Test.YtnbbijpmkhdgpaaGreatMg10
import Derived.Test.YtnbbijpmkhdgpaaGreatMg11
/- VLaws -/
namespace Go.Proofs.YtnbbijpmkhdgpaaGreat.Vlt
open Go.RowKit
open Dsk
open Ent (isE parseE leafL homeB homeV)

section
variable {x : Sh} {P Q : Nat → List UInt8} {m : Int} {v : VK}

theorem home_len {s : List UInt8} {no : Int} (h : homeB s no = true) : (homeV s no).length = 208 := by
  unfold homeB at h
  unfold homeV
  split
  · exact Ent.zer_len _
  · rename_i hz
    have hz' : (s == Ent.zer 256) = false := by simpa using hz
    rw [hz', Bool.false_or] at h
    rw [if_pos h]
    rw [Bool.and_eq_true, beq_iff_eq] at h
    obtain ⟨hb, hl⟩ := h
    unfold Ent.dataH at *
    rw [List.length_take]
    have hgood : s.length = 256 := by
      rw [← hl]
      exact Ent.leaf_len (by rw [List.length_take]; omega)
    have : 250 ≤ (Ent.tapeH s no).rest.length := by
      unfold Ent.tapeH at hb ⊢
      have hm : Wire.markS Ent.leafK ⟨s, false⟩ = ⟨s.drop 4, false⟩ := by
        by_cases e : s.take 4 = Ent.leafK
        · exact Ent.mark_good (by show 4 ≤ _; omega) e
        · have := Ent.num_bad (k := 2) (lo := no) (hi := no) (Ent.mark_bad (m := Ent.leafK) (s := s) e)
          rw [this] at hb
          cases hb
      rw [hm]
      unfold Wire.numS
      split
      · show 250 ≤ ((s.drop 4).drop 2).length
        rw [List.length_drop, List.length_drop]; omega
      · show 250 ≤ (s.drop 4).length
        rw [List.length_drop]; omega
    omega

/-- The law's knowledge of a vault, live or without power. -/
inductive KInv (x : Sh) (m : Int) (v : VK) (now sure maybe : Nat → List UInt8) : Prop where
  | live (r : Rest x sure m v) (n : ∀ p, p < PN x → ovr v.dirty sure p = now p) : KInv x m v now sure maybe
  | down (d : Down x sure maybe m v.disk) (s : v.shape = x) (y : v.dirty = []) (n : ∀ p, p < PN x → now p = sure p) : KInv x m v now sure maybe

theorem Rest.to (h : Rest x P m v) (e : ∀ p, p < PN x → P p = Q p) : Rest x Q m v :=
  { h with homes := h.homes.to e, recs := by obtain ⟨R, r1, r2⟩ := h.recs; exact ⟨R, r1, fun p g => (r2 p g).trans (e p g)⟩ }
theorem Up.to {S : Nat → ByteArray} (h : Up x P m S) (e : ∀ p, p < PN x → P p = Q p) : Up x Q m S :=
  ⟨h.head, by obtain ⟨R, r1, r2⟩ := h.recs; exact ⟨R, r1, fun p g => (r2 p g).trans (e p g)⟩, h.seqs⟩
theorem Down.to {P' Q' : Nat → List UInt8} {d : DK} (h : Down x P Q m d) (e : ∀ p, p < PN x → P p = P' p) (f : ∀ p, p < PN x → Q p = Q' p) : Down x P' Q' m d :=
  ⟨h.pl, h.dead, fun S hS => by
    rcases h.mix S hS with u | u
    · exact .inl (u.to e)
    · exact .inr (u.to f)⟩
theorem Down.more {d : DK} {m' : Int} (h : Down x P Q m d) (hm : m ≤ m') : Down x P Q m' d :=
  ⟨h.pl, h.dead, fun S hS => by
    rcases h.mix S hS with u | u
    · exact .inl (u.more hm)
    · exact .inr (u.more hm)⟩
theorem Down.armed {d : DK} (h : Down x P Q m d) (k : Int) (h1 : -1 ≤ k) (h2 : k ≤ 9223372036854775807) : Down x P Q m { d with left := k } := by
  obtain ⟨i, hp, hi⟩ := h.pl
  exact ⟨⟨i, ⟨⟨hp.good.sure, hp.good.wet, h1, h2⟩, hp.rise, hp.inn⟩, hi⟩, h.dead, h.mix⟩

theorem read_down {no : Int} (h : v.disk.dead = true) : (readV v no).2 = 1 ∨ (readV v no).2 = 12 := by
  unfold readV
  split
  · exact .inl rfl
  · first | exact .inr rfl | (rw [if_pos h]; exact .inr rfl)
theorem write_down {no : Int} {data : List UInt8} (h : v.disk.dead = true) : (writeV v no data).1 = v ∧ ((writeV v no data).2 = 1 ∨ (writeV v no data).2 = 12) := by
  unfold writeV
  split
  · exact ⟨rfl, .inl rfl⟩
  · first | exact ⟨rfl, .inr rfl⟩ | (rw [if_pos h]; exact ⟨rfl, .inr rfl⟩)
theorem commit_down (h : v.disk.dead = true) : commitV v = (v, 12) := by unfold commitV; rw [if_pos h]

/-- A page is written, or refused. -/
theorem write_any (hx : rightS x = true) (h : Rest x P m v) (no : Int) (data : List UInt8) :
    ((writeV v no data).2 = 0 ∧ ∃ k : Nat, no = k ∧ k < PN x ∧ data.length ≤ 208 ∧ Rest x P m (writeV v no data).1 ∧ (writeV v no data).1.seq = v.seq ∧ (writeV v no data).1.disk = v.disk ∧ ∀ j, ovr (writeV v no data).1.dirty P j = if j = k then padP data else ovr v.dirty P j) ∨
    ((writeV v no data).2 = 1 ∧ (writeV v no data).1 = v) := by
  obtain ⟨a, b, c, e1, e2, f⟩ := right_nat hx
  by_cases hc : hasP v no ∧ data.length ≤ 208
  · obtain ⟨k, rfl⟩ : ∃ k : Nat, no = (k : Int) := ⟨no.toNat, by have := hc.1.1; omega⟩
    have hk : k < PN x := by
      have := hc.1.2
      rw [h.shape, a] at this
      omega
    obtain ⟨g1, g2, g3, g4, g5⟩ := write_rest hx h hk hc.2
    exact .inl ⟨g1, k, rfl, hk, hc.2, g2, g3, g4, g5⟩
  · rw [write_no hc]
    exact .inr ⟨rfl, rfl⟩
theorem read_any (hx : rightS x = true) (h : Rest x P m v) (no : Int) :
    ((readV v no).2 = 0 ∧ ∃ k : Nat, no = k ∧ k < PN x ∧ (readV v no).1 = ovr v.dirty P k) ∨ (readV v no).2 = 1 := by
  obtain ⟨a, b, c, e1, e2, f⟩ := right_nat hx
  by_cases hc : hasP v no
  · obtain ⟨k, rfl⟩ : ∃ k : Nat, no = (k : Int) := ⟨no.toNat, by have := hc.1; omega⟩
    have hk : k < PN x := by
      have := hc.2
      rw [h.shape, a] at this
      omega
    rw [read_rest hx h hk]
    exact .inl ⟨rfl, k, rfl, hk, rfl⟩
  · unfold readV
    rw [if_pos hc]
    exact .inr rfl

/-- It never dies that may do any number of deeds. -/
theorem commit_left (hx : rightS x = true) (h : Rest x P m v) (hm : m ≤ 2147483647) (hl : v.disk.left = -1) : (commitV v).2 ≠ 12 ∧ (commitV v).1.disk.left = -1 := by
  have hs := h.shape
  obtain ⟨a, b, c, d, e, f⟩ := right_nat hx
  unfold commitV
  rw [if_neg (by simp [h.up])]
  by_cases hd : v.dirty = []
  · rw [if_pos hd]; exact ⟨by simp, hl⟩
  rw [if_neg hd]
  by_cases hc : (v.dirty.length : Int) + 1 > v.shape.journal
  · rw [if_pos hc]; exact ⟨by simp, hl⟩
  rw [if_neg hc]
  have hc' : v.dirty.length < JN x := by rw [hs, b] at hc; omega
  have hlow := h.low
  have hlw := log_ok (s := v.seq) hx h.lok h.seq1 (by omega) hc'
  obtain ⟨w1, w2⟩ := wf_left h.pl h.up hl hlw
  rw [if_neg (by simp [w1]), hs]
  rcases wf_is h.pl h.up hlw with ⟨g1, g2, g3, g4, g5, g6⟩ | ⟨g1, _⟩
  · obtain ⟨u1, u2⟩ := wf_left g4 g2 w2 (home_ok hx h.lok)
    rw [if_neg (by simp [u1])]
    exact ⟨by simp, u2⟩
  · omega

/-- Whatever stands on a disk that has its shape. -/
theorem open_any {d : DK} (hx : rightS x = true) (hp : Pl (NN x) 0 d) (hup : d.dead = false) (hleft : d.left = -1) (hh : sureB d 0 = strB (printL x)) :
    (openV d = (zeroV, d, 14)) ∨ ∃ v, openV d = (v, v.disk, 0) ∧ v.shape = x ∧ v.dirty = [] ∧ 1 ≤ v.seq ∧ v.seq ≤ 2147483647 ∧ Pl (NN x) 0 v.disk ∧ v.disk.dead = false := by
  obtain ⟨a, b, c, e1, e2, f⟩ := right_nat hx
  obtain ⟨s1, s2, s3⟩ := sec_is hp hup
  have hh : headS d = printL x := by rw [s2, hh, strB_toL]
  have hps : x = parseS (headS d) := by rw [hh, parse_print hx]
  have his : isS (headS d) = true := by rw [hh]; exact is_print hx
  have hsz : (d.sure.length : Int) = sizeX x := by rw [size_nat hx, hp.good.sure]
  obtain ⟨mo, hmo⟩ : ∃ mo, mo = mostF (secK d) x.journal.toNat := ⟨_, rfl⟩
  obtain ⟨l, hl⟩ : ∃ l, l = jl x.pages x.journal.toNat (secK d) := ⟨_, rfl⟩
  have hm0 : 0 ≤ mo := by rw [hmo]; exact most_nn _ _
  have hlo : LOk (PN x) l := by rw [hl, a]; exact jl_ok _ _ _
  rw [openV_is hps hmo hl rfl, s3, if_neg (by omega), if_neg (by simp [his, hsz])]
  by_cases hm : 2147483647 ≤ mo
  · rw [if_pos hm]; exact .inl rfl
  rw [if_neg hm]
  refine .inr ?_
  by_cases hn : l = []
  · rw [if_pos hn]
    exact ⟨_, rfl, rfl, rfl, by dsimp only; omega, by dsimp only; omega, hp, hup⟩
  · rw [if_neg hn]
    have hok := home_ok hx hlo
    obtain ⟨w1, w2⟩ := wf_left hp hup hleft hok
    rw [if_neg (by simp [w1])]
    rcases wf_is hp hup hok with ⟨k1, k2, k3, k4, k5, k6⟩ | ⟨k1, _⟩
    · exact ⟨_, rfl, rfl, rfl, by dsimp only; omega, by dsimp only; omega, k4, k2⟩
    · omega
/-- What is read of it. -/
theorem read_opened {no : Nat} (hx : rightS x = true) (hs : v.shape = x) (hd : v.dirty = []) (hp : Pl (NN x) 0 v.disk) (hup : v.disk.dead = false) (hn : no < PN x) :
    ((readV v no).2 = 0 ∧ (readV v no).1.length = 208) ∨ (readV v no).2 = 2 := by
  obtain ⟨a, b, c, e1, e2, f⟩ := right_nat hx
  have hok : hasP v no := ⟨by omega, by rw [hs, a]; omega⟩
  have hf : findL v.dirty no = none := by rw [hd]; rfl
  have hr := rd_is hp hup (a := 1 + JN x + no) (by unfold NN; omega)
  have e : readV v no = if homeB (nowB v.disk (1 + JN x + no)).data.toList no = true then (homeV (nowB v.disk (1 + JN x + no)).data.toList no, 0) else ([], 2) := by
    unfold readV
    rw [if_neg (by simp [hok]), if_neg (by simp [hup]), hf]
    dsimp only
    rw [hs, place_nat hx (by omega), hr.2, if_neg (by omega), hr.1]
  rw [e]
  split
  · rename_i h
    exact .inl ⟨rfl, home_len h⟩
  · exact .inr rfl

/-- VaultKeeps' steps, live. -/
theorem keep_write {now sure maybe : Nat → List UInt8} (hx : rightS x = true) (h : KInv x m v now sure maybe) (no : Int) (data : List UInt8) :
    (((writeV v no data).2 = 0 ∧ ∃ k : Nat, no = k ∧ k < PN x ∧ data.length ≤ 208 ∧ KInv x m (writeV v no data).1 (fun j => if j = k then padP data else now j) sure maybe) ∨
    ((writeV v no data).2 ≠ 0 ∧ (writeV v no data).1 = v)) ∧ (writeV v no data).1.disk.dead = v.disk.dead := by
  cases h with
  | live r n =>
    rcases write_any hx r no data with ⟨e, k, e1, e2, e3, e4, e5, e6, e7⟩ | ⟨e, e1⟩
    · refine ⟨.inl ⟨e, k, e1, e2, e3, .live e4 fun p hp => ?_⟩, by rw [e6]⟩
      rw [e7]
      split
      · rfl
      · exact n p hp
    · exact ⟨.inr ⟨by omega, e1⟩, by rw [e1]⟩
  | down d s y n =>
    obtain ⟨e1, e2⟩ := write_down (v := v) (no := no) (data := data) d.dead
    exact ⟨.inr ⟨by omega, e1⟩, by rw [e1]⟩
theorem keep_read {now sure maybe : Nat → List UInt8} (hx : rightS x = true) (h : KInv x m v now sure maybe) (no : Int) :
    ((readV v no).2 = 0 ∧ ∃ k : Nat, no = k ∧ k < PN x ∧ (readV v no).1 = now k) ∨ (readV v no).2 ≠ 0 := by
  cases h with
  | live r n =>
    rcases read_any hx r no with ⟨e, k, e1, e2, e3⟩ | e
    · exact .inl ⟨e, k, e1, e2, e3.trans (n k e2)⟩
    · exact .inr (by omega)
  | down d s y n =>
    have := read_down (v := v) (no := no) d.dead
    exact .inr (by omega)
/-- A commit: done (0), refused (8), or the power gone (12). -/
theorem keep_commit {now sure maybe : Nat → List UInt8} (hx : rightS x = true) (h : KInv x m v now sure maybe) (hm : m ≤ 2147483647) :
    ((commitV v).2 = 0 ∧ (commitV v).1.disk.dead = false ∧ KInv x (m + 1) (commitV v).1 now now now) ∨
    ((commitV v).2 = 8 ∧ (commitV v).1.disk.dead = false ∧ KInv x (m + 1) (commitV v).1 sure sure maybe) ∨
    ((commitV v).2 = 12 ∧ v.disk.dead = false ∧ (commitV v).1.disk.dead = true ∧ KInv x (m + 1) { (commitV v).1 with dirty := [] } sure sure now) ∨
    ((commitV v).2 = 12 ∧ v.disk.dead = true ∧ (commitV v).1 = v) := by
  cases h with
  | live r n =>
    rcases commit_is hx r hm with ⟨a, b⟩ | ⟨a, b, c⟩ | ⟨a, b, c, d, e, f⟩ | ⟨a, b, c, d, e, f, g⟩
    · rw [b]
      refine .inl ⟨rfl, r.up, .live ((r.to (Q := now) fun p hp => ?_).more (by omega)) fun p hp => ?_⟩
      · rw [← n p hp, a]; rfl
      · rw [a]; rfl
    · rw [c]
      exact .inr (.inl ⟨rfl, r.up, .live (r.clean.more (by omega)) fun p hp => rfl⟩)
    · exact .inl ⟨c, d.up, .live (d.to (Q := now) n) fun p hp => by rw [e]; rfl⟩
    · exact .inr (.inr (.inl ⟨c, r.up, d.dead, .down ((d.to (fun _ _ => rfl) n).more (by omega)) g rfl fun p hp => rfl⟩))
  | down d s y n =>
    rw [commit_down d.dead]
    exact .inr (.inr (.inr ⟨rfl, d.dead, rfl⟩))
theorem keep_arm {now sure maybe : Nat → List UInt8} (h : KInv x m v now sure maybe) (k : Int) (h1 : -1 ≤ k) (h2 : k ≤ 9223372036854775807) : KInv x m { v with disk := { v.disk with left := k } } now sure maybe := by
  cases h with
  | live r n => exact .live (r.armed k h1 h2) n
  | down d s y n => exact .down (d.armed k h1 h2) s y n
/-- Started and opened: as was sure, or as may be. -/
theorem keep_open {now sure maybe : Nat → List UInt8} (hx : rightS x = true) (h : KInv x m v now sure maybe) (h0 : 1 ≤ m) (hm : m < 2147483647) (stay : Nat) :
    ∃ u, openV (stD v.disk stay) = (u, u.disk, 0) ∧ u.disk.dead = false ∧ ∃ got : Nat → List UInt8, ((∀ p, p < PN x → got p = sure p) ∨ (∀ p, p < PN x → got p = maybe p)) ∧ KInv x (m + 1) u got got got ∧ (∀ k, k < PN x → readV u k = (got k, 0)) := by
  cases h with
  | live r n =>
    obtain ⟨a, b, c, d, e⟩ := start_rest r stay
    obtain ⟨u, u1, u2, u3, u4, u5⟩ := open_is hx a b c d (by omega) (by omega)
    refine ⟨u, u1, u2.up, sure, .inl fun _ _ => rfl, .live (u2.more (by omega)) fun p hp => by rw [u3]; rfl, fun k hk => ?_⟩
    rw [read_rest hx u2 hk, u3]; rfl
  | down d s y n =>
    obtain ⟨a, b, c, e⟩ := start_down d stay
    rcases e with e | e
    · obtain ⟨u, u1, u2, u3, u4, u5⟩ := open_is hx a b c e (by omega) (by omega)
      refine ⟨u, u1, u2.up, sure, .inl fun _ _ => rfl, .live (u2.more (by omega)) fun p hp => by rw [u3]; rfl, fun k hk => ?_⟩
      rw [read_rest hx u2 hk, u3]; rfl
    · obtain ⟨u, u1, u2, u3, u4, u5⟩ := open_is hx a b c e (by omega) (by omega)
      refine ⟨u, u1, u2.up, maybe, .inr fun _ _ => rfl, .live (u2.more (by omega)) fun p hp => by rw [u3]; rfl, fun k hk => ?_⟩
      rw [read_rest hx u2 hk, u3]; rfl
theorem KInv.more {now sure maybe : Nat → List UInt8} {m' : Int} (h : KInv x m v now sure maybe) (hm : m ≤ m') : KInv x m' v now sure maybe := by
  cases h with
  | live r n => exact .live (r.more hm) n
  | down d s y n => exact .down (d.more hm) s y n
end

end Go.Proofs.YtnbbijpmkhdgpaaGreat.Vlt

/- EMem -/
namespace Go.Proofs.YtnbbijpmkhdgpaaGreat.Ent
open Go.RowKit Go.Sort
open Wire (TK TP But twoL fourL)
open Crc (sealB Only)

def enV (x : En) : Value := .agg #[.int .i64 x.seq, .int .i64 x.index, .bool x.last, .int .i64 x.no, .string (strB x.data)]
def enC (x : En) : Array Value := #[.int .i64 x.seq, .int .i64 x.index, .bool x.last, .int .i64 x.no, .string (strB x.data)]

structure At5 (w : World) (b : Nat) (x : En) : Prop where
  c0 : w.cell? ⟨b, 0, none⟩ = some (.int .i64 x.seq)
  c1 : w.cell? ⟨b, 1, none⟩ = some (.int .i64 x.index)
  c2 : w.cell? ⟨b, 2, none⟩ = some (.bool x.last)
  c3 : w.cell? ⟨b, 3, none⟩ = some (.int .i64 x.no)
  c4 : w.cell? ⟨b, 4, none⟩ = some (.string (strB x.data))

/-- A box that holds an entry. -/
def EBox (w : World) (g : Nat) (x : En) : Prop := w.heap[g]? = some (.cells (enC x) 55 (0, 0))
section
variable {w w' : World} {g : Nat} {x : En}
theorem EBox.at_ (h : EBox w g x) : At5 w g x := by
  refine ⟨?_, ?_, ?_, ?_, ?_⟩ <;> (rw [cell_of_row w g _ _ _ _ h]; rfl)
theorem EBox.lt (h : EBox w g x) : g < w.heap.size := (Array.getElem?_eq_some_iff.1 h).1
theorem EBox.keep (h : EBox w g x) (e : w'.heap[g]? = w.heap[g]?) : EBox w' g x := e.trans h
theorem EBox.below (h : EBox w g x) (hb : Below w.heap.size w w') : EBox w' g x := (hb.block g h.lt).trans h
theorem EBox.belowB {B : Nat} (h : EBox w g x) (hb : Below B w w') (hg : g < B) : EBox w' g x := (hb.block g hg).trans h
theorem EBox.but {b : Nat} (h : EBox w g x) (hb : But b w w') (hg : g ≠ b) : EBox w' g x := h.keep (hb.block g h.lt hg)
theorem EBox.only {b : Nat} (h : EBox w g x) (hb : Only b w w') (hg : g ≠ b) : EBox w' g x := h.keep (hb.block g hg)
theorem EBox.new (w : World) (x : En) : EBox (w.alloc (.cells (enC x) 55)) w.heap.size x := heap_alloc_new w _
theorem EBox.free (h : EBox w g x) (i : Nat) : w.frozen? ⟨g, i, none⟩ = false := by unfold EBox at h; simp [World.frozen?, h]
theorem EBox.setSeq (h : EBox w g x) (n : Int) : EBox (w.setCell ⟨g, 0, none⟩ (.int .i64 n)) g { x with seq := n } := heap_setCell_same w g 0 _ 55 _ h
theorem EBox.setIndex (h : EBox w g x) (n : Int) : EBox (w.setCell ⟨g, 1, none⟩ (.int .i64 n)) g { x with index := n } := heap_setCell_same w g 1 _ 55 _ h
theorem EBox.setLast (h : EBox w g x) (b : Bool) : EBox (w.setCell ⟨g, 2, none⟩ (.bool b)) g { x with last := b } := heap_setCell_same w g 2 _ 55 _ h
theorem EBox.setNo (h : EBox w g x) (n : Int) : EBox (w.setCell ⟨g, 3, none⟩ (.int .i64 n)) g { x with no := n } := heap_setCell_same w g 3 _ 55 _ h
theorem EBox.setData (h : EBox w g x) (l : List UInt8) : EBox (w.setCell ⟨g, 4, none⟩ (.string (strB l))) g { x with data := l } := heap_setCell_same w g 4 _ 55 _ h
end

/-- The world behind the store of a whole entry, under a name of its own. -/
theorem store5 {w : World} {g : Nat} {x0 : En} (h : EBox w g x0) (x : En) :
    ∃ w2, ((((w.setCell ⟨g, 0, none⟩ (.int .i64 x.seq)).setCell ⟨g, 1, none⟩ (.int .i64 x.index)).setCell ⟨g, 2, none⟩ (.bool x.last)).setCell ⟨g, 3, none⟩ (.int .i64 x.no)).setCell ⟨g, 4, none⟩ (.string (strB x.data)) = w2 ∧ EBox w2 g x ∧ Only g w w2 := by
  refine ⟨_, rfl, ?_, (((((Only.refl g w).setCell _ rfl _).setCell _ rfl _).setCell _ rfl _).setCell _ rfl _).setCell _ rfl _⟩
  exact ((((h.setSeq x.seq).setIndex x.index).setLast x.last).setNo x.no).setData x.data
theorem Only.after {g : Nat} {u v w : World} (h : Below u.heap.size u v) (k : Only g v w) (hg : u.heap.size ≤ g) : Below u.heap.size u w := h.trans (k.below hg)

/-- A page, and a box that holds one. -/
def lfV (no : Int) (d : List UInt8) : Value := .agg #[.int .i64 no, .string (strB d)]
def LBox (w : World) (g : Nat) (no : Int) (d : List UInt8) : Prop := w.heap[g]? = some (.cells #[.int .i64 no, .string (strB d)] 52 (0, 0))
section
variable {w w' : World} {g : Nat} {no : Int} {d : List UInt8}
theorem LBox.c0 (h : LBox w g no d) : w.cell? ⟨g, 0, none⟩ = some (.int .i64 no) := by rw [cell_of_row w g _ _ _ _ h]; rfl
theorem LBox.c1 (h : LBox w g no d) : w.cell? ⟨g, 1, none⟩ = some (.string (strB d)) := by rw [cell_of_row w g _ _ _ _ h]; rfl
theorem LBox.lt (h : LBox w g no d) : g < w.heap.size := (Array.getElem?_eq_some_iff.1 h).1
theorem LBox.below (h : LBox w g no d) (hb : Below w.heap.size w w') : LBox w' g no d := (hb.block g h.lt).trans h
theorem LBox.new (w : World) (no : Int) (d : List UInt8) : LBox (w.alloc (.cells #[.int .i64 no, .string (strB d)] 52)) w.heap.size no d := heap_alloc_new w _
theorem LBox.free (h : LBox w g no d) (i : Nat) : w.frozen? ⟨g, i, none⟩ = false := by unfold LBox at h; simp [World.frozen?, h]
theorem LBox.setData (h : LBox w g no d) (l : List UInt8) : LBox (w.setCell ⟨g, 1, none⟩ (.string (strB l))) g no l := heap_setCell_same w g 1 _ 52 _ h
end

/-- A contract that lays blocks, in a world of the class. -/
theorem rg {f : FuncId} {args : Array Value} {v : Value} (h : ∀ W, Calls Tryz.prog f args W fun e w' => e = .returned v ∧ Below W.heap.size W w') (Y : World) :
    ∀ d os, Calls Tryz.prog f args (grow (redrawn Y d) os) fun e w'' => e = .returned v ∧ ∃ p : Regrown, w'' = grow (redrawn Y p.d) p.os :=
  fun _ _ => Calls.regrown_of (h _)
theorem rg0 {f : FuncId} {args : Array Value} {v : Value} (h : ∀ W, Calls Tryz.prog f args W fun e w' => e = .returned v ∧ w' = W) (Y : World) :
    ∀ d os, Calls Tryz.prog f args (grow (redrawn Y d) os) fun e w'' => e = .returned v ∧ ∃ p : Regrown, w'' = grow (redrawn Y p.d) p.os :=
  fun d os => (h _).mono fun _ _ ⟨he, hw⟩ => ⟨he, ⟨d, os⟩, hw⟩

theorem repeat_zer (n : Nat) : Lib.repeatL [0] n = zer n := by
  induction n with
  | zero => rfl
  | succ n ih => unfold Lib.repeatL; rw [ih]; rfl

theorem rep_calls (n : Nat) (w : World) (hn : n ≤ 1000) :
    Calls Tryz.prog 67 #[.string ⟨#[0]⟩, .int .i64 (n : Nat)] w fun e w' => e = .returned (.string (strB (zer n))) ∧ Below w.heap.size w w' := by
  have h := Tryz.strings_Repeat ⟨#[0]⟩ n w (by omega) (by show 1 * n ≤ _; omega)
  rw [show (⟨#[0]⟩ : ByteArray).data.toList = [0] from rfl, repeat_zer] at h
  exact h

set_option maxRecDepth 100000 in
set_option maxHeartbeats 1000000 in
theorem noughts_calls (n : Nat) (w : World) (hn : n ≤ 1000) :
    Calls Tryz.prog 81 #[.int .i64 (n : Nat)] w fun e w' => e = .returned (.string (strB (zer n))) ∧ Below w.heap.size w w' := by
  go_enter Tryz.func81, Tryz.ntmps81
  go_wp2_with fail
  (with_reducible refine (rep_calls n _ hn).mono ?_)
  rintro e w1 ⟨rfl, hB⟩
  go_wp2_with fail
  go_ret
  exact ⟨rfl, hB⟩

set_option maxRecDepth 100000 in
set_option maxHeartbeats 1000000 in
theorem dataBytes_calls (b : Bool) (w : World) : Calls Tryz.prog 126 #[.bool b] w fun e w' => e = .returned (.int .i64 (dataN b : Nat)) ∧ w' = w := by
  cases b
  all_goals
    go_enter Tryz.func126, Tryz.ntmps126
    go_wp2_with fail
    go_ret
    exact ⟨rfl, rfl⟩

set_option maxRecDepth 100000 in
set_option maxHeartbeats 1000000 in
theorem kind_calls (b : Bool) (w : World) : Calls Tryz.prog 114 #[.bool b] w fun e w' => e = .returned (.string (strB (kindL b))) ∧ w' = w := by
  cases b
  all_goals
    go_enter Tryz.func114, Tryz.ntmps114
    go_wp2_with fail
    go_ret
    exact ⟨rfl, rfl⟩

set_option maxRecDepth 100000 in
set_option maxHeartbeats 1000000 in
theorem first_calls (l : List UInt8) (n : Nat) (w : World) (hn : n ≤ 1000) : Calls Tryz.prog 84 #[.string (strB l), .int .i64 (n : Nat)] w fun e w' => e = .returned (.string (strB (l.take n))) ∧ w' = w := by
  have hs := strB_size l
  by_cases h : n ≤ l.length
  · have h1 : (n : Int) ≤ ((strB l).size : Int) := by omega
    have h2 : n ≤ (strB l).size := by omega
    clear hs
    go_enter Tryz.func84, Tryz.ntmps84
    go_wp2_with fail
    go_ret
    exact ⟨ret_str (by rw [strB_extract, List.drop_zero, show (min (n : Int) ((strB l).size : Int)).toNat = n by omega]), rfl⟩
  · have h1 : ¬ (n : Int) ≤ ((strB l).size : Int) := by omega
    have h3 : ((strB l).size : Int) ≤ (n : Int) := by omega
    clear hs
    go_enter Tryz.func84, Tryz.ntmps84
    go_wp2_with fail
    go_ret
    exact ⟨ret_str (by rw [strB_extract, List.drop_zero, List.take_of_length_le (by rw [strB_size]; omega), List.take_of_length_le (by omega)]), rfl⟩

end Go.Proofs.YtnbbijpmkhdgpaaGreat.Ent

/- ERight -/
namespace Go.Proofs.YtnbbijpmkhdgpaaGreat.Ent
open Go.RowKit Go.Sort
open Wire (TK TP But twoL fourL)
open Crc (sealB Only)

set_option maxRecDepth 100000 in
set_option maxHeartbeats 8000000 in
theorem right_calls (x : En) (w : World) :
    Calls Tryz.prog 112 #[enV x] w fun e w' => e = .returned (.bool (rightE x)) ∧ Below w.heap.size w w' := by
  obtain ⟨Y, hY, hbY, hBY⟩ : ∃ Y, Y = w.alloc (.cells (enC x) 55) ∧ EBox Y w.heap.size x ∧ Below w.heap.size w Y := ⟨_, rfl, EBox.new _ _, below_one _ _⟩
  unfold enC at hY
  have k0 := fun d os => cell_regrown hbY.at_.c0 d os
  have k1 := fun d os => cell_regrown hbY.at_.c1 d os
  have k2 := fun d os => cell_regrown hbY.at_.c2 d os
  have k3 := fun d os => cell_regrown hbY.at_.c3 d os
  have k4 := fun d os => cell_regrown hbY.at_.c4 d os
  have C1 := Lib.hid (rg0 (dataBytes_calls x.last) Y)
  have HY := Lib.hid hY
  have HB := Lib.hid hBY
  have hsz := strB_size x.data
  have HL : Hid ((((strB x.data).size : Int) == (dataN x.last : Nat)) = decide (x.data.length = dataN x.last)) := Lib.hid (by
    rw [hsz, Bool.eq_iff_iff, beq_iff_eq, decide_eq_true_iff]; omega)
  clear hY hbY hBY hsz
  unfold enV rightE
  by_cases h1 : 1 ≤ x.seq
  · rw [decide_eq_true h1]
    by_cases h2 : x.seq ≤ 2147483647
    · rw [decide_eq_true h2]
      by_cases h3 : 0 ≤ x.index
      · rw [decide_eq_true h3]
        by_cases h4 : x.index ≤ 255
        · rw [decide_eq_true h4]
          by_cases h5 : 0 ≤ x.no
          · rw [decide_eq_true h5]
            by_cases h6 : x.no ≤ 511
            · rw [decide_eq_true h6]
              go_enter Tryz.func112, Tryz.ntmps112
              go_wp2_with fail
              rw [← HY.out]
              refine wp_region_quiet_below (by kernel_rfl) (by kernel_rfl) ?_
              (try simp only [List.append_eq, List.cons_append, List.nil_append])
              repeat (first | go_big_quiet_step (first | (with_reducible exact C1.out _ _)))
              refine wpQuiet_nil ?_
              intro _ hw'
              obtain ⟨⟨dq, osq⟩, hw''⟩ := hw'
              subst hw''
              go_wp2_with fail
              go_ret
              exact ⟨ret_bool (by simpa using HL.out), Below.trans HB.out ((below_regrown Y dq osq).mono HB.out.size)⟩
            · have q := decide_eq_false h6
              rw [q]
              go_enter Tryz.func112, Tryz.ntmps112
              go_wp2_with fail
              rw [← HY.out]
              refine wp_region_quiet_below (by kernel_rfl) (by kernel_rfl) ?_
              (try simp only [List.append_eq, List.cons_append, List.nil_append])
              repeat (first | go_big_quiet_step (first | (with_reducible exact C1.out _ _)))
              refine wpQuiet_nil ?_
              intro _ hw'
              obtain ⟨⟨dq, osq⟩, hw''⟩ := hw'
              subst hw''
              go_wp2_with fail
              go_ret
              exact ⟨ret_bool rfl, Below.trans HB.out ((below_regrown Y dq osq).mono HB.out.size)⟩
          · have q := decide_eq_false h5
            rw [q]
            go_enter Tryz.func112, Tryz.ntmps112
            go_wp2_with fail
            rw [← HY.out]
            refine wp_region_quiet_below (by kernel_rfl) (by kernel_rfl) ?_
            (try simp only [List.append_eq, List.cons_append, List.nil_append])
            repeat (first | go_big_quiet_step (first | (with_reducible exact C1.out _ _)))
            refine wpQuiet_nil ?_
            intro _ hw'
            obtain ⟨⟨dq, osq⟩, hw''⟩ := hw'
            subst hw''
            go_wp2_with fail
            go_ret
            exact ⟨ret_bool rfl, Below.trans HB.out ((below_regrown Y dq osq).mono HB.out.size)⟩
        · have q := decide_eq_false h4
          rw [q]
          go_enter Tryz.func112, Tryz.ntmps112
          go_wp2_with fail
          rw [← HY.out]
          refine wp_region_quiet_below (by kernel_rfl) (by kernel_rfl) ?_
          (try simp only [List.append_eq, List.cons_append, List.nil_append])
          repeat (first | go_big_quiet_step (first | (with_reducible exact C1.out _ _)))
          refine wpQuiet_nil ?_
          intro _ hw'
          obtain ⟨⟨dq, osq⟩, hw''⟩ := hw'
          subst hw''
          go_wp2_with fail
          go_ret
          exact ⟨ret_bool rfl, Below.trans HB.out ((below_regrown Y dq osq).mono HB.out.size)⟩
      · have q := decide_eq_false h3
        rw [q]
        go_enter Tryz.func112, Tryz.ntmps112
        go_wp2_with fail
        rw [← HY.out]
        refine wp_region_quiet_below (by kernel_rfl) (by kernel_rfl) ?_
        (try simp only [List.append_eq, List.cons_append, List.nil_append])
        repeat (first | go_big_quiet_step (first | (with_reducible exact C1.out _ _)))
        refine wpQuiet_nil ?_
        intro _ hw'
        obtain ⟨⟨dq, osq⟩, hw''⟩ := hw'
        subst hw''
        go_wp2_with fail
        go_ret
        exact ⟨ret_bool rfl, Below.trans HB.out ((below_regrown Y dq osq).mono HB.out.size)⟩
    · have q := decide_eq_false h2
      rw [q]
      go_enter Tryz.func112, Tryz.ntmps112
      go_wp2_with fail
      rw [← HY.out]
      refine wp_region_quiet_below (by kernel_rfl) (by kernel_rfl) ?_
      (try simp only [List.append_eq, List.cons_append, List.nil_append])
      repeat (first | go_big_quiet_step (first | (with_reducible exact C1.out _ _)))
      refine wpQuiet_nil ?_
      intro _ hw'
      obtain ⟨⟨dq, osq⟩, hw''⟩ := hw'
      subst hw''
      go_wp2_with fail
      go_ret
      exact ⟨ret_bool rfl, Below.trans HB.out ((below_regrown Y dq osq).mono HB.out.size)⟩
  · have q := decide_eq_false h1
    rw [q]
    go_enter Tryz.func112, Tryz.ntmps112
    go_wp2_with fail
    rw [← HY.out]
    refine wp_region_quiet_below (by kernel_rfl) (by kernel_rfl) ?_
    (try simp only [List.append_eq, List.cons_append, List.nil_append])
    repeat (first | go_big_quiet_step (first | (with_reducible exact C1.out _ _)))
    refine wpQuiet_nil ?_
    intro _ hw'
    obtain ⟨⟨dq, osq⟩, hw''⟩ := hw'
    subst hw''
    go_wp2_with fail
    go_ret
    exact ⟨ret_bool rfl, Below.trans HB.out ((below_regrown Y dq osq).mono HB.out.size)⟩

set_option maxRecDepth 100000 in
set_option maxHeartbeats 1000000 in
theorem sector_calls (l : List UInt8) (w : World) (h : l.length ≤ 252) :
    Calls Tryz.prog 109 #[.string (strB l)] w fun e w' => e = .returned (.string (strB (sectorL l))) ∧ Below w.heap.size w w' := by
  have hs := strB_size l
  have hm : max ((252 : Int) - ((strB l).size : Int)) 0 = ((252 - l.length : Nat) : Int) := by omega
  have hz : ¬ 9223372036854775807 < (strB l).size + (strB (zer (252 - l.length))).size := by rw [strB_size, strB_size, zer_len]; omega
  have hz1 : (0 : Int) ≤ 252 - ((strB l).size : Int) := by omega
  have hz2 : ((strB l).size : Int) ≤ 252 := by omega
  have HS := Lib.hid (Crc.seal_calls (strB (fillL l)))
  have HF : Hid ((strB (fillL l)).size ≤ 9223372036854775000) := Lib.hid (by rw [strB_size, fill_len h]; omega)
  rw [strB_data] at HS
  clear hs
  go_enter Tryz.func109, Tryz.ntmps109
  go_wp2_with fail
  (with_reducible refine (noughts_calls (252 - l.length) _ (by omega)).mono ?_)
  rintro e w1 ⟨rfl, hB⟩
  go_wp2_with fail
  rw [strB_append, show l ++ zer (252 - l.length) = fillL l from rfl]
  (with_reducible refine (HS.out _ HF.out).mono ?_)
  rintro e w2 ⟨rfl, hB2⟩
  go_wp2_with fail
  go_ret
  exact ⟨rfl, below_trans' hB hB2⟩

theorem page_is (l : List UInt8) (h : l.length ≤ 208) : (l ++ zer (208 - l.length)).length = 208 := by rw [List.length_append, zer_len]; omega

set_option maxRecDepth 100000 in
set_option maxHeartbeats 8000000 in
theorem print_calls (x : En) (w : World) (hx : x.data.length ≤ 240) :
    Calls Tryz.prog 92 #[enV x] w fun e w' => e = .returned (.string (strB (printL x))) ∧ Below w.heap.size w w' := by
  obtain ⟨Y, hY, hbY, hBY⟩ : ∃ Y, Y = w.alloc (.cells (enC x) 55) ∧ EBox Y w.heap.size x ∧ Below w.heap.size w Y := ⟨_, rfl, EBox.new _ _, below_one _ _⟩
  unfold enC at hY
  have k0 := fun d os => cell_regrown hbY.at_.c0 d os
  have k1 := fun d os => cell_regrown hbY.at_.c1 d os
  have k2 := fun d os => cell_regrown hbY.at_.c2 d os
  have k3 := fun d os => cell_regrown hbY.at_.c3 d os
  have k4 := fun d os => cell_regrown hbY.at_.c4 d os
  have e : strB (kindL x.last) ++ strB (fourL x.seq) ++ strB (twoL x.index) ++ strB (twoL x.no) ++ strB x.data = strB (headL x) := by
    simp only [strB_append, headL, restL, List.append_assoc]
  have CS := sector_calls (headL x)
  rw [← e] at CS
  have C1 := Lib.hid (rg0 (kind_calls x.last) Y)
  have C2 := Lib.hid (rg (Wire.four_calls x.seq) Y)
  have C3 := Lib.hid (rg (Wire.two_calls x.index) Y)
  have C4 := Lib.hid (rg (Wire.two_calls x.no) Y)
  have C5 := Lib.hid (rg (fun W => CS W (by rw [headL_len]; omega)) Y)
  have HY := Lib.hid hY
  have HB := Lib.hid hBY
  have g1 : (strB (kindL x.last)).size ≤ 4 := by rw [strB_size, kindL_len]; exact Nat.le_refl _
  have g2 : (strB (fourL x.seq)).size ≤ 4 := by rw [strB_size]; exact Nat.le_refl _
  have g3 : (strB (twoL x.index)).size ≤ 4 := by rw [strB_size, Wire.twoL_len]; omega
  have g4 : (strB (twoL x.no)).size ≤ 4 := by rw [strB_size, Wire.twoL_len]; omega
  have g5 : (strB x.data).size ≤ 240 := by rw [strB_size]; exact hx
  clear hY hbY hBY e CS hx
  unfold enV
  go_enter Tryz.func92, Tryz.ntmps92
  go_wp2_with fail
  rw [← HY.out]
  refine wp_region_quiet_below (by kernel_rfl) (by kernel_rfl) ?_
  (try simp only [List.append_eq, List.cons_append, List.nil_append])
  repeat (first | go_big_quiet_step (first | (with_reducible exact C1.out _ _) | (with_reducible exact C2.out _ _) | (with_reducible exact C3.out _ _) | (with_reducible exact C4.out _ _) | (with_reducible exact C5.out _ _)))
  refine wpQuiet_nil ?_
  intro _ hw'
  obtain ⟨⟨dq, osq⟩, hw''⟩ := hw'
  subst hw''
  go_wp2_with fail
  go_ret
  exact ⟨rfl, Below.trans HB.out ((below_regrown Y dq osq).mono HB.out.size)⟩

set_option maxRecDepth 100000 in
set_option maxHeartbeats 8000000 in
theorem leaf_calls (no : Int) (d : List UInt8) (w : World) (hd : d.length ≤ 240) :
    Calls Tryz.prog 85 #[lfV no d] w fun e w' => e = .returned (.string (strB (leafL no d))) ∧ Below w.heap.size w w' := by
  obtain ⟨Y, hY, hbY, hBY⟩ : ∃ Y, Y = w.alloc (.cells #[.int .i64 no, .string (strB d)] 52) ∧ LBox Y w.heap.size no d ∧ Below w.heap.size w Y := ⟨_, rfl, LBox.new _ _ _, below_one _ _⟩
  have k0 := fun d os => cell_regrown hbY.c0 d os
  have k1 := fun d os => cell_regrown hbY.c1 d os
  have e : (⟨#[76, 69, 65, 70]⟩ : ByteArray) ++ strB (twoL no) ++ strB d = strB (leafK ++ (twoL no ++ d)) := by
    rw [show (⟨#[76, 69, 65, 70]⟩ : ByteArray) = strB leafK from rfl]
    simp only [strB_append, List.append_assoc]
  have CS := sector_calls (leafK ++ (twoL no ++ d))
  rw [← e] at CS
  have C4 := Lib.hid (rg (Wire.two_calls no) Y)
  have C5 := Lib.hid (rg (fun W => CS W (by rw [List.length_append, List.length_append, Wire.twoL_len]; show 4 + _ ≤ _; omega)) Y)
  have HY := Lib.hid hY
  have HB := Lib.hid hBY
  have g4 : (strB (twoL no)).size ≤ 4 := by rw [strB_size, Wire.twoL_len]; omega
  have g5 : (strB d).size ≤ 240 := by rw [strB_size]; exact hd
  clear hY hbY hBY e CS hd
  unfold lfV
  go_enter Tryz.func85, Tryz.ntmps85
  go_wp2_with fail
  rw [← HY.out]
  refine wp_region_quiet_below (by kernel_rfl) (by kernel_rfl) ?_
  (try simp only [List.append_eq, List.cons_append, List.nil_append])
  repeat (first | go_big_quiet_step (first | (with_reducible exact C4.out _ _) | (with_reducible exact C5.out _ _)))
  refine wpQuiet_nil ?_
  intro _ hw'
  obtain ⟨⟨dq, osq⟩, hw''⟩ := hw'
  subst hw''
  go_wp2_with fail
  go_ret
  exact ⟨rfl, Below.trans HB.out ((below_regrown Y dq osq).mono HB.out.size)⟩


end Go.Proofs.YtnbbijpmkhdgpaaGreat.Ent

/- ERef -/
namespace Go.Proofs.YtnbbijpmkhdgpaaGreat.Ent
open Go.RowKit Go.Sort
open Wire (TK TP But twoL fourL)
open Crc (sealB Only)

set_option maxRecDepth 100000 in
set_option maxHeartbeats 8000000 in
theorem rright_calls (x : En) (w : World) :
    Calls Tryz.prog 124 #[enV x] w fun e w' => e = .returned (.bool (rightE x)) ∧ Below w.heap.size w w' := by
  by_cases h0 : x.seq < 1
  · have E : Hid (false = rightE x) := Lib.hid (by
      symm
      rw [Bool.eq_false_iff]
      intro h
      have := right_iff.1 h
      omega)
    unfold enV
    go_enter Tryz.func124, Tryz.ntmps124
    go_wp2_with fail
    go_ret
    exact ⟨ret_bool E.out, below_one _ _⟩
  · have h0' : 1 ≤ x.seq := by omega
    by_cases h1 : 2147483648 ≤ x.seq
    · have E : Hid (false = rightE x) := Lib.hid (by
        symm
        rw [Bool.eq_false_iff]
        intro h
        have := right_iff.1 h
        omega)
      unfold enV
      go_enter Tryz.func124, Tryz.ntmps124
      go_wp2_with fail
      go_ret
      exact ⟨ret_bool E.out, below_one _ _⟩
    · have h1' : x.seq < 2147483648 := by omega
      by_cases h2 : x.index < 0
      · have E : Hid (false = rightE x) := Lib.hid (by
          symm
          rw [Bool.eq_false_iff]
          intro h
          have := right_iff.1 h
          omega)
        unfold enV
        go_enter Tryz.func124, Tryz.ntmps124
        go_wp2_with fail
        go_ret
        exact ⟨ret_bool E.out, below_one _ _⟩
      · have h2' : 0 ≤ x.index := by omega
        by_cases h3 : 256 ≤ x.index
        · have E : Hid (false = rightE x) := Lib.hid (by
            symm
            rw [Bool.eq_false_iff]
            intro h
            have := right_iff.1 h
            omega)
          unfold enV
          go_enter Tryz.func124, Tryz.ntmps124
          go_wp2_with fail
          go_ret
          exact ⟨ret_bool E.out, below_one _ _⟩
        · have h3' : x.index < 256 := by omega
          by_cases h4 : x.no < 0
          · have E : Hid (false = rightE x) := Lib.hid (by
              symm
              rw [Bool.eq_false_iff]
              intro h
              have := right_iff.1 h
              omega)
            unfold enV
            go_enter Tryz.func124, Tryz.ntmps124
            go_wp2_with fail
            go_ret
            exact ⟨ret_bool E.out, below_one _ _⟩
          · have h4' : 0 ≤ x.no := by omega
            by_cases h5 : 512 ≤ x.no
            · have E : Hid (false = rightE x) := Lib.hid (by
                symm
                rw [Bool.eq_false_iff]
                intro h
                have := right_iff.1 h
                omega)
              unfold enV
              go_enter Tryz.func124, Tryz.ntmps124
              go_wp2_with fail
              go_ret
              exact ⟨ret_bool E.out, below_one _ _⟩
            · have h5' : x.no < 512 := by omega
              have hR : rightE x = decide (x.data.length = dataN x.last) := by
                rw [Bool.eq_iff_iff, right_iff, decide_eq_true_iff]
                omega
              have HR := Lib.hid hR
              clear hR
              have e6 := strB_toList x.data
              have hsz := strB_size x.data
              cases hl : x.last with
              | true =>
                rw [hl] at HR
                unfold enV
                rw [hl]
                go_enter Tryz.func124, Tryz.ntmps124
                go_wp2_with fail
                all_goals
                  rename_i hd
                  go_ret
                  refine ⟨ret_bool ?_, below_one _ _⟩
                  rw [HR.out, Bool.eq_iff_iff]
                  simp [dataN, hd]
              | false =>
                rw [hl] at HR
                unfold enV
                rw [hl]
                go_enter Tryz.func124, Tryz.ntmps124
                go_wp2_with fail
                go_ret
                refine ⟨ret_bool ?_, below_one _ _⟩
                rw [HR.out, Bool.eq_iff_iff]
                simp [dataN] <;> omega

set_option maxRecDepth 100000 in
set_option maxHeartbeats 8000000 in
theorem rprint_calls (x : En) (w : World) (hx : x.data.length ≤ 240) :
    Calls Tryz.prog 20 #[enV x] w fun e w' => e = .returned (.string (strB (printL x))) ∧ Below w.heap.size w w' := by
  obtain ⟨Y, hY, hbY, hBY⟩ : ∃ Y, Y = w.alloc (.cells (enC x) 55) ∧ EBox Y w.heap.size x ∧ Below w.heap.size w Y := ⟨_, rfl, EBox.new _ _, below_one _ _⟩
  unfold enC at hY
  have k0 := fun d os => cell_regrown hbY.at_.c0 d os
  have k1 := fun d os => cell_regrown hbY.at_.c1 d os
  have k3 := fun d os => cell_regrown hbY.at_.c3 d os
  have k4 := fun d os => cell_regrown hbY.at_.c4 d os
  have e : strB (kindL x.last) ++ strB (fourL x.seq) ++ strB (twoL x.index) ++ strB (twoL x.no) ++ strB x.data = strB (headL x) := by
    simp only [strB_append, headL, restL, List.append_assoc]
  obtain ⟨T, hT⟩ : ∃ T, T = headL x := ⟨_, rfl⟩
  rw [← hT] at e
  have hTl : T.length ≤ 252 := by rw [hT, headL_len]; omega
  obtain ⟨k, hk⟩ : ∃ k, k = 252 - T.length := ⟨_, rfl⟩
  have hs := strB_size T
  have hm : (252 : Int) - ((strB T).size : Int) = (k : Nat) := by omega
  have hm1 : (0 : Int) ≤ 252 - ((strB T).size : Int) := by omega
  have hm2 : ((strB T).size : Int) ≤ 252 := by omega
  have hm3 : ¬ (252 : Int) < ((strB T).size : Int) := by omega
  have hz : ¬ 9223372036854775807 < (strB T).size + (strB (zer k)).size := by rw [strB_size, strB_size, zer_len]; omega
  have hmk := Wire.make_zeros k (by omega)
  have hc : ∀ W : World, (convert 76 9 (.slice (some ⟨W.heap.size, 0, none⟩) k k)).run Tryz.prog (W.alloc (.cells (madeCells #[.int .u8 0] k) 5)) = .ok (.string (strB (zer k))) (W.alloc (.cells (madeCells #[.int .u8 0] k) 5)) := Wire.conv_zeros k
  have hf : strB T ++ strB (zer k) = strB (fillL (headL x)) := by rw [strB_append, hk, hT]; rfl
  have HS := Lib.hid (Crc.ref_seal (strB T ++ strB (zer k)))
  rw [hf, strB_data, ← hf] at HS
  have HF : Hid ((strB T ++ strB (zer k)).size ≤ 9223372036854775000) := Lib.hid (by rw [hf, strB_size, fill_len (by rw [← hT]; exact hTl)]; omega)
  have C2 := Lib.hid (rg (Wire.rfour_calls x.seq) Y)
  have C3 := Lib.hid (rg (Wire.rtwo_calls x.index) Y)
  have C4 := Lib.hid (rg (Wire.rtwo_calls x.no) Y)
  have HY := Lib.hid hY
  have HB := Lib.hid hBY
  have HE := Lib.hid e
  have g1 : (strB (kindL x.last)).size ≤ 4 := by rw [strB_size, kindL_len]; exact Nat.le_refl _
  have g2 : (strB (fourL x.seq)).size ≤ 4 := by rw [strB_size]; exact Nat.le_refl _
  have g3 : (strB (twoL x.index)).size ≤ 4 := by rw [strB_size, Wire.twoL_len]; omega
  have g4 : (strB (twoL x.no)).size ≤ 4 := by rw [strB_size, Wire.twoL_len]; omega
  have g5 : (strB x.data).size ≤ 240 := by rw [strB_size]; exact hx
  clear hY hBY e hx hs hT hk hf hTl
  rcases Bool.eq_false_or_eq_true x.last with hl | hl
  · rw [hl] at HE g1
    rw [show strB (kindL true) = ⟨#[74, 69, 78, 68]⟩ from rfl] at HE g1
    have k2 := hbY.at_.c2
    rw [hl, HY.out] at k2
    unfold enV
    rw [hl]
    rw [hl] at HY
    rw [hl] at k2
    clear hbY
    go_enter Tryz.func20, Tryz.ntmps20
    go_wp2_with fail
    rw [← HY.out]
    clear k2
    refine wp_region_quiet_below (by kernel_rfl) (by kernel_rfl) ?_
    (try simp only [List.append_eq, List.cons_append, List.nil_append])
    repeat (first | go_big_quiet_step (first | (with_reducible exact C2.out _ _) | (with_reducible exact C3.out _ _) | (with_reducible exact C4.out _ _)))
    refine wpQuiet_nil ?_
    intro _ hw'
    obtain ⟨⟨dq, osq⟩, hw''⟩ := hw'
    subst hw''
    dsimp only
    rw [HE.out]
    have HB2 := Lib.hid (Below.trans HB.out ((below_regrown Y dq osq).mono HB.out.size))
    generalize grow (redrawn Y dq) osq = W1 at *
    clear k0 k1 k3 k4 g1 g2 g3 g4 g5
    go_wp2_with fail
    (with_reducible refine (HS.out _ HF.out).mono ?_)
    rintro e w2 ⟨rfl, hB2⟩
    go_wp2_with fail
    go_ret
    exact ⟨rfl, below_trans' (below_trans' HB2.out (below_one _ _)) hB2⟩
  · rw [hl] at HE g1
    rw [show strB (kindL false) = ⟨#[74, 80, 65, 71]⟩ from rfl] at HE g1
    have k2 := hbY.at_.c2
    rw [hl, HY.out] at k2
    unfold enV
    rw [hl]
    rw [hl] at HY
    rw [hl] at k2
    clear hbY
    go_enter Tryz.func20, Tryz.ntmps20
    go_wp2_with fail
    rw [← HY.out]
    clear k2
    refine wp_region_quiet_below (by kernel_rfl) (by kernel_rfl) ?_
    (try simp only [List.append_eq, List.cons_append, List.nil_append])
    repeat (first | go_big_quiet_step (first | (with_reducible exact C2.out _ _) | (with_reducible exact C3.out _ _) | (with_reducible exact C4.out _ _)))
    refine wpQuiet_nil ?_
    intro _ hw'
    obtain ⟨⟨dq, osq⟩, hw''⟩ := hw'
    subst hw''
    dsimp only
    rw [HE.out]
    have HB2 := Lib.hid (Below.trans HB.out ((below_regrown Y dq osq).mono HB.out.size))
    generalize grow (redrawn Y dq) osq = W1 at *
    clear k0 k1 k3 k4 g1 g2 g3 g4 g5
    go_wp2_with fail
    (with_reducible refine (HS.out _ HF.out).mono ?_)
    rintro e w2 ⟨rfl, hB2⟩
    go_wp2_with fail
    go_ret
    exact ⟨rfl, below_trans' (below_trans' HB2.out (below_one _ _)) hB2⟩

set_option maxRecDepth 100000 in
set_option maxHeartbeats 8000000 in
theorem rleaf_calls (no : Int) (d : List UInt8) (w : World) (hd : d.length ≤ 240) :
    Calls Tryz.prog 19 #[lfV no d] w fun e w' => e = .returned (.string (strB (leafL no d))) ∧ Below w.heap.size w w' := by
  obtain ⟨Y, hY, hbY, hBY⟩ : ∃ Y, Y = w.alloc (.cells #[.int .i64 no, .string (strB d)] 52) ∧ LBox Y w.heap.size no d ∧ Below w.heap.size w Y := ⟨_, rfl, LBox.new _ _ _, below_one _ _⟩
  have k0 := fun d os => cell_regrown hbY.c0 d os
  have k1 := fun d os => cell_regrown hbY.c1 d os
  obtain ⟨T, hT⟩ : ∃ T, T = leafK ++ (twoL no ++ d) := ⟨_, rfl⟩
  have e : (⟨#[76, 69, 65, 70]⟩ : ByteArray) ++ strB (twoL no) ++ strB d = strB T := by
    rw [hT, show (⟨#[76, 69, 65, 70]⟩ : ByteArray) = strB leafK from rfl]
    simp only [strB_append, List.append_assoc]
  have hTl : T.length ≤ 252 := by rw [hT, List.length_append, List.length_append, Wire.twoL_len]; show 4 + _ ≤ _; omega
  obtain ⟨k, hk⟩ : ∃ k, k = 252 - T.length := ⟨_, rfl⟩
  have hs := strB_size T
  have hm : (252 : Int) - ((strB T).size : Int) = (k : Nat) := by omega
  have hm1 : (0 : Int) ≤ 252 - ((strB T).size : Int) := by omega
  have hm2 : ((strB T).size : Int) ≤ 252 := by omega
  have hm3 : ¬ (252 : Int) < ((strB T).size : Int) := by omega
  have hz : ¬ 9223372036854775807 < (strB T).size + (strB (zer k)).size := by rw [strB_size, strB_size, zer_len]; omega
  have hmk := Wire.make_zeros k (by omega)
  have hc : ∀ W : World, (convert 76 9 (.slice (some ⟨W.heap.size, 0, none⟩) k k)).run Tryz.prog (W.alloc (.cells (madeCells #[.int .u8 0] k) 5)) = .ok (.string (strB (zer k))) (W.alloc (.cells (madeCells #[.int .u8 0] k) 5)) := Wire.conv_zeros k
  have hf : strB T ++ strB (zer k) = strB (fillL (leafK ++ (twoL no ++ d))) := by rw [strB_append, hk, hT]; rfl
  have HS := Lib.hid (Crc.ref_seal (strB T ++ strB (zer k)))
  rw [hf, strB_data, ← hf] at HS
  have HF : Hid ((strB T ++ strB (zer k)).size ≤ 9223372036854775000) := Lib.hid (by rw [hf, strB_size, fill_len (by rw [← hT]; exact hTl)]; omega)
  have C4 := Lib.hid (rg (Wire.rtwo_calls no) Y)
  have HY := Lib.hid hY
  have HB := Lib.hid hBY
  have HE := Lib.hid e
  have g4 : (strB (twoL no)).size ≤ 4 := by rw [strB_size, Wire.twoL_len]; omega
  have g5 : (strB d).size ≤ 240 := by rw [strB_size]; exact hd
  clear hY hBY hbY e hd hs hT hk hf hTl
  unfold lfV
  go_enter Tryz.func19, Tryz.ntmps19
  go_wp2_with fail
  rw [← HY.out]
  refine wp_region_quiet_below (by kernel_rfl) (by kernel_rfl) ?_
  (try simp only [List.append_eq, List.cons_append, List.nil_append])
  repeat (first | go_big_quiet_step (first | (with_reducible exact C4.out _ _)))
  refine wpQuiet_nil ?_
  intro _ hw'
  obtain ⟨⟨dq, osq⟩, hw''⟩ := hw'
  subst hw''
  dsimp only
  rw [HE.out]
  have HB2 := Lib.hid (Below.trans HB.out ((below_regrown Y dq osq).mono HB.out.size))
  generalize grow (redrawn Y dq) osq = W1 at *
  clear k0 k1 g4 g5
  go_wp2_with fail
  (with_reducible refine (HS.out _ HF.out).mono ?_)
  rintro e w2 ⟨rfl, hB2⟩
  go_wp2_with fail
  go_ret
  exact ⟨rfl, below_trans' (below_trans' HB2.out (below_one _ _)) hB2⟩

end Go.Proofs.YtnbbijpmkhdgpaaGreat.Ent

/- ERHome -/
namespace Go.Proofs.YtnbbijpmkhdgpaaGreat.Ent
open Go.RowKit Go.Sort
open Wire (TK TP But twoL fourL numS inside good markS)
open Crc (sealB Only)

theorem home_plain {s : List UInt8} {no : Int} (h0 : 0 ≤ no) (h1 : no ≤ 65535) (hz : (s == zer 256) = false) (hl : s.length = 256) (hk : s.take 4 = leafK) :
    homeB s no = (leafL no ((s.drop 6).take 208) == s) ∧ dataH s no = (s.drop 6).take 208 := by
  have hm : markS leafK ⟨s, false⟩ = ⟨s.drop 4, false⟩ := mark_good (by rw [hl]; decide) hk
  have hd : dataH s no = (s.drop 6).take 208 := by
    unfold dataH tapeH
    rw [hm]
    unfold numS
    rw [Wire.good_yes (by rw [List.length_drop, hl]; omega), if_pos rfl, List.drop_drop]
  refine ⟨?_, hd⟩
  unfold homeB
  rw [hz, hd, Bool.false_or]
  cases he : leafL no ((s.drop 6).take 208) == s with
  | false => rw [Bool.and_false]
  | true =>
    rw [beq_iff_eq] at he
    obtain ⟨z, ht⟩ := tape_leaf ((s.drop 6).take 208) h0 h1
    rw [he] at ht
    rw [ht]
    rfl
theorem home_len {s : List UInt8} {no : Int} (h : s.length ≠ 256) : homeB s no = false := by
  cases hb : homeB s no with
  | false => rfl
  | true =>
    rcases home_is hb with e | ⟨_, _, e⟩
    · exact absurd (by rw [e, zer_len]) h
    · exact absurd e h
theorem home_kind {s : List UInt8} {no : Int} (hz : (s == zer 256) = false) (h : s.take 4 ≠ leafK) : homeB s no = false := by
  cases hb : homeB s no with
  | false => rfl
  | true =>
    rcases home_is hb with e | ⟨e, _⟩
    · rw [e, beq_self_eq_true] at hz; cases hz
    · exact absurd e h

theorem zeros_made (n : Nat) (hn : n ≤ 1000) (w : World) : ∃ Y, (Instr.makeSlice 76 (.int .i64 (n : Nat)) (.int .i64 (n : Nat))).run Tryz.prog w = .ok (.slice (some ⟨w.heap.size, 0, none⟩) n n) Y ∧ (convert 76 9 (.slice (some ⟨w.heap.size, 0, none⟩) n n)).run Tryz.prog Y = .ok (.string (strB (zer n))) Y ∧ Below w.heap.size w Y :=
  ⟨_, Wire.make_zeros n (by omega) w, Wire.conv_zeros n w, below_one _ _⟩
theorem zeros256 (w : World) : ∃ Y, (Instr.makeSlice 76 (.int .i64 256) (.int .i64 256)).run Tryz.prog w = .ok (.slice (some ⟨w.heap.size, 0, none⟩) 256 256) Y ∧ (convert 76 9 (.slice (some ⟨w.heap.size, 0, none⟩) 256 256)).run Tryz.prog Y = .ok (.string (strB (zer 256))) Y ∧ Below w.heap.size w Y := zeros_made 256 (by omega) w
theorem zeros208 (w : World) : ∃ Y, (Instr.makeSlice 76 (.int .i64 208) (.int .i64 208)).run Tryz.prog w = .ok (.slice (some ⟨w.heap.size, 0, none⟩) 208 208) Y ∧ (convert 76 9 (.slice (some ⟨w.heap.size, 0, none⟩) 208 208)).run Tryz.prog Y = .ok (.string (strB (zer 208))) Y ∧ Below w.heap.size w Y := zeros_made 208 (by omega) w

theorem cut6 (s : List UInt8) (h : s.length = 256) (w : World) :
    Sem.run Tryz.prog (Instr.slice 9 (.string (strB s)) (some (.int .i64 6)) (some (.int .i64 214)) none) w = .ok (.string (strB ((s.drop 6).take 208))) w := by
  have h2 : (214 : Int) ≤ ((strB s).size : Int) := by rw [strB_size]; omega
  have := run_slice_string (P := Tryz.prog) w 9 (strB s) .i64 .i64 6 214 Tryz.underlying9 (by omega) (by omega) h2
  rw [this]
  have e : (strB s).extract 6 214 = strB ((s.drop 6).take 208) := by rw [strB_extract, List.drop_take]
  exact congrArg (fun b => Result.ok (Value.string b) w) e
theorem cut4 (s : List UInt8) (h : s.length = 256) (w : World) :
    Sem.run Tryz.prog (Instr.slice 9 (.string (strB s)) none (some (.int .i64 4)) none) w = .ok (.string (strB (s.take 4))) w := by
  have h2 : (4 : Int) ≤ ((strB s).size : Int) := by rw [strB_size]; omega
  have h3 : 4 ≤ (strB s).size := by rw [strB_size]; omega
  have e : (strB s).extract 0 4 = strB (s.take 4) := by rw [strB_extract, List.drop_zero]
  simp [go_sem, h2, e]

theorem eqz_spell (a b : List UInt8) : ((strB a).toList == (strB b).toList) = (a == b) := by rw [strB_toList, strB_toList]

set_option maxRecDepth 100000 in
set_option maxHeartbeats 8000000 in
theorem rhome_calls (s : List UInt8) (no : Int) (w : World) (h0 : 0 ≤ no) (h1 : no ≤ 511) :
    Calls Tryz.prog 70 #[.string (strB s), .int .i64 no] w fun e w' => ∃ v, e = .returned (.tuple #[.string (strB v), .bool (homeB s no)]) ∧ (homeB s no = true → v = homeV s no) ∧ Below w.heap.size w w' := by
  obtain ⟨Z2, hZ2⟩ : ∃ Z, Z = zer 256 := ⟨_, rfl⟩
  obtain ⟨Z, hZ⟩ : ∃ Z, Z = zer 208 := ⟨_, rfl⟩
  have M2 := Lib.hid zeros256
  have M1 := Lib.hid zeros208
  rw [← hZ2] at M2
  rw [← hZ] at M1
  obtain ⟨Y1, m1, m2, m3⟩ := M2.out w
  obtain ⟨Y2, n1, n2, n3⟩ := M1.out Y1
  have HE := eqz_spell s Z2
  rw [hZ2] at HE
  rw [← hZ2] at HE
  have HB1 := Lib.hid m3
  have HB2 := Lib.hid (below_trans' m3 n3)
  have hs := strB_size s
  clear m3 n3 M1 M2
  cases hz : s == zer 256 with
  | true =>
    rw [hZ2, hz, ← hZ2] at HE
    have e1 : homeB s no = true := by unfold homeB; rw [hz]; rfl
    have e2 : Z = homeV s no := by unfold homeV; rw [hz, hZ]; rfl
    rw [e1]
    have E2 := Lib.hid e2
    clear e1 e2 hz hs hZ hZ2
    go_enter Tryz.func70, Tryz.ntmps70
    go_wp2_with fail
    go_ret2
    exact ⟨_, rfl, fun _ => E2.out, HB2.out⟩
  | false =>
    rw [hZ2, hz, ← hZ2] at HE
    by_cases hl : s.length = 256
    · have h256 : (strB s).size = 256 := by omega
      have hc4 := cut4 s hl
      have hc6 := cut6 s hl
      by_cases hk : s.take 4 = leafK
      · rw [hk] at hc4
        rw [show strB leafK = ⟨#[76, 69, 65, 70]⟩ from rfl] at hc4
        obtain ⟨e1, e2⟩ := home_plain h0 (show no ≤ 65535 by omega) hz hl hk
        obtain ⟨D, hD⟩ : ∃ D, D = (s.drop 6).take 208 := ⟨_, rfl⟩
        have hv : homeB s no = true → D = homeV s no := fun hb => by
          unfold homeB at hb
          rw [hz, Bool.false_or] at hb
          unfold homeV
          rw [hz, hb, e2, hD]
          rfl
        rw [← hD] at hc6 e1
        rw [e1] at hv ⊢
        have HV := Lib.hid hv
        have HL := Lib.hid (fun W => rleaf_calls no D W (by rw [hD, List.length_take]; omega))
        unfold lfV at HL
        have he := eqz_spell (leafL no D) s
        clear hv e1 e2 hD hk hz hl hs hZ hZ2 n1 n2 HB2 h0 h1
        go_enter Tryz.func70, Tryz.ntmps70
        go_wp2_with fail
        (with_reducible refine (HL.out _).mono ?_)
        rintro e w2 ⟨rfl, hB2⟩
        go_wp2_with fail
        go_ret2
        exact ⟨_, rfl, HV.out, below_trans' HB1.out hB2⟩
      · have hne : (s.take 4 == [76, 69, 65, 70]) = false := by rw [beq_eq_false_iff_ne]; exact hk
        have e1 := home_kind (no := no) hz hk
        obtain ⟨K, hK⟩ : ∃ K, K = s.take 4 := ⟨_, rfl⟩
        rw [← hK] at hc4 hne
        have ht := strB_toList K
        have hne' : ¬ K = [76, 69, 65, 70] := by rw [hK]; exact hk
        rw [e1]
        clear e1 hK hk hz hl hs hZ hZ2 n1 n2 HB2 h0 h1 hc6
        go_enter Tryz.func70, Tryz.ntmps70
        go_wp2_with fail
        go_ret2
        exact ⟨[], rfl, (fun h => by cases h), HB1.out⟩
    · have h256 : ((strB s).size == 256) = false := by rw [beq_eq_false_iff_ne, hs]; exact hl
      have h257 : (((strB s).size : Int) == 256) = false := by rw [beq_eq_false_iff_ne, hs]; omega
      have h258 : ¬ (strB s).size = 256 := by rw [hs]; exact hl
      rw [home_len hl]
      clear hz hl hs hZ hZ2 n1 n2 HB2 h0 h1
      go_enter Tryz.func70, Tryz.ntmps70
      go_wp2_with fail
      go_ret2
      exact ⟨[], rfl, (fun h => by cases h), HB1.out⟩

end Go.Proofs.YtnbbijpmkhdgpaaGreat.Ent

/- ASame -/
namespace Go.Proofs.YtnbbijpmkhdgpaaGreat
open Go.RowKit

theorem Sh.dec (x y : Sh) : decide (x = y) = (x.pages == y.pages && x.journal == y.journal) := by
  rw [Bool.eq_iff_iff]
  simp [Sh.eq_iff]

theorem equal23 (x y : Sh) (w : World) : (Op.equalIn 10000 30 (shV x) (shV y)).run Tryz.prog w = .ok (decide (x = y)) w := by
  unfold shV
  rw [Sh.dec]
  cases h1 : (x.pages == y.pages) with
  | false => go_simp
  | true =>
    cases h2 : (x.journal == y.journal) with
    | false => go_simp
    | true => go_simp

theorem eql23 (x y : Sh) (w : World) : (binOp .eql 30 (shV x) (shV y)).run Tryz.prog w = .ok (.bool (decide (x = y))) w := by
  have h := equal23 x y w
  unfold shV at h ⊢
  rw [run_eql_struct, h]
  rfl
theorem neq23 (x y : Sh) (w : World) : (binOp .neq 30 (shV x) (shV y)).run Tryz.prog w = .ok (.bool (!decide (x = y))) w := by
  have h := equal23 x y w
  unfold shV at h ⊢
  rw [run_neq_struct, h]
  rfl

end Go.Proofs.YtnbbijpmkhdgpaaGreat
