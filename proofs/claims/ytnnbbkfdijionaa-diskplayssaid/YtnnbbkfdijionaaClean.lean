/- Started and flushed disks, and deeds that stay. No statement is proved here. -/
import Derived.Test.YtnnbbkfdijionaaReads
namespace Go.Proofs.Ytnnbbkfdijionaa
open Go.RowKit

theorem ActIn.below {w w1 : World} {A : Option Addr} {len : Nat} {xs : List AK} (h : ActIn w A len xs) (hb1 : Below w.heap.size w w1) : ActIn w1 A len xs := ⟨h.1, h.2.1, fun hp => by
  obtain ⟨b, off, ea, hb, hc⟩ := h.2.2 hp
  refine ⟨b, off, ea, Nat.lt_of_lt_of_le hb hb1.size, fun j a ha => ?_⟩
  obtain ⟨c0, c1, c2, c3⟩ := hc j a ha
  exact ⟨(hb1.cell (p := ⟨b, off + j * 4, none⟩) hb).trans c0, (hb1.cell (p := ⟨b, off + j * 4 + 1, none⟩) hb).trans c1, (hb1.cell (p := ⟨b, off + j * 4 + 2, none⟩) hb).trans c2, (hb1.cell (p := ⟨b, off + j * 4 + 3, none⟩) hb).trans c3⟩⟩

theorem fl_clean (zs : List ByteArray) : flD (cleanD zs) = cleanD zs ∧ flE (cleanD zs) = 0 := by
  simp [flD, flE, cleanD, deedB, deedD, settleF, settleK]

/-- A started disk, flushed. -/
theorem fclean_calls (A B : Option Addr) (c m : Nat) (zs : List ByteArray) (W : World) (hv : IsDisk W (.agg #[.slice A 5 c, .slice B 0 m, .bool false, .int .i64 (-1)]) (cleanD zs)) (hz : zs.length = 5) :
    Calls Try.prog 19 #[.agg #[.slice A 5 c, .slice B 0 m, .bool false, .int .i64 (-1)]] W fun e w' => ∃ A c B m, e = .returned (.tuple #[.agg #[.slice A 5 c, .slice B 0 m, .bool false, .int .i64 (-1)], .int .i64 0]) ∧ IsDisk w' (.agg #[.slice A 5 c, .slice B 0 m, .bool false, .int .i64 (-1)]) (cleanD zs) ∧ Below W.heap.size W w' := by
  have hcl : Calls Try.prog 19 _ _ fun e w' => ∃ v', e = .returned (.tuple #[v', .int .i64 (flE (cleanD zs))]) ∧ IsDisk w' v' (flD (cleanD zs)) ∧ Below W.heap.size W w' := flush_calls _ _ W hv (clean_ok hz)
  refine hcl.mono ?_
  rw [(fl_clean zs).1, (fl_clean zs).2]
  rintro e w' ⟨v', rfl, hv', hb'⟩
  obtain ⟨A, c, B, m, rfl⟩ := parts_of hv' 5 0 false (-1) hz rfl rfl rfl
  exact ⟨A, c, B, m, rfl, hv', hb'⟩

/-- A sector of a disk of five, by its place. -/
theorem clean_at {W : World} {A B : Option Addr} {c m : Nat} {zs : List ByteArray} (h : IsDisk W (.agg #[.slice A 5 c, .slice B 0 m, .bool false, .int .i64 (-1)]) (cleanD zs)) (hz : zs.length = 5) :
    ∃ b off, A = some ⟨b, off, none⟩ ∧ b < W.heap.size ∧ ∀ i, i < 5 → W.cell? ⟨b, off + i, none⟩ = some (.string (zs.getD i ByteArray.empty)) := by
  obtain ⟨vs, vw, e, ⟨A1, c1, e1, _, hr⟩, _⟩ := h
  simp only [Value.agg.injEq, Array.mk.injEq, List.cons.injEq] at e
  obtain ⟨e0, _⟩ := e
  rw [e1] at e0
  injection e0 with e2 e3 e4
  subst e2
  obtain ⟨b, off, ea, hb, hc⟩ := hr.at_ (by simp [cleanD]; omega)
  refine ⟨b, off, ea, hb, fun i hi => hc i _ ?_⟩
  simp [cleanD, List.getD, List.getElem?_eq_getElem (show i < zs.length by omega)]

end Go.Proofs.Ytnnbbkfdijionaa
