/- item.Put: what the call does. No statement is proved here. -/
import Derived.Test.YtgnhjcgegibpdaaIns
namespace Go.Proofs.Ytgnhjcgegibpdaa
open Go.RowKit

theorem tw_take {x : It} : ∀ (l : List It) (k : Nat), (∀ q y, q < k → l[q]? = some y → (!less y x) = false) → (∀ y, l[k]? = some y → (!less y x) = true) → k ≤ l.length → l.takeWhile (fun o => less o x) = l.take k ∧ l.dropWhile (fun o => less o x) = l.drop k
  | [], k, _, _, h3 => by simp at h3; subst h3; simp
  | y :: l, 0, _, h2, _ => by
    have := h2 y rfl
    simp at this
    simp [this]
  | y :: l, k + 1, h1, h2, h3 => by
    have h0 := h1 0 y (by omega) rfl
    simp at h0
    have ih := tw_take (x := x) l k (fun q z hq hz => h1 (q + 1) z (by omega) (by simpa using hz)) (fun z hz => h2 z (by simpa using hz)) (by simpa using h3)
    simp [h0, ih.1, ih.2]
theorem ins_at {x : It} {l : List It} {k : Nat} (h1 : ∀ q y, q < k → l[q]? = some y → (!less y x) = false) (h2 : ∀ y, l[k]? = some y → (!less y x) = true) (h3 : k ≤ l.length) : insL x l = l.take k ++ x :: l.drop k := by
  obtain ⟨e1, e2⟩ := tw_take l k h1 h2 h3
  unfold insL
  rw [e1, e2]
theorem drop_le (k : List UInt8) (s : Int) (l : List It) : (dropL k s l).length ≤ l.length := List.length_filter_le _ _

set_option maxRecDepth 100000 in
set_option maxHeartbeats 4000000 in
theorem put_calls (v : Value) (l : List It) (x : It) (w : World) (hv : Its w v l) (hlen : l.length ≤ 1000) :
    Calls Try.prog 18 #[v, itV x] w fun e w' => ∃ v', e = .returned v' ∧ Own w.heap.size w' v' (putL x l) ∧ Below w.heap.size w w' := by
  have hb := below_one w (.cells #[.string (strB x.key), .int .i64 x.seq, .int .i64 x.ver, .bool x.mark, .string (strB x.mt), .string (strB x.tag), .string (strB x.body)] 24)
  have HD := Lib.hid (drop_calls v l x.key x.seq _ (hv.below hb) hlen)
  have HB := Lib.hid hb
  obtain ⟨A, c, rfl⟩ := hv.form
  clear hv hb
  unfold itV putL
  have hdl := drop_le x.key x.seq l
  obtain ⟨m, hm⟩ : ∃ m, m = dropL x.key x.seq l := ⟨_, rfl⟩
  rw [← hm] at HD hdl ⊢
  clear hm
  go_enter Try.func18, Try.ntmps18
  go_wp2_with fail
  with_reducible refine HD.out.mono ?_
  rintro e w1 ⟨v1, rfl, hO1, hB1⟩
  have hbox := Box.below (x := x) (g := w.heap.size) (heap_alloc_new w _) hB1
  obtain ⟨A1, c1, rfl⟩ := hO1.its.form
  have hi := index_calls _ m 30 #[.pointer (some ⟨w.heap.size, 0, none⟩)] (fun o => !less o x) w1 hO1.its (by omega) (fun o W hW => putFn_calls o x w.heap.size W (hbox.below hW)) enters30
  have HI := Lib.hid hi
  have HO1 := Lib.hid (hO1.mono HB.out.size)
  have HB1 := Lib.hid (below_trans' HB.out hB1)
  have HX := Lib.hid hbox
  clear hi hO1 hB1 hbox HD HB
  go_wp2_with fail
  with_reducible refine HI.out.mono ?_
  rintro e w2 ⟨hB2, k, hlow, hres⟩
  have HX2 := Lib.hid (HX.out.below hB2)
  obtain ⟨c0, c1', c2, c3, c4, c5, c6⟩ := HX2.out.at_
  have HB2 := Lib.hid (below_trans' HB1.out hB2)
  have HO2 := Lib.hid (HO1.out.below hB2)
  have hkl : k ≤ m.length := by rcases hres with ⟨h, _⟩ | ⟨h, _⟩ <;> omega
  have hins : insL x m = m.take k ++ x :: m.drop k := by
    refine ins_at hlow ?_ hkl
    rcases hres with ⟨_, h, _⟩ | ⟨h, _⟩
    · exact h
    · intro y hy
      rw [List.getElem?_eq_none (by omega)] at hy
      cases hy
  have HE := Lib.hid hins
  have hc : Calls Try.prog 31 #[.slice A1 m.length c1, .int .i64 k, .slice (some ⟨w2.heap.size, 0, none⟩) 1 1] (w2.alloc (.cells #[.string (strB x.key), .int .i64 x.seq, .int .i64 x.ver, .bool x.mark, .string (strB x.mt), .string (strB x.tag), .string (strB x.body)] 24)) fun e w' => ∃ v', e = .returned v' ∧ Own w.heap.size w' v' (m.take k ++ x :: m.drop k) ∧ Below w.heap.size (w2.alloc (.cells #[.string (strB x.key), .int .i64 x.seq, .int .i64 x.ver, .bool x.mark, .string (strB x.mt), .string (strB x.tag), .string (strB x.body)] 24)) w' :=
    insert_calls w.heap.size _ m x k w2.heap.size _ (HO2.out.below (below_one _ _)) (heap_alloc_new w2 _) (fun e => by have := (World.ownsRow.lt HO2.out _ e).2; omega) hkl (by omega) (by have := HB2.out.size; simp; omega)
  have HC := Lib.hid hc
  clear hB2 hlow hins hc HI HB1 HO1 HX
  rcases hres with ⟨hk, _, rfl⟩ | ⟨rfl, rfl⟩
  · have hk0 : ¬ (k : Int) < 0 := by omega
    go_wp2_with fail
    with_reducible refine HC.out.mono ?_
    rintro e w3 ⟨v3, rfl, hO3, hB3⟩
    go_wp2_with fail
    go_ret
    exact ⟨_, rfl, by rw [HE.out]; exact hO3, (HB2.out.alloc HB2.out.size _).trans hB3⟩
  · go_wp2_with fail
    with_reducible refine HC.out.mono ?_
    rintro e w3 ⟨v3, rfl, hO3, hB3⟩
    go_wp2_with fail
    go_ret
    exact ⟨_, rfl, by rw [HE.out]; exact hO3, (HB2.out.alloc HB2.out.size _).trans hB3⟩

end Go.Proofs.Ytgnhjcgegibpdaa
