/-
  The law ShaRows walked: however bytes are cut into rows, the hash is that of all of them.
-/
import Derived.Test.YtahjmlhomaommaaDoorShaW
import Derived.Test.YtahjmlhomaommaaDoorRowU
import Derived.Deep.RegionHeld3
namespace Go.Proofs.YtahjmlhomaommaaDoor
open Go.RowKit Go.BigFrame
set_option linter.unusedVariables false

theorem keeps_below4 {w w' : World} (h : Keeps (fun _ => False) w w') : Below w.heap.size w w' := h.below (Nat.le_refl _) (fun _ _ => id)
/-- Rows whose headers fill a block. -/
theorem rowsAt_block {w : World} {g : Nat} {t : TypeId} {vs : List Value} {rs : List RowOf} (h : w.heap[g]? = some (.cells vs.toArray t (0, 0))) (hv : rs.map (fun r => Value.slice r.1 r.2.2.length r.2.1) = vs)
    (hs : ∀ r ∈ rs, Src w r.1 (bvs r.2.2)) (hc : ∀ r ∈ rs, r.2.2.length ≤ r.2.1 ∧ r.2.1 ≤ 9223372036854775807) : RowsAt w (some ⟨g, 0, none⟩) rs := by
  refine ⟨fun i r hr => ⟨_, rfl, ?_⟩, hs, hc⟩
  have h1 : Row w g t vs := h
  rw [add_plain, Nat.zero_add, h1.cell, ← hv, List.getElem?_map, hr]
  rfl
theorem four {α : Type} {p : α → Prop} {a b c d : α} (ha : p a) (hb : p b) (hc : p c) (hd : p d) : ∀ x ∈ [a, b, c, d], p x := by
  intro x hx
  simp only [List.mem_cons, List.not_mem_nil, or_false] at hx
  rcases hx with rfl | rfl | rfl | rfl <;> assumption
theorem three {α : Type} {p : α → Prop} {a b c : α} (ha : p a) (hb : p b) (hc : p c) : ∀ x ∈ [a, b, c], p x := by
  intro x hx
  simp only [List.mem_cons, List.not_mem_nil, or_false] at hx
  rcases hx with rfl | rfl | rfl <;> assumption
theorem one {α : Type} {p : α → Prop} {a : α} (ha : p a) : ∀ x ∈ [a], p x := by
  intro x hx
  rw [List.mem_singleton] at hx
  exact hx ▸ ha

set_option maxRecDepth 100000 in
set_option maxHeartbeats 1000000 in
theorem rows_long (A : Option Addr) (len c : Nat) (x1 x2 : Int) (W : World) (hT : Tabs W) (hlen : 500 < len) (hmax : len ≤ 9223372036854775807) :
    Calls Tryd.prog 4 #[.slice A len c, .int .u16 x1, .int .u16 x2] W fun e W' => e = .returned (.bool true) ∧ Below W.heap.size W W' := by
  have haw := awake2_any W hT
  have HAW := Lib.hid haw
  clear haw hT
  go_enter Tryd.func4, Tryd.ntmps4
  go_wp2_with fail
  refine HAW.out.mono ?_
  rintro e w3 ⟨rfl, k3⟩
  go_wp2
  go_ret
  exact ⟨rfl, keeps_below4 k3⟩
/-- What is hashed in the law, in every later world. -/
structure Hashes (w : World) (A : Option Addr) (A1 A2 : Option Addr) (n c i m : Nat) (R1 R2 : Array Value) : Prop where
  four : ∀ V b, Keeps (fun _ => False) w V → V.heap[b]? = some (.cells #[.slice A i c, .slice A1 m (c - i), .slice none 0 0, .slice A2 (n - (i + m)) (c - (i + m))] 22 (0, 0)) →
    Calls Tryd.prog 9 #[.slice (some ⟨b, 0, none⟩) 4 4] V fun e w' => e = .returned (.agg R1) ∧ Keeps (fun _ => False) V w'
  one : ∀ V b, Keeps (fun _ => False) w V → V.heap[b]? = some (.cells #[.slice A n c] 22 (0, 0)) →
    Calls Tryd.prog 9 #[.slice (some ⟨b, 0, none⟩) 1 1] V fun e w' => e = .returned (.agg R1) ∧ Keeps (fun _ => False) V w'
  leaf : ∀ V, Keeps (fun _ => False) w V → Calls Tryd.prog 11 #[.slice A n c] V fun e w' => e = .returned (.agg R2) ∧ Keeps (fun _ => False) V w'
  three : ∀ V b g, Keeps (fun _ => False) w V → V.heap[g]? = some (.cells #[.int .u8 0] 5 (0, 0)) → V.heap[b]? = some (.cells #[.slice (some ⟨g, 0, none⟩) 1 1, .slice A i c, .slice A1 (n - i) (c - i)] 22 (0, 0)) →
    Calls Tryd.prog 9 #[.slice (some ⟨b, 0, none⟩) 3 3] V fun e w' => e = .returned (.agg R2) ∧ Keeps (fun _ => False) V w'
theorem hashes (w : World) (A A1 A2 : Option Addr) (xs : List UInt8) (c i m : Nat) (hT : Tabs w) (hs : Src w A (bvs xs)) (hs1 : Src w A1 (bvs (xs.drop i))) (hs2 : Src w A2 (bvs (xs.drop (i + m)))) (hn : xs.length ≤ 500) (hcap : xs.length ≤ c) (hmax : c ≤ 9223372036854775807) (him : i + m ≤ xs.length) :
    Hashes w A A1 A2 xs.length c i m (bvs (Sh.sha xs)).toArray (bvs (Sh.sha (0 :: xs))).toArray := by
  refine ⟨fun V b hk hb => ?_, fun V b hk hb => ?_, fun V hk => ?_, fun V b g hk hg hb => ?_⟩
  · have hr : RowsAt V (some ⟨b, 0, none⟩) [(A, c, xs.take i), (A1, c - i, (xs.drop i).take m), (none, 0, []), (A2, c - (i + m), xs.drop (i + m))] :=
      rowsAt_block hb (by simp; omega)
        (four (p := fun r : RowOf => Src V r.1 (bvs r.2.2)) (by show Src V A (bvs (xs.take i)); rw [← bvs_take]; exact (hs.keeps hk (fun _ _ _ => id)).take i) (by show Src V A1 (bvs ((xs.drop i).take m)); rw [← bvs_take]; exact (hs1.keeps hk (fun _ _ _ => id)).take m) (Src.nil _ _) (hs2.keeps hk (fun _ _ _ => id)))
        (four (p := fun r : RowOf => r.2.2.length ≤ r.2.1 ∧ r.2.1 ≤ 9223372036854775807) (by simp; omega) (by simp; omega) (by simp) (by simp; omega))
    have e : bytesOf [(A, c, xs.take i), (A1, c - i, (xs.drop i).take m), (none, 0, []), (A2, c - (i + m), xs.drop (i + m))] = xs := by
      simp only [bytesOf, List.flatMap_cons, List.flatMap_nil, List.nil_append, List.append_nil]
      rw [show xs.drop (i + m) = (xs.drop i).drop m by rw [List.drop_drop], List.take_append_drop, List.take_append_drop]
    have h := of_any _ 4 _ V (hT.keeps hk id id) hr (by simp) (by rw [e]; omega)
    rw [e] at h
    exact h
  · have hr : RowsAt V (some ⟨b, 0, none⟩) [(A, c, xs)] := rowsAt_block hb rfl (one (p := fun r : RowOf => Src V r.1 (bvs r.2.2)) (hs.keeps hk (fun _ _ _ => id))) (one (p := fun r : RowOf => r.2.2.length ≤ r.2.1 ∧ r.2.1 ≤ 9223372036854775807) ⟨hcap, hmax⟩)
    have e : bytesOf [(A, c, xs)] = xs := by simp [bytesOf]
    have h := of_any _ 1 _ V (hT.keeps hk id id) hr (by simp) (by rw [e]; omega)
    rw [e] at h
    exact h
  · exact leaf_any A c xs V (hT.keeps hk id id) (hs.keeps hk (fun _ _ _ => id)) hcap hmax (by omega)
  · have hr : RowsAt V (some ⟨b, 0, none⟩) [(some ⟨g, 0, none⟩, 1, [0]), (A, c, xs.take i), (A1, c - i, xs.drop i)] :=
      rowsAt_block hb (by simp; omega)
        (three (p := fun r : RowOf => Src V r.1 (bvs r.2.2)) (src_blk (xs := bvs [0]) hg) (by show Src V A (bvs (xs.take i)); rw [← bvs_take]; exact (hs.keeps hk (fun _ _ _ => id)).take i) (hs1.keeps hk (fun _ _ _ => id)))
        (three (p := fun r : RowOf => r.2.2.length ≤ r.2.1 ∧ r.2.1 ≤ 9223372036854775807) (by simp) (by simp; omega) (by simp; omega))
    have e : bytesOf [(some ⟨g, 0, none⟩, 1, [0]), (A, c, xs.take i), (A1, c - i, xs.drop i)] = 0 :: xs := by
      simp only [bytesOf, List.flatMap_cons, List.flatMap_nil, List.append_nil, List.take_append_drop, List.cons_append, List.nil_append]
    have h := of_any _ 3 _ V (hT.keeps hk id id) hr (by simp) (by rw [e]; simp; omega)
    rw [e] at h
    exact h
end Go.Proofs.YtahjmlhomaommaaDoor
