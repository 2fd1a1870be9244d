/-
  The path to a place (tree.Path), whole.
-/
import Derived.Test.YtnnhbgaeohdojaaDoorTrE
namespace Go.Proofs.YtnnhbgaeohdojaaDoor
open Go.RowKit Go.BigFrame
set_option linter.unusedVariables false

theorem path_out (A : Option Addr) (n c : Nat) (i : Int) (w : World) (hi : i < 0 ∨ (n : Int) ≤ i) :
    Calls Tryd.prog 14 #[.slice A n c, .int .i64 i] w fun e w' => e = .returned (.tuple #[.slice none 0 0, .int .i64 15]) ∧ w' = w := by
  rcases Int.lt_or_le i 0 with h | h
  · clear hi
    go_enter Tryd.func14, Tryd.ntmps14
    go_wp2
    go_ret2
    exact ⟨rfl, rfl⟩
  · have h2 : (n : Int) ≤ i := by omega
    clear hi
    go_enter Tryd.func14, Tryd.ntmps14
    go_wp2
    go_ret2
    exact ⟨rfl, rfl⟩
set_option maxRecDepth 100000 in
set_option maxHeartbeats 1000000 in
theorem path_in (a : Addr) (c : Nat) (rs : List RowOf) (i : Nat) (w : World) (hT : Tabs w) (hR : RowsAt w (some a) rs) (hi : i < rs.length) (hc : rs.length ≤ c) (hmax : c ≤ 9223372036854775807) (hlen : ∀ r ∈ rs, r.2.2.length ≤ 1000) (hn : rs.length ≤ 1000) :
    Calls Tryd.prog 14 #[.slice (some a) rs.length c, .int .i64 (i : Int)] w fun e w' => ∃ v, e = .returned (.tuple #[v, .int .i64 0]) ∧ w'.ownsRow w.heap.size 34 32 v (Tr.path (ents rs) i).length (flat (Tr.path (ents rs) i)) ∧ Keeps (fun _ => False) w w' := by
  obtain ⟨W1, hW1⟩ : ∃ W, w.alloc (.cells #[.slice none 0 0] 28) = W := ⟨_, rfl⟩
  obtain ⟨W2, hW2⟩ : ∃ W, W1.alloc (.cells #[.nilFunc] 67) = W := ⟨_, rfl⟩
  have b1 : w.heap.size < W1.heap.size := by rw [← hW1]; simp
  have k1 : Keeps (fun _ => False) w W1 := by rw [← hW1]; exact (Keeps.refl _ _).alloc _
  have k2 : Keeps (fun _ => False) W1 W2 := by rw [← hW2]; exact (Keeps.refl _ _).alloc _
  have r1 : Row W1 w.heap.size 28 [.slice none 0 0] := by rw [← hW1]; exact heap_alloc_new w _
  have r2 : Row W2 W1.heap.size 67 [.nilFunc] := by rw [← hW2]; exact heap_alloc_new W1 _
  have r12 := r1.keeps k2 id
  have hc2 : W2.cell? ⟨W1.heap.size, 0, none⟩ = some .nilFunc := r2.cell 0
  have hf2 : W2.frozen? ⟨W1.heap.size, 0, none⟩ = false := r2.frozen 0
  have hD : DownSt w W1.heap.size w.heap.size [] (W2.setCell ⟨W1.heap.size, 0, none⟩ (.func (.func 45) #[] #[.pointer (some ⟨W1.heap.size, 0, none⟩), .pointer (some ⟨w.heap.size, 0, none⟩)])) := by
    refine ⟨?_, ⟨by omega, Nat.le_refl _, by omega⟩, r2.set 0 _, fun p hp => (by cases hp), .slice none 0 0, r12.set_other (by show w.heap.size ≠ W1.heap.size; omega) _, World.ownsRow_nil _ _ _ _⟩
    exact ((k1.trans k2).mono (fun _ _ h => h.elim)).setCell (fun h => by simp only at h; omega) _
  have hst : (store ⟨W1.heap.size, 0, none⟩ (.func (.func 45) #[] #[.pointer (some ⟨W1.heap.size, 0, none⟩), .pointer (some ⟨w.heap.size, 0, none⟩)])).run Tryd.prog W2 = .ok () (W2.setCell ⟨W1.heap.size, 0, none⟩ (.func (.func 45) #[] #[.pointer (some ⟨W1.heap.size, 0, none⟩), .pointer (some ⟨w.heap.size, 0, none⟩)])) := by
    rw [run_store _ _ _ _ _ rfl, hc2]
    simp [hf2]
  have hcall := down_any w W1.heap.size w.heap.size hT rs.length a c rs i _ [] hR (Nat.le_refl _) hi hc hmax hlen (by simpa using hn) hD
  rw [List.nil_append] at hcall
  have hc3 : (W2.setCell ⟨W1.heap.size, 0, none⟩ (.func (.func 45) #[] #[.pointer (some ⟨W1.heap.size, 0, none⟩), .pointer (some ⟨w.heap.size, 0, none⟩)])).cell? ⟨W1.heap.size, 0, none⟩ = some (.func (.func 45) #[] #[.pointer (some ⟨W1.heap.size, 0, none⟩), .pointer (some ⟨w.heap.size, 0, none⟩)]) := (r2.set 0 _).cell 0
  obtain ⟨n, hnn⟩ : ∃ n, rs.length = n := ⟨_, rfl⟩
  rw [hnn] at hcall hi hc hn ⊢
  obtain ⟨ps, hps⟩ : ∃ ps, Tr.path (ents rs) i = ps := ⟨_, rfl⟩
  rw [hps] at hcall ⊢
  have C := Lib.hid hcall
  have hi1 : (i : Int) < n := by omega
  have hi2 : (n : Int) ≤ 1000 := by omega
  clear hcall hD hc2 hf2 r1 r2 r12 k1 k2 hT hR hlen hps hnn b1
  go_enter Tryd.func14, Tryd.ntmps14
  go_wp2_with fail
  refine C.out.mono ?_
  rintro e w4 ⟨rfl, hd4⟩
  obtain ⟨v, hv, ho⟩ := hd4.var
  have hc4 : w4.cell? ⟨w.heap.size, 0, none⟩ = some v := hv.cell 0
  have HD4 := Lib.hid hd4
  have HO4 := Lib.hid ho
  clear hc3 C hd4 hv ho
  go_wp2_with fail
  go_ret2
  exact ⟨v, rfl, HO4.out, HD4.out.keep.mono (fun k hk h => by omega)⟩
end Go.Proofs.YtnnhbgaeohdojaaDoor
