/-
  The proof that entries go on (chain.Proof), whole.
-/
import Derived.Test.YtnnhbgaeohdojaaDoorChB
namespace Go.Proofs.YtnnhbgaeohdojaaDoor
open Go.RowKit Go.BigFrame
set_option linter.unusedVariables false

theorem proof_out (A : Option Addr) (n c : Nat) (m : Int) (w : World) (hi : m < 1 ∨ (n : Int) < m) :
    Calls Tryd.prog 23 #[.slice A n c, .int .i64 m] w fun e w' => e = .returned (.tuple #[.slice none 0 0, .int .i64 15]) ∧ w' = w := by
  rcases Int.lt_or_le m 1 with h | h
  · clear hi
    go_enter Tryd.func23, Tryd.ntmps23
    go_wp2
    go_ret2
    exact ⟨rfl, rfl⟩
  · have h2 : (n : Int) < m := by omega
    clear hi
    go_enter Tryd.func23, Tryd.ntmps23
    go_wp2
    go_ret2
    exact ⟨rfl, rfl⟩
set_option maxRecDepth 100000 in
set_option maxHeartbeats 1000000 in
theorem proof_in (a : Addr) (c : Nat) (rs : List RowOf) (m : Nat) (w : World) (hT : Tabs w) (hR : RowsAt w (some a) rs) (h1 : 1 ≤ m) (hi : m ≤ rs.length) (hc : rs.length ≤ c) (hmax : c ≤ 9223372036854775807) (hlen : ∀ r ∈ rs, r.2.2.length ≤ 1000) (hn : rs.length ≤ 1000) :
    Calls Tryd.prog 23 #[.slice (some a) rs.length c, .int .i64 (m : Int)] w fun e w' => ∃ v, e = .returned (.tuple #[v, .int .i64 0]) ∧ w'.ownsRow w.heap.size 34 32 v (Tr.prf (ents rs) m true).length (flat (Tr.prf (ents rs) m true)) ∧ Keeps (fun _ => False) w w' := by
  obtain ⟨W1, hW1⟩ : ∃ W, w.alloc (.cells #[.slice none 0 0] 28) = W := ⟨_, rfl⟩
  obtain ⟨W2, hW2⟩ : ∃ W, W1.alloc (.cells #[.nilFunc] 74) = W := ⟨_, rfl⟩
  have b1 : w.heap.size < W1.heap.size := by rw [← hW1]; simp
  have k1 : Keeps (fun _ => False) w W1 := by rw [← hW1]; exact (Keeps.refl _ _).alloc _
  have k2 : Keeps (fun _ => False) W1 W2 := by rw [← hW2]; exact (Keeps.refl _ _).alloc _
  have r1 : Row W1 w.heap.size 28 [.slice none 0 0] := by rw [← hW1]; exact heap_alloc_new w _
  have r2 : Row W2 W1.heap.size 74 [.nilFunc] := by rw [← hW2]; exact heap_alloc_new W1 _
  have r12 := r1.keeps k2 id
  have hc2 : W2.cell? ⟨W1.heap.size, 0, none⟩ = some .nilFunc := r2.cell 0
  have hf2 : W2.frozen? ⟨W1.heap.size, 0, none⟩ = false := r2.frozen 0
  have hD : CdSt w W1.heap.size w.heap.size [] (W2.setCell ⟨W1.heap.size, 0, none⟩ (.func (.func 52) #[] #[.pointer (some ⟨w.heap.size, 0, none⟩), .pointer (some ⟨W1.heap.size, 0, none⟩)])) := by
    refine ⟨?_, ⟨by omega, Nat.le_refl _, by omega⟩, r2.set 0 _, fun p hp => (by cases hp), .slice none 0 0, r12.set_other (by show w.heap.size ≠ W1.heap.size; omega) _, World.ownsRow_nil _ _ _ _⟩
    exact ((k1.trans k2).mono (fun _ _ h => h.elim)).setCell (fun h => by simp only at h; omega) _
  have hst : (store ⟨W1.heap.size, 0, none⟩ (.func (.func 52) #[] #[.pointer (some ⟨w.heap.size, 0, none⟩), .pointer (some ⟨W1.heap.size, 0, none⟩)])).run Tryd.prog W2 = .ok () (W2.setCell ⟨W1.heap.size, 0, none⟩ (.func (.func 52) #[] #[.pointer (some ⟨w.heap.size, 0, none⟩), .pointer (some ⟨W1.heap.size, 0, none⟩)])) := by
    rw [run_store _ _ _ _ _ rfl, hc2]
    simp [hf2]
  have hcall := cdown_any w W1.heap.size w.heap.size hT rs.length a c rs m true _ [] hR (Nat.le_refl _) h1 hi hc hmax hlen (by simpa using hn) hD
  rw [List.nil_append] at hcall
  have hc3 : (W2.setCell ⟨W1.heap.size, 0, none⟩ (.func (.func 52) #[] #[.pointer (some ⟨w.heap.size, 0, none⟩), .pointer (some ⟨W1.heap.size, 0, none⟩)])).cell? ⟨W1.heap.size, 0, none⟩ = some (.func (.func 52) #[] #[.pointer (some ⟨w.heap.size, 0, none⟩), .pointer (some ⟨W1.heap.size, 0, none⟩)]) := (r2.set 0 _).cell 0
  obtain ⟨n, hnn⟩ : ∃ n, rs.length = n := ⟨_, rfl⟩
  rw [hnn] at hcall hi hc hn ⊢
  obtain ⟨ps, hps⟩ : ∃ ps, Tr.prf (ents rs) m true = ps := ⟨_, rfl⟩
  rw [hps] at hcall ⊢
  have C := Lib.hid hcall
  have hi1 : (m : Int) ≤ n := by omega
  have hi2 : (n : Int) ≤ 1000 := by omega
  have hi3 : (1 : Int) ≤ m := by omega
  clear hcall hD hc2 hf2 r1 r2 r12 k1 k2 hT hR hlen hps hnn b1
  go_enter Tryd.func23, Tryd.ntmps23
  go_wp2_with fail
  refine C.out.mono ?_
  rintro e w4 ⟨rfl, hd4⟩
  obtain ⟨v, hv, ho⟩ := hd4.var
  have hc4 : w4.cell? ⟨w.heap.size, 0, none⟩ = some v := hv.cell 0
  have HD4 := Lib.hid hd4
  have HO4 := Lib.hid ho
  clear hc3 C hd4 hv ho
  go_wp2_with fail
  go_ret2
  exact ⟨v, rfl, HO4.out, HD4.out.keep.mono (fun k hk h => by omega)⟩
end Go.Proofs.YtnnhbgaeohdojaaDoor
