/-
  The document's example.
-/
import Derived.Test.YtdihkbkcefjeoaaScH
namespace Go.Proofs.Ytdihkbkcefjeoaa
open Go.RowKit Go.BigFrame
set_option linter.unusedVariables false
set_option linter.unusedSimpArgs false

theorem own_one {w : World} {base : Nat} {A : Option Addr} {c k : Nat} {v : Value} {xs : List Value} {n : Nat} (h : w.ownsRow base 3 1 (.slice A n c) n xs) (hk : xs[k]? = some v) : ∃ g, A = some ⟨g, 0, none⟩ ∧ w.cell? ⟨g, k, none⟩ = some v := by
  obtain ⟨a, rfl, hc⟩ := (Src.of_own h) k v hk
  rcases h.2 with ⟨h1, _⟩ | ⟨g, cap, cur, h1, _⟩
  · cases h1
  · injection h1 with h1
    injection h1 with h1
    subst h1
    exact ⟨g, rfl, by rwa [add_plain, Nat.zero_add] at hc⟩
set_option maxRecDepth 100000 in
set_option maxHeartbeats 4000000 in
theorem awake13_any (w : World) : Calls Try.prog 7 #[] w fun e w' => e = .returned (.bool true) ∧ Keeps (fun _ => False) w w' := by
  obtain ⟨Z, hZ⟩ : ∃ Z, pc (0, 0) = Z := ⟨_, rfl⟩
  have hz : ∀ V : World, (zeroValue 40).run Try.prog V = .ok (.agg Z) V := fun V => by rw [← hZ]; exact zero_peer V
  obtain ⟨C, hC⟩ : ∃ C, pc (5, 2) = C := ⟨_, rfl⟩
  have SC : Hid ((Try.prog.info? 40).map (·.size) = some C.size) := Lib.hid (by rw [← hC]; exact size_Peer)
  have SZC : Hid (Z.size = C.size) := Lib.hid (by rw [← hC, ← hZ]; rfl)
  have OC : Hid (C.all (·.oneCell') = true) := Lib.hid (by rw [← hC]; exact pc_one _)
  have hn := new_any 3 10 2 w (by omega) (by omega) (by omega)
  rw [show ((3 : Nat) : Int) = 3 from rfl] at hn
  have HN := Lib.hid hn
  have HCC := Lib.hid hC
  clear hn hZ hC
  go_enter Try.func7, Try.ntmps7
  go_wp2_with fail
  refine HN.out.mono ?_
  rintro e w1 ⟨g, b, rfl, hg, hb, t1, k1⟩
  have h1 := blame_tab w1 g b _ 1 9 t1 (by decide)
  rw [show Sc.hit (Sc.new 3 10 2) 1 9 = false by decide] at h1
  have H1 := Lib.hid h1
  have HBG := Lib.hid (And.intro hg hb)
  have K1 := Lib.hid k1
  clear h1 t1 hg hb k1
  go_wp2_with fail
  refine H1.out.mono ?_
  rintro e w2 ⟨rfl, t2, k2⟩
  have h2 := blame_tab w2 g b _ 2 12 t2 (by decide)
  rw [show Sc.hit (Sc.blame (Sc.new 3 10 2) 1 9) 2 12 = true by decide] at h2
  have H2 := Lib.hid h2
  have K2 : Hid (Keeps (fun _ => False) w w2) := Lib.hid (K1.out.trans' k2 (fun i hi e => by have := HBG.out; omega))
  clear h2 t2 k2
  go_wp2_with fail
  refine H2.out.mono ?_
  rintro e w3 ⟨rfl, t3, k3⟩
  obtain ⟨S3, hS3⟩ : ∃ S, Sc.blame (Sc.blame (Sc.new 3 10 2) 1 9) 2 12 = S := ⟨_, rfl⟩
  rw [hS3] at t3
  have h3 := peer_any w3 g b S3 2 t3
  rw [show Sc.get S3 2 = (5, 2) by rw [← hS3]; decide, show Sc.has S3 2 = true by rw [← hS3]; decide, HCC.out] at h3
  have H3 := Lib.hid h3
  have T3 := Lib.hid t3
  have K3 : Hid (Keeps (fun _ => False) w w3) := Lib.hid (K2.out.trans' k3 (fun i hi e => by have := HBG.out; omega))
  have HS3 := Lib.hid hS3
  clear h3 t3 k3 hS3
  go_wp2_with fail
  refine H3.out.mono ?_
  rintro e w4 ⟨rfl, k4⟩
  obtain ⟨b5, hb5⟩ : ∃ x, w4.heap.size = x := ⟨_, rfl⟩
  obtain ⟨W5, hW5⟩ : ∃ V, w4.alloc (.cells Z 40) = V := ⟨_, rfl⟩
  have r5 : W5.heap[b5]? = some (.cells Z 40 (0, 0)) := by rw [← hW5, ← hb5]; exact heap_alloc_new w4 _
  obtain ⟨W6, hW6⟩ : ∃ V, W5.setRow b5 C = V := ⟨_, rfl⟩
  have k5 : Keeps (fun _ => False) w4 W5 := by rw [← hW5]; exact (Keeps.refl _ _).alloc _
  have k6 : Keeps (fun _ => False) w4 W6 := k5.trans' (T := fun k => k = b5) (by rw [← hW6]; exact Keeps.setRow _ _) (fun i hi e => by omega)
  have r6 : Row W6 b5 40 [.int .i64 5, .int .i64 2] := by
    have h : W6.heap[b5]? = some (.cells C 40 (0, 0)) := by rw [← hW6]; exact setRow_heap _ _ _ _ _ _ r5
    rw [← HCC.out] at h
    exact h
  have t6 := T3.out.later (k4.trans k6)
  have h6 := open_tab W6 g b S3 t6
  rw [show nvs (Sc.opens S3.ps S3.ps.length) = [.int .i64 0, .int .i64 1] by rw [← HS3.out]; rfl, show (Sc.opens S3.ps S3.ps.length).length = 2 by rw [← HS3.out]; decide] at h6
  have H6 := Lib.hid h6
  have T6 := Lib.hid t6
  have R6 := Lib.hid r6
  have R5 := Lib.hid r5
  have K6 := Lib.hid (K3.out.trans (k4.trans k6))
  clear k4 k5 k6 r5 r6 t6 h6
  go_wp2_with (first
    | (refine wpList_store_row (by rfl) 40 _ _ (by rfl) b5 C (by rfl) (by rfl) 40 Z R5.out SC.out SZC.out OC.out ?_; rw [hW6])
    | fail)
  refine H6.out.mono ?_
  rintro e w7 ⟨A7, m7, c7, rfl, rfl, o7, k7⟩
  have h7 := tick_tab w7 g b S3 (T6.out.later k7)
  rw [show (Sc.ins S3.ps S3.ps.length).length = 0 by rw [← HS3.out]; decide] at h7
  have H7 := Lib.hid h7
  have O7 := Lib.hid o7
  have R7 := Lib.hid (R6.out.keeps k7 id)
  have K7 := Lib.hid (K6.out.trans k7)
  have hbs6 := Lib.hid (show b < W6.heap.size ∧ W6.heap.size ≤ w7.heap.size from ⟨T6.out.map.lt, k7.size⟩)
  have HB5 : Hid (b5 ≠ b) := Lib.hid (fun e => T6.out.map.apart R6.out e.symm)
  clear h7 o7 k7 hW5 hW6 hb5
  go_wp2_with fail
  refine H7.out.mono ?_
  rintro e w8 ⟨A8, m8, c8, rfl, rfl, o8, t8, k8⟩
  have h8 := tick_tab w8 g b _ t8
  rw [show (Sc.ins (Sc.tick S3).ps (Sc.tick S3).ps.length).length = 1 by rw [← HS3.out]; decide, show nvs (Sc.ins (Sc.tick S3).ps (Sc.tick S3).ps.length) = [.int .i64 2] by rw [← HS3.out]; rfl] at h8
  have H8 := Lib.hid h8
  have O8 := Lib.hid (k8.owns O7.out (fun k hk e => by
    obtain ⟨_, _, hb⟩ := own_block O7.out k hk
    have := hbs6.out
    omega))
  have R8 := Lib.hid (R7.out.keeps k8 HB5.out)
  have K8 : Hid (Keeps (fun _ => False) w w8) := Lib.hid (K7.out.trans' k8 (fun i hi e => by have := HBG.out; omega))
  clear h8 o8 t8 k8
  go_wp2_with fail
  refine H8.out.mono ?_
  rintro e w9 ⟨A9, m9, c9, rfl, rfl, o9, t9, k9⟩
  have h9 := taway_any w9 g b _ 2 t9
  rw [show decide (0 < (Sc.get (Sc.tick (Sc.tick S3)) 2).2) = false by rw [← HS3.out]; decide] at h9
  have o7 := k9.owns O8.out (fun k hk e => by
    obtain ⟨_, _, hb⟩ := own_block O7.out k hk
    have := hbs6.out
    omega)
  obtain ⟨a7, rfl, c71⟩ := own_one (k := 1) o7 rfl
  obtain ⟨a9, rfl, c90⟩ := own_one (k := 0) o9 rfl
  have r9 := R8.out.keeps k9 HB5.out
  have cb0 : w9.cell? ⟨b5, 0, none⟩ = some (.int .i64 5) := r9.cell 0
  have cb1 : w9.cell? ⟨b5, 1, none⟩ = some (.int .i64 2) := r9.cell 1
  have K9 : Hid (Keeps (fun _ => False) w w9) := Lib.hid (K8.out.trans' k9 (fun i hi e => by have := HBG.out; omega))
  have H9 := Lib.hid h9
  clear h9 o7 o9 t9 k9 r9
  go_wp2_with fail
  refine H9.out.mono ?_
  rintro e w10 ⟨rfl, k10⟩
  have K10 := Lib.hid (K9.out.trans k10)
  clear k10
  go_wp2
  go_ret
  exact ⟨rfl, K10.out⟩
end Go.Proofs.Ytdihkbkcefjeoaa
