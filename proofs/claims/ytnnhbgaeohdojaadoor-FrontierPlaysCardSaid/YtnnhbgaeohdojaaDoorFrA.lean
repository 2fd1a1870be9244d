/-
  Whole parts (package frontier): the state, New, Size, Peaks, From.
-/
import Derived.Test.YtnnhbgaeohdojaaDoorOnC
import Derived.Test.YtnnhbgaeohdojaaDoorTrAp
import Derived.Test.YtnnhbgaeohdojaaDoorWalkT
import Derived.Test.YtnnhbgaeohdojaaDoorTrE
import Derived.Test.YtnnhbgaeohdojaaDoorChD
import Derived.Lib.Slices
import Derived.Test.YtnnhbgaeohdojaaDoorTrW
namespace Go.Proofs.YtnnhbgaeohdojaaDoor
open Go.RowKit Go.BigFrame
set_option linter.unusedVariables false

/-! ### append onto a slice that is full -/
section
variable {P : Program} (w : World)
theorem run_append_full (t ty e : TypeId) (i : TypeInfo) (z : Value) (size bytes : Nat) (ht : P.underlying t = some (.slice e)) (hi : P.info? e = some i) (hz : i.zero = some z)
    (hsize : i.size = size) (hby : i.bytes = bytes) (hzs : z.cells.size = size) (A : Option Addr) (n : Nat) (xs : List Value) (hxl : xs.length = n * size) (hsrc : Src w A xs) (h0 : A = none → n = 0)
    (a : Addr) (m c : Nat) (news : List Value) (hl : news.length = m * size) (hnews : ∀ j u, news[j]? = some u → w.cell? (a.add j) = some u) (hm : 0 < m) (h63 : n + m ≤ maxLen) (hbytes : (n + m) * bytes ≤ 140737488355328) :
    ∃ v' w', (Builtin.append_ #[t, t] ty #[.slice A n n, .slice (some a) m c]).run P w = .ok v' w' ∧ w'.ownsRow w.heap.size e size v' (n + m) (xs ++ news) ∧ Keeps (fun _ => False) w w' := by
  subst hsize
  subst hby
  have hsmall : n + m ≤ 9223372036854775807 := by simp only [maxLen] at h63; omega
  have hlen : (xs ++ news).length = (n + m) * i.size := by rw [List.length_append, hxl, hl, Nat.add_mul]
  have grown : ∀ (old : Nat), old < n + m →
      (w.drew.alloc (.cells (xs.toArray ++ news.toArray ++ Builtin.zeroCells z.cells (grownCap w (n + m) old e - (n + m))) e)).ownsRow w.heap.size e i.size
        (.slice (some ⟨w.heap.size, 0, none⟩) (n + m) (grownCap w (n + m) old e)) (n + m) (xs ++ news) ∧
      Keeps (fun _ => False) w (w.drew.alloc (.cells (xs.toArray ++ news.toArray ++ Builtin.zeroCells z.cells (grownCap w (n + m) old e - (n + m))) e)) := by
    intro old ho
    have hge := grownCap_ge w (n + m) old e
    have hcm : grownCap w (n + m) old e ≤ maxLen := grownCap_le_maxLen w (n + m) old e h63
    refine ⟨⟨hlen, .inr ⟨w.heap.size, _, _, rfl, Nat.le_refl _, heap_alloc_new w.drew _, hge, hcm, ?_, ?_⟩⟩, (Keeps.refl _ w).drew.alloc _⟩
    · simp only [Array.size_append, List.size_toArray, size_zeroCells, hzs, hxl, hl, ← Nat.add_mul]
      congr 1
      omega
    · simp only [Array.toList_append, List.append_assoc]
      rw [← List.append_assoc, ← hlen]
      exact List.take_left
  cases A with
  | none =>
    obtain rfl := h0 rfl
    have hx : xs = [] := List.eq_nil_of_length_eq_zero (by simpa using hxl)
    subst hx
    have hr := run_append_nil (P := P) w t ty e i z ht hi hz a m c news hl hnews hm (by omega) (by have hb := hbytes; simp only [Nat.zero_add] at hb; omega)
    have hgr := grown 0 (by omega)
    simp only [Nat.zero_add, List.nil_append, Array.empty_append] at hgr ⊢
    exact ⟨_, _, hr, hgr.1, hgr.2⟩
  | some b =>
    have hr := run_append_grow (P := P) w t ty e i z ht hi hz b n n xs hxl (fun j u hu => hsrc.at_ hu) a m c news hl hnews (by omega) (by omega) (growslice_fits (by omega) hbytes)
    have hgr := grown n (by omega)
    exact ⟨_, _, hr, hgr.1, hgr.2⟩
end
/-! ### The state -/
/-- A frontier lies at g: its size, and its peaks, in memory of its own (from base on). -/
structure Fro (w : World) (base g sz : Nat) (ps : List (List UInt8)) : Prop where
  lo : base ≤ g
  all : ∀ p ∈ ps, p.length = 32
  var : ∃ v, Row w g 81 [.int .u64 (sz : Int), v] ∧ w.ownsRow base 34 32 v ps.length (flat ps)
theorem Fro.lt {w : World} {base g sz : Nat} {ps : List (List UInt8)} (h : Fro w base g sz ps) : g < w.heap.size := by
  obtain ⟨v, h1, _⟩ := h.var
  exact h1.lt
theorem Fro.keeps {S : Nat → Prop} {w w' : World} {base g sz : Nat} {ps : List (List UInt8)} (h : Fro w base g sz ps) (hk : Keeps S w w') (hs : ∀ k, base ≤ k → k < w.heap.size → ¬ S k) : Fro w' base g sz ps := by
  obtain ⟨v, h1, h2⟩ := h.var
  exact ⟨h.lo, h.all, v, h1.keeps hk (hs g h.lo h1.lt), hk.owns h2 (fun k hk => hs k (h2.lt k hk).1 (h2.lt k hk).2)⟩
theorem Fro.later {w w' : World} {base g sz : Nat} {ps : List (List UInt8)} (h : Fro w base g sz ps) (hk : Keeps (fun _ => False) w w') : Fro w' base g sz ps := h.keeps hk (fun _ _ _ => id)
theorem new_any (w : World) : Calls Tryd.prog 41 #[] w fun e w' => e = .returned (.pointer (some ⟨w.heap.size, 0, none⟩)) ∧ Fro w' w.heap.size w.heap.size 0 [] ∧ Keeps (fun _ => False) w w' := by
  go_enter Tryd.func41, Tryd.ntmps41
  go_wp2
  go_ret
  exact ⟨rfl, ⟨Nat.le_refl _, fun p hp => (by cases hp), .slice none 0 0, heap_alloc_new w _, World.ownsRow_nil _ _ _ _⟩, (Keeps.refl _ _).alloc _⟩
theorem size_any (base g sz : Nat) (ps : List (List UInt8)) (w : World) (h : Fro w base g sz ps) : Calls Tryd.prog 33 #[.pointer (some ⟨g, 0, none⟩)] w fun e w' => e = .returned (.int .u64 (sz : Int)) ∧ w' = w := by
  obtain ⟨v, h1, _⟩ := h.var
  have hc : w.cell? ⟨g, 0, none⟩ = some (.int .u64 (sz : Int)) := h1.cell 0
  clear h1 h
  go_enter Tryd.func33, Tryd.ntmps33
  go_wp2
  go_ret
  exact ⟨rfl, rfl⟩
theorem size_none (w : World) : Calls Tryd.prog 33 #[.pointer none] w fun e w' => e = .returned (.int .u64 0) ∧ w' = w := by
  go_enter Tryd.func33, Tryd.ntmps33
  go_wp2
  go_ret
  exact ⟨rfl, rfl⟩
theorem clip_any (A : Option Addr) (n c : Nat) (w : World) (hc : n ≤ c) : Calls Tryd.prog 59 #[.slice A n c] w fun e w' => e = .returned (.slice A n n) ∧ w' = w := by
  go_enter Tryd.func59, Tryd.ntmps59
  go_wp2
  go_ret
  exact ⟨rfl, rfl⟩
theorem PathAt.of_own' {w : World} {base n c : Nat} {A : Option Addr} {l : Nat} {e : TypeId} {ps : List (List UInt8)} (h : w.ownsRow base e 32 (.slice A l c) n (flat ps)) (hl : ∀ p ∈ ps, p.length = 32) : PathAt w A ps := PathAt.of_own h hl rfl
theorem flat_cut : ∀ (ps : List (List UInt8)), (∀ p ∈ ps, p.length = 32) → ∀ (j : Nat) (u : Value), (flat ps)[j]? = some u → ∃ p, ps[j / 32]? = some p ∧ (bvs p)[j % 32]? = some u
  | [], _, j, u, h => by simp [flat] at h
  | p :: ps, hl, j, u, h => by
    have h32 : (bvs p).length = 32 := by rw [bvs_length]; exact hl p (by simp)
    have hf : flat (p :: ps) = bvs p ++ flat ps := by unfold flat; rw [List.flatMap_cons]
    rw [hf] at h
    by_cases hj : j < 32
    · rw [List.getElem?_append_left (by omega)] at h
      exact ⟨p, by rw [show j / 32 = 0 by omega]; rfl, by rw [show j % 32 = j by omega]; exact h⟩
    · rw [List.getElem?_append_right (by omega), h32] at h
      obtain ⟨q, h1, h2⟩ := flat_cut ps (fun q hq => hl q (List.mem_cons_of_mem _ hq)) (j - 32) u h
      exact ⟨q, by rw [show j / 32 = (j - 32) / 32 + 1 by omega, List.getElem?_cons_succ]; exact h1, by rw [show j % 32 = (j - 32) % 32 by omega]; exact h2⟩
theorem PathAt.src {w : World} {A : Option Addr} {ps : List (List UInt8)} (h : PathAt w A ps) : Src w A (flat ps) := fun j u hu => by
  obtain ⟨p, hp, hc⟩ := flat_cut ps h.all j u hu
  obtain ⟨b, o, e, hr⟩ := h.lie _ p hp
  refine ⟨_, e, ?_⟩
  rw [add_plain, show o + j = o + j / 32 * 32 + j % 32 by omega]
  exact hr _ _ hc
theorem PathAt.none_nil {w : World} {ps : List (List UInt8)} (h : PathAt w none ps) : ps = [] := by
  cases ps with
  | nil => rfl
  | cons p ps => obtain ⟨_, _, e, _⟩ := h.lie 0 p rfl; cases e
set_option maxRecDepth 100000 in
set_option maxHeartbeats 1000000 in
theorem clone_any (A : Option Addr) (c : Nat) (ps : List (List UInt8)) (w : World) (hP : PathAt w A ps) (hn : ps.length ≤ 1000) :
    Calls Tryd.prog 56 #[.slice A ps.length c] w fun e w' => ∃ v, e = .returned v ∧ w'.ownsRow w.heap.size 34 32 v ps.length (flat ps) ∧ Keeps (fun _ => False) w w' := by
  have q28 : ∀ (w : World) (a : Option Addr) (n c n' c' : Nat), (binOp .eql 28 (.slice a n c) (.slice none n' c')).run Tryd.prog w = .ok (.bool a.isNone) w := fun w a n c n' c' => Lib.run_eql_slice_nil w _ _ a n c n' c' Tryd.underlying28
  cases A with
  | none =>
    obtain rfl := hP.none_nil
    clear hP
    go_enter Tryd.func56, Tryd.ntmps56
    go_wp2
    go_ret
    exact ⟨_, rfl, World.ownsRow_nil _ _ _ _, Keeps.refl _ _⟩
  | some a =>
    obtain ⟨ih, zh, hih, hzh, hsh, hbh, hzsh⟩ := info_hash
    have hsrc := hP.src
    have hfl := flat_length ps hP.all
    have HF1 := Lib.hid (flat_one ps)
    obtain ⟨n, hnn⟩ : ∃ n, ps.length = n := ⟨_, rfl⟩
    obtain ⟨L, hL⟩ : ∃ L, flat ps = L := ⟨_, rfl⟩
    rw [hnn] at hn hfl ⊢
    rw [hL] at hsrc hfl HF1 ⊢
    have HS := Lib.hid hsrc
    have HFL := Lib.hid hfl
    have hk0 : Keeps (fun _ => False) w (w.alloc (.cells #[] 34)) := (Keeps.refl _ _).alloc _
    have HK0 := Lib.hid hk0
    clear hsrc hfl hP hnn hL hk0
    go_enter Tryd.func56, Tryd.ntmps56
    go_wp2_with (refine wpList_append_own _ (by rfl) (.tmp 5) (.tmp 6) 28 (by rfl) w.heap.size 34 ih zh 32 32 Tryd.underlying28 hih hzh hsh hbh hzsh (by decide) (.slice (some ⟨w.heap.size, 0, none⟩) 0 0) 0 [] (by rfl) (World.ownsRow_made w #[] 0 (Nat.le_refl _) (Nat.zero_le _) rfl) a n c L (by rfl) HFL.out (fun j u hu => (HS.out.keeps HK0.out (fun _ _ _ => id)).at_ hu) HF1.out (by unfold maxLen; omega) (by omega) (by simp) ?_; intro v1 w1 ho1 hg1 _; obtain ⟨A1, c1, rfl⟩ := own_slice ho1; rw [List.nil_append] at ho1; have HO1 := Lib.hid ho1; have HK1 := Lib.hid (HK0.out.grown hg1 (fun k hk h => by simp only [Value.ownBlock, Option.some.injEq] at h; omega)); clear ho1 hg1)
    go_ret
    exact ⟨_, rfl, by have h := HO1.out; rw [Nat.zero_add] at h; simpa using h, HK1.out⟩
set_option maxRecDepth 100000 in
theorem peaks_any (base g sz : Nat) (ps : List (List UInt8)) (w : World) (h : Fro w base g sz ps) (hn : ps.length ≤ 1000) :
    Calls Tryd.prog 35 #[.pointer (some ⟨g, 0, none⟩)] w fun e w' => ∃ v, e = .returned v ∧ w'.ownsRow w.heap.size 34 32 v ps.length (flat ps) ∧ Keeps (fun _ => False) w w' := by
  obtain ⟨v, h1, h2⟩ := h.var
  obtain ⟨A, c, rfl⟩ := own_slice h2
  have hP := PathAt.of_own' h2 h.all
  have hcl := clone_any A c ps w hP hn
  have HCL := Lib.hid hcl
  have hc : w.cell? ⟨g, 1, none⟩ = some (.slice A ps.length c) := h1.cell 1
  obtain ⟨n, hnn⟩ : ∃ n, ps.length = n := ⟨_, rfl⟩
  obtain ⟨L, hL⟩ : ∃ L, flat ps = L := ⟨_, rfl⟩
  rw [hnn, hL] at HCL ⊢
  rw [hnn] at hc
  clear h1 h2 h hP hcl hnn hL hn
  go_enter Tryd.func35, Tryd.ntmps35
  go_wp2_with fail
  refine HCL.out.mono ?_
  rintro e w1 ⟨v, rfl, ho, hk⟩
  go_wp2
  go_ret
  exact ⟨_, rfl, ho, hk⟩
theorem peaks_none (w : World) : Calls Tryd.prog 35 #[.pointer none] w fun e w' => e = .returned (.slice none 0 0) ∧ w' = w := by
  go_enter Tryd.func35, Tryd.ntmps35
  go_wp2
  go_ret
  exact ⟨rfl, rfl⟩
theorem from_not (sz : Nat) (A : Option Addr) (n c : Nat) (w : World) (hsz : sz ≤ 18446744073709551615) (hn : n ≤ 9223372036854775807) (hne : n ≠ On.ones 64 sz) :
    Calls Tryd.prog 31 #[.int .u64 (sz : Int), .slice A n c] w fun e w' => e = .returned (.tuple #[.pointer none, .int .i64 1]) ∧ w' = w := by
  have HON := Lib.hid (ones_any sz w hsz)
  obtain ⟨k, hk⟩ : ∃ k, On.ones 64 sz = k := ⟨_, rfl⟩
  rw [hk] at HON hne
  have hne' : ((n : Int) != (k : Int)) = true := by simp; omega
  clear hk
  go_enter Tryd.func31, Tryd.ntmps31
  go_wp2_with fail
  refine HON.out.mono ?_
  rintro e w1 ⟨rfl, h1⟩
  obtain rfl : w = w1 := h1.symm
  go_wp2
  go_ret2
  exact ⟨rfl, rfl⟩
set_option maxRecDepth 100000 in
theorem from_any (sz : Nat) (A : Option Addr) (c : Nat) (ps : List (List UInt8)) (w : World) (hsz : sz ≤ 18446744073709551615) (hP : PathAt w A ps) (he : ps.length = On.ones 64 sz) :
    Calls Tryd.prog 31 #[.int .u64 (sz : Int), .slice A ps.length c] w fun e w' => ∃ g, e = .returned (.tuple #[.pointer (some ⟨g, 0, none⟩), .int .i64 0]) ∧ Fro w' w.heap.size g sz ps ∧ Keeps (fun _ => False) w w' := by
  have HON := Lib.hid (ones_any sz w hsz)
  have h64 := On.ones_le 64 sz
  have hcl := clone_any A c ps w hP (by omega)
  have hall := hP.all
  rw [← he] at HON
  obtain ⟨n, hnn⟩ : ∃ n, ps.length = n := ⟨_, rfl⟩
  have hfin : ∀ (v : Value) (w1 : World), w1.ownsRow w.heap.size 34 32 v n (flat ps) → Keeps (fun _ => False) w w1 → Fro (w1.alloc (.cells #[.int .u64 (sz : Int), v] 81)) w.heap.size w1.heap.size sz ps ∧ Keeps (fun _ => False) w (w1.alloc (.cells #[.int .u64 (sz : Int), v] 81)) := fun v w1 ho hk =>
    ⟨⟨hk.size, hall, v, heap_alloc_new w1 _, by rw [hnn]; exact ho.alloc _⟩, hk.alloc _⟩
  have HFIN := Lib.hid hfin
  have HCL := Lib.hid hcl
  have hne' : ((n : Int) != (n : Int)) = false := by simp
  rw [hnn] at HON HCL ⊢
  clear hcl hfin hall hP he h64
  go_enter Tryd.func31, Tryd.ntmps31
  go_wp2_with fail
  refine HON.out.mono ?_
  rintro e w1 ⟨rfl, h1⟩
  obtain rfl : w = w1 := h1.symm
  go_wp2_with fail
  refine HCL.out.mono ?_
  rintro e w2 ⟨v, rfl, ho, hk⟩
  obtain ⟨A2, c2, rfl⟩ := own_slice ho
  have HF := Lib.hid (HFIN.out _ w2 ho hk)
  clear ho hk HFIN
  go_wp2
  go_ret2
  exact ⟨_, rfl, HF.out⟩
end Go.Proofs.YtnnhbgaeohdojaaDoor
