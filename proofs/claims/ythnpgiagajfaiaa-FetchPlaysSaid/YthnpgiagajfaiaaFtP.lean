/-
  FetchPlays: whatever is asked for, done, and however time goes by, what is told, and what is asked for, are the document's. By the program's contracts.
-/
import Derived.Test.YthnpgiagajfaiaaFtB
import Derived.Test.YthnpgiagajfaiaaFtG
import Derived.Test.YthnpgiagajfaiaaOpenFa
import Derived.Laws.BitsLemmas
namespace Go.Proofs.Ythnpgiagajfaiaa
open Go.RowKit Go.BigFrame Go.Deep
set_option linter.unusedVariables false
set_option linter.unusedSimpArgs false

theorem and_four18 (n : Int) : bits .and .i64 n 3 = n % 4 := by
  have h3 : (BitVec.ofInt 64 3).toNat = 2 ^ 2 - 1 := by decide
  have key : (BitVec.ofInt 64 n &&& BitVec.ofInt 64 3).toNat = (n % ((2 ^ 64 : Nat) : Int)).toNat % 2 ^ 2 := by
    rw [BitVec.toNat_and, BitVec.toNat_ofInt, h3, Nat.and_two_pow_sub_one_eq_mod]
  show IntKind.i64.wrap ((BitVec.ofInt 64 n &&& BitVec.ofInt 64 3).toNat : Nat) = n % 4
  rw [key, IntKind.wrap_i64]
  omega
theorem act_at {w : World} {A : Option Addr} {len c : Nat} {xs : List ActOf} (h : IsActs w A len c xs) {i : Nat} {x : ActOf} (hx : xs[i]? = some x) : ∃ ad, A = some ad ∧ w.cell? (ad.add (i * 67)) = some (.int .i64 x.1) ∧ (∀ j v, (wcs x.2)[j]? = some v → w.cell? ((⟨(ad.add (i * 67)).block, (ad.add (i * 67)).off + 1, none⟩ : Addr).add j) = some v) ∧ (Lit.int .i64 x.1).wf = true ∧ Ft.Wn.Ok x.2 := by
  obtain ⟨ok, ad, h1, h2⟩ := h.at_ i x hx
  refine ⟨ad, h1, h2 0 _ rfl, fun j v hv => ?_, ok.1, ok.2⟩
  have h3 := h2 (1 + j) v (by unfold acs; rw [Nat.add_comm 1 j, List.getElem?_cons_succ]; exact hv)
  have e : (⟨(ad.add (i * 67)).block, (ad.add (i * 67)).off + 1, none⟩ : Addr) = (ad.add (i * 67)).add 1 := rfl
  rw [e, add_add, add_add]
  exact h3
namespace Ft
theorem tk1_ok {base most budget : Nat} {t : Tk} {q : Q} (hq : Q.Ok q) (h : (∀ x ∈ t.l, Q.Ok x) ∧ (∀ x ∈ t.asks, Q.Ok x) ∧ ∀ x ∈ t.lost, Q.Ok x) : (∀ x ∈ (tk1 base most budget t q).l, Q.Ok x) ∧ (∀ x ∈ (tk1 base most budget t q).asks, Q.Ok x) ∧ ∀ x ∈ (tk1 base most budget t q).lost, Q.Ok x := by
  obtain ⟨h1, h2, h3⟩ := h
  have add : ∀ {l : List Q} {y : Q}, (∀ x ∈ l, Q.Ok x) → Q.Ok y → ∀ x ∈ l ++ [y], Q.Ok x := fun hl hy x hx => by
    rcases List.mem_append.1 hx with hx | hx
    · exact hl x hx
    · simp at hx; subst hx; exact hy
  unfold tk1 say
  split
  · rename_i q' he
    split at he
    · injection he with he; subst he; exact ⟨add h1 hq, h2, h3⟩
    · split at he <;> cases he
  · exact ⟨h1, h2, add h3 hq⟩
  · rename_i q' s' he
    split at he
    · cases he
    · split at he
      · cases he
      · injection he with he _; subst he; exact ⟨add h1 hq, add h2 hq, h3⟩
theorem fold_ok (base most budget : Nat) : ∀ (l : List Q) (t : Tk), (∀ q ∈ l, Q.Ok q) → ((∀ x ∈ t.l, Q.Ok x) ∧ (∀ x ∈ t.asks, Q.Ok x) ∧ ∀ x ∈ t.lost, Q.Ok x) → (∀ x ∈ (l.foldl (tk1 base most budget) t).l, Q.Ok x) ∧ (∀ x ∈ (l.foldl (tk1 base most budget) t).asks, Q.Ok x) ∧ ∀ x ∈ (l.foldl (tk1 base most budget) t).lost, Q.Ok x
  | [], t, _, h => h
  | q :: l, t, hl, h => fold_ok base most budget l (tk1 base most budget t q) (fun x hx => hl x (List.mem_cons_of_mem _ hx)) (tk1_ok (hl q (by simp)) h)
theorem tick_ok (base most budget : Nat) (s : BitVec 64) (l : List Q) (h : ∀ q ∈ l, Q.Ok q) : (∀ x ∈ (tick base most budget s l).l, Q.Ok x) ∧ (∀ x ∈ (tick base most budget s l).asks, Q.Ok x) ∧ ∀ x ∈ (tick base most budget s l).lost, Q.Ok x :=
  fold_ok base most budget l ⟨[], s, [], []⟩ h ⟨fun x hx => (by cases hx), fun x hx => (by cases hx), fun x hx => (by cases hx)⟩
theorem tk1_len (base most budget : Nat) (t : Tk) (q : Q) : (tk1 base most budget t q).l.length ≤ t.l.length + 1 ∧ (tk1 base most budget t q).asks.length ≤ t.asks.length + 1 ∧ (tk1 base most budget t q).lost.length ≤ t.lost.length + 1 := by
  unfold tk1
  split <;> simp
theorem fold_len (base most budget : Nat) : ∀ (l : List Q) (t : Tk), (l.foldl (tk1 base most budget) t).l.length ≤ t.l.length + l.length ∧ (l.foldl (tk1 base most budget) t).asks.length ≤ t.asks.length + l.length ∧ (l.foldl (tk1 base most budget) t).lost.length ≤ t.lost.length + l.length
  | [], t => ⟨Nat.le_refl _, Nat.le_refl _, Nat.le_refl _⟩
  | q :: l, t => by
    have h1 := fold_len base most budget l (tk1 base most budget t q)
    have h2 := tk1_len base most budget t q
    rw [List.foldl_cons, List.length_cons]
    omega
theorem tick_len (base most budget : Nat) (s : BitVec 64) (l : List Q) : (tick base most budget s l).l.length ≤ l.length ∧ (tick base most budget s l).asks.length ≤ l.length ∧ (tick base most budget s l).lost.length ≤ l.length := by
  have h := fold_len base most budget l ⟨[], s, [], []⟩
  simp only [List.length_nil, Nat.zero_add] at h
  exact h
end Ft
variable {At : World → (Nat → Prop) → Nat → Ft.Tb → Prop}
set_option maxRecDepth 100000 in
set_option maxHeartbeats 1000000 in
theorem plays18_on (C : Fetch At) (base most budget : Nat) (x : BitVec 64) (A : Option Addr) (len c : Nat) (xs : List ActOf) (W : World) (hin : (1 ≤ base ∧ base ≤ 100) ∧ (base ≤ most ∧ most ≤ 1000) ∧ (1 ≤ budget ∧ budget ≤ 20)) (hA : IsActs W A len c xs) :
    Calls Try.prog 3 #[.int .i64 (base : Int), .int .i64 (most : Int), .int .i64 (budget : Int), .int .u64 (di x), .slice A len c] W fun e w' => e = .returned (.bool true) ∧ Keeps (fun _ => False) W w' := by
  have HAW := Lib.hid (awake18_any C W)
  have hcm := hA.max
  have hcl := hA.le
  have HAA := Lib.hid hA
  have CC := Lib.hid C
  have HIN := Lib.hid hin
  obtain ⟨Z, hZ⟩ : ∃ Z, tcs 0 0 0 (.slice none 0 0) = Z := ⟨_, rfl⟩
  have hz : ∀ V : World, (zeroValue 31).run Try.prog V = .ok (.agg Z) V := fun V => by rw [← hZ]; exact zero_T V
  have HZZ := Lib.hid hZ
  obtain ⟨ZW, hZW⟩ : ∃ Z, (wcs ((0, List.replicate 32 0), (0, List.replicate 32 0))).toArray = Z := ⟨_, rfl⟩
  have hzw : ∀ V : World, (zeroValue 41).run Try.prog V = .ok (.agg ZW) V := fun V => by rw [← hZW]; exact zero_want V
  have HBZ : Hid (∀ V : World, (Instr.build 41 #[]).run Try.prog V = .ok (.agg ZW) V) := Lib.hid (fun V => by rw [← hZW]; exact build_want_none V)
  have SZ : Hid ((Try.prog.info? 31).map (·.size) = some Z.size) := Lib.hid (by rw [← hZ]; exact size_T)
  obtain ⟨T0, hT0⟩ : ∃ T, tcs base most budget (.slice none 0 0) = T := ⟨_, rfl⟩
  have S0 : Hid ((Try.prog.info? 31).map (·.size) = some T0.size) := Lib.hid (by rw [← hT0]; exact size_T)
  have SZ0 : Hid (Z.size = T0.size) := Lib.hid (by rw [← hZ, ← hT0]; rfl)
  have O0 : Hid (T0.all (·.oneCell') = true) := Lib.hid (by rw [← hT0]; exact tcs_one _ _ _ _ _ _)
  have hrn := fun V => rnew18_on base most budget V hin
  rw [hT0] at hrn
  have HRN := Lib.hid hrn
  have HT0 := Lib.hid hT0
  clear hZ hT0 hrn hin hA
  go_enter Try.func3, Try.ntmps3
  go_wp2_with fail
  refine HAW.out.mono ?_
  rintro e w1 ⟨rfl, k1⟩
  have K1 := Lib.hid k1
  clear k1
  go_wp2_with fail
  refine (CC.out.new_on w1 base most budget HIN.out).mono ?_
  rintro e w2 ⟨g, F, rfl, a2, hF, k2⟩
  have A2 := Lib.hid a2
  have HF2 : Hid (∀ j, F j → W.heap.size ≤ j) := Lib.hid (fun j hj => by have := hF j hj; have := K1.out.size; omega)
  have K2 := Lib.hid (K1.out.trans k2)
  clear a2 hF k2
  go_wp2_with fail
  refine (HRN.out w2).mono ?_
  rintro e w3 ⟨rfl, k3⟩
  obtain ⟨b, hb⟩ : ∃ x, w3.heap.size = x := ⟨_, rfl⟩
  obtain ⟨W4, hW4⟩ : ∃ V, w3.alloc (.cells Z 31) = V := ⟨_, rfl⟩
  have k4 : Keeps (fun _ => False) w3 W4 := by rw [← hW4]; exact (Keeps.refl _ _).alloc _
  have r4 : W4.heap[b]? = some (.cells Z 31 (0, 0)) := by rw [← hW4, ← hb]; exact heap_alloc_new w3 _
  obtain ⟨W5, hW5⟩ : ∃ V, W4.setRow b T0 = V := ⟨_, rfl⟩
  have r5 : Row W5 b 31 (tls ⟨base, most, budget, []⟩ (.slice none 0 0)) := by
    have h : W5.heap[b]? = some (.cells T0 31 (0, 0)) := by rw [← hW5]; exact setRow_heap _ _ _ _ _ _ r4
    rw [← HT0.out] at h
    exact h
  have k5 : Keeps (fun j => j = b) w3 W5 := (k4.mono (fun _ _ h => h.elim)).trans (by rw [← hW5]; exact Keeps.setRow _ _)
  have hwb : W.heap.size ≤ b := by have := K2.out.size; have := k3.size; omega
  have A5 := Lib.hid (CC.out.keeps (CC.out.keeps A2.out k3 (fun _ e => e.elim)) k5 (fun j e hj => by subst e; have := CC.out.lt A2.out j hj; have := k3.size; omega))
  have HFb : Hid (¬ F b) := Lib.hid (fun hj => by have := CC.out.lt A2.out b hj; have := k3.size; omega)
  have R4 := Lib.hid r4
  have R5 := Lib.hid r5
  have HWB := Lib.hid hwb
  have K5 : Hid (Keeps (fun _ => False) W W5) := Lib.hid ((K2.out.trans k3).trans' k5 (fun j hj e => by omega))
  clear k3 k4 k5 r4 r5 hwb
  go_wp2_with (first
    | (refine wpList_store_row (by rfl) 31 _ _ (by rfl) b T0 (by rfl) (by rfl) 31 Z R4.out S0.out SZ0.out O0.out ?_; rw [hW5])
    | fail)
  refine (dnew_any W5 x).mono ?_
  rintro e w6 ⟨d, rfl, hd, d6, k6⟩
  have B6 : Hid (Bo At W w6 F g d b ⟨base, most, budget, []⟩ [] x none 0) := Lib.hid ⟨CC.out.keeps A5.out k6 (fun _ e => e.elim), d6, R5.out.keeps k6 id, World.ownsRow_nil _ _ _ _, (fun q hq => by cases hq), HF2.out, (fun h => by have := CC.out.lt A5.out d h; omega), HFb.out, (fun j hj => by cases hj), (by have := K5.out.size; omega), HWB.out, K5.out.trans k6⟩
  clear d6 k6 hd
  go_wp2_with fail
  go_loopw [17, 18, 19, 20, 21, 22, 23, 24, 25, 26, 27, 28, 29, 30, 31, 32, 33, 34] (fun sv iv _ _ _ _ _ _ _ _ _ _ _ _ _ _ _ _ wr => ∃ (i : Nat) (F' : Nat → Prop) (l : List Ft.Q) (s : BitVec 64) (A' : Option Addr) (c' : Nat), i ≤ len ∧ i ≤ 80 ∧ sv = .int .u64 (di s) ∧ iv = .int .i64 (i : Int) ∧ Hid (l.length ≤ i) ∧ Hid (Bo At W wr F' g d b ⟨base, most, budget, l⟩ l s A' c')) (fun _ iv _ _ _ _ _ _ _ _ _ _ _ _ _ _ _ _ _ => len - (intOf iv).toNat)
  case atStart => exact ⟨0, F, [], x, none, 0, by omega, by omega, rfl, rfl, Lib.hid (Nat.le_refl _), B6⟩
  case round =>
    obtain ⟨i, F', l, s, A', c', hi, hi80, rfl, rfl, HL, HB⟩ := hrel
    by_cases hlt : i < len ∧ i < 80
    · have hii : (i : Int) < (len : Int) := by omega
      have hi8 : (i : Int) < 80 := by omega
      obtain ⟨⟨kd, k⟩, hx⟩ : ∃ a, xs[i]? = some a := ⟨_, List.getElem?_eq_getElem (by have := HAA.out.many; omega)⟩
      obtain ⟨ad, rfl, hk0, hkw, hwf, hkok⟩ := act_at HAA.out hx
      have hk0w := (HB.out.keeps.cell (World.block_lt_of_cell? _ _ hk0) id).trans hk0
      have hkww : ∀ j v, (wcs k)[j]? = some v → wr.cell? ((⟨(ad.add (i * 67)).block, (ad.add (i * 67)).off + 1, none⟩ : Addr).add j) = some v := fun j v hv => (HB.out.keeps.cell (World.block_lt_of_cell? _ _ (hkw j v hv)) id).trans (hkw j v hv)
      have hwl := wcs_length hkok
      have hw1 := wcs_one k
      obtain ⟨WK, hWK⟩ : ∃ L, wcs k = L := ⟨_, rfl⟩
      rw [hWK] at hkww hwl hw1
      have HKW := Lib.hid hkww
      have SWK : Hid ((Try.prog.info? 41).map (·.size) = some WK.length) := Lib.hid (by rw [hwl]; exact info_W)
      have SWA : Hid ((Try.prog.info? 41).map (·.size) = some WK.toArray.size) := Lib.hid (by rw [List.size_toArray, hwl]; exact info_W)
      have SZK : Hid (ZW.size = WK.toArray.size) := Lib.hid (by rw [← hZW, List.size_toArray, List.size_toArray, hwl]; rfl)
      have OWK : Hid (WK.toArray.all (·.oneCell') = true) := Lib.hid (by rw [Array.all_eq_true_iff_forall_mem]; intro v hv; exact hw1 v (by simpa using hv))
      have hKO2 := fun {V : World} {j : Nat} (h : V.rangeAt j 0 WK) => range_w hkok (show V.rangeAt j 0 (wcs k) by rw [hWK]; exact h)
      have sko : (Try.prog.info? 39).map (·.size) = some (kcs k.1).length := by rw [kcs_length hkok.1.2]; exact info_k
      have skn : (Try.prog.info? 39).map (·.size) = some (kcs k.2).length := by rw [kcs_length hkok.2.2]; exact info_k
      obtain ⟨KO, hKO⟩ : ∃ L, kcs k.1 = L := ⟨_, rfl⟩
      obtain ⟨KN, hKN⟩ : ∃ L, kcs k.2 = L := ⟨_, rfl⟩
      rw [hKO, hKN] at hKO2
      rw [hKO] at sko
      rw [hKN] at skn
      have HKR : Hid (∀ (V : World) (j : Nat), V.rangeAt j 0 WK → V.rangeAt j 0 KO ∧ V.rangeAt j (0 + 33) KN) := Lib.hid (fun V j h => hKO2 h)
      have SKO := Lib.hid sko
      have SKN := Lib.hid skn
      have HKO := Lib.hid (And.intro hkok (And.intro hWK (And.intro hKO hKN)))
      have HWF := Lib.hid hwf
      clear hk0 hkw hwl hw1 hWK hkww hkok hwf hx hKO2 sko skn hKO hKN
      obtain ⟨bk, hbk⟩ : ∃ x, wr.heap.size = x := ⟨_, rfl⟩
      obtain ⟨X1, hX1⟩ : ∃ V, wr.alloc (.cells ZW 41) = V := ⟨_, rfl⟩
      have kx1 : Keeps (fun _ => False) wr X1 := by rw [← hX1]; exact (Keeps.refl _ _).alloc _
      have rx1 : X1.heap[bk]? = some (.cells ZW 41 (0, 0)) := by rw [← hX1, ← hbk]; exact heap_alloc_new wr _
      obtain ⟨X2, hX2⟩ : ∃ V, X1.setRow bk WK.toArray = V := ⟨_, rfl⟩
      have rx2 : Row X2 bk 41 WK := by rw [← hX2]; exact setRow_heap _ _ _ _ _ _ rx1
      have kx2 : Keeps (fun _ => False) wr X2 := kx1.trans' (T := fun j => j = bk) (by rw [← hX2]; exact Keeps.setRow _ _) (fun j hj e => by omega)
      have RX1 := Lib.hid rx1
      have RX2 := Lib.hid rx2
      have KX2 := Lib.hid kx2
      have hk0x : X2.cell? (ad.add (i * 67)) = some (.int .i64 kd) := (kx2.cell (World.block_lt_of_cell? _ _ hk0w) id).trans hk0w
      have HBX := Lib.hid (HB.out.later CC.out kx2)
      have hbkw : W.heap.size ≤ bk := by have := HB.out.keeps.size; omega
      have hr : kd % 4 = 0 ∨ kd % 4 = 1 ∨ (kd % 4 = 2 ∨ kd % 4 = 3) := by omega
      have hand := and_four18 kd
      clear kx1 kx2 rx1 rx2
      rcases hr with hr | hr | hr
      · rw [hr] at hand
        clear hr
        go_wp2_with (first
          | (refine wpList_load_any18 (by rfl) 41 (.tmp 85) (by rfl) ⟨(ad.add (i * 67)).block, (ad.add (i * 67)).off + 1, none⟩ (by rfl) WK _ HKW.out Try.underlying41 rfl SWK.out ?_)
          | (refine wpList_store_row (by rfl) 41 _ _ (by rfl) bk WK.toArray (by rfl) (by rfl) 41 ZW RX1.out SWA.out SZK.out OWK.out ?_; rw [hX2])
          | (refine wpList_load_row (by rfl) 41 _ (by rfl) bk (by rfl) 41 WK.toArray (0, 0) _ RX2.out Try.underlying41 rfl SWA.out ?_)
          | fail)
        have hs := CC.out.start k HBX.out.at_ HKO.out.1
        rw [HKO.out.2.1] at hs
        refine hs.mono ?_
        rintro e w7 ⟨F7, rfl, a7, hF7, k7⟩
        have B7 : Hid (Bo At W w7 F7 g d b ⟨base, most, budget, Ft.start l k⟩ l s A' c') := Lib.hid (HBX.out.prog CC.out a7 hF7 (Row.keeps HBX.out.dice k7 HBX.out.Fd) (fun e => by rcases hF7 d e with h | h; exact HBX.out.Fd h; have := HBX.out.dice.lt; omega) (k7.mono (fun _ _ h => Or.inl h)) ⟨rfl, rfl, rfl⟩)
        have RK7 : Hid (Row w7 bk 41 WK) := Lib.hid (RX2.out.keeps k7 (fun h => by have := CC.out.lt HB.out.at_ bk h; omega))
        obtain ⟨hh, hhh⟩ : ∃ x, Ft.has l k = x := ⟨_, rfl⟩
        have HH := Lib.hid hhh
        rw [hhh]
        obtain ⟨TL, hTL⟩ : ∃ L, tls ⟨base, most, budget, []⟩ (.slice A' l.length c') = L := ⟨_, rfl⟩
        have HTL := Lib.hid hTL
        have RT7 : Hid (w7.heap[b]? = some (.cells TL.toArray 31 (0, 0))) := Lib.hid (by rw [← hTL]; exact B7.out.box)
        have STL : Hid ((Try.prog.info? 31).map (·.size) = some TL.toArray.size) := Lib.hid (by rw [← hTL]; exact size_T)
        have HKOW := Lib.hid (HKR.out w7 bk (range_row RK7.out)).1
        have HKNW : Hid (w7.rangeAt bk 33 KN) := Lib.hid (by have h := (HKR.out w7 bk (range_row RK7.out)).2; rwa [Nat.zero_add] at h)
        clear hs a7 hF7 k7 hhh hTL
        have hrf := rstart_any base most budget A' l.length c' W.heap.size l k w7 HKO.out.1 B7.out.okr B7.out.own (by have := HL.out; omega) (by have := B7.out.keeps.size; omega)
        rw [HKO.out.2.2.1, HKO.out.2.2.2, HH.out] at hrf
        have hnok : ∀ q ∈ Ft.start l k, Ft.Q.Ok q := fun q hq => (CC.out.ok B7.out.at_).fine q hq |>.1
        have hnl : (Ft.start l k).length ≤ i + 1 := by have := Ft.start_length l k; have := HL.out; omega
        obtain ⟨l9, hl9⟩ : ∃ l9, Ft.start l k = l9 := ⟨_, rfl⟩
        rw [hl9] at hrf hnok hnl B7
        have HRF : Hid (Calls Try.prog 13 #[.agg TL.toArray, .agg KO.toArray, .agg KN.toArray] w7 fun e w' => ∃ (A9 : Option Addr) (c9 : Nat), e = .returned (.tuple #[.agg (tls ⟨base, most, budget, []⟩ (.slice A9 l9.length c9)).toArray, .bool (!hh)]) ∧ Keeps (fun _ => False) w7 w' ∧ w'.ownsRow W.heap.size 71 68 (.slice A9 l9.length c9) l9.length (qfl l9) ∧ ∀ j, (Value.slice A9 l9.length c9).ownBlock = some j → (Value.slice A' l.length c').ownBlock = some j ∨ w7.heap.size ≤ j) := Lib.hid (by rw [← HTL.out]; exact hrf)
        have HNOK := Lib.hid (And.intro hnok hnl)
        clear hrf hnok hnl hl9
        go_wp2_with (first
          | (refine wpList_load_row (by rfl) 31 _ (by rfl) b (by rfl) 31 TL.toArray (0, 0) _ RT7.out Try.underlying31 rfl STL.out ?_)
          | (refine wpList_load_mid_w17 (by rfl) 39 _ (by rfl) bk 0 (by rfl) KO _ HKOW.out Try.underlying39 rfl SKO.out ?_)
          | (refine wpList_load_mid_w17 (by rfl) 39 _ (by rfl) bk 33 (by rfl) KN _ HKNW.out Try.underlying39 rfl SKN.out ?_)
          | fail)
        refine HRF.out.mono ?_
        rintro e w8 ⟨A9, c9, rfl, k8, o8, hn8⟩
        obtain ⟨T9, hT9⟩ : ∃ L, tls ⟨base, most, budget, []⟩ (.slice A9 l9.length c9) = L := ⟨_, rfl⟩
        rw [hT9]
        have ST9 : Hid ((Try.prog.info? 31).map (·.size) = some T9.toArray.size) := Lib.hid (by rw [← hT9]; exact size_T)
        have SZ9 : Hid (Z.size = T9.toArray.size) := Lib.hid (by rw [← hT9, ← HZZ.out]; rfl)
        have SL9 : Hid (TL.toArray.size = T9.toArray.size) := Lib.hid (by rw [← hT9, ← HTL.out]; rfl)
        have O9 : Hid (T9.toArray.all (·.oneCell') = true) := Lib.hid (by rw [← hT9]; exact tcs_one _ _ _ _ _ _)
        obtain ⟨n1, hn1⟩ : ∃ x, w8.heap.size = x := ⟨_, rfl⟩
        obtain ⟨V1, hV1⟩ : ∃ V, w8.alloc (.cells Z 31) = V := ⟨_, rfl⟩
        have kv1 : Keeps (fun _ => False) w8 V1 := by rw [← hV1]; exact (Keeps.refl _ _).alloc _
        have rv1 : V1.heap[n1]? = some (.cells Z 31 (0, 0)) := by rw [← hV1, ← hn1]; exact heap_alloc_new w8 _
        obtain ⟨V2, hV2⟩ : ∃ V, V1.setRow n1 T9.toArray = V := ⟨_, rfl⟩
        have rv2 : V2.heap[n1]? = some (.cells T9.toArray 31 (0, 0)) := by rw [← hV2]; exact setRow_heap _ _ _ _ _ _ rv1
        have kv2 : Keeps (fun _ => False) w7 V2 := k8.trans (kv1.trans' (T := fun j => j = n1) (by rw [← hV2]; exact Keeps.setRow _ _) (fun j hj e => by omega))
        have rb2 := (kv2.block b (Array.getElem?_eq_some_iff.1 RT7.out).1 id).trans RT7.out
        obtain ⟨V3, hV3⟩ : ∃ V, V2.setRow b T9.toArray = V := ⟨_, rfl⟩
        have rb3 : V3.heap[b]? = some (.cells T9.toArray 31 (0, 0)) := by rw [← hV3]; exact setRow_heap _ _ _ _ _ _ rb2
        have kb3 : Keeps (fun j => j = b) V2 V3 := by rw [← hV3]; exact Keeps.setRow _ _
        have kv3 : Keeps (fun j => j = b) w7 V3 := (kv2.mono (fun _ _ h => h.elim)).trans kb3
        have o2 : V2.ownsRow W.heap.size 71 68 (.slice A9 l9.length c9) l9.length (qfl l9) := (kv1.trans' (T := fun j => j = n1) (by rw [← hV2]; exact Keeps.setRow _ _) (fun j hj e => by omega) : Keeps (fun _ => False) w8 V2).owns o8 (fun _ _ => id)
        have o3 := kb3.owns o2 (fun j hj e => own_apart o2 (show Row V2 b 31 TL from rb2) (by decide) j hj e)
        have B9 : Hid (Bo At W V3 F7 g d b ⟨base, most, budget, l9⟩ l9 s A9 c9) := Lib.hid (B7.out.refd CC.out kv3 o3 hn8 HNOK.out.1 (by rw [show tls ⟨base, most, budget, l9⟩ (.slice A9 l9.length c9) = T9 from hT9]; exact rb3))
        have RK9 : Hid (Row V3 bk 41 WK) := Lib.hid (RK7.out.keeps kv3 (fun e => by have := HB.out.box.lt; omega))
        have RV1 := Lib.hid rv1
        have RV2 := Lib.hid rv2
        have RB2 := Lib.hid rb2
        have RB3 := Lib.hid rb3
        have HT9 := Lib.hid hT9
        clear k8 o8 hn8 hT9 kv1 rv1 kv2 rv2 rb2 rb3 kb3 kv3 o2 o3
        go_wp2_with (first
          | (refine wpList_store_row (by rfl) 31 _ _ (by rfl) n1 T9.toArray (by rfl) (by rfl) 31 Z RV1.out ST9.out SZ9.out O9.out ?_; rw [hV2])
          | (refine wpList_load_row (by rfl) 31 _ (by rfl) n1 (by rfl) 31 T9.toArray (0, 0) _ RV2.out Try.underlying31 rfl ST9.out ?_)
          | (refine wpList_store_row (by rfl) 31 _ _ (by rfl) b T9.toArray (by rfl) (by rfl) 31 TL.toArray RB2.out ST9.out SL9.out O9.out ?_; rw [hV3])
          | fail)
        obtain ⟨n9, hn9⟩ : ∃ n, l9.length = n := ⟨_, rfl⟩
        obtain ⟨WL, hWL⟩ : ∃ L, wfl (Ft.keys l9) = L := ⟨_, rfl⟩
        obtain ⟨hx, hhx⟩ : ∃ x, Ft.has l9 k = x := ⟨_, rfl⟩
        have hxx : (hx != hx) = false := by simp
        have hn1000 : n9 ≤ 1000 := by rw [← hn9]; have := HNOK.out.2; omega
        have HOP : Hid (∀ V, Keeps (fun _ => False) V3 V → Calls Try.prog 19 #[.pointer (some ⟨g, 0, none⟩)] V fun e w' => ∃ x : Option Addr × Nat, e = .returned (.slice x.1 n9 x.2) ∧ Keeps (fun _ => False) V3 w' ∧ w'.ownsRow 0 41 66 (.slice x.1 n9 x.2) n9 WL) := Lib.hid (fun V hV => by
          have h := CC.out.open (CC.out.keeps B9.out.at_ hV (fun _ e => e.elim)) (by show l9.length ≤ 1000; omega)
          refine h.mono ?_
          rintro e w' ⟨A0, c0, rfl, o0, k0⟩
          refine ⟨(A0, c0), by rw [← hn9], hV.trans k0, ?_⟩
          rw [← hn9, ← hWL]
          exact own_base o0 (Nat.zero_le _))
        have HSM : Hid (∀ V (A0 : Option Addr) (c0 : Nat), Keeps (fun _ => False) V3 V → V.ownsRow 0 41 66 (.slice A0 n9 c0) n9 WL → Calls Try.prog 18 #[.slice A0 n9 c0, .slice A9 n9 c9] V fun e w' => e = .returned (.bool true) ∧ Keeps (fun _ => False) V3 w' ∧ True) := Lib.hid (fun V A0 c0 hV h0 => by
          have o9 := hV.owns B9.out.own (fun _ _ => id)
          rw [hn9] at o9
          rw [← hWL] at h0
          exact (same18_eq A0 A9 n9 c0 c9 0 _ l9 V HNOK.out.1 h0 o9 hn1000).mono (fun e w' h => ⟨h.1, hV.trans h.2, trivial⟩))
        have HHP : Hid (∀ V, Keeps (fun _ => False) V3 V → Calls Try.prog 20 #[.pointer (some ⟨g, 0, none⟩), .agg WK.toArray] V fun e w' => e = .returned (.bool hx) ∧ Keeps (fun _ => False) V3 w' ∧ True) := Lib.hid (fun V hV => by
          have h := CC.out.has k (CC.out.keeps B9.out.at_ hV (fun _ e => e.elim)) HKO.out.1
          rw [HKO.out.2.1] at h
          exact h.mono (fun e w' h => ⟨by rw [h.1]; exact congrArg (fun b => Ending.returned (Value.bool b)) hhx, hV.trans h.2, trivial⟩))
        have HHR : Hid (∀ V, Keeps (fun _ => False) V3 V → Calls Try.prog 21 #[.agg T9.toArray, .agg KO.toArray, .agg KN.toArray] V fun e w' => e = .returned (.bool hx) ∧ Keeps (fun _ => False) V3 w' ∧ True) := Lib.hid (fun V hV => by
          have h := rhas_any base most budget A9 l9.length c9 W.heap.size l9 k V HKO.out.1 HNOK.out.1 (hV.owns B9.out.own (fun _ _ => id)) (by omega)
          rw [HKO.out.2.2.1, HKO.out.2.2.2, hhx] at h
          rw [← HT9.out]
          exact h.mono (fun e w' h => ⟨h.1, hV.trans h.2, trivial⟩))
        have HC3 : Hid (∀ V, Keeps (fun _ => False) V3 V → V.cell? ⟨b, 3, none⟩ = some (.slice A9 n9 c9)) := Lib.hid (fun V hV => by rw [← hn9]; exact (B9.out.box.keeps hV id).cell 3)
        have HWK : Hid (∀ V, Keeps (fun _ => False) V3 V → V.rangeAt bk 0 WK) := Lib.hid (fun V hV => range_row (RK9.out.keeps hV id))
        have HRT : Hid (∀ V, Keeps (fun _ => False) V3 V → V.rangeAt b 0 T9) := Lib.hid (fun V hV => range_row ((show Row V3 b 31 T9 from RB3.out).keeps hV id))
        have HKV : Hid (∀ V, Keeps (fun _ => False) V3 V → V.rangeAt bk 0 KO ∧ V.rangeAt bk 33 KN) := Lib.hid (fun V hV => by have h := HKR.out V bk (HWK.out V hV); rwa [Nat.zero_add] at h)
        have SL33 : Hid ((Try.prog.info? 31).map (·.size) = some T9.length) := Lib.hid (by have h := ST9.out; rwa [List.size_toArray] at h)
        go_wp2_with fail
        refine wp_region_stores 22 [4, 7, 13, 19] [0, 1, 2, 3, 5, 6, 4, 7, 8, 9, 10, 11, 12, 14, 15, 16, 17, 18, 13, 19, 20, 21] (fun V => Keeps (fun _ => False) V3 V) (fun V => True) (by kernel_rfl) (by kernel_rfl) (fun _ _ h k => h.trans k) (fun _ _ h _ => h) (((Keeps.refl _ _).drew)) (trivial) ?_
        refine T_quiet (get_op rfl) (by rfl) (by rfl) (by rfl) ?_
        intro K hK
        go_big_quiet_op
        first | go_big_quiet_on | go_big_quiet_call ((intro _; rfl))
        refine T_value (get_op rfl) (by rfl) (by rfl) (.bool false) (fun _ _ => by go_simp) ?_
        simp only [Act.put, List.setIfInBounds_toArray, List.set_cons_zero, List.set_cons_succ]
        refine T_quiet (get_op rfl) (by rfl) (by rfl) (by rfl) ?_
        intro K hK
        go_big_quiet_op
        first | go_big_quiet_on | go_big_quiet_call ((intro _; rfl))
        refine T_quiet (get_op rfl) (by rfl) (by rfl) (by rfl) ?_
        intro K hK
        go_big_quiet_op
        first | go_big_quiet_on | go_big_quiet_call ((intro _; rfl))
        refine T_value (get_op rfl) (by rfl) (by rfl) (.pointer (some ⟨b, 3, none⟩)) (fun _ _ => by go_simp) ?_
        simp only [Act.put, List.setIfInBounds_toArray, List.set_cons_zero, List.set_cons_succ]
        refine T_cell (get_op rfl) (by rfl) (by rfl) 29 (.tmp 160) (by rfl) ⟨b, 3, none⟩ (by rfl) (.slice A9 n9 c9) _ (fun V hV => HC3.out V hV) Try.underlying29 rfl ?_
        simp only [Act.put, List.setIfInBounds_toArray, List.set_cons_zero, List.set_cons_succ]
        refine T_enterR (get_op rfl) (by rfl) (by rfl) _ _ (fun x : Option Addr × Nat => .slice x.1 n9 x.2) (fun x y h => by cases x; cases y; simp at h; simp [h]) (fun _ => by go_simp) (fun x V => V.ownsRow 0 41 66 (.slice x.1 n9 x.2) n9 WL) (fun x w w' h hk => hk.owns h (fun _ _ => id)) (fun V hb hf => HOP.out V hb) ?_
        intro x4
        simp only [Act.put, List.setIfInBounds_toArray, List.set_cons_zero, List.set_cons_succ]
        refine T_enter (get_op rfl) (by rfl) (by rfl) _ _ (.bool true) (fun _ => by go_simp) (fun V => True) (fun _ _ h _ => h) (fun V hb hf => HSM.out V x4.1 x4.2 hb hf) ?_
        simp only [Act.put, List.setIfInBounds_toArray, List.set_cons_zero, List.set_cons_succ]
        refine T_value (get_op rfl) (by rfl) (by rfl) (.bool false) (fun _ _ => by go_simp) ?_
        simp only [Act.put, List.setIfInBounds_toArray, List.set_cons_zero, List.set_cons_succ]
        refine T_value (get_op rfl) (by rfl) (by rfl) (.bool false) (fun _ _ => by go_simp) ?_
        simp only [Act.put, List.setIfInBounds_toArray, List.set_cons_zero, List.set_cons_succ]
        refine T_quiet (get_op rfl) (by rfl) (by rfl) (by rfl) ?_
        intro K hK
        go_big_quiet_op
        first | go_big_quiet_on | go_big_quiet_call ((intro _; rfl))
        refine T_quiet (get_op rfl) (by rfl) (by rfl) (by rfl) ?_
        intro K hK
        go_big_quiet_op
        first | go_big_quiet_on | go_big_quiet_call ((intro _; rfl))
        refine T_load (get_op rfl) (by rfl) (by rfl) 41 (.tmp 19) (by rfl) bk 0 (by rfl) WK _ (fun V hV => HWK.out V hV) Try.underlying41 rfl SWK.out ?_
        simp only [Act.put, List.setIfInBounds_toArray, List.set_cons_zero, List.set_cons_succ]
        refine T_load (get_op rfl) (by rfl) (by rfl) 31 (.tmp 14) (by rfl) b 0 (by rfl) T9 _ (fun V hV => HRT.out V hV) Try.underlying31 rfl SL33.out ?_
        simp only [Act.put, List.setIfInBounds_toArray, List.set_cons_zero, List.set_cons_succ]
        refine T_value (get_op rfl) (by rfl) (by rfl) (.pointer (some ⟨bk, 0, none⟩)) (fun _ _ => by go_simp) ?_
        simp only [Act.put, List.setIfInBounds_toArray, List.set_cons_zero, List.set_cons_succ]
        refine T_load (get_op rfl) (by rfl) (by rfl) 39 (.tmp 170) (by rfl) bk 0 (by rfl) KO _ (fun V hV => HKV.out V hV |>.1) Try.underlying39 rfl SKO.out ?_
        simp only [Act.put, List.setIfInBounds_toArray, List.set_cons_zero, List.set_cons_succ]
        refine T_value (get_op rfl) (by rfl) (by rfl) (.pointer (some ⟨bk, 33, none⟩)) (fun _ _ => by go_simp) ?_
        simp only [Act.put, List.setIfInBounds_toArray, List.set_cons_zero, List.set_cons_succ]
        refine T_load (get_op rfl) (by rfl) (by rfl) 39 (.tmp 172) (by rfl) bk 33 (by rfl) KN _ (fun V hV => HKV.out V hV |>.2) Try.underlying39 rfl SKN.out ?_
        simp only [Act.put, List.setIfInBounds_toArray, List.set_cons_zero, List.set_cons_succ]
        refine T_enter (get_op rfl) (by rfl) (by rfl) _ _ (.bool hx) (fun _ => by go_simp) (fun V => True) (fun _ _ h _ => h) (fun V hb hf => HHP.out V hb) ?_
        simp only [Act.put, List.setIfInBounds_toArray, List.set_cons_zero, List.set_cons_succ]
        refine T_enter (get_op rfl) (by rfl) (by rfl) _ _ (.bool hx) (fun _ => by go_simp) (fun V => True) (fun _ _ h _ => h) (fun V hb hf => HHR.out V hb) ?_
        simp only [Act.put, List.setIfInBounds_toArray, List.set_cons_zero, List.set_cons_succ]
        refine T_value (get_op rfl) (by rfl) (by rfl) (.bool false) (fun _ _ => by go_simp) ?_
        simp only [Act.put, List.setIfInBounds_toArray, List.set_cons_zero, List.set_cons_succ]
        refine T_value (get_op rfl) (by rfl) (by rfl) (.bool false) (fun _ _ => by go_simp) ?_
        simp only [Act.put, List.setIfInBounds_toArray, List.set_cons_zero, List.set_cons_succ]
        refine T_nil ?_
        intro w30 k30 _
        simp only [List.drop_succ_cons, List.drop_zero]
        have BF := Lib.hid (B9.out.later CC.out k30)
        have hll := HNOK.out.2
        clear k30 HOP HSM HHP HHR HC3 HWK HRT HKV
        go_wp2
        go_roundw
        case rel => exact ⟨i + 1, F7, l9, s, A9, c9, by omega, by omega, rfl, by go_num, Lib.hid hll, BF⟩
        case measure => simp [intOf]; omega
      · rw [hr] at hand
        clear hr
        go_wp2_with (first
          | (refine wpList_load_any18 (by rfl) 41 (.tmp 85) (by rfl) ⟨(ad.add (i * 67)).block, (ad.add (i * 67)).off + 1, none⟩ (by rfl) WK _ HKW.out Try.underlying41 rfl SWK.out ?_)
          | (refine wpList_store_row (by rfl) 41 _ _ (by rfl) bk WK.toArray (by rfl) (by rfl) 41 ZW RX1.out SWA.out SZK.out OWK.out ?_; rw [hX2])
          | (refine wpList_load_row (by rfl) 41 _ (by rfl) bk (by rfl) 41 WK.toArray (0, 0) _ RX2.out Try.underlying41 rfl SWA.out ?_)
          | fail)
        have hs := CC.out.done k HBX.out.at_ HKO.out.1
        rw [HKO.out.2.1] at hs
        refine hs.mono ?_
        rintro e w7 ⟨F7, rfl, a7, hF7, k7⟩
        have B7 : Hid (Bo At W w7 F7 g d b ⟨base, most, budget, Ft.done l k⟩ l s A' c') := Lib.hid (HBX.out.prog CC.out a7 hF7 (Row.keeps HBX.out.dice k7 HBX.out.Fd) (fun e => by rcases hF7 d e with h | h; exact HBX.out.Fd h; have := HBX.out.dice.lt; omega) (k7.mono (fun _ _ h => Or.inl h)) ⟨rfl, rfl, rfl⟩)
        have RK7 : Hid (Row w7 bk 41 WK) := Lib.hid (RX2.out.keeps k7 (fun h => by have := CC.out.lt HB.out.at_ bk h; omega))
        obtain ⟨hh, hhh⟩ : ∃ x, Ft.has l k = x := ⟨_, rfl⟩
        have HH := Lib.hid hhh
        rw [hhh]
        obtain ⟨TL, hTL⟩ : ∃ L, tls ⟨base, most, budget, []⟩ (.slice A' l.length c') = L := ⟨_, rfl⟩
        have HTL := Lib.hid hTL
        have RT7 : Hid (w7.heap[b]? = some (.cells TL.toArray 31 (0, 0))) := Lib.hid (by rw [← hTL]; exact B7.out.box)
        have STL : Hid ((Try.prog.info? 31).map (·.size) = some TL.toArray.size) := Lib.hid (by rw [← hTL]; exact size_T)
        have HKOW := Lib.hid (HKR.out w7 bk (range_row RK7.out)).1
        have HKNW : Hid (w7.rangeAt bk 33 KN) := Lib.hid (by have h := (HKR.out w7 bk (range_row RK7.out)).2; rwa [Nat.zero_add] at h)
        clear hs a7 hF7 k7 hhh hTL
        have hrf := rdone_any base most budget A' l.length c' W.heap.size l k w7 HKO.out.1 B7.out.okr B7.out.own (by have := HL.out; omega)
        rw [HKO.out.2.2.1, HKO.out.2.2.2, HH.out] at hrf
        have hnok : ∀ q ∈ Ft.done l k, Ft.Q.Ok q := fun q hq => (CC.out.ok B7.out.at_).fine q hq |>.1
        have hnl : (Ft.done l k).length ≤ i + 1 := by have := Ft.done_length l k; have := HL.out; omega
        obtain ⟨l9, hl9⟩ : ∃ l9, Ft.done l k = l9 := ⟨_, rfl⟩
        rw [hl9] at hrf hnok hnl B7
        have hws := B7.out.keeps.size
        have HRF : Hid (Calls Try.prog 15 #[.agg TL.toArray, .agg KO.toArray, .agg KN.toArray] w7 fun e w' => ∃ (A9 : Option Addr) (c9 : Nat), e = .returned (.tuple #[.agg (tls ⟨base, most, budget, []⟩ (.slice A9 l9.length c9)).toArray, .bool hh]) ∧ Keeps (fun _ => False) w7 w' ∧ w'.ownsRow W.heap.size 71 68 (.slice A9 l9.length c9) l9.length (qfl l9) ∧ ∀ j, (Value.slice A9 l9.length c9).ownBlock = some j → (Value.slice A' l.length c').ownBlock = some j ∨ w7.heap.size ≤ j) := Lib.hid (by rw [← HTL.out]; exact hrf.mono (fun e w' ⟨A9, c9, h1, h2, h3⟩ => ⟨A9, c9, h1, h2, own_base h3 hws, fun j hj => .inr (by obtain ⟨_, _, h⟩ := own_block h3 j hj; exact h)⟩))
        clear hws
        have HNOK := Lib.hid (And.intro hnok hnl)
        clear hrf hnok hnl hl9
        go_wp2_with (first
          | (refine wpList_load_row (by rfl) 31 _ (by rfl) b (by rfl) 31 TL.toArray (0, 0) _ RT7.out Try.underlying31 rfl STL.out ?_)
          | (refine wpList_load_mid_w17 (by rfl) 39 _ (by rfl) bk 0 (by rfl) KO _ HKOW.out Try.underlying39 rfl SKO.out ?_)
          | (refine wpList_load_mid_w17 (by rfl) 39 _ (by rfl) bk 33 (by rfl) KN _ HKNW.out Try.underlying39 rfl SKN.out ?_)
          | fail)
        refine HRF.out.mono ?_
        rintro e w8 ⟨A9, c9, rfl, k8, o8, hn8⟩
        obtain ⟨T9, hT9⟩ : ∃ L, tls ⟨base, most, budget, []⟩ (.slice A9 l9.length c9) = L := ⟨_, rfl⟩
        rw [hT9]
        have ST9 : Hid ((Try.prog.info? 31).map (·.size) = some T9.toArray.size) := Lib.hid (by rw [← hT9]; exact size_T)
        have SZ9 : Hid (Z.size = T9.toArray.size) := Lib.hid (by rw [← hT9, ← HZZ.out]; rfl)
        have SL9 : Hid (TL.toArray.size = T9.toArray.size) := Lib.hid (by rw [← hT9, ← HTL.out]; rfl)
        have O9 : Hid (T9.toArray.all (·.oneCell') = true) := Lib.hid (by rw [← hT9]; exact tcs_one _ _ _ _ _ _)
        obtain ⟨n1, hn1⟩ : ∃ x, w8.heap.size = x := ⟨_, rfl⟩
        obtain ⟨V1, hV1⟩ : ∃ V, w8.alloc (.cells Z 31) = V := ⟨_, rfl⟩
        have kv1 : Keeps (fun _ => False) w8 V1 := by rw [← hV1]; exact (Keeps.refl _ _).alloc _
        have rv1 : V1.heap[n1]? = some (.cells Z 31 (0, 0)) := by rw [← hV1, ← hn1]; exact heap_alloc_new w8 _
        obtain ⟨V2, hV2⟩ : ∃ V, V1.setRow n1 T9.toArray = V := ⟨_, rfl⟩
        have rv2 : V2.heap[n1]? = some (.cells T9.toArray 31 (0, 0)) := by rw [← hV2]; exact setRow_heap _ _ _ _ _ _ rv1
        have kv2 : Keeps (fun _ => False) w7 V2 := k8.trans (kv1.trans' (T := fun j => j = n1) (by rw [← hV2]; exact Keeps.setRow _ _) (fun j hj e => by omega))
        have rb2 := (kv2.block b (Array.getElem?_eq_some_iff.1 RT7.out).1 id).trans RT7.out
        obtain ⟨V3, hV3⟩ : ∃ V, V2.setRow b T9.toArray = V := ⟨_, rfl⟩
        have rb3 : V3.heap[b]? = some (.cells T9.toArray 31 (0, 0)) := by rw [← hV3]; exact setRow_heap _ _ _ _ _ _ rb2
        have kb3 : Keeps (fun j => j = b) V2 V3 := by rw [← hV3]; exact Keeps.setRow _ _
        have kv3 : Keeps (fun j => j = b) w7 V3 := (kv2.mono (fun _ _ h => h.elim)).trans kb3
        have o2 : V2.ownsRow W.heap.size 71 68 (.slice A9 l9.length c9) l9.length (qfl l9) := (kv1.trans' (T := fun j => j = n1) (by rw [← hV2]; exact Keeps.setRow _ _) (fun j hj e => by omega) : Keeps (fun _ => False) w8 V2).owns o8 (fun _ _ => id)
        have o3 := kb3.owns o2 (fun j hj e => own_apart o2 (show Row V2 b 31 TL from rb2) (by decide) j hj e)
        have B9 : Hid (Bo At W V3 F7 g d b ⟨base, most, budget, l9⟩ l9 s A9 c9) := Lib.hid (B7.out.refd CC.out kv3 o3 hn8 HNOK.out.1 (by rw [show tls ⟨base, most, budget, l9⟩ (.slice A9 l9.length c9) = T9 from hT9]; exact rb3))
        have RK9 : Hid (Row V3 bk 41 WK) := Lib.hid (RK7.out.keeps kv3 (fun e => by have := HB.out.box.lt; omega))
        have RV1 := Lib.hid rv1
        have RV2 := Lib.hid rv2
        have RB2 := Lib.hid rb2
        have RB3 := Lib.hid rb3
        have HT9 := Lib.hid hT9
        clear k8 o8 hn8 hT9 kv1 rv1 kv2 rv2 rb2 rb3 kb3 kv3 o2 o3
        go_wp2_with (first
          | (refine wpList_store_row (by rfl) 31 _ _ (by rfl) n1 T9.toArray (by rfl) (by rfl) 31 Z RV1.out ST9.out SZ9.out O9.out ?_; rw [hV2])
          | (refine wpList_load_row (by rfl) 31 _ (by rfl) n1 (by rfl) 31 T9.toArray (0, 0) _ RV2.out Try.underlying31 rfl ST9.out ?_)
          | (refine wpList_store_row (by rfl) 31 _ _ (by rfl) b T9.toArray (by rfl) (by rfl) 31 TL.toArray RB2.out ST9.out SL9.out O9.out ?_; rw [hV3])
          | fail)
        obtain ⟨n9, hn9⟩ : ∃ n, l9.length = n := ⟨_, rfl⟩
        obtain ⟨WL, hWL⟩ : ∃ L, wfl (Ft.keys l9) = L := ⟨_, rfl⟩
        obtain ⟨hx, hhx⟩ : ∃ x, Ft.has l9 k = x := ⟨_, rfl⟩
        have hxx : (hx != hx) = false := by simp
        have hn1000 : n9 ≤ 1000 := by rw [← hn9]; have := HNOK.out.2; omega
        have HOP : Hid (∀ V, Keeps (fun _ => False) V3 V → Calls Try.prog 19 #[.pointer (some ⟨g, 0, none⟩)] V fun e w' => ∃ x : Option Addr × Nat, e = .returned (.slice x.1 n9 x.2) ∧ Keeps (fun _ => False) V3 w' ∧ w'.ownsRow 0 41 66 (.slice x.1 n9 x.2) n9 WL) := Lib.hid (fun V hV => by
          have h := CC.out.open (CC.out.keeps B9.out.at_ hV (fun _ e => e.elim)) (by show l9.length ≤ 1000; omega)
          refine h.mono ?_
          rintro e w' ⟨A0, c0, rfl, o0, k0⟩
          refine ⟨(A0, c0), by rw [← hn9], hV.trans k0, ?_⟩
          rw [← hn9, ← hWL]
          exact own_base o0 (Nat.zero_le _))
        have HSM : Hid (∀ V (A0 : Option Addr) (c0 : Nat), Keeps (fun _ => False) V3 V → V.ownsRow 0 41 66 (.slice A0 n9 c0) n9 WL → Calls Try.prog 18 #[.slice A0 n9 c0, .slice A9 n9 c9] V fun e w' => e = .returned (.bool true) ∧ Keeps (fun _ => False) V3 w' ∧ True) := Lib.hid (fun V A0 c0 hV h0 => by
          have o9 := hV.owns B9.out.own (fun _ _ => id)
          rw [hn9] at o9
          rw [← hWL] at h0
          exact (same18_eq A0 A9 n9 c0 c9 0 _ l9 V HNOK.out.1 h0 o9 hn1000).mono (fun e w' h => ⟨h.1, hV.trans h.2, trivial⟩))
        have HHP : Hid (∀ V, Keeps (fun _ => False) V3 V → Calls Try.prog 20 #[.pointer (some ⟨g, 0, none⟩), .agg WK.toArray] V fun e w' => e = .returned (.bool hx) ∧ Keeps (fun _ => False) V3 w' ∧ True) := Lib.hid (fun V hV => by
          have h := CC.out.has k (CC.out.keeps B9.out.at_ hV (fun _ e => e.elim)) HKO.out.1
          rw [HKO.out.2.1] at h
          exact h.mono (fun e w' h => ⟨by rw [h.1]; exact congrArg (fun b => Ending.returned (Value.bool b)) hhx, hV.trans h.2, trivial⟩))
        have HHR : Hid (∀ V, Keeps (fun _ => False) V3 V → Calls Try.prog 21 #[.agg T9.toArray, .agg KO.toArray, .agg KN.toArray] V fun e w' => e = .returned (.bool hx) ∧ Keeps (fun _ => False) V3 w' ∧ True) := Lib.hid (fun V hV => by
          have h := rhas_any base most budget A9 l9.length c9 W.heap.size l9 k V HKO.out.1 HNOK.out.1 (hV.owns B9.out.own (fun _ _ => id)) (by omega)
          rw [HKO.out.2.2.1, HKO.out.2.2.2, hhx] at h
          rw [← HT9.out]
          exact h.mono (fun e w' h => ⟨h.1, hV.trans h.2, trivial⟩))
        have HC3 : Hid (∀ V, Keeps (fun _ => False) V3 V → V.cell? ⟨b, 3, none⟩ = some (.slice A9 n9 c9)) := Lib.hid (fun V hV => by rw [← hn9]; exact (B9.out.box.keeps hV id).cell 3)
        have HWK : Hid (∀ V, Keeps (fun _ => False) V3 V → V.rangeAt bk 0 WK) := Lib.hid (fun V hV => range_row (RK9.out.keeps hV id))
        have HRT : Hid (∀ V, Keeps (fun _ => False) V3 V → V.rangeAt b 0 T9) := Lib.hid (fun V hV => range_row ((show Row V3 b 31 T9 from RB3.out).keeps hV id))
        have HKV : Hid (∀ V, Keeps (fun _ => False) V3 V → V.rangeAt bk 0 KO ∧ V.rangeAt bk 33 KN) := Lib.hid (fun V hV => by have h := HKR.out V bk (HWK.out V hV); rwa [Nat.zero_add] at h)
        have SL33 : Hid ((Try.prog.info? 31).map (·.size) = some T9.length) := Lib.hid (by have h := ST9.out; rwa [List.size_toArray] at h)
        go_wp2_with fail
        refine wp_region_stores 22 [4, 7, 13, 19] [0, 1, 2, 3, 5, 6, 4, 7, 8, 9, 10, 11, 12, 14, 15, 16, 17, 18, 13, 19, 20, 21] (fun V => Keeps (fun _ => False) V3 V) (fun V => True) (by kernel_rfl) (by kernel_rfl) (fun _ _ h k => h.trans k) (fun _ _ h _ => h) (((Keeps.refl _ _).drew)) (trivial) ?_
        refine T_quiet (get_op rfl) (by rfl) (by rfl) (by rfl) ?_
        intro K hK
        go_big_quiet_op
        first | go_big_quiet_on | go_big_quiet_call ((intro _; rfl))
        refine T_value (get_op rfl) (by rfl) (by rfl) (.bool false) (fun _ _ => by go_simp) ?_
        simp only [Act.put, List.setIfInBounds_toArray, List.set_cons_zero, List.set_cons_succ]
        refine T_quiet (get_op rfl) (by rfl) (by rfl) (by rfl) ?_
        intro K hK
        go_big_quiet_op
        first | go_big_quiet_on | go_big_quiet_call ((intro _; rfl))
        refine T_quiet (get_op rfl) (by rfl) (by rfl) (by rfl) ?_
        intro K hK
        go_big_quiet_op
        first | go_big_quiet_on | go_big_quiet_call ((intro _; rfl))
        refine T_value (get_op rfl) (by rfl) (by rfl) (.pointer (some ⟨b, 3, none⟩)) (fun _ _ => by go_simp) ?_
        simp only [Act.put, List.setIfInBounds_toArray, List.set_cons_zero, List.set_cons_succ]
        refine T_cell (get_op rfl) (by rfl) (by rfl) 29 (.tmp 160) (by rfl) ⟨b, 3, none⟩ (by rfl) (.slice A9 n9 c9) _ (fun V hV => HC3.out V hV) Try.underlying29 rfl ?_
        simp only [Act.put, List.setIfInBounds_toArray, List.set_cons_zero, List.set_cons_succ]
        refine T_enterR (get_op rfl) (by rfl) (by rfl) _ _ (fun x : Option Addr × Nat => .slice x.1 n9 x.2) (fun x y h => by cases x; cases y; simp at h; simp [h]) (fun _ => by go_simp) (fun x V => V.ownsRow 0 41 66 (.slice x.1 n9 x.2) n9 WL) (fun x w w' h hk => hk.owns h (fun _ _ => id)) (fun V hb hf => HOP.out V hb) ?_
        intro x4
        simp only [Act.put, List.setIfInBounds_toArray, List.set_cons_zero, List.set_cons_succ]
        refine T_enter (get_op rfl) (by rfl) (by rfl) _ _ (.bool true) (fun _ => by go_simp) (fun V => True) (fun _ _ h _ => h) (fun V hb hf => HSM.out V x4.1 x4.2 hb hf) ?_
        simp only [Act.put, List.setIfInBounds_toArray, List.set_cons_zero, List.set_cons_succ]
        refine T_value (get_op rfl) (by rfl) (by rfl) (.bool false) (fun _ _ => by go_simp) ?_
        simp only [Act.put, List.setIfInBounds_toArray, List.set_cons_zero, List.set_cons_succ]
        refine T_value (get_op rfl) (by rfl) (by rfl) (.bool false) (fun _ _ => by go_simp) ?_
        simp only [Act.put, List.setIfInBounds_toArray, List.set_cons_zero, List.set_cons_succ]
        refine T_quiet (get_op rfl) (by rfl) (by rfl) (by rfl) ?_
        intro K hK
        go_big_quiet_op
        first | go_big_quiet_on | go_big_quiet_call ((intro _; rfl))
        refine T_quiet (get_op rfl) (by rfl) (by rfl) (by rfl) ?_
        intro K hK
        go_big_quiet_op
        first | go_big_quiet_on | go_big_quiet_call ((intro _; rfl))
        refine T_load (get_op rfl) (by rfl) (by rfl) 41 (.tmp 19) (by rfl) bk 0 (by rfl) WK _ (fun V hV => HWK.out V hV) Try.underlying41 rfl SWK.out ?_
        simp only [Act.put, List.setIfInBounds_toArray, List.set_cons_zero, List.set_cons_succ]
        refine T_load (get_op rfl) (by rfl) (by rfl) 31 (.tmp 14) (by rfl) b 0 (by rfl) T9 _ (fun V hV => HRT.out V hV) Try.underlying31 rfl SL33.out ?_
        simp only [Act.put, List.setIfInBounds_toArray, List.set_cons_zero, List.set_cons_succ]
        refine T_value (get_op rfl) (by rfl) (by rfl) (.pointer (some ⟨bk, 0, none⟩)) (fun _ _ => by go_simp) ?_
        simp only [Act.put, List.setIfInBounds_toArray, List.set_cons_zero, List.set_cons_succ]
        refine T_load (get_op rfl) (by rfl) (by rfl) 39 (.tmp 170) (by rfl) bk 0 (by rfl) KO _ (fun V hV => HKV.out V hV |>.1) Try.underlying39 rfl SKO.out ?_
        simp only [Act.put, List.setIfInBounds_toArray, List.set_cons_zero, List.set_cons_succ]
        refine T_value (get_op rfl) (by rfl) (by rfl) (.pointer (some ⟨bk, 33, none⟩)) (fun _ _ => by go_simp) ?_
        simp only [Act.put, List.setIfInBounds_toArray, List.set_cons_zero, List.set_cons_succ]
        refine T_load (get_op rfl) (by rfl) (by rfl) 39 (.tmp 172) (by rfl) bk 33 (by rfl) KN _ (fun V hV => HKV.out V hV |>.2) Try.underlying39 rfl SKN.out ?_
        simp only [Act.put, List.setIfInBounds_toArray, List.set_cons_zero, List.set_cons_succ]
        refine T_enter (get_op rfl) (by rfl) (by rfl) _ _ (.bool hx) (fun _ => by go_simp) (fun V => True) (fun _ _ h _ => h) (fun V hb hf => HHP.out V hb) ?_
        simp only [Act.put, List.setIfInBounds_toArray, List.set_cons_zero, List.set_cons_succ]
        refine T_enter (get_op rfl) (by rfl) (by rfl) _ _ (.bool hx) (fun _ => by go_simp) (fun V => True) (fun _ _ h _ => h) (fun V hb hf => HHR.out V hb) ?_
        simp only [Act.put, List.setIfInBounds_toArray, List.set_cons_zero, List.set_cons_succ]
        refine T_value (get_op rfl) (by rfl) (by rfl) (.bool false) (fun _ _ => by go_simp) ?_
        simp only [Act.put, List.setIfInBounds_toArray, List.set_cons_zero, List.set_cons_succ]
        refine T_value (get_op rfl) (by rfl) (by rfl) (.bool false) (fun _ _ => by go_simp) ?_
        simp only [Act.put, List.setIfInBounds_toArray, List.set_cons_zero, List.set_cons_succ]
        refine T_nil ?_
        intro w30 k30 _
        simp only [List.drop_succ_cons, List.drop_zero]
        have BF := Lib.hid (B9.out.later CC.out k30)
        have hll := HNOK.out.2
        clear k30 HOP HSM HHP HHR HC3 HWK HRT HKV
        go_wp2
        go_roundw
        case rel => exact ⟨i + 1, F7, l9, s, A9, c9, by omega, by omega, rfl, by go_num, Lib.hid hll, BF⟩
        case measure => simp [intOf]; omega
      · have hdr : bits .and .i64 kd 3 = 2 ∨ bits .and .i64 kd 3 = 3 := by rcases hr with hr | hr <;> (rw [hr] at hand; omega)
        clear hand hr
        have ht := CC.out.tick d s HBX.out.at_ (show l.length ≤ 1000 by have := HL.out; omega) HBX.out.dice HBX.out.Fd
        have hfi : ∀ q ∈ l, Ft.Q.Fine q := fun q hq => by
          have h := (CC.out.ok HBX.out.at_).fine q hq
          have h1 := HIN.out
          have h2 : q.tries ≤ budget := h.2.1
          exact ⟨h.1, by omega, by omega, by omega⟩
        have hokX := Ft.tick_ok base most budget s l (fun q hq => (hfi q hq).1)
        have hlenX := Ft.tick_len base most budget s l
        have hrt := fun (V : World) (h : Bo At W V F' g d b ⟨base, most, budget, l⟩ l s A' c') => True
        obtain ⟨X, hX⟩ : ∃ X, Ft.tick base most budget s l = X := ⟨_, rfl⟩
        have HFI := Lib.hid hfi
        rw [hX] at hokX hlenX
        have HT : Hid (Calls Try.prog 16 #[.pointer (some ⟨g, 0, none⟩), .pointer (some ⟨d, 0, none⟩)] X2 fun e w' => ∃ F7 A1 c1 A2 c2, e = .returned (.tuple #[.slice A1 X.asks.length c1, .slice A2 X.lost.length c2]) ∧ At w' F7 g ⟨base, most, budget, X.l⟩ ∧ DiceAt w' d X.s ∧
            w'.ownsRow X2.heap.size 41 66 (.slice A1 X.asks.length c1) X.asks.length (wfl (Ft.keys X.asks)) ∧ w'.ownsRow X2.heap.size 41 66 (.slice A2 X.lost.length c2) X.lost.length (wfl (Ft.keys X.lost)) ∧
            (∀ j, F7 j → F' j ∨ X2.heap.size ≤ j) ∧ ¬ F7 d ∧ Keeps (fun j => F' j ∨ j = d) X2 w') := Lib.hid (by rw [← hX]; exact ht)
        have HRT : Hid (∀ (V : World), V.ownsRow W.heap.size 71 68 (.slice A' l.length c') l.length (qfl l) → Calls Try.prog 17 #[.agg (tcs base most budget (.slice A' l.length c')), .int .u64 (di s)] V fun e w' => ∃ (A9 : Option Addr) (c9 : Nat) (A8 : Option Addr) (c8 : Nat) (A5 : Option Addr) (c5 : Nat),
            e = .returned (.tuple #[.agg (tls ⟨base, most, budget, []⟩ (.slice A9 X.l.length c9)).toArray, .int .u64 (di X.s), .slice A8 X.asks.length c8, .slice A5 X.lost.length c5]) ∧ Keeps (fun _ => False) V w' ∧ R3 w' V.heap.size (.slice A9 X.l.length c9) (.slice A8 X.asks.length c8) (.slice A5 X.lost.length c5) X.l X.asks X.lost) := Lib.hid (fun V hV => by
          have h := rtick_any base most budget A' l.length c' W.heap.size l s V HFI.out hV (by have := HL.out; omega) (by have := HIN.out; omega)
          rw [hX] at h
          exact h)
        have HXX := Lib.hid (And.intro hokX hlenX)
        clear ht hfi hokX hlenX hX hrt
        rcases hdr with hand | hand
        · skip
          go_wp2_with (first
            | (refine wpList_load_any18 (by rfl) 41 (.tmp 85) (by rfl) ⟨(ad.add (i * 67)).block, (ad.add (i * 67)).off + 1, none⟩ (by rfl) WK _ HKW.out Try.underlying41 rfl SWK.out ?_)
            | (refine wpList_store_row (by rfl) 41 _ _ (by rfl) bk WK.toArray (by rfl) (by rfl) 41 ZW RX1.out SWA.out SZK.out OWK.out ?_; rw [hX2])
            | (refine wpList_load_row (by rfl) 41 _ (by rfl) bk (by rfl) 41 WK.toArray (0, 0) _ RX2.out Try.underlying41 rfl SWA.out ?_)
            | fail)
          refine HT.out.mono ?_
          rintro e w7 ⟨F7, A1, c1, A2, c2, rfl, a7, d7, o71, o72, hF7, hF7d, k7⟩
          have B7 : Hid (Bo At W w7 F7 g d b ⟨base, most, budget, X.l⟩ l X.s A' c') := Lib.hid (HBX.out.prog CC.out a7 hF7 d7 hF7d k7 ⟨rfl, rfl, rfl⟩)
          have RK7 : Hid (Row w7 bk 41 WK) := Lib.hid (RX2.out.keeps k7 (fun h => by rcases h with h | h; (have := CC.out.lt HB.out.at_ bk h; omega); (have := HB.out.dice.lt; omega)))
          have O71 := Lib.hid o71
          have O72 := Lib.hid o72
          obtain ⟨TL, hTL⟩ : ∃ L, tls ⟨base, most, budget, []⟩ (.slice A' l.length c') = L := ⟨_, rfl⟩
          have HTL := Lib.hid hTL
          have RT7 : Hid (w7.heap[b]? = some (.cells TL.toArray 31 (0, 0))) := Lib.hid (by rw [← hTL]; exact B7.out.box)
          have STL : Hid ((Try.prog.info? 31).map (·.size) = some TL.toArray.size) := Lib.hid (by rw [← hTL]; exact size_T)
          have hrt := HRT.out w7 B7.out.own
          rw [show tcs base most budget (.slice A' l.length c') = TL.toArray by rw [← hTL]; rfl] at hrt
          have HRF := Lib.hid hrt
          clear a7 d7 o71 o72 hF7 hF7d k7 hTL hrt
          go_wp2_with (first
            | (refine wpList_load_row (by rfl) 31 _ (by rfl) b (by rfl) 31 TL.toArray (0, 0) _ RT7.out Try.underlying31 rfl STL.out ?_)
            | fail)
          refine HRF.out.mono ?_
          rintro e w8 ⟨A9, c9, A8, c8, A5, c5, rfl, k8, r8⟩
          have HNOK : Hid ((∀ q ∈ X.l, Ft.Q.Ok q) ∧ X.l.length ≤ i + 1) := Lib.hid ⟨HXX.out.1.1, by have := HXX.out.2.1; have := HL.out; omega⟩
          have HASK : Hid ((∀ q ∈ X.asks, Ft.Q.Ok q) ∧ X.asks.length ≤ 1000) := Lib.hid ⟨HXX.out.1.2.1, by have := HXX.out.2.2.1; have := HL.out; omega⟩
          have HLOST : Hid ((∀ q ∈ X.lost, Ft.Q.Ok q) ∧ X.lost.length ≤ 1000) := Lib.hid ⟨HXX.out.1.2.2, by have := HXX.out.2.2.2; have := HL.out; omega⟩
          obtain ⟨l9, hl9⟩ : ∃ l9, X.l = l9 := ⟨_, rfl⟩
          obtain ⟨s9, hs9⟩ : ∃ s9, X.s = s9 := ⟨_, rfl⟩
          rw [hl9] at r8 HNOK B7 ⊢
          rw [hs9] at B7 ⊢
          obtain ⟨T9, hT9⟩ : ∃ L, tls ⟨base, most, budget, []⟩ (.slice A9 l9.length c9) = L := ⟨_, rfl⟩
          rw [hT9]
          have ST9 : Hid ((Try.prog.info? 31).map (·.size) = some T9.toArray.size) := Lib.hid (by rw [← hT9]; exact size_T)
          have SZ9 : Hid (Z.size = T9.toArray.size) := Lib.hid (by rw [← hT9, ← HZZ.out]; rfl)
          have SL9 : Hid (TL.toArray.size = T9.toArray.size) := Lib.hid (by rw [← hT9, ← HTL.out]; rfl)
          have O9 : Hid (T9.toArray.all (·.oneCell') = true) := Lib.hid (by rw [← hT9]; exact tcs_one _ _ _ _ _ _)
          obtain ⟨n1, hn1⟩ : ∃ x, w8.heap.size = x := ⟨_, rfl⟩
          obtain ⟨V1, hV1⟩ : ∃ V, w8.alloc (.cells Z 31) = V := ⟨_, rfl⟩
          have kv1 : Keeps (fun _ => False) w8 V1 := by rw [← hV1]; exact (Keeps.refl _ _).alloc _
          have rv1 : V1.heap[n1]? = some (.cells Z 31 (0, 0)) := by rw [← hV1, ← hn1]; exact heap_alloc_new w8 _
          obtain ⟨V2, hV2⟩ : ∃ V, V1.setRow n1 T9.toArray = V := ⟨_, rfl⟩
          have rv2 : V2.heap[n1]? = some (.cells T9.toArray 31 (0, 0)) := by rw [← hV2]; exact setRow_heap _ _ _ _ _ _ rv1
          have k82 : Keeps (fun _ => False) w8 V2 := kv1.trans' (T := fun j => j = n1) (by rw [← hV2]; exact Keeps.setRow _ _) (fun j hj e => by omega)
          have kv2 : Keeps (fun _ => False) w7 V2 := k8.trans k82
          have rb2 := (kv2.block b (Array.getElem?_eq_some_iff.1 RT7.out).1 id).trans RT7.out
          obtain ⟨V3, hV3⟩ : ∃ V, V2.setRow b T9.toArray = V := ⟨_, rfl⟩
          have rb3 : V3.heap[b]? = some (.cells T9.toArray 31 (0, 0)) := by rw [← hV3]; exact setRow_heap _ _ _ _ _ _ rb2
          have kb3 : Keeps (fun j => j = b) V2 V3 := by rw [← hV3]; exact Keeps.setRow _ _
          have kv3 : Keeps (fun j => j = b) w7 V3 := (kv2.mono (fun _ _ h => h.elim)).trans kb3
          have k83 : Keeps (fun j => j = b) w8 V3 := (k82.mono (fun _ _ h => h.elim)).trans kb3
          have hbx : b < X2.heap.size := by have := HBX.out.box.lt; exact this
          have hbw : b < w7.heap.size := (Array.getElem?_eq_some_iff.1 RT7.out).1
          have o3 := k83.owns r8.rl (fun j hj e => by obtain ⟨_, _, h⟩ := own_block r8.rl j hj; omega)
          have OA := Lib.hid (k83.owns r8.ra (fun j hj e => by obtain ⟨_, _, h⟩ := own_block r8.ra j hj; omega))
          have OO := Lib.hid (k83.owns r8.ro (fun j hj e => by obtain ⟨_, _, h⟩ := own_block r8.ro j hj; omega))
          have P71 := Lib.hid (kv3.owns O71.out (fun j hj e => by obtain ⟨_, _, h⟩ := own_block O71.out j hj; omega))
          have P72 := Lib.hid (kv3.owns O72.out (fun j hj e => by obtain ⟨_, _, h⟩ := own_block O72.out j hj; omega))
          have B9 : Hid (Bo At W V3 F7 g d b ⟨base, most, budget, l9⟩ l9 s9 A9 c9) := Lib.hid (B7.out.refd CC.out kv3 (own_base o3 (B7.out.keeps.size)) (fun j hj => .inr (by obtain ⟨_, _, h⟩ := own_block o3 j hj; exact h)) HNOK.out.1 (by rw [show tls ⟨base, most, budget, l9⟩ (.slice A9 l9.length c9) = T9 from hT9]; exact rb3))
          have RK9 : Hid (Row V3 bk 41 WK) := Lib.hid (RK7.out.keeps kv3 (fun e => by have := HB.out.box.lt; omega))
          have RV1 := Lib.hid rv1
          have RV2 := Lib.hid rv2
          have RB2 := Lib.hid rb2
          have RB3 := Lib.hid rb3
          have HT9 := Lib.hid hT9
          obtain ⟨la, hla⟩ : ∃ n, X.asks.length = n := ⟨_, rfl⟩
          obtain ⟨lo, hlo⟩ : ∃ n, X.lost.length = n := ⟨_, rfl⟩
          rw [hla] at OA P71 HASK ⊢
          rw [hlo] at OO P72 HLOST ⊢
          clear k8 r8 hT9 kv1 rv1 kv2 rv2 rb2 rb3 kb3 kv3 k82 k83 o3 hl9 hs9 hla hlo
          go_wp2_with (first
            | (refine wpList_store_row (by rfl) 31 _ _ (by rfl) n1 T9.toArray (by rfl) (by rfl) 31 Z RV1.out ST9.out SZ9.out O9.out ?_; rw [hV2])
            | (refine wpList_load_row (by rfl) 31 _ (by rfl) n1 (by rfl) 31 T9.toArray (0, 0) _ RV2.out Try.underlying31 rfl ST9.out ?_)
            | (refine wpList_store_row (by rfl) 31 _ _ (by rfl) b T9.toArray (by rfl) (by rfl) 31 TL.toArray RB2.out ST9.out SL9.out O9.out ?_; rw [hV3])
            | fail)
          refine (same18_eq A1 A8 la c1 c8 _ _ X.asks V3 HASK.out.1 P71.out OA.out HASK.out.2).mono ?_
          rintro e z1 ⟨rfl, kz1⟩
          have P72z := Lib.hid (kz1.owns P72.out (fun _ _ => id))
          have OOz := Lib.hid (kz1.owns OO.out (fun _ _ => id))
          have B9z := Lib.hid (B9.out.later CC.out kz1)
          have RK9z := Lib.hid (RK9.out.keeps kz1 id)
          have RB3z := Lib.hid ((kz1.block b (Array.getElem?_eq_some_iff.1 RB3.out).1 id).trans RB3.out)
          clear kz1
          go_wp2_with fail
          refine (same18_eq A2 A5 lo c2 c5 _ _ X.lost z1 HLOST.out.1 P72z.out OOz.out HLOST.out.2).mono ?_
          rintro e z2 ⟨rfl, kz2⟩
          have B9y := Lib.hid (B9z.out.later CC.out kz2)
          have RK9y := Lib.hid (RK9z.out.keeps kz2 id)
          have RB3y := Lib.hid ((kz2.block b (Array.getElem?_eq_some_iff.1 RB3z.out).1 id).trans RB3z.out)
          clear kz2 B9 B9z RK9 RK9z RB3 RB3z hV3 hV2 hV1
          obtain ⟨n9, hn9⟩ : ∃ n, l9.length = n := ⟨_, rfl⟩
          obtain ⟨WL, hWL⟩ : ∃ L, wfl (Ft.keys l9) = L := ⟨_, rfl⟩
          obtain ⟨hx, hhx⟩ : ∃ x, Ft.has l9 k = x := ⟨_, rfl⟩
          have hxx : (hx != hx) = false := by simp
          have hn1000 : n9 ≤ 1000 := by rw [← hn9]; have := HNOK.out.2; omega
          have HOP : Hid (∀ V, Keeps (fun _ => False) z2 V → Calls Try.prog 19 #[.pointer (some ⟨g, 0, none⟩)] V fun e w' => ∃ x : Option Addr × Nat, e = .returned (.slice x.1 n9 x.2) ∧ Keeps (fun _ => False) z2 w' ∧ w'.ownsRow 0 41 66 (.slice x.1 n9 x.2) n9 WL) := Lib.hid (fun V hV => by
            have h := CC.out.open (CC.out.keeps B9y.out.at_ hV (fun _ e => e.elim)) (by show l9.length ≤ 1000; omega)
            refine h.mono ?_
            rintro e w' ⟨A0, c0, rfl, o0, k0⟩
            refine ⟨(A0, c0), by rw [← hn9], hV.trans k0, ?_⟩
            rw [← hn9, ← hWL]
            exact own_base o0 (Nat.zero_le _))
          have HSM : Hid (∀ V (A0 : Option Addr) (c0 : Nat), Keeps (fun _ => False) z2 V → V.ownsRow 0 41 66 (.slice A0 n9 c0) n9 WL → Calls Try.prog 18 #[.slice A0 n9 c0, .slice A9 n9 c9] V fun e w' => e = .returned (.bool true) ∧ Keeps (fun _ => False) z2 w' ∧ True) := Lib.hid (fun V A0 c0 hV h0 => by
            have o9 := hV.owns B9y.out.own (fun _ _ => id)
            rw [hn9] at o9
            rw [← hWL] at h0
            exact (same18_eq A0 A9 n9 c0 c9 0 _ l9 V HNOK.out.1 h0 o9 hn1000).mono (fun e w' h => ⟨h.1, hV.trans h.2, trivial⟩))
          have HHP : Hid (∀ V, Keeps (fun _ => False) z2 V → Calls Try.prog 20 #[.pointer (some ⟨g, 0, none⟩), .agg WK.toArray] V fun e w' => e = .returned (.bool hx) ∧ Keeps (fun _ => False) z2 w' ∧ True) := Lib.hid (fun V hV => by
            have h := CC.out.has k (CC.out.keeps B9y.out.at_ hV (fun _ e => e.elim)) HKO.out.1
            rw [HKO.out.2.1] at h
            exact h.mono (fun e w' h => ⟨by rw [h.1]; exact congrArg (fun b => Ending.returned (Value.bool b)) hhx, hV.trans h.2, trivial⟩))
          have HHR : Hid (∀ V, Keeps (fun _ => False) z2 V → Calls Try.prog 21 #[.agg T9.toArray, .agg KO.toArray, .agg KN.toArray] V fun e w' => e = .returned (.bool hx) ∧ Keeps (fun _ => False) z2 w' ∧ True) := Lib.hid (fun V hV => by
            have h := rhas_any base most budget A9 l9.length c9 W.heap.size l9 k V HKO.out.1 HNOK.out.1 (hV.owns B9y.out.own (fun _ _ => id)) (by omega)
            rw [HKO.out.2.2.1, HKO.out.2.2.2, hhx] at h
            rw [← HT9.out]
            exact h.mono (fun e w' h => ⟨h.1, hV.trans h.2, trivial⟩))
          have HC3 : Hid (∀ V, Keeps (fun _ => False) z2 V → V.cell? ⟨b, 3, none⟩ = some (.slice A9 n9 c9)) := Lib.hid (fun V hV => by rw [← hn9]; exact (B9y.out.box.keeps hV id).cell 3)
          have HWK : Hid (∀ V, Keeps (fun _ => False) z2 V → V.rangeAt bk 0 WK) := Lib.hid (fun V hV => range_row (RK9y.out.keeps hV id))
          have HRT : Hid (∀ V, Keeps (fun _ => False) z2 V → V.rangeAt b 0 T9) := Lib.hid (fun V hV => range_row ((show Row z2 b 31 T9 from RB3y.out).keeps hV id))
          have HKV : Hid (∀ V, Keeps (fun _ => False) z2 V → V.rangeAt bk 0 KO ∧ V.rangeAt bk 33 KN) := Lib.hid (fun V hV => by have h := HKR.out V bk (HWK.out V hV); rwa [Nat.zero_add] at h)
          have SL33 : Hid ((Try.prog.info? 31).map (·.size) = some T9.length) := Lib.hid (by have h := ST9.out; rwa [List.size_toArray] at h)
          go_wp2_with fail
          refine wp_region_stores 22 [4, 7, 13, 19] [0, 1, 2, 3, 5, 6, 4, 7, 8, 9, 10, 11, 12, 14, 15, 16, 17, 18, 13, 19, 20, 21] (fun V => Keeps (fun _ => False) z2 V) (fun V => True) (by kernel_rfl) (by kernel_rfl) (fun _ _ h k => h.trans k) (fun _ _ h _ => h) (((Keeps.refl _ _).drew)) (trivial) ?_
          refine T_quiet (get_op rfl) (by rfl) (by rfl) (by rfl) ?_
          intro K hK
          go_big_quiet_op
          first | go_big_quiet_on | go_big_quiet_call ((intro _; rfl))
          refine T_value (get_op rfl) (by rfl) (by rfl) (.bool false) (fun _ _ => by go_simp) ?_
          simp only [Act.put, List.setIfInBounds_toArray, List.set_cons_zero, List.set_cons_succ]
          refine T_quiet (get_op rfl) (by rfl) (by rfl) (by rfl) ?_
          intro K hK
          go_big_quiet_op
          first | go_big_quiet_on | go_big_quiet_call ((intro _; rfl))
          refine T_quiet (get_op rfl) (by rfl) (by rfl) (by rfl) ?_
          intro K hK
          go_big_quiet_op
          first | go_big_quiet_on | go_big_quiet_call ((intro _; rfl))
          refine T_value (get_op rfl) (by rfl) (by rfl) (.pointer (some ⟨b, 3, none⟩)) (fun _ _ => by go_simp) ?_
          simp only [Act.put, List.setIfInBounds_toArray, List.set_cons_zero, List.set_cons_succ]
          refine T_cell (get_op rfl) (by rfl) (by rfl) 29 (.tmp 160) (by rfl) ⟨b, 3, none⟩ (by rfl) (.slice A9 n9 c9) _ (fun V hV => HC3.out V hV) Try.underlying29 rfl ?_
          simp only [Act.put, List.setIfInBounds_toArray, List.set_cons_zero, List.set_cons_succ]
          refine T_enterR (get_op rfl) (by rfl) (by rfl) _ _ (fun x : Option Addr × Nat => .slice x.1 n9 x.2) (fun x y h => by cases x; cases y; simp at h; simp [h]) (fun _ => by go_simp) (fun x V => V.ownsRow 0 41 66 (.slice x.1 n9 x.2) n9 WL) (fun x w w' h hk => hk.owns h (fun _ _ => id)) (fun V hb hf => HOP.out V hb) ?_
          intro x4
          simp only [Act.put, List.setIfInBounds_toArray, List.set_cons_zero, List.set_cons_succ]
          refine T_enter (get_op rfl) (by rfl) (by rfl) _ _ (.bool true) (fun _ => by go_simp) (fun V => True) (fun _ _ h _ => h) (fun V hb hf => HSM.out V x4.1 x4.2 hb hf) ?_
          simp only [Act.put, List.setIfInBounds_toArray, List.set_cons_zero, List.set_cons_succ]
          refine T_value (get_op rfl) (by rfl) (by rfl) (.bool false) (fun _ _ => by go_simp) ?_
          simp only [Act.put, List.setIfInBounds_toArray, List.set_cons_zero, List.set_cons_succ]
          refine T_value (get_op rfl) (by rfl) (by rfl) (.bool false) (fun _ _ => by go_simp) ?_
          simp only [Act.put, List.setIfInBounds_toArray, List.set_cons_zero, List.set_cons_succ]
          refine T_quiet (get_op rfl) (by rfl) (by rfl) (by rfl) ?_
          intro K hK
          go_big_quiet_op
          first | go_big_quiet_on | go_big_quiet_call ((intro _; rfl))
          refine T_quiet (get_op rfl) (by rfl) (by rfl) (by rfl) ?_
          intro K hK
          go_big_quiet_op
          first | go_big_quiet_on | go_big_quiet_call ((intro _; rfl))
          refine T_load (get_op rfl) (by rfl) (by rfl) 41 (.tmp 19) (by rfl) bk 0 (by rfl) WK _ (fun V hV => HWK.out V hV) Try.underlying41 rfl SWK.out ?_
          simp only [Act.put, List.setIfInBounds_toArray, List.set_cons_zero, List.set_cons_succ]
          refine T_load (get_op rfl) (by rfl) (by rfl) 31 (.tmp 14) (by rfl) b 0 (by rfl) T9 _ (fun V hV => HRT.out V hV) Try.underlying31 rfl SL33.out ?_
          simp only [Act.put, List.setIfInBounds_toArray, List.set_cons_zero, List.set_cons_succ]
          refine T_value (get_op rfl) (by rfl) (by rfl) (.pointer (some ⟨bk, 0, none⟩)) (fun _ _ => by go_simp) ?_
          simp only [Act.put, List.setIfInBounds_toArray, List.set_cons_zero, List.set_cons_succ]
          refine T_load (get_op rfl) (by rfl) (by rfl) 39 (.tmp 170) (by rfl) bk 0 (by rfl) KO _ (fun V hV => HKV.out V hV |>.1) Try.underlying39 rfl SKO.out ?_
          simp only [Act.put, List.setIfInBounds_toArray, List.set_cons_zero, List.set_cons_succ]
          refine T_value (get_op rfl) (by rfl) (by rfl) (.pointer (some ⟨bk, 33, none⟩)) (fun _ _ => by go_simp) ?_
          simp only [Act.put, List.setIfInBounds_toArray, List.set_cons_zero, List.set_cons_succ]
          refine T_load (get_op rfl) (by rfl) (by rfl) 39 (.tmp 172) (by rfl) bk 33 (by rfl) KN _ (fun V hV => HKV.out V hV |>.2) Try.underlying39 rfl SKN.out ?_
          simp only [Act.put, List.setIfInBounds_toArray, List.set_cons_zero, List.set_cons_succ]
          refine T_enter (get_op rfl) (by rfl) (by rfl) _ _ (.bool hx) (fun _ => by go_simp) (fun V => True) (fun _ _ h _ => h) (fun V hb hf => HHP.out V hb) ?_
          simp only [Act.put, List.setIfInBounds_toArray, List.set_cons_zero, List.set_cons_succ]
          refine T_enter (get_op rfl) (by rfl) (by rfl) _ _ (.bool hx) (fun _ => by go_simp) (fun V => True) (fun _ _ h _ => h) (fun V hb hf => HHR.out V hb) ?_
          simp only [Act.put, List.setIfInBounds_toArray, List.set_cons_zero, List.set_cons_succ]
          refine T_value (get_op rfl) (by rfl) (by rfl) (.bool false) (fun _ _ => by go_simp) ?_
          simp only [Act.put, List.setIfInBounds_toArray, List.set_cons_zero, List.set_cons_succ]
          refine T_value (get_op rfl) (by rfl) (by rfl) (.bool false) (fun _ _ => by go_simp) ?_
          simp only [Act.put, List.setIfInBounds_toArray, List.set_cons_zero, List.set_cons_succ]
          refine T_nil ?_
          intro w30 k30 _
          simp only [List.drop_succ_cons, List.drop_zero]
          have BF := Lib.hid (B9y.out.later CC.out k30)
          have hll := HNOK.out.2
          clear k30 HOP HSM HHP HHR HC3 HWK HRT HKV
          go_wp2
          go_roundw
          case rel => exact ⟨i + 1, F7, l9, s9, A9, c9, by omega, by omega, rfl, by go_num, Lib.hid hll, BF⟩
          case measure => simp [intOf]; omega
        · skip
          go_wp2_with (first
            | (refine wpList_load_any18 (by rfl) 41 (.tmp 85) (by rfl) ⟨(ad.add (i * 67)).block, (ad.add (i * 67)).off + 1, none⟩ (by rfl) WK _ HKW.out Try.underlying41 rfl SWK.out ?_)
            | (refine wpList_store_row (by rfl) 41 _ _ (by rfl) bk WK.toArray (by rfl) (by rfl) 41 ZW RX1.out SWA.out SZK.out OWK.out ?_; rw [hX2])
            | (refine wpList_load_row (by rfl) 41 _ (by rfl) bk (by rfl) 41 WK.toArray (0, 0) _ RX2.out Try.underlying41 rfl SWA.out ?_)
            | fail)
          refine HT.out.mono ?_
          rintro e w7 ⟨F7, A1, c1, A2, c2, rfl, a7, d7, o71, o72, hF7, hF7d, k7⟩
          have B7 : Hid (Bo At W w7 F7 g d b ⟨base, most, budget, X.l⟩ l X.s A' c') := Lib.hid (HBX.out.prog CC.out a7 hF7 d7 hF7d k7 ⟨rfl, rfl, rfl⟩)
          have RK7 : Hid (Row w7 bk 41 WK) := Lib.hid (RX2.out.keeps k7 (fun h => by rcases h with h | h; (have := CC.out.lt HB.out.at_ bk h; omega); (have := HB.out.dice.lt; omega)))
          have O71 := Lib.hid o71
          have O72 := Lib.hid o72
          obtain ⟨TL, hTL⟩ : ∃ L, tls ⟨base, most, budget, []⟩ (.slice A' l.length c') = L := ⟨_, rfl⟩
          have HTL := Lib.hid hTL
          have RT7 : Hid (w7.heap[b]? = some (.cells TL.toArray 31 (0, 0))) := Lib.hid (by rw [← hTL]; exact B7.out.box)
          have STL : Hid ((Try.prog.info? 31).map (·.size) = some TL.toArray.size) := Lib.hid (by rw [← hTL]; exact size_T)
          have hrt := HRT.out w7 B7.out.own
          rw [show tcs base most budget (.slice A' l.length c') = TL.toArray by rw [← hTL]; rfl] at hrt
          have HRF := Lib.hid hrt
          clear a7 d7 o71 o72 hF7 hF7d k7 hTL hrt
          go_wp2_with (first
            | (refine wpList_load_row (by rfl) 31 _ (by rfl) b (by rfl) 31 TL.toArray (0, 0) _ RT7.out Try.underlying31 rfl STL.out ?_)
            | fail)
          refine HRF.out.mono ?_
          rintro e w8 ⟨A9, c9, A8, c8, A5, c5, rfl, k8, r8⟩
          have HNOK : Hid ((∀ q ∈ X.l, Ft.Q.Ok q) ∧ X.l.length ≤ i + 1) := Lib.hid ⟨HXX.out.1.1, by have := HXX.out.2.1; have := HL.out; omega⟩
          have HASK : Hid ((∀ q ∈ X.asks, Ft.Q.Ok q) ∧ X.asks.length ≤ 1000) := Lib.hid ⟨HXX.out.1.2.1, by have := HXX.out.2.2.1; have := HL.out; omega⟩
          have HLOST : Hid ((∀ q ∈ X.lost, Ft.Q.Ok q) ∧ X.lost.length ≤ 1000) := Lib.hid ⟨HXX.out.1.2.2, by have := HXX.out.2.2.2; have := HL.out; omega⟩
          obtain ⟨l9, hl9⟩ : ∃ l9, X.l = l9 := ⟨_, rfl⟩
          obtain ⟨s9, hs9⟩ : ∃ s9, X.s = s9 := ⟨_, rfl⟩
          rw [hl9] at r8 HNOK B7 ⊢
          rw [hs9] at B7 ⊢
          obtain ⟨T9, hT9⟩ : ∃ L, tls ⟨base, most, budget, []⟩ (.slice A9 l9.length c9) = L := ⟨_, rfl⟩
          rw [hT9]
          have ST9 : Hid ((Try.prog.info? 31).map (·.size) = some T9.toArray.size) := Lib.hid (by rw [← hT9]; exact size_T)
          have SZ9 : Hid (Z.size = T9.toArray.size) := Lib.hid (by rw [← hT9, ← HZZ.out]; rfl)
          have SL9 : Hid (TL.toArray.size = T9.toArray.size) := Lib.hid (by rw [← hT9, ← HTL.out]; rfl)
          have O9 : Hid (T9.toArray.all (·.oneCell') = true) := Lib.hid (by rw [← hT9]; exact tcs_one _ _ _ _ _ _)
          obtain ⟨n1, hn1⟩ : ∃ x, w8.heap.size = x := ⟨_, rfl⟩
          obtain ⟨V1, hV1⟩ : ∃ V, w8.alloc (.cells Z 31) = V := ⟨_, rfl⟩
          have kv1 : Keeps (fun _ => False) w8 V1 := by rw [← hV1]; exact (Keeps.refl _ _).alloc _
          have rv1 : V1.heap[n1]? = some (.cells Z 31 (0, 0)) := by rw [← hV1, ← hn1]; exact heap_alloc_new w8 _
          obtain ⟨V2, hV2⟩ : ∃ V, V1.setRow n1 T9.toArray = V := ⟨_, rfl⟩
          have rv2 : V2.heap[n1]? = some (.cells T9.toArray 31 (0, 0)) := by rw [← hV2]; exact setRow_heap _ _ _ _ _ _ rv1
          have k82 : Keeps (fun _ => False) w8 V2 := kv1.trans' (T := fun j => j = n1) (by rw [← hV2]; exact Keeps.setRow _ _) (fun j hj e => by omega)
          have kv2 : Keeps (fun _ => False) w7 V2 := k8.trans k82
          have rb2 := (kv2.block b (Array.getElem?_eq_some_iff.1 RT7.out).1 id).trans RT7.out
          obtain ⟨V3, hV3⟩ : ∃ V, V2.setRow b T9.toArray = V := ⟨_, rfl⟩
          have rb3 : V3.heap[b]? = some (.cells T9.toArray 31 (0, 0)) := by rw [← hV3]; exact setRow_heap _ _ _ _ _ _ rb2
          have kb3 : Keeps (fun j => j = b) V2 V3 := by rw [← hV3]; exact Keeps.setRow _ _
          have kv3 : Keeps (fun j => j = b) w7 V3 := (kv2.mono (fun _ _ h => h.elim)).trans kb3
          have k83 : Keeps (fun j => j = b) w8 V3 := (k82.mono (fun _ _ h => h.elim)).trans kb3
          have hbx : b < X2.heap.size := by have := HBX.out.box.lt; exact this
          have hbw : b < w7.heap.size := (Array.getElem?_eq_some_iff.1 RT7.out).1
          have o3 := k83.owns r8.rl (fun j hj e => by obtain ⟨_, _, h⟩ := own_block r8.rl j hj; omega)
          have OA := Lib.hid (k83.owns r8.ra (fun j hj e => by obtain ⟨_, _, h⟩ := own_block r8.ra j hj; omega))
          have OO := Lib.hid (k83.owns r8.ro (fun j hj e => by obtain ⟨_, _, h⟩ := own_block r8.ro j hj; omega))
          have P71 := Lib.hid (kv3.owns O71.out (fun j hj e => by obtain ⟨_, _, h⟩ := own_block O71.out j hj; omega))
          have P72 := Lib.hid (kv3.owns O72.out (fun j hj e => by obtain ⟨_, _, h⟩ := own_block O72.out j hj; omega))
          have B9 : Hid (Bo At W V3 F7 g d b ⟨base, most, budget, l9⟩ l9 s9 A9 c9) := Lib.hid (B7.out.refd CC.out kv3 (own_base o3 (B7.out.keeps.size)) (fun j hj => .inr (by obtain ⟨_, _, h⟩ := own_block o3 j hj; exact h)) HNOK.out.1 (by rw [show tls ⟨base, most, budget, l9⟩ (.slice A9 l9.length c9) = T9 from hT9]; exact rb3))
          have RK9 : Hid (Row V3 bk 41 WK) := Lib.hid (RK7.out.keeps kv3 (fun e => by have := HB.out.box.lt; omega))
          have RV1 := Lib.hid rv1
          have RV2 := Lib.hid rv2
          have RB2 := Lib.hid rb2
          have RB3 := Lib.hid rb3
          have HT9 := Lib.hid hT9
          obtain ⟨la, hla⟩ : ∃ n, X.asks.length = n := ⟨_, rfl⟩
          obtain ⟨lo, hlo⟩ : ∃ n, X.lost.length = n := ⟨_, rfl⟩
          rw [hla] at OA P71 HASK ⊢
          rw [hlo] at OO P72 HLOST ⊢
          clear k8 r8 hT9 kv1 rv1 kv2 rv2 rb2 rb3 kb3 kv3 k82 k83 o3 hl9 hs9 hla hlo
          go_wp2_with (first
            | (refine wpList_store_row (by rfl) 31 _ _ (by rfl) n1 T9.toArray (by rfl) (by rfl) 31 Z RV1.out ST9.out SZ9.out O9.out ?_; rw [hV2])
            | (refine wpList_load_row (by rfl) 31 _ (by rfl) n1 (by rfl) 31 T9.toArray (0, 0) _ RV2.out Try.underlying31 rfl ST9.out ?_)
            | (refine wpList_store_row (by rfl) 31 _ _ (by rfl) b T9.toArray (by rfl) (by rfl) 31 TL.toArray RB2.out ST9.out SL9.out O9.out ?_; rw [hV3])
            | fail)
          refine (same18_eq A1 A8 la c1 c8 _ _ X.asks V3 HASK.out.1 P71.out OA.out HASK.out.2).mono ?_
          rintro e z1 ⟨rfl, kz1⟩
          have P72z := Lib.hid (kz1.owns P72.out (fun _ _ => id))
          have OOz := Lib.hid (kz1.owns OO.out (fun _ _ => id))
          have B9z := Lib.hid (B9.out.later CC.out kz1)
          have RK9z := Lib.hid (RK9.out.keeps kz1 id)
          have RB3z := Lib.hid ((kz1.block b (Array.getElem?_eq_some_iff.1 RB3.out).1 id).trans RB3.out)
          clear kz1
          go_wp2_with fail
          refine (same18_eq A2 A5 lo c2 c5 _ _ X.lost z1 HLOST.out.1 P72z.out OOz.out HLOST.out.2).mono ?_
          rintro e z2 ⟨rfl, kz2⟩
          have B9y := Lib.hid (B9z.out.later CC.out kz2)
          have RK9y := Lib.hid (RK9z.out.keeps kz2 id)
          have RB3y := Lib.hid ((kz2.block b (Array.getElem?_eq_some_iff.1 RB3z.out).1 id).trans RB3z.out)
          clear kz2 B9 B9z RK9 RK9z RB3 RB3z hV3 hV2 hV1
          obtain ⟨n9, hn9⟩ : ∃ n, l9.length = n := ⟨_, rfl⟩
          obtain ⟨WL, hWL⟩ : ∃ L, wfl (Ft.keys l9) = L := ⟨_, rfl⟩
          obtain ⟨hx, hhx⟩ : ∃ x, Ft.has l9 k = x := ⟨_, rfl⟩
          have hxx : (hx != hx) = false := by simp
          have hn1000 : n9 ≤ 1000 := by rw [← hn9]; have := HNOK.out.2; omega
          have HOP : Hid (∀ V, Keeps (fun _ => False) z2 V → Calls Try.prog 19 #[.pointer (some ⟨g, 0, none⟩)] V fun e w' => ∃ x : Option Addr × Nat, e = .returned (.slice x.1 n9 x.2) ∧ Keeps (fun _ => False) z2 w' ∧ w'.ownsRow 0 41 66 (.slice x.1 n9 x.2) n9 WL) := Lib.hid (fun V hV => by
            have h := CC.out.open (CC.out.keeps B9y.out.at_ hV (fun _ e => e.elim)) (by show l9.length ≤ 1000; omega)
            refine h.mono ?_
            rintro e w' ⟨A0, c0, rfl, o0, k0⟩
            refine ⟨(A0, c0), by rw [← hn9], hV.trans k0, ?_⟩
            rw [← hn9, ← hWL]
            exact own_base o0 (Nat.zero_le _))
          have HSM : Hid (∀ V (A0 : Option Addr) (c0 : Nat), Keeps (fun _ => False) z2 V → V.ownsRow 0 41 66 (.slice A0 n9 c0) n9 WL → Calls Try.prog 18 #[.slice A0 n9 c0, .slice A9 n9 c9] V fun e w' => e = .returned (.bool true) ∧ Keeps (fun _ => False) z2 w' ∧ True) := Lib.hid (fun V A0 c0 hV h0 => by
            have o9 := hV.owns B9y.out.own (fun _ _ => id)
            rw [hn9] at o9
            rw [← hWL] at h0
            exact (same18_eq A0 A9 n9 c0 c9 0 _ l9 V HNOK.out.1 h0 o9 hn1000).mono (fun e w' h => ⟨h.1, hV.trans h.2, trivial⟩))
          have HHP : Hid (∀ V, Keeps (fun _ => False) z2 V → Calls Try.prog 20 #[.pointer (some ⟨g, 0, none⟩), .agg WK.toArray] V fun e w' => e = .returned (.bool hx) ∧ Keeps (fun _ => False) z2 w' ∧ True) := Lib.hid (fun V hV => by
            have h := CC.out.has k (CC.out.keeps B9y.out.at_ hV (fun _ e => e.elim)) HKO.out.1
            rw [HKO.out.2.1] at h
            exact h.mono (fun e w' h => ⟨by rw [h.1]; exact congrArg (fun b => Ending.returned (Value.bool b)) hhx, hV.trans h.2, trivial⟩))
          have HHR : Hid (∀ V, Keeps (fun _ => False) z2 V → Calls Try.prog 21 #[.agg T9.toArray, .agg KO.toArray, .agg KN.toArray] V fun e w' => e = .returned (.bool hx) ∧ Keeps (fun _ => False) z2 w' ∧ True) := Lib.hid (fun V hV => by
            have h := rhas_any base most budget A9 l9.length c9 W.heap.size l9 k V HKO.out.1 HNOK.out.1 (hV.owns B9y.out.own (fun _ _ => id)) (by omega)
            rw [HKO.out.2.2.1, HKO.out.2.2.2, hhx] at h
            rw [← HT9.out]
            exact h.mono (fun e w' h => ⟨h.1, hV.trans h.2, trivial⟩))
          have HC3 : Hid (∀ V, Keeps (fun _ => False) z2 V → V.cell? ⟨b, 3, none⟩ = some (.slice A9 n9 c9)) := Lib.hid (fun V hV => by rw [← hn9]; exact (B9y.out.box.keeps hV id).cell 3)
          have HWK : Hid (∀ V, Keeps (fun _ => False) z2 V → V.rangeAt bk 0 WK) := Lib.hid (fun V hV => range_row (RK9y.out.keeps hV id))
          have HRT : Hid (∀ V, Keeps (fun _ => False) z2 V → V.rangeAt b 0 T9) := Lib.hid (fun V hV => range_row ((show Row z2 b 31 T9 from RB3y.out).keeps hV id))
          have HKV : Hid (∀ V, Keeps (fun _ => False) z2 V → V.rangeAt bk 0 KO ∧ V.rangeAt bk 33 KN) := Lib.hid (fun V hV => by have h := HKR.out V bk (HWK.out V hV); rwa [Nat.zero_add] at h)
          have SL33 : Hid ((Try.prog.info? 31).map (·.size) = some T9.length) := Lib.hid (by have h := ST9.out; rwa [List.size_toArray] at h)
          go_wp2_with fail
          refine wp_region_stores 22 [4, 7, 13, 19] [0, 1, 2, 3, 5, 6, 4, 7, 8, 9, 10, 11, 12, 14, 15, 16, 17, 18, 13, 19, 20, 21] (fun V => Keeps (fun _ => False) z2 V) (fun V => True) (by kernel_rfl) (by kernel_rfl) (fun _ _ h k => h.trans k) (fun _ _ h _ => h) (((Keeps.refl _ _).drew)) (trivial) ?_
          refine T_quiet (get_op rfl) (by rfl) (by rfl) (by rfl) ?_
          intro K hK
          go_big_quiet_op
          first | go_big_quiet_on | go_big_quiet_call ((intro _; rfl))
          refine T_value (get_op rfl) (by rfl) (by rfl) (.bool false) (fun _ _ => by go_simp) ?_
          simp only [Act.put, List.setIfInBounds_toArray, List.set_cons_zero, List.set_cons_succ]
          refine T_quiet (get_op rfl) (by rfl) (by rfl) (by rfl) ?_
          intro K hK
          go_big_quiet_op
          first | go_big_quiet_on | go_big_quiet_call ((intro _; rfl))
          refine T_quiet (get_op rfl) (by rfl) (by rfl) (by rfl) ?_
          intro K hK
          go_big_quiet_op
          first | go_big_quiet_on | go_big_quiet_call ((intro _; rfl))
          refine T_value (get_op rfl) (by rfl) (by rfl) (.pointer (some ⟨b, 3, none⟩)) (fun _ _ => by go_simp) ?_
          simp only [Act.put, List.setIfInBounds_toArray, List.set_cons_zero, List.set_cons_succ]
          refine T_cell (get_op rfl) (by rfl) (by rfl) 29 (.tmp 160) (by rfl) ⟨b, 3, none⟩ (by rfl) (.slice A9 n9 c9) _ (fun V hV => HC3.out V hV) Try.underlying29 rfl ?_
          simp only [Act.put, List.setIfInBounds_toArray, List.set_cons_zero, List.set_cons_succ]
          refine T_enterR (get_op rfl) (by rfl) (by rfl) _ _ (fun x : Option Addr × Nat => .slice x.1 n9 x.2) (fun x y h => by cases x; cases y; simp at h; simp [h]) (fun _ => by go_simp) (fun x V => V.ownsRow 0 41 66 (.slice x.1 n9 x.2) n9 WL) (fun x w w' h hk => hk.owns h (fun _ _ => id)) (fun V hb hf => HOP.out V hb) ?_
          intro x4
          simp only [Act.put, List.setIfInBounds_toArray, List.set_cons_zero, List.set_cons_succ]
          refine T_enter (get_op rfl) (by rfl) (by rfl) _ _ (.bool true) (fun _ => by go_simp) (fun V => True) (fun _ _ h _ => h) (fun V hb hf => HSM.out V x4.1 x4.2 hb hf) ?_
          simp only [Act.put, List.setIfInBounds_toArray, List.set_cons_zero, List.set_cons_succ]
          refine T_value (get_op rfl) (by rfl) (by rfl) (.bool false) (fun _ _ => by go_simp) ?_
          simp only [Act.put, List.setIfInBounds_toArray, List.set_cons_zero, List.set_cons_succ]
          refine T_value (get_op rfl) (by rfl) (by rfl) (.bool false) (fun _ _ => by go_simp) ?_
          simp only [Act.put, List.setIfInBounds_toArray, List.set_cons_zero, List.set_cons_succ]
          refine T_quiet (get_op rfl) (by rfl) (by rfl) (by rfl) ?_
          intro K hK
          go_big_quiet_op
          first | go_big_quiet_on | go_big_quiet_call ((intro _; rfl))
          refine T_quiet (get_op rfl) (by rfl) (by rfl) (by rfl) ?_
          intro K hK
          go_big_quiet_op
          first | go_big_quiet_on | go_big_quiet_call ((intro _; rfl))
          refine T_load (get_op rfl) (by rfl) (by rfl) 41 (.tmp 19) (by rfl) bk 0 (by rfl) WK _ (fun V hV => HWK.out V hV) Try.underlying41 rfl SWK.out ?_
          simp only [Act.put, List.setIfInBounds_toArray, List.set_cons_zero, List.set_cons_succ]
          refine T_load (get_op rfl) (by rfl) (by rfl) 31 (.tmp 14) (by rfl) b 0 (by rfl) T9 _ (fun V hV => HRT.out V hV) Try.underlying31 rfl SL33.out ?_
          simp only [Act.put, List.setIfInBounds_toArray, List.set_cons_zero, List.set_cons_succ]
          refine T_value (get_op rfl) (by rfl) (by rfl) (.pointer (some ⟨bk, 0, none⟩)) (fun _ _ => by go_simp) ?_
          simp only [Act.put, List.setIfInBounds_toArray, List.set_cons_zero, List.set_cons_succ]
          refine T_load (get_op rfl) (by rfl) (by rfl) 39 (.tmp 170) (by rfl) bk 0 (by rfl) KO _ (fun V hV => HKV.out V hV |>.1) Try.underlying39 rfl SKO.out ?_
          simp only [Act.put, List.setIfInBounds_toArray, List.set_cons_zero, List.set_cons_succ]
          refine T_value (get_op rfl) (by rfl) (by rfl) (.pointer (some ⟨bk, 33, none⟩)) (fun _ _ => by go_simp) ?_
          simp only [Act.put, List.setIfInBounds_toArray, List.set_cons_zero, List.set_cons_succ]
          refine T_load (get_op rfl) (by rfl) (by rfl) 39 (.tmp 172) (by rfl) bk 33 (by rfl) KN _ (fun V hV => HKV.out V hV |>.2) Try.underlying39 rfl SKN.out ?_
          simp only [Act.put, List.setIfInBounds_toArray, List.set_cons_zero, List.set_cons_succ]
          refine T_enter (get_op rfl) (by rfl) (by rfl) _ _ (.bool hx) (fun _ => by go_simp) (fun V => True) (fun _ _ h _ => h) (fun V hb hf => HHP.out V hb) ?_
          simp only [Act.put, List.setIfInBounds_toArray, List.set_cons_zero, List.set_cons_succ]
          refine T_enter (get_op rfl) (by rfl) (by rfl) _ _ (.bool hx) (fun _ => by go_simp) (fun V => True) (fun _ _ h _ => h) (fun V hb hf => HHR.out V hb) ?_
          simp only [Act.put, List.setIfInBounds_toArray, List.set_cons_zero, List.set_cons_succ]
          refine T_value (get_op rfl) (by rfl) (by rfl) (.bool false) (fun _ _ => by go_simp) ?_
          simp only [Act.put, List.setIfInBounds_toArray, List.set_cons_zero, List.set_cons_succ]
          refine T_value (get_op rfl) (by rfl) (by rfl) (.bool false) (fun _ _ => by go_simp) ?_
          simp only [Act.put, List.setIfInBounds_toArray, List.set_cons_zero, List.set_cons_succ]
          refine T_nil ?_
          intro w30 k30 _
          simp only [List.drop_succ_cons, List.drop_zero]
          have BF := Lib.hid (B9y.out.later CC.out k30)
          have hll := HNOK.out.2
          clear k30 HOP HSM HHP HHR HC3 HWK HRT HKV
          go_wp2
          go_roundw
          case rel => exact ⟨i + 1, F7, l9, s9, A9, c9, by omega, by omega, rfl, by go_num, Lib.hid hll, BF⟩
          case measure => simp [intOf]; omega
    · have KE := HB.out.keeps
      clear HB HL
      by_cases hii : (i : Int) < (len : Int)
      · have hi8 : ¬ ((i : Int) < 80) := by omega
        have ZK : Ft.Wn.Ok ((0, List.replicate 32 0), (0, List.replicate 32 0)) := Ft.zero_ok
        go_wp2_with fail
        refine (CC.out.tick_none wr d).mono ?_
        rintro e w41 ⟨E1, f1, E2, f2, rfl, k41⟩
        have h42 := CC.out.start_none w41 _ ZK
        rw [hZW] at h42
        have H42 := Lib.hid h42
        have K41 := Lib.hid (KE.trans k41)
        clear h42 k41
        go_wp2_with (first
          | (refine wpList_made (by rfl) 41 [] (by rfl) [] (by rfl) (.agg ZW) HBZ.out ?_)
          | fail)
        refine H42.out.mono ?_
        rintro e w42 ⟨rfl, k42⟩
        have h43 := CC.out.done_none w42 _ ZK
        rw [hZW] at h43
        have H43 := Lib.hid h43
        have K42 := Lib.hid (K41.out.trans k42)
        clear h43 k42
        go_wp2_with (first
          | (refine wpList_build_w18 (by rfl) 41 [] (by rfl) [] (by rfl) (.agg ZW) HBZ.out ?_)
          | fail)
        refine H43.out.mono ?_
        rintro e w43 ⟨rfl, k43⟩
        have h44 := CC.out.has_none w43 _ ZK
        rw [hZW] at h44
        have H44 := Lib.hid h44
        have K43 := Lib.hid (K42.out.trans k43)
        clear h44 k43
        go_wp2_with (first
          | (refine wpList_build_w18 (by rfl) 41 [] (by rfl) [] (by rfl) (.agg ZW) HBZ.out ?_)
          | fail)
        refine H44.out.mono ?_
        rintro e w44 ⟨rfl, k44⟩
        have K44 := Lib.hid (K43.out.trans k44)
        clear k44
        go_wp2_with fail
        refine (CC.out.open_none w44).mono ?_
        rintro e w45 ⟨E3, f3, rfl, k45⟩
        have K45 := Lib.hid (K44.out.trans k45)
        clear k45
        go_wp2
        go_ret
        exact ⟨rfl, K45.out⟩
      · skip
        have ZK : Ft.Wn.Ok ((0, List.replicate 32 0), (0, List.replicate 32 0)) := Ft.zero_ok
        go_wp2_with fail
        refine (CC.out.tick_none wr d).mono ?_
        rintro e w41 ⟨E1, f1, E2, f2, rfl, k41⟩
        have h42 := CC.out.start_none w41 _ ZK
        rw [hZW] at h42
        have H42 := Lib.hid h42
        have K41 := Lib.hid (KE.trans k41)
        clear h42 k41
        go_wp2_with (first
          | (refine wpList_made (by rfl) 41 [] (by rfl) [] (by rfl) (.agg ZW) HBZ.out ?_)
          | fail)
        refine H42.out.mono ?_
        rintro e w42 ⟨rfl, k42⟩
        have h43 := CC.out.done_none w42 _ ZK
        rw [hZW] at h43
        have H43 := Lib.hid h43
        have K42 := Lib.hid (K41.out.trans k42)
        clear h43 k42
        go_wp2_with (first
          | (refine wpList_build_w18 (by rfl) 41 [] (by rfl) [] (by rfl) (.agg ZW) HBZ.out ?_)
          | fail)
        refine H43.out.mono ?_
        rintro e w43 ⟨rfl, k43⟩
        have h44 := CC.out.has_none w43 _ ZK
        rw [hZW] at h44
        have H44 := Lib.hid h44
        have K43 := Lib.hid (K42.out.trans k43)
        clear h44 k43
        go_wp2_with (first
          | (refine wpList_build_w18 (by rfl) 41 [] (by rfl) [] (by rfl) (.agg ZW) HBZ.out ?_)
          | fail)
        refine H44.out.mono ?_
        rintro e w44 ⟨rfl, k44⟩
        have K44 := Lib.hid (K43.out.trans k44)
        clear k44
        go_wp2_with fail
        refine (CC.out.open_none w44).mono ?_
        rintro e w45 ⟨E3, f3, rfl, k45⟩
        have K45 := Lib.hid (K44.out.trans k45)
        clear k45
        go_wp2
        go_ret
        exact ⟨rfl, K45.out⟩
set_option maxRecDepth 100000 in
set_option maxHeartbeats 1000000 in
theorem plays18_off (C : Fetch At) (base most budget : Int) (x : BitVec 64) (A : Option Addr) (len c : Nat) (W : World) (hin : ¬ ((1 ≤ base ∧ base ≤ 100) ∧ (base ≤ most ∧ most ≤ 1000) ∧ (1 ≤ budget ∧ budget ≤ 20))) (hcm : c < 2 ^ 63) (hcl : len ≤ c) :
    Calls Try.prog 3 #[.int .i64 base, .int .i64 most, .int .i64 budget, .int .u64 (di x), .slice A len c] W fun e w' => e = .returned (.bool true) ∧ Keeps (fun _ => False) W w' := by
  have HAW := Lib.hid (awake18_any C W)
  have CC := Lib.hid C
  have HIN := Lib.hid hin
  obtain ⟨Z, hZ⟩ : ∃ Z, tcs 0 0 0 (.slice none 0 0) = Z := ⟨_, rfl⟩
  have hz : ∀ V : World, (zeroValue 31).run Try.prog V = .ok (.agg Z) V := fun V => by rw [← hZ]; exact zero_T V
  have HZZ := Lib.hid hZ
  obtain ⟨ZW, hZW⟩ : ∃ Z, (wcs ((0, List.replicate 32 0), (0, List.replicate 32 0))).toArray = Z := ⟨_, rfl⟩
  have hzw : ∀ V : World, (zeroValue 41).run Try.prog V = .ok (.agg ZW) V := fun V => by rw [← hZW]; exact zero_want V
  have HBZ : Hid (∀ V : World, (Instr.build 41 #[]).run Try.prog V = .ok (.agg ZW) V) := Lib.hid (fun V => by rw [← hZW]; exact build_want_none V)
  have SZ : Hid ((Try.prog.info? 31).map (·.size) = some Z.size) := Lib.hid (by rw [← hZ]; exact size_T)
  have O0 : Hid (Z.all (·.oneCell') = true) := Lib.hid (by rw [← hZ]; exact tcs_one _ _ _ _ _ _)
  have hrn := fun V => rnew18_off base most budget V hin
  rw [hZ] at hrn
  have HRN := Lib.hid hrn
  clear hZ hrn hin
  go_enter Try.func3, Try.ntmps3
  go_wp2_with fail
  refine HAW.out.mono ?_
  rintro e w1 ⟨rfl, k1⟩
  have K1 := Lib.hid k1
  clear k1
  go_wp2_with fail
  refine (CC.out.new_off w1 base most budget HIN.out).mono ?_
  rintro e w2 ⟨rfl, k2⟩
  have K2 := Lib.hid (K1.out.trans k2)
  clear k2
  go_wp2_with fail
  refine (HRN.out w2).mono ?_
  rintro e w3 ⟨rfl, k3⟩
  obtain ⟨b, hb⟩ : ∃ x, w3.heap.size = x := ⟨_, rfl⟩
  obtain ⟨W4, hW4⟩ : ∃ V, w3.alloc (.cells Z 31) = V := ⟨_, rfl⟩
  have k4 : Keeps (fun _ => False) w3 W4 := by rw [← hW4]; exact (Keeps.refl _ _).alloc _
  have r4 : W4.heap[b]? = some (.cells Z 31 (0, 0)) := by rw [← hW4, ← hb]; exact heap_alloc_new w3 _
  obtain ⟨W5, hW5⟩ : ∃ V, W4.setRow b Z = V := ⟨_, rfl⟩
  have k5 : Keeps (fun j => j = b) w3 W5 := (k4.mono (fun _ _ h => h.elim)).trans (by rw [← hW5]; exact Keeps.setRow _ _)
  have hwb : W.heap.size ≤ b := by have := K2.out.size; have := k3.size; omega
  have R4 := Lib.hid r4
  have K5 : Hid (Keeps (fun _ => False) W W5) := Lib.hid ((K2.out.trans k3).trans' k5 (fun j hj e => by omega))
  clear k3 k4 k5 r4 hwb
  go_wp2_with (first
    | (refine wpList_store_row (by rfl) 31 _ _ (by rfl) b Z (by rfl) (by rfl) 31 Z R4.out SZ.out rfl O0.out ?_; rw [hW5])
    | fail)
  refine (dnew_any W5 x).mono ?_
  rintro e w6 ⟨d, rfl, hd, d6, k6⟩
  have K6 := Lib.hid (K5.out.trans k6)
  clear d6 k6 hd
  go_wp2_with fail
  go_loopw [17, 18, 19, 20, 21, 22, 23, 24, 25, 26, 27, 28, 29, 30, 31, 32, 33, 34] (fun sv iv _ _ _ _ _ _ _ _ _ _ _ _ _ _ _ _ wr => iv = .int .i64 0 ∧ Hid (Keeps (fun _ => False) W wr)) (fun _ iv _ _ _ _ _ _ _ _ _ _ _ _ _ _ _ _ _ => 0)
  case atStart => exact ⟨rfl, K6⟩
  case round =>
    obtain ⟨rfl, HK⟩ := hrel
    have KE := HK.out
    clear HK
    by_cases hii : (0 : Int) < (len : Int)
    · skip
      have ZK : Ft.Wn.Ok ((0, List.replicate 32 0), (0, List.replicate 32 0)) := Ft.zero_ok
      go_wp2_with fail
      refine (CC.out.tick_none wr d).mono ?_
      rintro e w41 ⟨E1, f1, E2, f2, rfl, k41⟩
      have h42 := CC.out.start_none w41 _ ZK
      rw [hZW] at h42
      have H42 := Lib.hid h42
      have K41 := Lib.hid (KE.trans k41)
      clear h42 k41
      go_wp2_with (first
        | (refine wpList_made (by rfl) 41 [] (by rfl) [] (by rfl) (.agg ZW) HBZ.out ?_)
        | fail)
      refine H42.out.mono ?_
      rintro e w42 ⟨rfl, k42⟩
      have h43 := CC.out.done_none w42 _ ZK
      rw [hZW] at h43
      have H43 := Lib.hid h43
      have K42 := Lib.hid (K41.out.trans k42)
      clear h43 k42
      go_wp2_with (first
        | (refine wpList_build_w18 (by rfl) 41 [] (by rfl) [] (by rfl) (.agg ZW) HBZ.out ?_)
        | fail)
      refine H43.out.mono ?_
      rintro e w43 ⟨rfl, k43⟩
      have h44 := CC.out.has_none w43 _ ZK
      rw [hZW] at h44
      have H44 := Lib.hid h44
      have K43 := Lib.hid (K42.out.trans k43)
      clear h44 k43
      go_wp2_with (first
        | (refine wpList_build_w18 (by rfl) 41 [] (by rfl) [] (by rfl) (.agg ZW) HBZ.out ?_)
        | fail)
      refine H44.out.mono ?_
      rintro e w44 ⟨rfl, k44⟩
      have K44 := Lib.hid (K43.out.trans k44)
      clear k44
      go_wp2_with fail
      refine (CC.out.open_none w44).mono ?_
      rintro e w45 ⟨E3, f3, rfl, k45⟩
      have K45 := Lib.hid (K44.out.trans k45)
      clear k45
      go_wp2
      go_ret
      exact ⟨rfl, K45.out⟩
    · skip
      have ZK : Ft.Wn.Ok ((0, List.replicate 32 0), (0, List.replicate 32 0)) := Ft.zero_ok
      go_wp2_with fail
      refine (CC.out.tick_none wr d).mono ?_
      rintro e w41 ⟨E1, f1, E2, f2, rfl, k41⟩
      have h42 := CC.out.start_none w41 _ ZK
      rw [hZW] at h42
      have H42 := Lib.hid h42
      have K41 := Lib.hid (KE.trans k41)
      clear h42 k41
      go_wp2_with (first
        | (refine wpList_made (by rfl) 41 [] (by rfl) [] (by rfl) (.agg ZW) HBZ.out ?_)
        | fail)
      refine H42.out.mono ?_
      rintro e w42 ⟨rfl, k42⟩
      have h43 := CC.out.done_none w42 _ ZK
      rw [hZW] at h43
      have H43 := Lib.hid h43
      have K42 := Lib.hid (K41.out.trans k42)
      clear h43 k42
      go_wp2_with (first
        | (refine wpList_build_w18 (by rfl) 41 [] (by rfl) [] (by rfl) (.agg ZW) HBZ.out ?_)
        | fail)
      refine H43.out.mono ?_
      rintro e w43 ⟨rfl, k43⟩
      have h44 := CC.out.has_none w43 _ ZK
      rw [hZW] at h44
      have H44 := Lib.hid h44
      have K43 := Lib.hid (K42.out.trans k43)
      clear h44 k43
      go_wp2_with (first
        | (refine wpList_build_w18 (by rfl) 41 [] (by rfl) [] (by rfl) (.agg ZW) HBZ.out ?_)
        | fail)
      refine H44.out.mono ?_
      rintro e w44 ⟨rfl, k44⟩
      have K44 := Lib.hid (K43.out.trans k44)
      clear k44
      go_wp2_with fail
      refine (CC.out.open_none w44).mono ?_
      rintro e w45 ⟨E3, f3, rfl, k45⟩
      have K45 := Lib.hid (K44.out.trans k45)
      clear k45
      go_wp2
      go_ret
      exact ⟨rfl, K45.out⟩
/-- FetchPlays, whatever it is given: by the program's contracts. -/
theorem plays18_walk (C : Fetch At) (base most budget a : Int) (A : Option Addr) (len c : Nat) (xs : List ActOf) (W : World) (ha : (Lit.int .u64 a).wf = true) (hA : IsActs W A len c xs) :
    Calls Try.prog 3 #[.int .i64 base, .int .i64 most, .int .i64 budget, .int .u64 a, .slice A len c] W fun e w' => e = .returned (.bool true) ∧ Below W.heap.size W w' := by
  obtain ⟨x, rfl⟩ := di_of a ha
  by_cases hin : (1 ≤ base ∧ base ≤ 100) ∧ (base ≤ most ∧ most ≤ 1000) ∧ (1 ≤ budget ∧ budget ≤ 20)
  · obtain ⟨m, rfl⟩ : ∃ m : Nat, base = (m : Int) := ⟨base.toNat, by omega⟩
    obtain ⟨n, rfl⟩ : ∃ m : Nat, most = (m : Int) := ⟨most.toNat, by omega⟩
    obtain ⟨o, rfl⟩ : ∃ m : Nat, budget = (m : Int) := ⟨budget.toNat, by omega⟩
    exact (plays18_on C m n o x A len c xs W (by omega) hA).mono (fun e w' h => ⟨h.1, h.2.below (Nat.le_refl _) (fun _ _ => id)⟩)
  · exact (plays18_off C base most budget x A len c W hin (by have := hA.max; omega) hA.le).mono (fun e w' h => ⟨h.1, h.2.below (Nat.le_refl _) (fun _ _ => id)⟩)
theorem plays18_all (C : Fetch At) (a0 a1 a2 a3 : Int) (A : Option Addr) (len c : Nat) (xs : List ActOf) (W : World) (_ : (Lit.int .i64 a0).wf = true) (_ : (Lit.int .i64 a1).wf = true) (_ : (Lit.int .i64 a2).wf = true) (w3 : (Lit.int .u64 a3).wf = true) (w4 : IsActs W A len c xs) :
    Calls Try.prog 3 #[.int .i64 a0, .int .i64 a1, .int .i64 a2, .int .u64 a3, .slice A len c] W fun e w' => e = .returned (.bool true) ∧ Below W.heap.size W w' := plays18_walk C a0 a1 a2 a3 A len c xs W w3 w4
end Go.Proofs.Ythnpgiagajfaiaa
