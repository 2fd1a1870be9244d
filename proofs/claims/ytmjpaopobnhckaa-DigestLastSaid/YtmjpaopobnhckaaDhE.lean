/-
  digest.getKey, digest.getHash, digest.getList: what is read of a Reader.
-/
import Derived.Test.YtmjpaopobnhckaaDhA
import Derived.Test.YtmjpaopobnhckaaDgT
import Derived.Test.YtmjpaopobnhckaaRdH
namespace Go.Proofs.Ytmjpaopobnhckaa
open Go.RowKit Go.BigFrame
set_option linter.unusedVariables false
set_option linter.unusedSimpArgs false

theorem keeps_setCellsH {S : Nat → Prop} {w : World} (g : Nat) (hS : S g) : ∀ (vs : List Value) (o : Nat) (w' : World), Keeps S w w' → Keeps S w (w'.setCells g o vs)
  | [], _, _, h => h
  | v :: vs, o, w', h => keeps_setCellsH g hS vs (o + 1) _ (h.setCell (p := ⟨g, o, none⟩) (fun _ => hS) v)
theorem key_setCellsH {w : World} {g x : Nat} {hv zs : List UInt8} (h : Row w g 54 (.int .u64 (x : Int) :: bvs zs)) (hz : zs.length = hv.length) : Row (w.setCells g 1 (bvs hv)) g 54 (kcs (x, hv)) :=
  Row.setCells (bvs hv) w [.int .u64 (x : Int)] (bvs zs) 1 h rfl (by rw [bvs_length, bvs_length, hz])
theorem rnum1_no {s : RS} (h : (rnum 1 s).1.2 ≠ 0) : (rnum 1 s).2 = 0 := by
  have e : rnum 1 s = ((tk 1 s).1, be (tk 1 s).2) := rfl
  rw [e] at h ⊢
  have h2 : (tk 1 s).2 = [] := by
    unfold tk at h ⊢
    split
    · rename_i h0
      rw [if_pos h0] at h
      split
      · rfl
      · rename_i h1
        rw [if_neg h1] at h
        exact absurd rfl h
    · rfl
  show be (tk 1 s).2 = 0
  rw [h2]
  rfl
/-- A Reader's blocks are older than whatever is made later. -/
theorem Rd.side {w w' : World} {b : Nat} {r : Option Nat} {s : RS} {S : Nat → Prop} (h : Rd w b r s) (B : Nat) (hb : b < B) (hr : ∀ k, r = some k → k < B) (k : Keeps S w w') (hS : ∀ j, S j → B ≤ j) : Rd w' b r s :=
  h.keeps k (fun e => by have := hS _ e; omega) (fun j hj e => by have := hS _ e; have := hr j hj; omega)
set_option maxRecDepth 100000 in
set_option maxHeartbeats 4000000 in
theorem getkey_any (b : Nat) (r : Option Nat) (s : RS) (w : World) (h : Rd w b r s) :
    Calls Try.prog 36 #[.pointer (some ⟨b, 0, none⟩)] w fun e w' => e = .returned (.agg (kcs (Dg.rkey s).2).toArray) ∧ Rd w' b r (Dg.rkey s).1 ∧ Only b w w' := by
  have hlt := h.lt
  have hrl : ∀ k, r = some k → k < w.heap.size := fun k hk => (h.1 k hk).1
  have hx := Dg.rnum8_nat s
  have hrk : Dg.rkey s = ((rhash (rnum 8 s).1).1, ((rnum 8 s).2.toNat, (rhash (rnum 8 s).1).2)) := rfl
  have hhl := Dg.rhash_length (rnum 8 s).1
  have hn8 := fun V (hV : Rd V b r s) => rdNum_any b r 8 s V hV
  have hha := fun V (hV : Rd V b r (rnum 8 s).1) => rdHash_any b r (rnum 8 s).1 V hV
  rw [← hx.1] at hn8
  obtain ⟨x, hxe⟩ : ∃ x, (rnum 8 s).2.toNat = x := ⟨_, rfl⟩
  obtain ⟨sa, hsa⟩ : ∃ x, (rnum 8 s).1 = x := ⟨_, rfl⟩
  rw [hsa] at hn8 hha hrk hhl
  rw [hxe] at hn8 hrk hx
  obtain ⟨sb, hsb⟩ : ∃ x, (rhash sa).1 = x := ⟨_, rfl⟩
  obtain ⟨hv, hhv⟩ : ∃ x, (rhash sa).2 = x := ⟨_, rfl⟩
  rw [hsb] at hha hrk
  rw [hhv] at hha hrk hhl
  rw [hrk]
  have hkok : Ft.Key.Ok (x, hv) := ⟨hx.2, hhl⟩
  obtain ⟨ZK, hZK⟩ : ∃ Z, (kcs (0, List.replicate 32 0)).toArray = Z := ⟨_, rfl⟩
  have hzk : ∀ V : World, (zeroValue 54).run Try.prog V = .ok (.agg ZK) V := fun V => by rw [← hZK]; exact zero_Kh V
  obtain ⟨g1, hg1⟩ : ∃ x, w.heap.size = x := ⟨_, rfl⟩
  obtain ⟨W1, hW1⟩ : ∃ V, w.alloc (.cells ZK 54) = V := ⟨_, rfl⟩
  obtain ⟨g2, hg2⟩ : ∃ x, W1.heap.size = x := ⟨_, rfl⟩
  obtain ⟨W2, hW2⟩ : ∃ V, W1.alloc (.cells ZK 54) = V := ⟨_, rfl⟩
  have k1 : Keeps (fun _ => False) w W1 := by rw [← hW1]; exact (Keeps.refl _ _).alloc _
  have k2 : Keeps (fun _ => False) W1 W2 := by rw [← hW2]; exact (Keeps.refl _ _).alloc _
  have hg12 : g2 = g1 + 1 := by rw [← hg2, ← hW1, ← hg1]; simp
  have r1 : W2.heap[g1]? = some (.cells ZK 54 (0, 0)) := by
    have h0 : W1.heap[g1]? = some (.cells ZK 54 (0, 0)) := by rw [← hW1, ← hg1]; exact heap_alloc_new w _
    exact (k2.block g1 (Array.getElem?_eq_some_iff.1 h0).1 id).trans h0
  have r2 : Row W2 g2 54 (kcs (0, List.replicate 32 0)) := by unfold Row; rw [hZK, ← hW2, ← hg2]; exact heap_alloc_new W1 _
  have K2 : Hid (Keeps (fun _ => False) w W2) := Lib.hid (k1.trans k2)
  have R1 := Lib.hid r1
  have R2 := Lib.hid r2
  have H3 := Lib.hid (hn8 W2 (h.keeps (k1.trans k2) id (fun _ _ => id)))
  have HHA := Lib.hid hha
  have HRL := Lib.hid (And.intro hlt (And.intro hrl (And.intro hg1 hg12)))
  have HKO := Lib.hid (And.intro hkok (And.intro hhl hZK))
  clear h hlt hrl hx hrk hhl hn8 hha hxe hsa hsb hhv hkok hZK k1 k2 r1 r2 hg12
  go_enter Try.func36, Try.ntmps36
  go_wp2_with fail
  refine H3.out.mono ?_
  rintro e w3 ⟨rfl, rd3, k3⟩
  have hb1 : b < g1 := by have := HRL.out.1; have := HRL.out.2.2.1; omega
  have hb2 : b < g2 := by have := HRL.out.2.2.2; omega
  have e3 := R2.out.keeps k3 (fun e => by have e' : g2 = b := e; omega)
  have q3 := (k3.block g1 (Array.getElem?_eq_some_iff.1 R1.out).1 (fun e => by have e' : g1 = b := e; omega)).trans R1.out
  obtain ⟨V4, hV4⟩ : ∃ V, w3.setCell ⟨g2, 0, none⟩ (.int .u64 (x : Int)) = V := ⟨_, rfl⟩
  have k4 : Keeps (fun j => j = g2) w3 V4 := by rw [← hV4]; exact (Keeps.refl (fun j => j = g2) w3).setCell (p := ⟨g2, 0, none⟩) (fun _ => rfl) _
  have e4 : Row V4 g2 54 (.int .u64 (x : Int) :: bvs (List.replicate 32 0)) := by rw [← hV4]; exact e3.set 0 _
  have hc3 : w3.cell? ⟨g2, 0, none⟩ = some (.int .u64 0) := e3.cell 0
  have hf3 : w3.frozen? ⟨g2, 0, none⟩ = false := e3.frozen 0
  have hrg : ∀ j, r = some j → j < g1 := fun j hj => by have := HRL.out.2.1 j hj; have := HRL.out.2.2.1; omega
  have rd4 := rd3.side g1 hb1 hrg k4 (fun j e => by have := HRL.out.2.2.2; have e' : j = g2 := e; omega)
  have q4 := (k4.block g1 (Array.getElem?_eq_some_iff.1 q3).1 (fun e => by have := HRL.out.2.2.2; have e' : g1 = g2 := e; omega)).trans q3
  have K4 : Hid (Only b w V4) := Lib.hid (((K2.out.mono (fun _ _ h => h.elim)).trans k3).trans' k4 (fun i hi e => by have := HRL.out.2.2; have e' : i = g2 := e; omega))
  have H5 := Lib.hid (HHA.out V4 rd4)
  have E4 := Lib.hid e4
  have Q4 := Lib.hid q4
  clear H3 k3 e3 q3 k4 e4 rd4 q4 rd3
  go_wp2_with fail
  refine H5.out.mono ?_
  rintro e w5 ⟨rfl, rd5, k5⟩
  have e5 := E4.out.keeps k5 (fun e => by have e' : g2 = b := e; omega)
  have q5 := (k5.block g1 (Array.getElem?_eq_some_iff.1 Q4.out).1 (fun e => by have e' : g1 = b := e; omega)).trans Q4.out
  obtain ⟨HV, hHV⟩ : ∃ L, (bvs hv).toArray = L := ⟨_, rfl⟩
  obtain ⟨V6, hV6⟩ : ∃ V, w5.setCells g2 1 HV.toList = V := ⟨_, rfl⟩
  have t5 : w5.there g2 1 HV.size := by rw [← hHV, List.size_toArray, bvs_length, HKO.out.2.1]; exact there_row e5 1 32 (by simp [bvs_length])
  have s5 : (Try.prog.info? 52).map (·.size) = some HV.size := by rw [← hHV, List.size_toArray, bvs_length, HKO.out.2.1]; exact info_h
  have o5 : HV.all (·.oneCell') = true := by rw [← hHV, Array.all_eq_true_iff_forall_mem]; intro v hv; exact bvs_one _ v (by simpa using hv)
  have e6 : Row V6 g2 54 (kcs (x, hv)) := by rw [← hV6, ← hHV]; exact key_setCellsH e5 (by rw [HKO.out.2.1]; simp)
  have k6 : Keeps (fun j => j = g2) w5 V6 := by rw [← hV6]; exact keeps_setCellsH (S := fun j => j = g2) g2 rfl _ _ _ (Keeps.refl _ _)
  have q6 := (k6.block g1 (Array.getElem?_eq_some_iff.1 q5).1 (fun e => by have := HRL.out.2.2.2; have e' : g1 = g2 := e; omega)).trans q5
  have rd6 := rd5.side g1 hb1 hrg k6 (fun j e => by have := HRL.out.2.2.2; have e' : j = g2 := e; omega)
  obtain ⟨KL, hKL⟩ : ∃ L, kcs (x, hv) = L := ⟨_, rfl⟩
  have hk33 : KL.length = 33 := by rw [← hKL]; exact kcs_len _ HKO.out.1
  have hk1 : ∀ u ∈ KL, u.oneCell' = true := by rw [← hKL]; exact kcs_one _
  have sKL : (Try.prog.info? 54).map (·.size) = some KL.toArray.size := by rw [List.size_toArray, hk33]; exact info_k
  have zk33 : ZK.size = 33 := by rw [← HKO.out.2.2, List.size_toArray, kcs_length (by simp)]
  have zKL : ZK.size = KL.toArray.size := zk33.trans (by rw [List.size_toArray, hk33])
  have oKL : KL.toArray.all (·.oneCell') = true := by rw [Array.all_eq_true_iff_forall_mem]; intro v hv; exact hk1 v (by simpa using hv)
  rw [hKL] at e6
  obtain ⟨V7, hV7⟩ : ∃ V, V6.setRow g1 KL.toArray = V := ⟨_, rfl⟩
  have k7 : Keeps (fun j => j = g1) V6 V7 := by rw [← hV7]; exact Keeps.setRow _ _
  have q7 : V7.heap[g1]? = some (.cells KL.toArray 54 (0, 0)) := by rw [← hV7]; exact setRow_heap _ _ _ _ _ _ q6
  have FIN : Hid (Rd V7 b r sb ∧ Only b w V7) := Lib.hid ⟨rd6.side g1 hb1 hrg k7 (fun j e => by have e' : j = g1 := e; omega), ((K4.out.trans k5).trans' k6 (fun i hi e => by have := HRL.out.2.2; have e' : i = g2 := e; omega)).trans' k7 (fun i hi e => by have := HRL.out.2.2; have e' : i = g1 := e; omega)⟩
  have T5 := Lib.hid (And.intro t5 (And.intro s5 o5))
  have E6 := Lib.hid e6
  have Q6 := Lib.hid q6
  have Q7 := Lib.hid q7
  have S7 := Lib.hid (And.intro sKL (And.intro zKL oKL))
  have HKL := Lib.hid hKL
  clear zk33 e5 q5 t5 s5 o5 e6 k6 q6 rd6 hKL hk33 hk1 sKL zKL oKL k7 q7 k5 rd5 H5 K4 E4 Q4 hV4 hc3 hf3
  rw [hHV]
  go_wp2_with (first
    | (refine wpList_store_mid (by rfl) 52 _ _ (by rfl) g2 1 HV (by rfl) (by rfl) T5.out.1 T5.out.2.1 T5.out.2.2 ?_; rw [hV6])
    | (refine wpList_load_row (by rfl) 54 _ (by rfl) g2 (by rfl) 54 KL.toArray (0, 0) _ E6.out Try.underlying54 rfl S7.out.1 ?_)
    | (refine wpList_store_row (by rfl) 54 _ _ (by rfl) g1 KL.toArray (by rfl) (by rfl) 54 ZK Q6.out S7.out.1 S7.out.2.1 S7.out.2.2 ?_; rw [hV7])
    | fail)
  refine bodyPost_ret (results_cell19 rfl _ _ g1 54 KL.toArray (0, 0) _ rfl Q7.out Try.underlying54 rfl S7.out.1) rfl ?_
  exact ⟨by rw [← HKL.out], FIN.out⟩
set_option maxRecDepth 100000 in
theorem gethash_any (b : Nat) (r : Option Nat) (s : RS) (w : World) (h : Rd w b r s) :
    Calls Try.prog 38 #[.pointer (some ⟨b, 0, none⟩)] w fun e w' => e = .returned (.agg (bvs (rhash s).2).toArray) ∧ Rd w' b r (rhash s).1 ∧ Only b w w' := by
  have hlt := h.lt
  have hrl : ∀ k, r = some k → k < w.heap.size := fun k hk => (h.1 k hk).1
  have hhl := Dg.rhash_length s
  have hha := fun V (hV : Rd V b r s) => rdHash_any b r s V hV
  obtain ⟨sb, hsb⟩ : ∃ x, (rhash s).1 = x := ⟨_, rfl⟩
  obtain ⟨hv, hhv⟩ : ∃ x, (rhash s).2 = x := ⟨_, rfl⟩
  rw [hsb] at hha
  rw [hhv] at hha hhl
  rw [hsb, hhv]
  obtain ⟨ZH, hZH⟩ : ∃ Z, (bvs (List.replicate 32 0)).toArray = Z := ⟨_, rfl⟩
  have hzh : ∀ V : World, (zeroValue 52).run Try.prog V = .ok (.agg ZH) V := fun V => by rw [← hZH]; exact zero_Hh V
  obtain ⟨g1, hg1⟩ : ∃ x, w.heap.size = x := ⟨_, rfl⟩
  obtain ⟨W1, hW1⟩ : ∃ V, w.alloc (.cells ZH 52) = V := ⟨_, rfl⟩
  have k1 : Keeps (fun _ => False) w W1 := by rw [← hW1]; exact (Keeps.refl _ _).alloc _
  have r1 : W1.heap[g1]? = some (.cells ZH 52 (0, 0)) := by rw [← hW1, ← hg1]; exact heap_alloc_new w _
  obtain ⟨HV, hHV⟩ : ∃ L, (bvs hv).toArray = L := ⟨_, rfl⟩
  have sHV : (Try.prog.info? 52).map (·.size) = some HV.size := by rw [← hHV, List.size_toArray, bvs_length, hhl]; exact info_h
  have zh32 : ZH.size = 32 := by rw [← hZH, List.size_toArray, bvs_length]; simp
  have zHV : ZH.size = HV.size := zh32.trans (by rw [← hHV, List.size_toArray, bvs_length, hhl])
  have oHV : HV.all (·.oneCell') = true := by rw [← hHV, Array.all_eq_true_iff_forall_mem]; intro v hv; exact bvs_one _ v (by simpa using hv)
  have H3 := Lib.hid (hha W1 (h.keeps k1 id (fun _ _ => id)))
  rw [hHV] at H3
  have K1 := Lib.hid k1
  have R1 := Lib.hid r1
  have SH := Lib.hid (And.intro sHV (And.intro zHV oHV))
  have HRL := Lib.hid (And.intro hlt (And.intro hrl hg1))
  rw [hHV]
  clear zh32 h hlt hrl hhl hha hsb hhv hZH k1 r1 sHV zHV oHV hHV
  go_enter Try.func38, Try.ntmps38
  go_wp2_with fail
  refine H3.out.mono ?_
  rintro e w3 ⟨rfl, rd3, k3⟩
  have hb1 : b < g1 := by have := HRL.out.1; have := HRL.out.2.2; omega
  have hrg : ∀ j, r = some j → j < g1 := fun j hj => by have := HRL.out.2.1 j hj; have := HRL.out.2.2; omega
  have q3 := (k3.block g1 (Array.getElem?_eq_some_iff.1 R1.out).1 (fun e => by have e' : g1 = b := e; omega)).trans R1.out
  obtain ⟨V4, hV4⟩ : ∃ V, w3.setRow g1 HV = V := ⟨_, rfl⟩
  have k4 : Keeps (fun j => j = g1) w3 V4 := by rw [← hV4]; exact Keeps.setRow _ _
  have q4 : V4.heap[g1]? = some (.cells HV 52 (0, 0)) := by rw [← hV4]; exact setRow_heap _ _ _ _ _ _ q3
  have FIN : Hid (Rd V4 b r sb ∧ Only b w V4) := Lib.hid ⟨rd3.side g1 hb1 hrg k4 (fun j e => by have e' : j = g1 := e; omega), ((K1.out.mono (fun _ _ h => h.elim)).trans k3).trans' k4 (fun i hi e => by have := HRL.out.2.2; have e' : i = g1 := e; omega)⟩
  have Q3 := Lib.hid q3
  have Q4 := Lib.hid q4
  clear rd3 k3 q3 k4 q4 H3
  go_wp2_with (first
    | (refine wpList_store_row (by rfl) 52 _ _ (by rfl) g1 HV (by rfl) (by rfl) 52 ZH Q3.out SH.out.1 SH.out.2.1 SH.out.2.2 ?_; rw [hV4])
    | fail)
  refine bodyPost_ret (results_cell19 rfl _ _ g1 52 HV (0, 0) _ rfl Q4.out Try.underlying52 rfl SH.out.1) rfl ?_
  exact ⟨rfl, FIN.out⟩
/-- What is told of getList. -/
def keysGot (b : Nat) (r : Option Nat) (s : RS) (w : World) (e : Ending) (w' : World) : Prop :=
  (32 < (rnum 1 s).2 → e = .returned (.tuple #[.slice none 0 0, .int .i64 13]) ∧ Only b w w') ∧
  (¬ 32 < (rnum 1 s).2 → ∃ (A : Option Addr) (c : Nat), e = .returned (.tuple #[.slice A (rnum 1 s).2.toNat c, .int .i64 0]) ∧ (∀ V, Keeps (fun j => j < w.heap.size) w' V → LK V A (rnum 1 s).2.toNat c (Dg.rkeys (rnum 1 s).2.toNat (rnum 1 s).1).2) ∧ Rd w' b r (Dg.rkeys (rnum 1 s).2.toNat (rnum 1 s).1).1 ∧ Only b w w')
set_option maxRecDepth 100000 in
set_option maxHeartbeats 4000000 in
theorem keyslist_any (b : Nat) (r : Option Nat) (s : RS) (w : World) (h : Rd w b r s) :
    Calls Try.prog 35 #[.pointer (some ⟨b, 0, none⟩), .int .i64 32, .func (.func 36) #[] #[]] w (keysGot b r s w) := by
  have hlt := h.lt
  have hrl : ∀ k, r = some k → k < w.heap.size := fun k hk => (h.1 k hk).1
  have hq := Dg.rnum1_nat s
  have hn1 := rdNum_any b r 1 s w h
  unfold keysGot
  rw [← hq.1] at hn1 ⊢
  obtain ⟨s1, hs1⟩ : ∃ x, (rnum 1 s).1 = x := ⟨_, rfl⟩
  obtain ⟨nn, hnn⟩ : ∃ x, (rnum 1 s).2.toNat = x := ⟨_, rfl⟩
  rw [hs1] at hn1 ⊢
  simp only [hnn, Int.toNat_natCast] at hn1 hq ⊢
  obtain ⟨B, hB⟩ : ∃ x, w.heap.size = x := ⟨_, rfl⟩
  have hn255 := hq.2
  have H1 := Lib.hid hn1
  have HRL := Lib.hid (And.intro hlt (And.intro hrl hB))
  obtain ⟨ih, zh, hih, hzh, hsh, hbh, hzsh⟩ := info_keys_in
  have HII := Lib.hid (And.intro hih (And.intro hzh (And.intro hsh (And.intro hbh hzsh))))
  rw [hB]
  clear h hlt hrl hq hn1 hs1 hnn hih hzh hsh hbh hzsh hB
  by_cases hbig : 32 < nn
  · have hbi : (32 : Int) < (nn : Int) := by omega
    go_enter Try.func35, Try.ntmps35
    go_wp2_with fail
    refine H1.out.mono ?_
    rintro e w1 ⟨rfl, rd1, k1⟩
    have K1 := Lib.hid k1
    clear rd1 k1 H1
    go_wp2
    go_ret2
    exact ⟨⟨rfl, K1.out⟩, fun h => absurd hbi (by omega)⟩
  · have hbi : ¬ (32 : Int) < (nn : Int) := by omega
    go_enter Try.func35, Try.ntmps35
    go_wp2_with fail
    refine H1.out.mono ?_
    rintro e w1 ⟨rfl, rd1, k1⟩
    have HR1 := Lib.hid rd1
    have K1 := Lib.hid k1
    clear rd1 k1 H1
    go_wp2_with fail
    go_loopw [9, 17] (fun lv iv wr => ∃ (i : Nat) (A3 : Option Addr) (c3 : Nat), i ≤ nn ∧ lv = .slice A3 i c3 ∧ iv = .int .i64 (i : Int) ∧ Hid (wr.ownsRow B 54 33 (.slice A3 i c3) i (flt kcs (Dg.rkeys i s1).2)) ∧ Hid (Rd wr b r (Dg.rkeys i s1).1 ∧ Only b w wr)) (fun _ iv _ => nn - (intOf iv).toNat)
    case atStart => exact ⟨0, none, 0, by omega, rfl, rfl, Lib.hid (World.ownsRow_nil _ _ _ _), Lib.hid ⟨HR1.out, K1.out⟩⟩
    case round =>
      clear HR1 K1
      obtain ⟨i, A3, c3, hi, rfl, rfl, HO, HK⟩ := hrel
      obtain ⟨w0, hw0⟩ : ∃ V, V = wr := ⟨_, rfl⟩
      subst hw0
      by_cases hlt : i < nn
      · have hii : (i : Int) < (nn : Int) := by omega
        have hil := Dg.rkeys_length i s1
        have hstep : Dg.rkeys (i + 1) s1 = ((Dg.rkey (Dg.rkeys i s1).1).1, (Dg.rkeys i s1).2 ++ [(Dg.rkey (Dg.rkeys i s1).1).2]) := rfl
        have hcall := getkey_any b r (Dg.rkeys i s1).1 w0 HK.out.1
        have hokx := Dg.rkey_ok (Dg.rkeys i s1).1
        obtain ⟨sx, hsx⟩ : ∃ x, (Dg.rkeys i s1).1 = x := ⟨_, rfl⟩
        obtain ⟨ks, hks⟩ : ∃ x, (Dg.rkeys i s1).2 = x := ⟨_, rfl⟩
        rw [hsx] at hstep hcall hokx
        rw [hks] at hstep hil
        obtain ⟨sy, hsy⟩ : ∃ x, (Dg.rkey sx).1 = x := ⟨_, rfl⟩
        obtain ⟨x, hx⟩ : ∃ x, (Dg.rkey sx).2 = x := ⟨_, rfl⟩
        rw [hsy] at hstep hcall
        rw [hx] at hstep hcall hokx
        have hxl := kcs_len x hokx
        have hx1 := kcs_one x
        obtain ⟨XL, hXL⟩ : ∃ L, kcs x = L := ⟨_, rfl⟩
        rw [hXL] at hcall hxl hx1
        have HCA := Lib.hid hcall
        have HST := Lib.hid (And.intro hstep (And.intro hXL hks))
        have HXL := Lib.hid (And.intro hxl hx1)
        clear hil hstep hcall hokx hsx hsy hx hxl hx1 hXL hks
        go_wp2_with fail
        refine HCA.out.mono ?_
        rintro e w5 ⟨rfl, rd5, k5⟩
        have o5 := k5.owns HO.out (fun j hj e => by obtain ⟨_, _, h0⟩ := own_block HO.out j hj; have := HRL.out.1; have := HRL.out.2.2; exact absurd (show j = b from e) (by omega))
        have O5 := Lib.hid o5
        have HB5 : Hid (B ≤ w5.heap.size) := Lib.hid (by have := (HK.out.2.trans k5).size; have := HRL.out.2.2; omega)
        have HR5 := Lib.hid (And.intro rd5 (HK.out.2.trans k5))
        clear rd5 k5 o5 HCA HO HK
        go_wp2_with (first
          | (refine wpList_build1_19 (by rfl) 22 1 0 _ (by rfl) (.agg XL.toArray) _ (by rfl) (build_keys1 XL HXL.out.1 w5) ?_)
          | (refine wpList_append_own _ (by rfl) _ _ 22 (by rfl) B 54 ih zh 33 40 Try.underlying22 HII.out.1 HII.out.2.1 HII.out.2.2.1 HII.out.2.2.2.1 HII.out.2.2.2.2 (by decide) (.slice A3 i c3) i (flt kcs (Dg.rkeys i s1).2) (by rfl) (((Keeps.refl (fun _ => False) w5).alloc _).owns O5.out (fun _ _ => id)) ⟨w5.heap.size, 0, none⟩ 1 1 XL (by rfl) (by have := HXL.out.1; omega) (World.news_of_block (heap_alloc_new w5 _)) HXL.out.2 (by unfold maxLen; omega) (by omega) (by have := HB5.out; simp; omega) ?_; intro v4 V6 ho4 hg4 _; have HO6 := Lib.hid ho4; have K6 : Hid (Keeps (fun j => B ≤ j) w5 V6) := Lib.hid (Keeps.trans ((Keeps.refl (fun j => B ≤ j) w5).alloc _) (own_grow19 (((Keeps.refl (fun _ => False) w5).alloc _).owns O5.out (fun _ _ => id)) hg4)); obtain ⟨A4, c4, rfl⟩ := own_slice ho4; clear ho4 hg4)
          | fail)
        go_roundw
        case rel =>
          refine ⟨i + 1, A4, c4, by omega, rfl, by go_num, Lib.hid ?_, Lib.hid ⟨?_, ?_⟩⟩
          · rw [HST.out.1, ← flt_snoc, HST.out.2.1, ← HST.out.2.2]; exact HO6.out
          · rw [HST.out.1]
            exact HR5.out.1.side B (by have := HRL.out; omega) (fun j hj => by have := HRL.out.2.1 j hj; have := HRL.out.2.2; omega) K6.out (fun _ e => e)
          · exact HR5.out.2.trans' K6.out (fun j hj e => by have := HRL.out.2.2; have e' : B ≤ j := e; omega)
        case measure => simp [intOf]; omega
      · obtain rfl : i = nn := by omega
        have hil := Dg.rkeys_length i s1
        have hok := Dg.rkeys_ok i s1
        have HL : Hid (∀ V, Keeps (fun j => j < B) w0 V → LK V A3 i c3 (Dg.rkeys i s1).2) := Lib.hid (fun V hV => by
          have h2 := hV.owns HO.out (fun j hj e => by obtain ⟨_, _, h0⟩ := own_block HO.out j hj; exact absurd (show j < B from e) (by omega))
          have gen : ∀ (l : List Ft.Key) (q : Nat), l.length = q → (∀ x ∈ l, Ft.Key.Ok x) → V.ownsRow B 54 33 (.slice A3 q c3) q (flt kcs l) → LK V A3 q c3 l := by
            rintro l q rfl hok h
            exact IsList.of_own kcs_len (by decide) hok h
          exact gen _ _ hil hok h2)
        clear hil hok
        go_wp2
        go_ret2
        exact ⟨fun h => absurd h (by omega), A3, c3, rfl, HL.out, HK.out.1, HK.out.2⟩
/-- What is told of getList. -/
def hashesGot (b : Nat) (r : Option Nat) (s : RS) (w : World) (e : Ending) (w' : World) : Prop :=
  (32 < (rnum 1 s).2 → e = .returned (.tuple #[.slice none 0 0, .int .i64 13]) ∧ Only b w w') ∧
  (¬ 32 < (rnum 1 s).2 → ∃ (A : Option Addr) (c : Nat), e = .returned (.tuple #[.slice A (rnum 1 s).2.toNat c, .int .i64 0]) ∧ (∀ V, Keeps (fun j => j < w.heap.size) w' V → LH V A (rnum 1 s).2.toNat c (Dg.rhs (rnum 1 s).2.toNat (rnum 1 s).1).2) ∧ Rd w' b r (Dg.rhs (rnum 1 s).2.toNat (rnum 1 s).1).1 ∧ Only b w w')
set_option maxRecDepth 100000 in
set_option maxHeartbeats 4000000 in
theorem hasheslist_any (b : Nat) (r : Option Nat) (s : RS) (w : World) (h : Rd w b r s) :
    Calls Try.prog 37 #[.pointer (some ⟨b, 0, none⟩), .int .i64 32, .func (.func 38) #[] #[]] w (hashesGot b r s w) := by
  have hlt := h.lt
  have hrl : ∀ k, r = some k → k < w.heap.size := fun k hk => (h.1 k hk).1
  have hq := Dg.rnum1_nat s
  have hn1 := rdNum_any b r 1 s w h
  unfold hashesGot
  rw [← hq.1] at hn1 ⊢
  obtain ⟨s1, hs1⟩ : ∃ x, (rnum 1 s).1 = x := ⟨_, rfl⟩
  obtain ⟨nn, hnn⟩ : ∃ x, (rnum 1 s).2.toNat = x := ⟨_, rfl⟩
  rw [hs1] at hn1 ⊢
  simp only [hnn, Int.toNat_natCast] at hn1 hq ⊢
  obtain ⟨B, hB⟩ : ∃ x, w.heap.size = x := ⟨_, rfl⟩
  have hn255 := hq.2
  have H1 := Lib.hid hn1
  have HRL := Lib.hid (And.intro hlt (And.intro hrl hB))
  obtain ⟨ih, zh, hih, hzh, hsh, hbh, hzsh⟩ := info_hashes_in
  have HII := Lib.hid (And.intro hih (And.intro hzh (And.intro hsh (And.intro hbh hzsh))))
  rw [hB]
  clear h hlt hrl hq hn1 hs1 hnn hih hzh hsh hbh hzsh hB
  by_cases hbig : 32 < nn
  · have hbi : (32 : Int) < (nn : Int) := by omega
    go_enter Try.func37, Try.ntmps37
    go_wp2_with fail
    refine H1.out.mono ?_
    rintro e w1 ⟨rfl, rd1, k1⟩
    have K1 := Lib.hid k1
    clear rd1 k1 H1
    go_wp2
    go_ret2
    exact ⟨⟨rfl, K1.out⟩, fun h => absurd hbi (by omega)⟩
  · have hbi : ¬ (32 : Int) < (nn : Int) := by omega
    go_enter Try.func37, Try.ntmps37
    go_wp2_with fail
    refine H1.out.mono ?_
    rintro e w1 ⟨rfl, rd1, k1⟩
    have HR1 := Lib.hid rd1
    have K1 := Lib.hid k1
    clear rd1 k1 H1
    go_wp2_with fail
    go_loopw [9, 17] (fun lv iv wr => ∃ (i : Nat) (A3 : Option Addr) (c3 : Nat), i ≤ nn ∧ lv = .slice A3 i c3 ∧ iv = .int .i64 (i : Int) ∧ Hid (wr.ownsRow B 52 32 (.slice A3 i c3) i (flt bvs (Dg.rhs i s1).2)) ∧ Hid (Rd wr b r (Dg.rhs i s1).1 ∧ Only b w wr)) (fun _ iv _ => nn - (intOf iv).toNat)
    case atStart => exact ⟨0, none, 0, by omega, rfl, rfl, Lib.hid (World.ownsRow_nil _ _ _ _), Lib.hid ⟨HR1.out, K1.out⟩⟩
    case round =>
      clear HR1 K1
      obtain ⟨i, A3, c3, hi, rfl, rfl, HO, HK⟩ := hrel
      obtain ⟨w0, hw0⟩ : ∃ V, V = wr := ⟨_, rfl⟩
      subst hw0
      by_cases hlt : i < nn
      · have hii : (i : Int) < (nn : Int) := by omega
        have hil := Dg.rhs_length i s1
        have hstep : Dg.rhs (i + 1) s1 = ((rhash (Dg.rhs i s1).1).1, (Dg.rhs i s1).2 ++ [(rhash (Dg.rhs i s1).1).2]) := rfl
        have hcall := gethash_any b r (Dg.rhs i s1).1 w0 HK.out.1
        have hokx := Dg.rhash_length (Dg.rhs i s1).1
        obtain ⟨sx, hsx⟩ : ∃ x, (Dg.rhs i s1).1 = x := ⟨_, rfl⟩
        obtain ⟨ks, hks⟩ : ∃ x, (Dg.rhs i s1).2 = x := ⟨_, rfl⟩
        rw [hsx] at hstep hcall hokx
        rw [hks] at hstep hil
        obtain ⟨sy, hsy⟩ : ∃ x, (rhash sx).1 = x := ⟨_, rfl⟩
        obtain ⟨x, hx⟩ : ∃ x, (rhash sx).2 = x := ⟨_, rfl⟩
        rw [hsy] at hstep hcall
        rw [hx] at hstep hcall hokx
        have hxl := hbs_len x hokx
        have hx1 := bvs_one x
        obtain ⟨XL, hXL⟩ : ∃ L, bvs x = L := ⟨_, rfl⟩
        rw [hXL] at hcall hxl hx1
        have HCA := Lib.hid hcall
        have HST := Lib.hid (And.intro hstep (And.intro hXL hks))
        have HXL := Lib.hid (And.intro hxl hx1)
        clear hil hstep hcall hokx hsx hsy hx hxl hx1 hXL hks
        go_wp2_with fail
        refine HCA.out.mono ?_
        rintro e w5 ⟨rfl, rd5, k5⟩
        have o5 := k5.owns HO.out (fun j hj e => by obtain ⟨_, _, h0⟩ := own_block HO.out j hj; have := HRL.out.1; have := HRL.out.2.2; exact absurd (show j = b from e) (by omega))
        have O5 := Lib.hid o5
        have HB5 : Hid (B ≤ w5.heap.size) := Lib.hid (by have := (HK.out.2.trans k5).size; have := HRL.out.2.2; omega)
        have HR5 := Lib.hid (And.intro rd5 (HK.out.2.trans k5))
        clear rd5 k5 o5 HCA HO HK
        go_wp2_with (first
          | (refine wpList_build1_19 (by rfl) 23 1 0 _ (by rfl) (.agg XL.toArray) _ (by rfl) (build_hashes1 XL HXL.out.1 w5) ?_)
          | (refine wpList_append_own _ (by rfl) _ _ 23 (by rfl) B 52 ih zh 32 32 Try.underlying23 HII.out.1 HII.out.2.1 HII.out.2.2.1 HII.out.2.2.2.1 HII.out.2.2.2.2 (by decide) (.slice A3 i c3) i (flt bvs (Dg.rhs i s1).2) (by rfl) (((Keeps.refl (fun _ => False) w5).alloc _).owns O5.out (fun _ _ => id)) ⟨w5.heap.size, 0, none⟩ 1 1 XL (by rfl) (by have := HXL.out.1; omega) (World.news_of_block (heap_alloc_new w5 _)) HXL.out.2 (by unfold maxLen; omega) (by omega) (by have := HB5.out; simp; omega) ?_; intro v4 V6 ho4 hg4 _; have HO6 := Lib.hid ho4; have K6 : Hid (Keeps (fun j => B ≤ j) w5 V6) := Lib.hid (Keeps.trans ((Keeps.refl (fun j => B ≤ j) w5).alloc _) (own_grow19 (((Keeps.refl (fun _ => False) w5).alloc _).owns O5.out (fun _ _ => id)) hg4)); obtain ⟨A4, c4, rfl⟩ := own_slice ho4; clear ho4 hg4)
          | fail)
        go_roundw
        case rel =>
          refine ⟨i + 1, A4, c4, by omega, rfl, by go_num, Lib.hid ?_, Lib.hid ⟨?_, ?_⟩⟩
          · rw [HST.out.1, ← flt_snoc, HST.out.2.1, ← HST.out.2.2]; exact HO6.out
          · rw [HST.out.1]
            exact HR5.out.1.side B (by have := HRL.out; omega) (fun j hj => by have := HRL.out.2.1 j hj; have := HRL.out.2.2; omega) K6.out (fun _ e => e)
          · exact HR5.out.2.trans' K6.out (fun j hj e => by have := HRL.out.2.2; have e' : B ≤ j := e; omega)
        case measure => simp [intOf]; omega
      · obtain rfl : i = nn := by omega
        have hil := Dg.rhs_length i s1
        have hok := Dg.rhs_ok i s1
        have HL : Hid (∀ V, Keeps (fun j => j < B) w0 V → LH V A3 i c3 (Dg.rhs i s1).2) := Lib.hid (fun V hV => by
          have h2 := hV.owns HO.out (fun j hj e => by obtain ⟨_, _, h0⟩ := own_block HO.out j hj; exact absurd (show j < B from e) (by omega))
          have gen : ∀ (l : List (List UInt8)) (q : Nat), l.length = q → (∀ x ∈ l, (fun h : List UInt8 => h.length = 32) x) → V.ownsRow B 52 32 (.slice A3 q c3) q (flt bvs l) → LH V A3 q c3 l := by
            rintro l q rfl hok h
            exact IsList.of_own hbs_len (by decide) hok h
          exact gen _ _ hil hok h2)
        clear hil hok
        go_wp2
        go_ret2
        exact ⟨fun h => absurd h (by omega), A3, c3, rfl, HL.out, HK.out.1, HK.out.2⟩
end Go.Proofs.Ytmjpaopobnhckaa
