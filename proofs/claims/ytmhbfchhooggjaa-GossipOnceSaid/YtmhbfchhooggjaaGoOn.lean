/-
  The statement GossipOnce, for every input, out of the contracts.
-/
import Derived.Test.YtmhbfchhooggjaaGoQ
namespace Go.Proofs.Ytmhbfchhooggjaa
open Go.RowKit Go.BigFrame
set_option linter.unusedVariables false
set_option linter.unusedSimpArgs false

namespace Gp
/-- All numbers from -1 on, each twice. -/
def al : Nat → List Int
  | 0 => []
  | j + 1 => al j ++ [(j : Int) - 1, (j : Int) - 1]
theorem al_length : ∀ j, (al j).length = 2 * j
  | 0 => rfl
  | j + 1 => by show (al j ++ _).length = _; rw [List.length_append, al_length j]; rfl
theorem mem_al {j k : Nat} (h : k + 1 < j) : (k : Int) ∈ al j := by
  induction j with
  | zero => omega
  | succ j ih =>
    show _ ∈ al j ++ _
    rw [List.mem_append]
    rcases Nat.lt_or_ge (k + 1) j with h2 | h2
    · exact .inl (ih h2)
    · refine .inr ?_
      have : (k : Int) = (j : Int) - 1 := by omega
      rw [this]; simp
theorem flood_al (g : G) (x : UInt8) (l : List Int) (but : Int) : flood g (hb x) l but = (⟨g.me, g.many, g.fan, g.s, tol g.told x⟩, if hb x ∈ g.told then [] else oth g l but) := by
  unfold flood tol
  by_cases h : hb x ∈ g.told
  · rw [if_pos h, if_pos h, if_pos h]
  · rw [if_neg h, if_neg h, if_neg h]
end Gp
theorem two_of (x : Int) (V : World) : (Instr.buildSlice 34 2 #[(0, .int .i64 x), (1, .int .i64 x)]).run Try.prog V = .ok (.slice (some ⟨V.heap.size, 0, none⟩) 2 2) (V.alloc (.cells #[.int .i64 x, .int .i64 x] 3)) := by kernel_rfl
/-- What stands in memory at each turn of the law's loop: the one at g, within F; the truths at tb; all numbers at ab. -/
structure On (At : World → (Nat → Prop) → Nat → Gp.G → Prop) (W : World) (g tb ab : Nat) (al : List Int) (k n f : Nat) (wr : World) (F : Nat → Prop) (s : BitVec 64) (L M : List (List UInt8)) : Prop where
  at_ : At wr F g ⟨k, n, f, s, L⟩
  row : Row wr tb 4 (bq M)
  src : Src wr (some ⟨ab, 0, none⟩) (ivs al)
  ge : ∀ b, F b → W.heap.size ≤ b
  ft : ¬ F tb
  fa : ¬ F ab
  la : ab < wr.heap.size
  ne : ab ≠ tb
  lo : W.heap.size ≤ tb
  keeps : Keeps (fun _ => False) W wr
section
variable {At : World → (Nat → Prop) → Nat → Gp.G → Prop} {W wr w' : World} {g tb ab k n f : Nat} {al : List Int} {F F' S : Nat → Prop} {s s2 : BitVec 64} {L L2 M : List (List UInt8)}
theorem src_plain {w w2 : World} {S : Nat → Prop} {b : Nat} {l : List Value} (h : Src w (some ⟨b, 0, none⟩) l) (k : Keeps S w w2) (hS : ¬ S b) : Src w2 (some ⟨b, 0, none⟩) l := fun j u hu => by
  obtain ⟨ad, e, hc⟩ := h j u hu
  injection e with e
  subst e
  refine ⟨_, rfl, ?_⟩
  rw [add_plain] at hc ⊢
  exact (k.cell (p := ⟨b, 0 + j, none⟩) (World.block_lt_of_cell? _ _ hc) hS).trans hc
theorem On.other (C : Goss At) (h : On At W g tb ab al k n f wr F s L M) (q : Keeps S wr w') (hF : ∀ b, S b → ¬ F b ∧ b ≠ tb ∧ b ≠ ab ∧ W.heap.size ≤ b) : On At W g tb ab al k n f w' F s L M :=
  ⟨C.keeps h.at_ q (fun b hb => (hF b hb).1), h.row.keeps q (fun e => (hF _ e).2.1 rfl), src_plain h.src q (fun e => (hF _ e).2.2.1 rfl), h.ge, h.ft, h.fa, Nat.lt_of_lt_of_le h.la q.size, h.ne, h.lo, h.keeps.trans' q (fun j hj e => by have := (hF j e).2.2.2; omega)⟩
theorem On.call (C : Goss At) (h : On At W g tb ab al k n f wr F s L M) (q : Keeps F wr w') (ha : At w' F' g ⟨k, n, f, s2, L2⟩) (hF : ∀ b, F' b → F b ∨ wr.heap.size ≤ b) : On At W g tb ab al k n f w' F' s2 L2 M :=
  ⟨ha, h.row.keeps q h.ft, src_plain h.src q h.fa, fun b hb => by rcases hF b hb with h1 | h1; exact h.ge b h1; exact Nat.le_trans h.keeps.size h1,
    fun e => by rcases hF _ e with h1 | h1; exact h.ft h1; have := h.row.lt; omega, fun e => by rcases hF _ e with h1 | h1; exact h.fa h1; have := h.la; omega,
    Nat.lt_of_lt_of_le h.la q.size, h.ne, h.lo, h.keeps.trans' q (fun j hj e => by have := h.ge j e; omega)⟩
theorem On.store (C : Goss At) (h : On At W g tb ab al k n f wr F s L M) (x : UInt8) {V : World} (hV : wr.setCell ⟨tb, x.toNat, none⟩ (.bool true) = V) : On At W g tb ab al k n f V F s L (Gp.tol M x) := by
  have q : Keeps (fun j => j = tb) wr V := by rw [← hV]; exact (Keeps.refl (fun j => j = tb) wr).setCell (p := ⟨tb, x.toNat, none⟩) (fun _ => rfl) _
  refine ⟨C.keeps h.at_ q (fun b hb e => h.ft (by have e' : b = tb := hb; rw [← e']; exact e)), ?_, src_plain h.src q h.ne, h.ge, h.ft, h.fa, Nat.lt_of_lt_of_le h.la q.size, h.ne, h.lo, h.keeps.trans' q (fun j hj e => by have := h.lo; have e' : j = tb := e; omega)⟩
  rw [← bq_set, ← hV]
  exact h.row.set x.toNat (.bool true)
end
variable {At : World → (Nat → Prop) → Nat → Gp.G → Prop}
set_option maxRecDepth 100000 in
set_option maxHeartbeats 8000000 in
theorem once_walk (C : Goss At) (AW : Awake21) (av ov fv : Nat) (ha : av < 256) (ho : ov < 256) (hf : fv < 256) (s : BitVec 64) (A : Option Addr) (len c : Nat) (ids : List UInt8) (W : World) (hl : ids.length = len) (hS : Src W A (bvs ids)) (hlc : len ≤ c) (hcx : c ≤ 9223372036854775807) :
    Calls Try.prog 4 #[.int .u8 (av : Int), .int .u8 (ov : Int), .int .u8 (fv : Int), .int .u64 (di s), .slice A len c] W fun e w' => e = .returned (.bool true) ∧ Below W.heap.size W w' := by
  have CC := Lib.hid C
  have HAW := Lib.hid (AW W)
  have HS := Lib.hid hS
  have HL := Lib.hid hl
  clear C AW hS hl
  by_cases h40 : 40 < len
  · have h1 : (40 : Int) < (len : Int) := by omega
    go_enter Try.func4, Try.ntmps4
    go_wp2_with fail
    refine HAW.out.mono ?_
    rintro e w1 ⟨rfl, k1⟩
    go_wp2
    go_ret
    exact ⟨rfl, k1.below (Nat.le_refl _) (fun _ _ => id)⟩
  · have h1 : ¬ (40 : Int) < (len : Int) := by omega
    obtain ⟨m, hm1, hm3⟩ : ∃ m : Nat, (ov : Int) % 20 = (m : Int) ∧ m < 20 := ⟨ov % 20, by omega, by omega⟩
    obtain ⟨n, hn⟩ : ∃ n : Nat, (m : Int) + 1 = (n : Int) := ⟨m + 1, by omega⟩
    have hn20 : n ≤ 20 := by omega
    have hn0 : 1 ≤ n := by omega
    obtain ⟨k, hk0, hkn, hk9⟩ := rest_of21 av n (by omega) (by omega) ha
    obtain ⟨fm, hf0, hf3, hf9⟩ := rest_of21 fv n (by omega) (by omega) hf
    have HKF := Lib.hid (And.intro (And.intro hk0 hk9) (And.intro hf0 hf9))
    clear hk0 hk9 hf0 hf9
    obtain ⟨f, hfm⟩ : ∃ f : Nat, (fm : Int) + 1 = (f : Int) := ⟨fm + 1, by omega⟩
    have hfn : f ≤ n ∧ 1 ≤ f := by omega
    have hnn : ¬ (n : Int) = 0 := by omega
    have hnew := fun V => CC.out.new_on V k n f s (by unfold Gp.In; omega)
    have HNEW := Lib.hid hnew
    have hmk := fun V => make_bools n hn20 V
    obtain ⟨BN, hBN⟩ : ∃ B, (tn n []).toArray = B := ⟨_, rfl⟩
    rw [hBN] at hmk
    have HBN := Lib.hid hBN
    have hmk2 : ∀ V : World, (Instr.makeSlice 49 (.int .i64 256) (.int .i64 256)).run Try.prog V = .ok (.slice (some ⟨V.heap.size, 0, none⟩) 256 256) (V.alloc (.cells (bq []).toArray 4)) := fun V => by rw [bq_nil]; exact make_256 V
    obtain ⟨BQ, hBQ⟩ : ∃ B, (bq []).toArray = B := ⟨_, rfl⟩
    rw [hBQ] at hmk2
    have HBQ := Lib.hid hBQ
    have HMK := Lib.hid (And.intro hmk hmk2)
    obtain ⟨⟨⟨hk1, hk2⟩, hk4⟩, ⟨hf1, hf2⟩, hf4⟩ := HKF.out
    clear hk4 hf4 hnew hBN hBQ hmk hmk2 HKF hf3
    go_enter Try.func4, Try.ntmps4
    go_wp2_with fail
    refine HAW.out.mono ?_
    rintro e w1 ⟨rfl, k1⟩
    have HNEW1 := Lib.hid (HNEW.out w1)
    have K1 := Lib.hid k1
    clear k1 HNEW HAW
    go_wp2_with fail
    refine HNEW1.out.mono ?_
    rintro e w2 ⟨g, F, rfl, a2, hF, k2⟩
    clear hm1 hm3 hn hk1 hk2 hf1 hf2 hfm
    obtain ⟨b0, hb0⟩ : ∃ b, w2.heap.size = b := ⟨_, rfl⟩
    have HB := Lib.hid (show b0 ≤ w2.heap.size ∧ W.heap.size ≤ b0 ∧ ∀ b, F b → W.heap.size ≤ b ∧ b < b0 from ⟨by omega, by have := K1.out.size; have := k2.size; omega, fun b h => ⟨Nat.le_trans K1.out.size (hF b h), by have := CC.out.lt a2 _ h; omega⟩⟩)
    have HA2 := Lib.hid a2
    have K2 := Lib.hid (K1.out.trans k2)
    obtain ⟨ih, zh, hi1, hi2, hi3, hi4, hi5⟩ := info_in
    have HII := Lib.hid (And.intro hi1 (And.intro hi2 (And.intro hi3 (And.intro hi4 hi5))))
    clear a2 hF k2 hb0 HNEW1 hi1 hi2 hi3 hi4 hi5
    go_wp2_with fail
    go_loopw [17, 18] (fun lv iv wr => ∃ (j m : Nat) (y : Int) (A2 : Option Addr) (c2 : Nat), (j ≤ n + 2 ∧ m ≤ 50) ∧ iv = .int .i64 y ∧ lv = .slice A2 m c2 ∧ Hid (m = 2 * j ∧ y + 1 = (j : Int)) ∧ Hid (wr.ownsRow b0 3 1 (.slice A2 m c2) m (ivs (Gp.al j))) ∧ Hid (Keeps (fun j => b0 ≤ j) w2 wr)) (fun _ iv _ => (n + 1 - intOf iv).toNat)
    case atStart => exact ⟨0, 0, -1, none, 0, by omega, rfl, rfl, Lib.hid ⟨rfl, by omega⟩, Lib.hid (World.ownsRow_nil _ _ _ _), Lib.hid (Keeps.refl _ _)⟩
    case round =>
      obtain ⟨j, m, y, A2, c2, ⟨hj, hm50⟩, rfl, rfl, HM, HO, HK⟩ := hrel
      have hy1 : -1 ≤ y := by have := HM.out; omega
      by_cases hyn : y ≤ (n : Int)
      · have HJ := Lib.hid (show j < n + 2 by have := HM.out; omega)
        have HB9 := Lib.hid (show b0 ≤ wr.heap.size by have := HB.out.1; have := HK.out.size; omega)
        have HE : Hid (ivs (Gp.al j) ++ [Value.int .i64 y, .int .i64 y] = ivs (Gp.al (j + 1))) := Lib.hid (by
          show _ = ivs (Gp.al j ++ [(j : Int) - 1, (j : Int) - 1])
          rw [show (j : Int) - 1 = y by have := HM.out; omega, ← ivs_append]
          rfl)
        go_wp2_with (first
          | (refine wpList_buildN21 (by rfl) 34 2 [(0, .tmp 61), (1, .tmp 62)] (by rfl) [(0, .int .i64 y), (1, .int .i64 y)] (by rfl) _ (two_of y wr) ?_)
          | (refine wpList_append_own _ (by rfl) _ _ 34 (by rfl) b0 3 ih zh 1 8 Try.underlying34 HII.out.1 HII.out.2.1 HII.out.2.2.1 HII.out.2.2.2.1 HII.out.2.2.2.2 (by decide) (.slice A2 m c2) m (ivs (Gp.al j)) (by rfl) (((Keeps.refl (fun _ => False) wr).alloc _).owns HO.out (fun _ _ => id)) ⟨wr.heap.size, 0, none⟩ 2 2 [.int .i64 y, .int .i64 y] (by rfl) (by simp) (World.news_of_block (heap_alloc_new wr _)) (by simp [Value.oneCell']) (by unfold maxLen; omega) (by omega) (by have := HB9.out; simp; omega) ?_; intro v4 V8 ho4 hg4 _; have HO4 := Lib.hid ho4; have K8 : Hid (Keeps (fun j => b0 ≤ j) wr V8) := Lib.hid (Keeps.trans ((Keeps.refl (fun j => b0 ≤ j) wr).alloc _) (own_grow21 (((Keeps.refl (fun _ => False) wr).alloc _).owns HO.out (fun _ _ => id)) hg4)); obtain ⟨A4, c4, rfl⟩ := own_slice ho4; clear ho4 hg4)
          | fail)
        go_roundw
        case rel => exact ⟨j + 1, m + 2, y + 1, A4, c4, by have := HJ.out; have := HM.out; omega, by go_num, rfl, Lib.hid (by have := HM.out; omega), Lib.hid (by rw [← HE.out]; exact HO4.out), Lib.hid (HK.out.trans K8.out)⟩
        case measure => simp [intOf]; omega
      · have hmj : m = 2 * (n + 2) := by have := HM.out; omega
        obtain ⟨al, hal⟩ : ∃ l, Gp.al j = l := ⟨_, rfl⟩
        have hj2 : j = n + 2 := by have := HM.out; omega
        rw [hal] at HO
        have hcap := own_cap HO.out
        have HAL := Lib.hid (show al.length = m ∧ (∀ q : Nat, q < n → (q : Int) ∈ al) ∧ m ≤ c2 ∧ c2 ≤ 9223372036854775807 ∧ 1 ≤ m from ⟨by rw [← hal, Gp.al_length]; omega, fun q hq => by rw [← hal]; exact Gp.mem_al (by omega), hcap.2.1, hcap.2.2, by omega⟩)
        obtain ⟨n1, hn1⟩ : ∃ n1 : Nat, (n : Int) - 1 = (n1 : Int) := ⟨n - 1, by omega⟩
        have HFUL : Hid (∀ (s : BitVec 64) (L : List (List UInt8)) (but : Int), but < 0 → (Gp.oth ⟨k, n, f, s, L⟩ al but).length = n1) := Lib.hid (fun s L but hb => by
          rw [Gp.oth_full ⟨k, n, f, s, L⟩ hkn al but hb HAL.out.2.1]
          show n - 1 = n1
          omega)
        obtain ⟨x0, hx0⟩ : ∃ x0, al[0]? = some x0 := ⟨_, List.getElem?_eq_getElem (by have := HAL.out; omega)⟩
        obtain ⟨ab, rfl, hax, hab⟩ := own_block21 HO.out 0 x0 hx0
        have habs := World.block_lt_of_cell? _ _ hax
        have ha3 : At wr F g ⟨k, n, f, s, []⟩ := CC.out.keeps HA2.out HK.out (fun b hb h => by have := (HB.out.2.2 b h).2; have e' : b0 ≤ b := hb; omega)
        have hk3 : Keeps (fun _ => False) W wr := K2.out.trans' HK.out (fun j hj e => by have := HB.out.2.1; have e' : b0 ≤ j := e; omega)
        obtain ⟨tb, htb⟩ : ∃ x, wr.heap.size = x := ⟨_, rfl⟩
        obtain ⟨V3, hV3⟩ : ∃ V, wr.alloc (.cells BQ 4) = V := ⟨_, rfl⟩
        have kv3 : Keeps (fun _ => False) wr V3 := by rw [← hV3]; exact (Keeps.refl _ _).alloc _
        have HON3 : Hid (On At W g tb ab al k n f V3 F s [] []) := Lib.hid ⟨CC.out.keeps ha3 kv3 (fun _ h => h.elim), by rw [← hV3, ← htb]; unfold Row; rw [HBQ.out]; exact heap_alloc_new wr _, src_plain (Src.of_own HO.out) kv3 id,
          fun b h => (HB.out.2.2 b h).1, fun h => by have := CC.out.lt ha3 _ h; omega, fun h => by have := (HB.out.2.2 _ h).2; omega, Nat.lt_of_lt_of_le habs kv3.size, by have e' : (⟨ab, 0, none⟩ : Addr).block = ab := rfl; omega, by have := hk3.size; omega, hk3.trans kv3⟩
        have hmk2 := HMK.out.2
        clear hmj hal hj2 hcap hx0 hax hab habs ha3 hk3 kv3 HO HK HM HA2 K2
        go_wp2_with fail
        clear hmk2 htb hV3
        go_loopw [20, 21, 22, 23, 24, 25] (fun iv _ _ _ _ _ wr => ∃ (i : Nat) (F : Nat → Prop) (s : BitVec 64) (L : List (List UInt8)), i ≤ len ∧ iv = .int .i64 (i : Int) ∧ Hid (On At W g tb ab al k n f wr F s L L)) (fun iv _ _ _ _ _ _ => len - (intOf iv).toNat)
        case atStart => exact ⟨0, F, s, [], by omega, rfl, HON3⟩
        case round =>
          clear HON3
          obtain ⟨i, F, s, L, hi, rfl, HON⟩ := hrel
          by_cases hlt : i < len
          · have hii : (i : Int) < (len : Int) := by omega
            by_cases hfw : (n1 : Int) < (f : Int)
            · skip
              have hrd := CC.out.round (some ⟨ab, 0, none⟩) m c2 al HON.out.at_ HON.out.src HAL.out.1 HAL.out.2.2.1 HAL.out.2.2.2.1 (fun e => by cases e) (fun ad e _ h => by injection e with e; subst e; exact HON.out.fa h) (by omega)
              have hrl : (Gp.round ⟨k, n, f, s, L⟩ al).2.length = n1 := by
                rw [Gp.round_length, HFUL.out s L (-1) (by omega)]
                show min f n1 = n1
                omega
              have hrm : ∀ y ∈ (Gp.round ⟨k, n, f, s, L⟩ al).2, 0 ≤ y ∧ y < (n : Int) ∧ y ≠ (k : Int) := fun y hy => by
                obtain ⟨_, h1, h2, h3, _⟩ := Gp.mem_oth2.1 (Gp.round_mem hy)
                exact ⟨h1, h2, h3⟩
              have hrn := Gp.round_nodup ⟨k, n, f, s, L⟩ al
              obtain ⟨s2, hs2⟩ : ∃ s2, (Gp.round ⟨k, n, f, s, L⟩ al).1 = ⟨k, n, f, s2, L⟩ := ⟨_, rfl⟩
              obtain ⟨os, hos⟩ : ∃ os, (Gp.round ⟨k, n, f, s, L⟩ al).2 = os := ⟨_, rfl⟩
              rw [hs2, hos] at hrd
              rw [hos] at hrl hrm hrn
              rw [hrl] at hrd
              have HRD := Lib.hid hrd
              have HOS := Lib.hid (And.intro hrl (And.intro hrm hrn))
              clear hrd hrl hrm hrn hs2 hos
              go_wp2_with fail
              refine HRD.out.mono ?_
              rintro e w4 ⟨F4, A4, c4, rfl, a4, o4, hF4, hA4, k4⟩
              have ON4 := Lib.hid (HON.out.call CC.out k4 a4 hF4)
              have HO4 := Lib.hid (Src.of_own o4)
              have hne : ((n1 : Int) != (n1 : Int)) = false := by simp
              have hmk := HMK.out.1
              obtain ⟨sk, hsk⟩ : ∃ x, w4.heap.size = x := ⟨_, rfl⟩
              obtain ⟨V5, hV5⟩ : ∃ V, w4.alloc (.cells BN 4) = V := ⟨_, rfl⟩
              have kv5 : Keeps (fun _ => False) w4 V5 := by rw [← hV5]; exact (Keeps.refl _ _).alloc _
              have HKV5 := Lib.hid kv5
              have HR5 : Hid (Row V5 sk 4 (tn n [])) := Lib.hid (by rw [← hV5, ← hsk]; unfold Row; rw [HBN.out]; exact heap_alloc_new w4 _)
              have HSK := Lib.hid (show (∀ b, b = sk → ¬ F4 b ∧ b ≠ tb ∧ b ≠ ab ∧ W.heap.size ≤ b) ∧ w4.heap.size = sk from ⟨fun b e => by
                subst e
                have h1 := ON4.out.row.lt
                have h2 := ON4.out.la
                have h3 := ON4.out.keeps.size
                exact ⟨fun h => by have := CC.out.lt ON4.out.at_ _ h; omega, by omega, by omega, by omega⟩, hsk⟩)
              clear a4 o4 hF4 hA4 k4 kv5 HRD
              go_wp2_with fail
              clear hmk hsk hV5
              go_loopw [24] (fun jv wr => ∃ q : Nat, q ≤ n1 ∧ jv = .int .i64 (q : Int) ∧ Hid (Row wr sk 4 (tn n (os.take q))) ∧ Hid (Keeps (fun j => j = sk) V5 wr)) (fun jv _ => n1 - (intOf jv).toNat)
              case atStart => exact ⟨0, by omega, rfl, HR5, Lib.hid (Keeps.refl _ _)⟩
              case round =>
                clear HR5
                obtain ⟨q, hq, rfl, HR, KQ⟩ := hrel
                by_cases hqt : q < n1
                · have hqi : (q : Int) < (n1 : Int) := by omega
                  obtain ⟨y, hy⟩ : ∃ y, os[q]? = some y := ⟨_, List.getElem?_eq_getElem (by have := HOS.out.1; omega)⟩
                  obtain ⟨hy0, hyn, hyk⟩ := HOS.out.2.1 y (List.mem_of_getElem? hy)
                  have hyt : y ∉ os.take q := fun h => by
                    have hd := HOS.out.2.2
                    have h2 : os.take (q + 1) = os.take q ++ [y] := by rw [List.take_add_one, hy]; rfl
                    have h3 : (os.take (q + 1)).Nodup := hd.sublist (List.take_sublist _ _)
                    rw [h2, List.nodup_append] at h3
                    exact h3.2.2 y h y (by simp) rfl
                  have htk : os.take (q + 1) = os.take q ++ [y] := by rw [List.take_add_one, hy]; rfl
                  obtain ⟨p, rfl⟩ : ∃ p : Nat, y = (p : Int) := ⟨y.toNat, by omega⟩
                  obtain ⟨ad, rfl, hyc0⟩ := src_at21 HO4.out hy
                  have hyb := World.block_lt_of_cell? _ _ hyc0
                  have hyc : wr.cell? (ad.add q) = some (.int .i64 (p : Int)) := (KQ.out.cell (Nat.lt_of_lt_of_le hyb HKV5.out.size) (fun e => by have e' : (ad.add q).block = sk := e; have := HSK.out.2; omega)).trans ((HKV5.out.cell hyb id).trans hyc0)
                  have hpn : p < n := by omega
                  have hpk : ((p : Int) == (k : Int)) = false := by simpa using hyk
                  have hsr : wr.cell? ⟨sk, p, none⟩ = some (.bool false) := by rw [HR.out.cell p, tn_at n _ hpn, decide_eq_false hyt]
                  have hfr : wr.frozen? ⟨sk, p, none⟩ = false := HR.out.frozen p
                  obtain ⟨W9, hW9⟩ : ∃ V, wr.setCell ⟨sk, p, none⟩ (.bool true) = V := ⟨_, rfl⟩
                  have HR9 : Hid (Row W9 sk 4 (tn n (os.take (q + 1)))) := Lib.hid (by rw [htk, ← tn_set n _ hpn, ← hW9]; exact HR.out.set p (.bool true))
                  have HK9 : Hid (Keeps (fun j => j = sk) V5 W9) := Lib.hid (KQ.out.trans (by rw [← hW9]; exact (Keeps.refl (fun j => j = sk) wr).setCell (p := ⟨sk, p, none⟩) (fun _ => rfl) _))
                  clear hy hyt htk hyc0 hyb hyk
                  go_wp2
                  go_roundw
                  case rel => exact ⟨q + 1, by omega, by go_num, HR9, HK9⟩
                  case measure => simp [intOf]; omega
                · obtain rfl : n1 = q := by omega
                  have ON5 := Lib.hid ((ON4.out.other CC.out HKV5.out (fun _ h => h.elim)).other CC.out KQ.out HSK.out.1)
                  obtain ⟨x, hx⟩ : ∃ x, ids[i]? = some x := ⟨_, List.getElem?_eq_getElem (by have := HL.out; omega)⟩
                  obtain ⟨ad, rfl, hxc⟩ := byte_at21 HS.out hx
                  obtain ⟨kx, hkx⟩ : ∃ k, x.toNat = k := ⟨_, rfl⟩
                  have hk256 : kx < 256 := by have := x.toNat_lt; omega
                  have hbx := build_hb x
                  have hfl := CC.out.flood (hb x) (some ⟨ab, 0, none⟩) m c2 al (-5) ON5.out.at_ (hb_ok x) ON5.out.src HAL.out.1 HAL.out.2.2.1 HAL.out.2.2.2.1 (fun e => by cases e) (fun ad e _ h => by injection e with e; subst e; exact ON5.out.fa h) (by omega) (by decide)
                  rw [Gp.flood_al] at hfl
                  have HTR := Lib.hid (bq_at L x)
                  rw [hkx] at hxc hbx HTR
                  obtain ⟨H, hH⟩ : ∃ L, (bvs (hb x)).toArray = L := ⟨_, rfl⟩
                  rw [hH] at hbx hfl
                  have HBX := Lib.hid hbx
                  have HFL := Lib.hid hfl
                  have HKX := Lib.hid hkx
                  have HXC : Hid (∀ V, Keeps (fun _ => False) W V → V.cell? (ad.add i) = some (.int .u8 (kx : Int))) := Lib.hid (fun V hV => (hV.cell (World.block_lt_of_cell? _ _ hxc) id).trans hxc)
                  have hx5 : wr.cell? (ad.add i) = some (.int .u8 (kx : Int)) := HXC.out wr ON5.out.keeps
                  clear hx hxc hkx hbx hH hfl HR KQ
                  by_cases hr : hb x ∈ L
                  · have hin1 : hb x ∈ L := hr
                    have hr0 : decide (hb x ∈ L) = true := decide_eq_true hin1
                    have hfl2 : (if hb x ∈ L then [] else Gp.oth ⟨k, n, f, s2, L⟩ al (-5)).length = 0 := by rw [if_pos hin1]; rfl
                    rw [hr0] at HTR
                    obtain ⟨fs, hfs⟩ : ∃ l, (if hb x ∈ L then [] else Gp.oth ⟨k, n, f, s2, L⟩ al (-5)) = l := ⟨_, rfl⟩
                    have HFL2 : Hid (Calls Try.prog 13 #[.pointer (some ⟨g, 0, none⟩), .agg H, .slice (some ⟨ab, 0, none⟩) m c2, .int .i64 (-5)] wr fun e w' => ∃ F' A' c', e = .returned (.slice A' 0 c') ∧ At w' F' g ⟨k, n, f, s2, Gp.tol L x⟩ ∧ w'.ownsRow wr.heap.size 3 1 (.slice A' 0 c') 0 (ivs fs) ∧ (∀ b, F' b → F4 b ∨ wr.heap.size ≤ b) ∧ (∀ ad, A' = some ad → ¬ F' ad.block) ∧ Keeps F4 wr w') := Lib.hid (by
                      have h := HFL.out
                      rw [hfs] at h hfl2
                      rw [hfl2] at h
                      exact h)
                    clear hr hr0 hfl2 hfs HFL
                    go_wp2_with (first
                      | (refine wpList_made (by rfl) 36 [(0, .tmp 134)] (by rfl) [(0, .int .u8 (kx : Int))] (by rfl) (.agg H) HBX.out ?_)
                      | fail)
                    refine HFL2.out.mono ?_
                    rintro e w6 ⟨F6, A6, c6, rfl, a6, _, hF6, _, k6⟩
                    have ON6 := Lib.hid (ON5.out.call CC.out k6 a6 hF6)
                    have hx6 : w6.cell? (ad.add i) = some (.int .u8 (kx : Int)) := HXC.out w6 ON6.out.keeps
                    have htr : w6.cell? ⟨tb, kx, none⟩ = some (.bool true) := by rw [ON6.out.row.cell kx]; exact HTR.out
                    have hfr : w6.frozen? ⟨tb, kx, none⟩ = false := ON6.out.row.frozen kx
                    obtain ⟨W9, hW9⟩ : ∃ V, w6.setCell ⟨tb, kx, none⟩ (.bool true) = V := ⟨_, rfl⟩
                    have ON9 := Lib.hid (ON6.out.store CC.out x (V := W9) (by rw [HKX.out]; exact hW9))
                    skip
                    clear a6 hF6 k6 hx5 HFL2
                    go_wp2
                    go_roundw
                    case rel => exact ⟨i + 1, F6, s2, Gp.tol L x, by omega, by go_num, ON9⟩
                    case measure => simp [intOf]; omega
                  · have hin0 : hb x ∉ L := hr
                    have hr0 : decide (hb x ∈ L) = false := decide_eq_false hin0
                    have hfl2 : (if hb x ∈ L then [] else Gp.oth ⟨k, n, f, s2, L⟩ al (-5)).length = n1 := by rw [if_neg hin0]; exact HFUL.out s2 L (-5) (by omega)
                    rw [hr0] at HTR
                    obtain ⟨fs, hfs⟩ : ∃ l, (if hb x ∈ L then [] else Gp.oth ⟨k, n, f, s2, L⟩ al (-5)) = l := ⟨_, rfl⟩
                    have HFL2 : Hid (Calls Try.prog 13 #[.pointer (some ⟨g, 0, none⟩), .agg H, .slice (some ⟨ab, 0, none⟩) m c2, .int .i64 (-5)] wr fun e w' => ∃ F' A' c', e = .returned (.slice A' n1 c') ∧ At w' F' g ⟨k, n, f, s2, Gp.tol L x⟩ ∧ w'.ownsRow wr.heap.size 3 1 (.slice A' n1 c') n1 (ivs fs) ∧ (∀ b, F' b → F4 b ∨ wr.heap.size ≤ b) ∧ (∀ ad, A' = some ad → ¬ F' ad.block) ∧ Keeps F4 wr w') := Lib.hid (by
                      have h := HFL.out
                      rw [hfs] at h hfl2
                      rw [hfl2] at h
                      exact h)
                    clear hr hr0 hfl2 hfs HFL
                    go_wp2_with (first
                      | (refine wpList_made (by rfl) 36 [(0, .tmp 134)] (by rfl) [(0, .int .u8 (kx : Int))] (by rfl) (.agg H) HBX.out ?_)
                      | fail)
                    refine HFL2.out.mono ?_
                    rintro e w6 ⟨F6, A6, c6, rfl, a6, _, hF6, _, k6⟩
                    have ON6 := Lib.hid (ON5.out.call CC.out k6 a6 hF6)
                    have hx6 : w6.cell? (ad.add i) = some (.int .u8 (kx : Int)) := HXC.out w6 ON6.out.keeps
                    have htr : w6.cell? ⟨tb, kx, none⟩ = some (.bool false) := by rw [ON6.out.row.cell kx]; exact HTR.out
                    have hfr : w6.frozen? ⟨tb, kx, none⟩ = false := ON6.out.row.frozen kx
                    obtain ⟨W9, hW9⟩ : ∃ V, w6.setCell ⟨tb, kx, none⟩ (.bool true) = V := ⟨_, rfl⟩
                    have ON9 := Lib.hid (ON6.out.store CC.out x (V := W9) (by rw [HKX.out]; exact hW9))
                    have hne2 : ((n1 : Int) != (n1 : Int)) = false := by simp
                    clear a6 hF6 k6 hx5 HFL2
                    go_wp2
                    go_roundw
                    case rel => exact ⟨i + 1, F6, s2, Gp.tol L x, by omega, by go_num, ON9⟩
                    case measure => simp [intOf]; omega
            · skip
              have hrd := CC.out.round (some ⟨ab, 0, none⟩) m c2 al HON.out.at_ HON.out.src HAL.out.1 HAL.out.2.2.1 HAL.out.2.2.2.1 (fun e => by cases e) (fun ad e _ h => by injection e with e; subst e; exact HON.out.fa h) (by omega)
              have hrl : (Gp.round ⟨k, n, f, s, L⟩ al).2.length = f := by
                rw [Gp.round_length, HFUL.out s L (-1) (by omega)]
                show min f n1 = f
                omega
              have hrm : ∀ y ∈ (Gp.round ⟨k, n, f, s, L⟩ al).2, 0 ≤ y ∧ y < (n : Int) ∧ y ≠ (k : Int) := fun y hy => by
                obtain ⟨_, h1, h2, h3, _⟩ := Gp.mem_oth2.1 (Gp.round_mem hy)
                exact ⟨h1, h2, h3⟩
              have hrn := Gp.round_nodup ⟨k, n, f, s, L⟩ al
              obtain ⟨s2, hs2⟩ : ∃ s2, (Gp.round ⟨k, n, f, s, L⟩ al).1 = ⟨k, n, f, s2, L⟩ := ⟨_, rfl⟩
              obtain ⟨os, hos⟩ : ∃ os, (Gp.round ⟨k, n, f, s, L⟩ al).2 = os := ⟨_, rfl⟩
              rw [hs2, hos] at hrd
              rw [hos] at hrl hrm hrn
              rw [hrl] at hrd
              have HRD := Lib.hid hrd
              have HOS := Lib.hid (And.intro hrl (And.intro hrm hrn))
              clear hrd hrl hrm hrn hs2 hos
              go_wp2_with fail
              refine HRD.out.mono ?_
              rintro e w4 ⟨F4, A4, c4, rfl, a4, o4, hF4, hA4, k4⟩
              have ON4 := Lib.hid (HON.out.call CC.out k4 a4 hF4)
              have HO4 := Lib.hid (Src.of_own o4)
              have hne : ((f : Int) != (f : Int)) = false := by simp
              have hmk := HMK.out.1
              obtain ⟨sk, hsk⟩ : ∃ x, w4.heap.size = x := ⟨_, rfl⟩
              obtain ⟨V5, hV5⟩ : ∃ V, w4.alloc (.cells BN 4) = V := ⟨_, rfl⟩
              have kv5 : Keeps (fun _ => False) w4 V5 := by rw [← hV5]; exact (Keeps.refl _ _).alloc _
              have HKV5 := Lib.hid kv5
              have HR5 : Hid (Row V5 sk 4 (tn n [])) := Lib.hid (by rw [← hV5, ← hsk]; unfold Row; rw [HBN.out]; exact heap_alloc_new w4 _)
              have HSK := Lib.hid (show (∀ b, b = sk → ¬ F4 b ∧ b ≠ tb ∧ b ≠ ab ∧ W.heap.size ≤ b) ∧ w4.heap.size = sk from ⟨fun b e => by
                subst e
                have h1 := ON4.out.row.lt
                have h2 := ON4.out.la
                have h3 := ON4.out.keeps.size
                exact ⟨fun h => by have := CC.out.lt ON4.out.at_ _ h; omega, by omega, by omega, by omega⟩, hsk⟩)
              clear a4 o4 hF4 hA4 k4 kv5 HRD
              go_wp2_with fail
              clear hmk hsk hV5 hfw
              rename ¬ n1 < f => hfz
              clear hfz
              go_loopw [24] (fun jv wr => ∃ q : Nat, q ≤ f ∧ jv = .int .i64 (q : Int) ∧ Hid (Row wr sk 4 (tn n (os.take q))) ∧ Hid (Keeps (fun j => j = sk) V5 wr)) (fun jv _ => f - (intOf jv).toNat)
              case atStart => exact ⟨0, by omega, rfl, HR5, Lib.hid (Keeps.refl _ _)⟩
              case round =>
                clear HR5
                obtain ⟨q, hq, rfl, HR, KQ⟩ := hrel
                by_cases hqt : q < f
                · have hqi : (q : Int) < (f : Int) := by omega
                  obtain ⟨y, hy⟩ : ∃ y, os[q]? = some y := ⟨_, List.getElem?_eq_getElem (by have := HOS.out.1; omega)⟩
                  obtain ⟨hy0, hyn, hyk⟩ := HOS.out.2.1 y (List.mem_of_getElem? hy)
                  have hyt : y ∉ os.take q := fun h => by
                    have hd := HOS.out.2.2
                    have h2 : os.take (q + 1) = os.take q ++ [y] := by rw [List.take_add_one, hy]; rfl
                    have h3 : (os.take (q + 1)).Nodup := hd.sublist (List.take_sublist _ _)
                    rw [h2, List.nodup_append] at h3
                    exact h3.2.2 y h y (by simp) rfl
                  have htk : os.take (q + 1) = os.take q ++ [y] := by rw [List.take_add_one, hy]; rfl
                  obtain ⟨p, rfl⟩ : ∃ p : Nat, y = (p : Int) := ⟨y.toNat, by omega⟩
                  obtain ⟨ad, rfl, hyc0⟩ := src_at21 HO4.out hy
                  have hyb := World.block_lt_of_cell? _ _ hyc0
                  have hyc : wr.cell? (ad.add q) = some (.int .i64 (p : Int)) := (KQ.out.cell (Nat.lt_of_lt_of_le hyb HKV5.out.size) (fun e => by have e' : (ad.add q).block = sk := e; have := HSK.out.2; omega)).trans ((HKV5.out.cell hyb id).trans hyc0)
                  have hpn : p < n := by omega
                  have hpk : ((p : Int) == (k : Int)) = false := by simpa using hyk
                  have hsr : wr.cell? ⟨sk, p, none⟩ = some (.bool false) := by rw [HR.out.cell p, tn_at n _ hpn, decide_eq_false hyt]
                  have hfr : wr.frozen? ⟨sk, p, none⟩ = false := HR.out.frozen p
                  obtain ⟨W9, hW9⟩ : ∃ V, wr.setCell ⟨sk, p, none⟩ (.bool true) = V := ⟨_, rfl⟩
                  have HR9 : Hid (Row W9 sk 4 (tn n (os.take (q + 1)))) := Lib.hid (by rw [htk, ← tn_set n _ hpn, ← hW9]; exact HR.out.set p (.bool true))
                  have HK9 : Hid (Keeps (fun j => j = sk) V5 W9) := Lib.hid (KQ.out.trans (by rw [← hW9]; exact (Keeps.refl (fun j => j = sk) wr).setCell (p := ⟨sk, p, none⟩) (fun _ => rfl) _))
                  clear hy hyt htk hyc0 hyb hyk
                  go_wp2
                  go_roundw
                  case rel => exact ⟨q + 1, by omega, by go_num, HR9, HK9⟩
                  case measure => simp [intOf]; omega
                · obtain rfl : f = q := by omega
                  have ON5 := Lib.hid ((ON4.out.other CC.out HKV5.out (fun _ h => h.elim)).other CC.out KQ.out HSK.out.1)
                  obtain ⟨x, hx⟩ : ∃ x, ids[i]? = some x := ⟨_, List.getElem?_eq_getElem (by have := HL.out; omega)⟩
                  obtain ⟨ad, rfl, hxc⟩ := byte_at21 HS.out hx
                  obtain ⟨kx, hkx⟩ : ∃ k, x.toNat = k := ⟨_, rfl⟩
                  have hk256 : kx < 256 := by have := x.toNat_lt; omega
                  have hbx := build_hb x
                  have hfl := CC.out.flood (hb x) (some ⟨ab, 0, none⟩) m c2 al (-5) ON5.out.at_ (hb_ok x) ON5.out.src HAL.out.1 HAL.out.2.2.1 HAL.out.2.2.2.1 (fun e => by cases e) (fun ad e _ h => by injection e with e; subst e; exact ON5.out.fa h) (by omega) (by decide)
                  rw [Gp.flood_al] at hfl
                  have HTR := Lib.hid (bq_at L x)
                  rw [hkx] at hxc hbx HTR
                  obtain ⟨H, hH⟩ : ∃ L, (bvs (hb x)).toArray = L := ⟨_, rfl⟩
                  rw [hH] at hbx hfl
                  have HBX := Lib.hid hbx
                  have HFL := Lib.hid hfl
                  have HKX := Lib.hid hkx
                  have HXC : Hid (∀ V, Keeps (fun _ => False) W V → V.cell? (ad.add i) = some (.int .u8 (kx : Int))) := Lib.hid (fun V hV => (hV.cell (World.block_lt_of_cell? _ _ hxc) id).trans hxc)
                  have hx5 : wr.cell? (ad.add i) = some (.int .u8 (kx : Int)) := HXC.out wr ON5.out.keeps
                  clear hx hxc hkx hbx hH hfl HR KQ
                  by_cases hr : hb x ∈ L
                  · have hin1 : hb x ∈ L := hr
                    have hr0 : decide (hb x ∈ L) = true := decide_eq_true hin1
                    have hfl2 : (if hb x ∈ L then [] else Gp.oth ⟨k, n, f, s2, L⟩ al (-5)).length = 0 := by rw [if_pos hin1]; rfl
                    rw [hr0] at HTR
                    obtain ⟨fs, hfs⟩ : ∃ l, (if hb x ∈ L then [] else Gp.oth ⟨k, n, f, s2, L⟩ al (-5)) = l := ⟨_, rfl⟩
                    have HFL2 : Hid (Calls Try.prog 13 #[.pointer (some ⟨g, 0, none⟩), .agg H, .slice (some ⟨ab, 0, none⟩) m c2, .int .i64 (-5)] wr fun e w' => ∃ F' A' c', e = .returned (.slice A' 0 c') ∧ At w' F' g ⟨k, n, f, s2, Gp.tol L x⟩ ∧ w'.ownsRow wr.heap.size 3 1 (.slice A' 0 c') 0 (ivs fs) ∧ (∀ b, F' b → F4 b ∨ wr.heap.size ≤ b) ∧ (∀ ad, A' = some ad → ¬ F' ad.block) ∧ Keeps F4 wr w') := Lib.hid (by
                      have h := HFL.out
                      rw [hfs] at h hfl2
                      rw [hfl2] at h
                      exact h)
                    clear hr hr0 hfl2 hfs HFL
                    go_wp2_with (first
                      | (refine wpList_made (by rfl) 36 [(0, .tmp 134)] (by rfl) [(0, .int .u8 (kx : Int))] (by rfl) (.agg H) HBX.out ?_)
                      | fail)
                    refine HFL2.out.mono ?_
                    rintro e w6 ⟨F6, A6, c6, rfl, a6, _, hF6, _, k6⟩
                    have ON6 := Lib.hid (ON5.out.call CC.out k6 a6 hF6)
                    have hx6 : w6.cell? (ad.add i) = some (.int .u8 (kx : Int)) := HXC.out w6 ON6.out.keeps
                    have htr : w6.cell? ⟨tb, kx, none⟩ = some (.bool true) := by rw [ON6.out.row.cell kx]; exact HTR.out
                    have hfr : w6.frozen? ⟨tb, kx, none⟩ = false := ON6.out.row.frozen kx
                    obtain ⟨W9, hW9⟩ : ∃ V, w6.setCell ⟨tb, kx, none⟩ (.bool true) = V := ⟨_, rfl⟩
                    have ON9 := Lib.hid (ON6.out.store CC.out x (V := W9) (by rw [HKX.out]; exact hW9))
                    skip
                    clear a6 hF6 k6 hx5 HFL2
                    go_wp2
                    go_roundw
                    case rel => exact ⟨i + 1, F6, s2, Gp.tol L x, by omega, by go_num, ON9⟩
                    case measure => simp [intOf]; omega
                  · have hin0 : hb x ∉ L := hr
                    have hr0 : decide (hb x ∈ L) = false := decide_eq_false hin0
                    have hfl2 : (if hb x ∈ L then [] else Gp.oth ⟨k, n, f, s2, L⟩ al (-5)).length = n1 := by rw [if_neg hin0]; exact HFUL.out s2 L (-5) (by omega)
                    rw [hr0] at HTR
                    obtain ⟨fs, hfs⟩ : ∃ l, (if hb x ∈ L then [] else Gp.oth ⟨k, n, f, s2, L⟩ al (-5)) = l := ⟨_, rfl⟩
                    have HFL2 : Hid (Calls Try.prog 13 #[.pointer (some ⟨g, 0, none⟩), .agg H, .slice (some ⟨ab, 0, none⟩) m c2, .int .i64 (-5)] wr fun e w' => ∃ F' A' c', e = .returned (.slice A' n1 c') ∧ At w' F' g ⟨k, n, f, s2, Gp.tol L x⟩ ∧ w'.ownsRow wr.heap.size 3 1 (.slice A' n1 c') n1 (ivs fs) ∧ (∀ b, F' b → F4 b ∨ wr.heap.size ≤ b) ∧ (∀ ad, A' = some ad → ¬ F' ad.block) ∧ Keeps F4 wr w') := Lib.hid (by
                      have h := HFL.out
                      rw [hfs] at h hfl2
                      rw [hfl2] at h
                      exact h)
                    clear hr hr0 hfl2 hfs HFL
                    go_wp2_with (first
                      | (refine wpList_made (by rfl) 36 [(0, .tmp 134)] (by rfl) [(0, .int .u8 (kx : Int))] (by rfl) (.agg H) HBX.out ?_)
                      | fail)
                    refine HFL2.out.mono ?_
                    rintro e w6 ⟨F6, A6, c6, rfl, a6, _, hF6, _, k6⟩
                    have ON6 := Lib.hid (ON5.out.call CC.out k6 a6 hF6)
                    have hx6 : w6.cell? (ad.add i) = some (.int .u8 (kx : Int)) := HXC.out w6 ON6.out.keeps
                    have htr : w6.cell? ⟨tb, kx, none⟩ = some (.bool false) := by rw [ON6.out.row.cell kx]; exact HTR.out
                    have hfr : w6.frozen? ⟨tb, kx, none⟩ = false := ON6.out.row.frozen kx
                    obtain ⟨W9, hW9⟩ : ∃ V, w6.setCell ⟨tb, kx, none⟩ (.bool true) = V := ⟨_, rfl⟩
                    have ON9 := Lib.hid (ON6.out.store CC.out x (V := W9) (by rw [HKX.out]; exact hW9))
                    have hne2 : ((n1 : Int) != (n1 : Int)) = false := by simp
                    clear a6 hF6 k6 hx5 HFL2
                    go_wp2
                    go_roundw
                    case rel => exact ⟨i + 1, F6, s2, Gp.tol L x, by omega, by go_num, ON9⟩
                    case measure => simp [intOf]; omega
          · obtain rfl : len = i := by omega
            go_wp2
            go_ret
            exact ⟨rfl, HON.out.keeps.below (Nat.le_refl _) (fun _ _ => id)⟩
theorem once_all (C : Goss At) (AW : Awake21) (a0 a1 a2 a3 : Int) (A : Option Addr) (n c : Nat) (zs : List Int) (W : World) (w0 : (Lit.int .u8 a0).wf = true) (w1 : (Lit.int .u8 a1).wf = true) (w2 : (Lit.int .u8 a2).wf = true) (w3 : (Lit.int .u64 a3).wf = true) (h : IsRowU .u8 W A n c zs) :
    Calls Try.prog 4 #[.int .u8 a0, .int .u8 a1, .int .u8 a2, .int .u64 a3, .slice A n c] W fun e w' => e = .returned (.bool true) ∧ Below W.heap.size W w' := by
  obtain ⟨x, rfl, hx⟩ := byte_of21 w0
  obtain ⟨y, rfl, hy⟩ := byte_of21 w1
  obtain ⟨z, rfl, hz⟩ := byte_of21 w2
  obtain ⟨s, rfl⟩ := di_of a3 w3
  obtain ⟨l, h1, h2, h3, h4⟩ := h.src
  exact once_walk C AW x y z hx hy hz s A n c l W h1 h2 h3 h4
end Go.Proofs.Ytmhbfchhooggjaa
