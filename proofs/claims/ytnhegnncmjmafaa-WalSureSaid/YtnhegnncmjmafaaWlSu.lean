/-
  A log on a disk that may fail: what each call leaves, and what a crash leaves of it (plain).
-/
import Derived.Test.YtnhegnncmjmafaaWlDo
namespace Go.Proofs.Ytnhegnncmjmafaa
open Go.RowKit
set_option linter.unusedVariables false
namespace Wl
open Dk (Blk put over front lay crash size)
theorem sy_go {s : Dk.St} (h : s.dead = false) (he : Dk.syE s = 0) : (Dk.sy s).good = over s.good s.loose ∧ (Dk.sy s).loose = [] ∧ (Dk.sy s).dead = false := by
  have hd : ¬ s.dead = true := by rw [h]; decide
  have e : Dk.syE s = Dk.cntE s := by unfold Dk.syE; rw [if_neg hd]
  rw [e] at he
  by_cases hg : Dk.goes s = true
  · unfold Dk.sy
    rw [if_neg hd, if_pos hg]
    exact ⟨rfl, rfl, by show (Dk.cnt s).dead = false; rw [Dk.cnt_dead s hg]; exact h⟩
  · unfold Dk.cntE at he
    rw [if_neg hg] at he
    exact absurd he (by decide)
theorem sy_fail {s : Dk.St} (h : s.dead = false) (he : Dk.syE s ≠ 0) : (Dk.sy s).good = s.good ∧ (Dk.sy s).loose = s.loose := by
  have hd : ¬ s.dead = true := by rw [h]; decide
  have e : Dk.syE s = Dk.cntE s := by unfold Dk.syE; rw [if_neg hd]
  rw [e] at he
  by_cases hg : Dk.goes s = true
  · unfold Dk.cntE at he
    rw [if_pos hg] at he
    exact absurd rfl he
  · unfold Dk.sy
    rw [if_neg hd, if_neg hg]
    exact ⟨Dk.cnt_good s, Dk.cnt_loose s⟩
theorem wr_go {s : Dk.St} (h : s.dead = false) (i : Nat) (b : Blk) (hi : i < s.n) (he : Dk.wrE s (i : Int) 256 = 0) : (Dk.wr s (i : Int) 256 b).good = s.good ∧ (Dk.wr s (i : Int) 256 b).loose = s.loose ++ [(i, b)] ∧ (Dk.wr s (i : Int) 256 b).dead = false := by
  have ha := Dk.atE_in h hi
  have e : Dk.wrE s (i : Int) 256 = Dk.cntE s := by unfold Dk.wrE; rw [if_neg (by rw [ha]; exact fun h => h rfl), if_neg (fun h => h rfl)]
  rw [e] at he
  by_cases hg : Dk.goes s = true
  · unfold Dk.wr
    rw [if_neg (by rw [ha]; exact fun h => h.elim (fun h => h rfl) (fun h => h rfl)), if_pos hg]
    exact ⟨Dk.cnt_good s, rfl, by show (Dk.cnt s).dead = false; rw [Dk.cnt_dead s hg]; exact h⟩
  · unfold Dk.cntE at he
    rw [if_neg hg] at he
    exact absurd he (by decide)
theorem wr_fail {s : Dk.St} (h : s.dead = false) (i : Nat) (b : Blk) (hi : i < s.n) (he : Dk.wrE s (i : Int) 256 ≠ 0) : (Dk.wr s (i : Int) 256 b).good = s.good ∧ (Dk.wr s (i : Int) 256 b).loose = s.loose := by
  have ha := Dk.atE_in h hi
  have e : Dk.wrE s (i : Int) 256 = Dk.cntE s := by unfold Dk.wrE; rw [if_neg (by rw [ha]; exact fun h => h rfl), if_neg (fun h => h rfl)]
  rw [e] at he
  by_cases hg : Dk.goes s = true
  · unfold Dk.cntE at he
    rw [if_pos hg] at he
    exact absurd rfl he
  · unfold Dk.wr
    rw [if_neg (by rw [ha]; exact fun h => h.elim (fun h => h rfl) (fun h => h rfl)), if_neg hg]
    exact ⟨Dk.cnt_good s, Dk.cnt_loose s⟩
theorem wst_live {s : Dk.St} (h : s.dead = false) (i0 : Nat) (b : Bs) : ∀ m, i0 + m ≤ s.n → ((wst s i0 b m).1 = 0 ∧ (wst s i0 b m).2.dead = false ∧ (wst s i0 b m).2.good = s.good ∧ (wst s i0 b m).2.loose = s.loose ++ wl i0 b m) ∨ (wst s i0 b m).1 = 30
  | 0, _ => .inl ⟨rfl, h, rfl, by show s.loose = s.loose ++ wl i0 b 0; unfold wl; simp⟩
  | m + 1, hm => by
    have ih := wst_live h i0 b m (by omega)
    have hn := wst_n s i0 b m
    unfold wst
    split
    · rename_i hh
      rcases ih with ih | ih
      · exact absurd ih.1 hh
      · exact .inr ih
    · rename_i hh
      rcases ih with ⟨_, i2, i3, i4⟩ | ih
      · rcases live_wr i2 (i0 + m) (blk b m) (by omega) with ⟨h1, h2⟩ | h1
        · obtain ⟨g1, g2, g3⟩ := wr_go i2 (i0 + m) (blk b m) (by omega) h1
          exact .inl ⟨h1, g3, g1.trans i3, by rw [show (Dk.wr _ ((i0 + m : Nat) : Int) 256 (blk b m)).loose = _ from g2, i4, wl_succ, List.append_assoc]⟩
        · exact .inr h1
      · rw [ih] at hh; exact absurd (fun h : (30 : Int) = 0 => by cases h) hh
theorem size_lt (c : UInt8) : size c = 256 ∨ size c < 256 := by
  unfold Dk.size
  have := c.toNat_lt
  split
  · exact .inl rfl
  · exact .inr (by omega)
/-- What a crash leaves of a super that was being written: the old frames, or the new. -/
theorem stamp_crash {k a a' : Nat} {fr fr' : Bs} {s : Dk.St} {l : St} (hd : Dur k l.turn a fr s) (h : s.dead = false) (hn : 2 ≤ s.n) (ha : a' < 2) (hl : fr'.length ≤ 256 * k) (ht : l.turn + 1 < 4611686018427387904) (hag : Agree (over s.good s.loose) (2 + a' * k) fr') :
    ((stamp l s a' fr'.length).1 = 0 ∧ (stamp l s a' fr'.length).2.dead = false ∧ (stamp l s a' fr'.length).2.loose = [] ∧ (stamp l s a' fr'.length).2.n = s.n ∧ (stamp l s a' fr'.length).2.good = put (over s.good s.loose) ((l.turn + 1) % 2) (sup (l.turn + 1) a' fr'.length)) ∨
    ((stamp l s a' fr'.length).1 = 30 ∧ (stamp l s a' fr'.length).2.n = s.n ∧ ∀ f, Dur k l.turn a fr (Dk.cr (stamp l s a' fr'.length).2 f) ∨ Dur k (l.turn + 1) a' fr' (Dk.cr (stamp l s a' fr'.length).2 f)) := by
  rcases live_sy h with ⟨h1, h2, h3⟩ | h1
  · have n1 := Dk.sy_n s
    obtain ⟨g1, g2, g3⟩ := sy_go h h1
    have hd1 := hd.sy
    rcases live_wr h2 ((l.turn + 1) % 2) (sup (l.turn + 1) a' fr'.length) (by omega) with ⟨h4, h5⟩ | h4
    · have e := stamp2 (l := l) (a := a') (tail := fr'.length) h1 h4
      have n2 := Dk.wr_n (Dk.sy s) (((l.turn + 1) % 2 : Nat) : Int) 256 (sup (l.turn + 1) a' fr'.length)
      obtain ⟨q1, q2, q3⟩ := wr_go h2 ((l.turn + 1) % 2) (sup (l.turn + 1) a' fr'.length) (by omega) h4
      rw [e]
      generalize Dk.sy s = s1 at *
      generalize Dk.wr s1 (((l.turn + 1) % 2 : Nat) : Int) 256 (sup (l.turn + 1) a' fr'.length) = s2 at *
      rw [g2, List.nil_append] at q2
      rcases live_sy h5 with ⟨h6, h7, h8⟩ | h6
      · obtain ⟨p1, p2, p3⟩ := sy_go h5 h6
        refine .inl ⟨h6, h7, h8, (Dk.sy_n _).trans (n2.trans n1), ?_⟩
        show (Dk.sy s2).good = _
        rw [p1, q2, q1, g1]
        rfl
      · obtain ⟨p1, p2⟩ := sy_fail h5 (by rw [h6]; decide)
        refine .inr ⟨h6, (Dk.sy_n _).trans (n2.trans n1), fun f => ?_⟩
        show Dur k l.turn a fr (Dk.cr (Dk.sy s2) f) ∨ Dur k (l.turn + 1) a' fr' (Dk.cr (Dk.sy s2) f)
        have hcg : (Dk.cr (Dk.sy s2) f).good = crash s1.good [((l.turn + 1) % 2, sup (l.turn + 1) a' fr'.length)] f := by
          show crash (Dk.sy s2).good (Dk.sy s2).loose f = _
          rw [p1, p2, q2, q1]
        cases f with
        | nil => exact .inl (hd1.of (by rw [hcg]; rfl) (fun p hp => by cases hp))
        | cons c f =>
          have hcg2 : (Dk.cr (Dk.sy s2) (c :: f)).good = lay s1.good ((l.turn + 1) % 2, sup (l.turn + 1) a' fr'.length) (size c) := by
            rw [hcg]
            unfold crash
            simp [List.zip]
          rcases size_lt c with hc | hc
          · right
            refine hd1.next ha hl ht (by rw [g1]; exact hag) ?_ rfl
            have hfr : front (sup (l.turn + 1) a' fr'.length) (s1.good ((l.turn + 1) % 2)) 256 = sup (l.turn + 1) a' fr'.length := by
              unfold front
              rw [List.take_of_length_le (Nat.le_of_eq (sup_length _ _ _)), List.drop_eq_nil_of_le (Nat.le_of_eq (hd1.lens _)), List.append_nil]
            rw [hcg2, hc]
            show put s1.good ((l.turn + 1) % 2) (front (sup (l.turn + 1) a' fr'.length) (s1.good ((l.turn + 1) % 2)) 256) = _
            rw [hfr]
          · exact .inl (hd1.torn hc hcg2 rfl)
    · have e := stamp1 (l := l) (a := a') (tail := fr'.length) h1 (by rw [h4]; decide)
      obtain ⟨q1, q2⟩ := wr_fail h2 ((l.turn + 1) % 2) (sup (l.turn + 1) a' fr'.length) (by omega) (by rw [h4]; decide)
      rw [e]
      exact .inr ⟨h4, (Dk.wr_n _ _ _ _).trans n1, fun f => .inl ((hd1.same q1 q2).cr f)⟩
  · have e := stamp0 (l := l) (a := a') (tail := fr'.length) (by rw [h1]; decide)
    rw [e]
    exact .inr ⟨h1, Dk.sy_n s, fun f => .inl (hd.sy.cr f)⟩
theorem stamp_len (l : St) (s : Dk.St) (a n : Nat) : (stamp l s a n).2.loose.length ≤ s.loose.length + 1 := by
  have h1 := Dk.sy_length s
  have h2 := Dk.wr_length (Dk.sy s) (((l.turn + 1) % 2 : Nat) : Int) 256 (sup (l.turn + 1) a n)
  have h3 := Dk.sy_length (Dk.wr (Dk.sy s) (((l.turn + 1) % 2 : Nat) : Int) 256 (sup (l.turn + 1) a n))
  unfold stamp
  split
  · show (Dk.sy s).loose.length ≤ _; omega
  · simp only []
    split
    · show (Dk.wr (Dk.sy s) _ 256 _).loose.length ≤ _; omega
    · show (Dk.sy (Dk.wr (Dk.sy s) _ 256 _)).loose.length ≤ _; omega
theorem gd_cut {l : St} {s : Dk.St} (h : Gd l s) {s' : Dk.St} (hd : Dur l.k l.turn l.area (frames (l.rows.take l.sure)) s') (hs : s'.loose = []) (hdd : s'.dead = false) (hn : s'.n = s.n) : Gd { l with rows := l.rows.take l.sure, sure := (l.rows.take l.sure).length } s' :=
  ⟨h.err, hdd, by show Dur l.k l.turn l.area (frames ((l.rows.take l.sure).take (l.rows.take l.sure).length)) _; rw [List.take_length]; exact hd, hd.rd, by rw [hn]; exact h.n⟩
/-- A record, on a disk that may fail. -/
theorem gd_ap2 {l : St} {s : Dk.St} (h : Gd l s) (ho : Ok l) (b : Bs) (h1 : b.length ≤ 16384) (h2 : (hv l).length + (8 + b.length) ≤ 256 * l.k) :
    ∃ s', s'.n = s.n ∧ s'.loose.length ≤ s.loose.length + 66 ∧ ((ap l s b = (0, { l with rows := l.rows ++ [b] }, s') ∧ Gd { l with rows := l.rows ++ [b] } s') ∨ (ap l s b = (30, { l with err := 30 }, s') ∧ ∀ f, Gd { l with rows := l.rows.take l.sure, sure := (l.rows.take l.sure).length } (Dk.cr s' f))) := by
  obtain ⟨first, hf⟩ : ∃ f, (hv l).length / 256 = f := ⟨_, rfl⟩
  obtain ⟨fr, hfr⟩ : ∃ f, hv l ++ frame b = f := ⟨_, rfl⟩
  have hfl : fr.length = (hv l).length + (8 + b.length) := by rw [← hfr, List.length_append, frame_length]
  have hin := at_lt h ho.area ho.area
  have hnc : first + nch (fr.drop (256 * first)) ≤ l.k := by unfold nch; rw [List.length_drop]; omega
  have hn66 : nch (fr.drop (256 * first)) ≤ 66 := by unfold nch; rw [List.length_drop]; omega
  have hw := wst_live h.dead (2 + l.area * l.k + first) (fr.drop (256 * first)) (nch (fr.drop (256 * first))) (by omega)
  have hhv : hv { l with rows := l.rows ++ [b] } = fr := by rw [← hfr]; exact frames_snoc _ _
  obtain ⟨x, hx⟩ := sure_front l
  have hdur := h.dur.wst (2 + l.area * l.k + first) (fr.drop (256 * first)) (by omega) (nch (fr.drop (256 * first))) (fun j _ => by
      have h3 := fits_wl (2 + l.area * l.k) first fr j
      rw [← hfr, hx, List.append_assoc] at h3
      have h4 := fits_front h3
      rw [← List.append_assoc, ← hx, hfr] at h4
      exact h4)
  have hln := wst_length s (2 + l.area * l.k + first) (fr.drop (256 * first)) (nch (fr.drop (256 * first)))
  have hnn := wst_n s (2 + l.area * l.k + first) (fr.drop (256 * first)) (nch (fr.drop (256 * first)))
  have e : ap l s b = if (wst s (2 + l.area * l.k + first) (fr.drop (256 * first)) (nch (fr.drop (256 * first)))).1 ≠ 0 then ((wst s (2 + l.area * l.k + first) (fr.drop (256 * first)) (nch (fr.drop (256 * first)))).1, { l with err := (wst s (2 + l.area * l.k + first) (fr.drop (256 * first)) (nch (fr.drop (256 * first)))).1 }, (wst s (2 + l.area * l.k + first) (fr.drop (256 * first)) (nch (fr.drop (256 * first)))).2) else (0, { l with rows := l.rows ++ [b] }, (wst s (2 + l.area * l.k + first) (fr.drop (256 * first)) (nch (fr.drop (256 * first)))).2) := by
    unfold ap
    rw [if_neg (by rw [h.err]; exact fun h => h rfl), if_neg (by omega), if_neg (by omega)]
    simp only [hf, hfr]
  generalize wst s (2 + l.area * l.k + first) (fr.drop (256 * first)) (nch (fr.drop (256 * first))) = r at *
  refine ⟨r.2, hnn, by omega, ?_⟩
  rw [e]
  rcases hw with ⟨w1, w2, w3, w4⟩ | w1
  · left
    rw [if_neg (fun hh => hh w1)]
    refine ⟨rfl, h.err, w2, ?_, ?_, by rw [hnn]; exact h.n⟩
    · show Dur l.k l.turn l.area (frames ((l.rows ++ [b]).take l.sure)) _
      rw [List.take_append_of_le_length ho.sure]
      exact hdur
    · show Agree (over r.2.good r.2.loose) _ _
      rw [w3, w4, hhv, over_append]
      refine agree_all _ _ _ _ (fun i hi hlt => ?_)
      have := h.all i (by omega)
      rw [← hfr, List.getElem?_append, if_pos (by omega)]
      exact this
  · right
    rw [if_pos (by rw [w1]; decide), w1]
    exact ⟨rfl, fun f => gd_cut h (hdur.cr f) rfl rfl hnn⟩
/-- A sync, on a disk that may fail. -/
theorem gd_sy2 {l : St} {s : Dk.St} (h : Gd l s) (ho : Ok l) (ht : l.turn + 1 < 4611686018427387904) :
    ∃ s', s'.n = s.n ∧ ((∃ T, sy l s = (0, { l with turn := T, sure := l.rows.length }, s') ∧ Gd { l with turn := T, sure := l.rows.length } s' ∧ T ≤ l.turn + 1 ∧ s'.loose.length ≤ s.loose.length) ∨
      (sy l s = (30, { l with err := 30 }, s') ∧ ∀ f, Gd { l with rows := l.rows.take l.sure, sure := (l.rows.take l.sure).length } (Dk.cr s' f) ∨ Gd { l with turn := l.turn + 1, sure := l.rows.length } (Dk.cr s' f))) := by
  by_cases hs : l.sure = l.rows.length
  · refine ⟨s, rfl, .inl ⟨l.turn, ?_, ?_, by omega, Nat.le_refl _⟩⟩
    · unfold sy
      rw [if_neg (by rw [h.err]; exact fun h => h rfl), if_pos hs, ← hs]
    · have e : ({ l with turn := l.turn, sure := l.rows.length } : St) = l := by rw [← hs]
      rw [e]; exact h
  · have hst := stamp_crash (l := l) (fr' := hv l) h.dur h.dead (by have := h.n; omega) ho.area ho.fit ht h.all
    have hd := h.dur.sy
    have e : sy l s = if (stamp l s l.area (hv l).length).1 ≠ 0 then ((stamp l s l.area (hv l).length).1, { l with err := (stamp l s l.area (hv l).length).1 }, (stamp l s l.area (hv l).length).2) else (0, { l with turn := l.turn + 1, sure := l.rows.length }, (stamp l s l.area (hv l).length).2) := by
      unfold sy
      rw [if_neg (by rw [h.err]; exact fun h => h rfl), if_neg hs]
    generalize stamp l s l.area (hv l).length = r at *
    rw [e]
    rcases hst with ⟨w1, w2, w3, w4, w5⟩ | ⟨w1, w2, w3⟩
    · refine ⟨r.2, w4, .inl ⟨l.turn + 1, by rw [if_neg (fun hh => hh w1)], ⟨h.err, w2, ?_, ?_, by rw [w4]; exact h.n⟩, Nat.le_refl _, by rw [w3]; exact Nat.zero_le _⟩⟩
      · show Dur l.k (l.turn + 1) l.area (frames (l.rows.take l.rows.length)) _
        rw [List.take_length]
        have hd0 : Dur l.k l.turn l.area (frames (l.rows.take l.sure)) { s with good := over s.good s.loose, loose := [] } := by
          have h3 := (h.dur.same (s' := { s with fails := false }) rfl rfl).sy
          rw [(calm_sy (s := { s with fails := false }) ⟨h.dead, rfl⟩).2] at h3
          exact h3.same rfl rfl
        exact hd0.next ho.area ho.fit ht h.all w5 w3
      · intro i hi
        show (over r.2.good r.2.loose (2 + l.area * l.k + i / 256))[_]? = _
        rw [w3, w5]
        show (put (over s.good s.loose) ((l.turn + 1) % 2) _ (2 + l.area * l.k + i / 256))[_]? = _
        rw [Dk.put_other _ _ (by omega)]
        exact h.all i hi
    · refine ⟨r.2, w2, .inr ⟨by rw [if_pos (by rw [w1]; decide), w1], fun f => ?_⟩⟩
      rcases w3 f with hh | hh
      · exact .inl (gd_cut h hh rfl rfl w2)
      · right
        refine ⟨h.err, rfl, ?_, hh.rd, by show 2 + 2 * l.k ≤ r.2.n; rw [w2]; exact h.n⟩
        show Dur l.k (l.turn + 1) l.area (frames (l.rows.take l.rows.length)) _
        rw [List.take_length]
        exact hh
/-- A compaction, on a disk that may fail. -/
theorem gd_cp2 {l : St} {s : Dk.St} (h : Gd l s) (ho : Ok l) (ht : l.turn + 1 < 4611686018427387904) (rs : List Bs) (h1 : ∀ r ∈ rs, r.length ≤ 16384) (h2 : (frames rs).length ≤ 256 * l.k) :
    ∃ s', s'.n = s.n ∧ ((cp l s rs = (0, { l with turn := l.turn + 1, area := 1 - l.area, rows := rs, sure := rs.length }, s') ∧ Gd { l with turn := l.turn + 1, area := 1 - l.area, rows := rs, sure := rs.length } s' ∧ s'.loose = []) ∨
      (cp l s rs = (30, { l with err := 30 }, s') ∧ s'.loose.length ≤ s.loose.length + l.k + 1 ∧ ∀ f, Gd { l with rows := l.rows.take l.sure, sure := (l.rows.take l.sure).length } (Dk.cr s' f) ∨ Gd { l with turn := l.turn + 1, area := 1 - l.area, rows := rs, sure := rs.length } (Dk.cr s' f))) := by
  have ha := ho.area
  have hin := at_lt h ho.area (show 1 - l.area < 2 by omega)
  have hnc : nch (frames rs) ≤ l.k := by unfold nch; omega
  have hw := wst_live h.dead (2 + (1 - l.area) * l.k) (frames rs) (nch (frames rs)) (by omega)
  have hd1 := h.dur.wst (2 + (1 - l.area) * l.k) (frames rs) (by omega) (nch (frames rs)) (fun j hj i hi e => by
    have e : 2 + l.area * l.k + i / 256 = 2 + (1 - l.area) * l.k + j := e
    have hl := h.dur.len
    have : i / 256 < l.k := by omega
    rcases (show l.area = 0 ∨ l.area = 1 by omega) with hh | hh <;> rw [hh] at e <;> omega)
  have hln := wst_length s (2 + (1 - l.area) * l.k) (frames rs) (nch (frames rs))
  have hnn := wst_n s (2 + (1 - l.area) * l.k) (frames rs) (nch (frames rs))
  have hne : ¬ ∃ r ∈ rs, 16384 < r.length := fun ⟨r, h3, h4⟩ => by have := h1 r h3; omega
  obtain ⟨q, hq⟩ : ∃ q, wst s (2 + (1 - l.area) * l.k) (frames rs) (nch (frames rs)) = q := ⟨_, rfl⟩
  have e : cp l s rs = if q.1 ≠ 0 then (q.1, { l with err := q.1 }, q.2) else if (stamp l q.2 (1 - l.area) (frames rs).length).1 ≠ 0 then ((stamp l q.2 (1 - l.area) (frames rs).length).1, { l with err := (stamp l q.2 (1 - l.area) (frames rs).length).1 }, (stamp l q.2 (1 - l.area) (frames rs).length).2) else (0, { l with turn := l.turn + 1, area := 1 - l.area, rows := rs, sure := rs.length }, (stamp l q.2 (1 - l.area) (frames rs).length).2) := by
    unfold cp
    rw [if_neg (by rw [h.err]; exact fun h => h rfl), if_neg hne, if_neg (by omega)]
    simp only [hq]
  rw [hq] at hw hd1 hln hnn
  rw [e]
  rcases hw with ⟨w1, w2, w3, w4⟩ | w1
  · rw [if_neg (fun hh => hh w1)]
    have hag : Agree (over q.2.good q.2.loose) (2 + (1 - l.area) * l.k) (frames rs) := by
      rw [w3, w4, over_append]
      have := agree_all (2 + (1 - l.area) * l.k) 0 (frames rs) (over s.good s.loose) (fun i _ h => by omega)
      simpa using this
    have hst := stamp_crash (l := l) (fr' := frames rs) hd1 w2 (by rw [hnn]; have := h.n; omega) (show 1 - l.area < 2 by omega) h2 ht hag
    have hsl := stamp_len l q.2 (1 - l.area) (frames rs).length
    generalize stamp l q.2 (1 - l.area) (frames rs).length = r at *
    rcases hst with ⟨v1, v2, v3, v4, v5⟩ | ⟨v1, v2, v3⟩
    · refine ⟨r.2, v4.trans hnn, .inl ⟨by rw [if_neg (fun hh => hh v1)], ⟨h.err, v2, ?_, ?_, by rw [v4, hnn]; exact h.n⟩, v3⟩⟩
      · show Dur l.k (l.turn + 1) (1 - l.area) (frames (rs.take rs.length)) _
        rw [List.take_length]
        have hd0 : Dur l.k l.turn l.area (frames (l.rows.take l.sure)) { q.2 with good := over q.2.good q.2.loose, loose := [] } := by
          have h3 := (hd1.same (s' := { q.2 with fails := false }) rfl rfl).sy
          rw [(calm_sy (s := { q.2 with fails := false }) ⟨w2, rfl⟩).2] at h3
          exact h3.same rfl rfl
        exact hd0.next (by omega) h2 ht hag v5 v3
      · intro i hi
        show (over r.2.good r.2.loose (2 + (1 - l.area) * l.k + i / 256))[_]? = _
        rw [v3, v5]
        show (put (over q.2.good q.2.loose) ((l.turn + 1) % 2) _ (2 + (1 - l.area) * l.k + i / 256))[_]? = _
        rw [Dk.put_other _ _ (by omega)]
        exact hag i hi
    · refine ⟨r.2, v2.trans hnn, .inr ⟨by rw [if_pos (by rw [v1]; decide), v1], by omega, fun f => ?_⟩⟩
      rcases v3 f with hh | hh
      · exact .inl (gd_cut h hh rfl rfl (v2.trans hnn))
      · right
        refine ⟨h.err, rfl, ?_, hh.rd, by show 2 + 2 * l.k ≤ r.2.n; rw [v2, hnn]; exact h.n⟩
        show Dur l.k (l.turn + 1) (1 - l.area) (frames (rs.take rs.length)) _
        rw [List.take_length]
        exact hh
  · rw [if_pos (by rw [w1]; decide), w1]
    exact ⟨q.2, hnn, .inr ⟨rfl, by omega, fun f => .inl (gd_cut h (hd1.cr f) rfl rfl hnn)⟩⟩
end Wl
end Go.Proofs.Ytnhegnncmjmafaa
