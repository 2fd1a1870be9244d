/-
  How many the others are; what is picked of them. No number of any translation stands here.
-/
import Derived.Test.YtmhbfchhooggjaaGoM
namespace Go.Proofs.Ytmhbfchhooggjaa
set_option linter.unusedVariables false

namespace Gp
/-- All but one, in their order. -/
def rng (many me : Nat) : List Int := ((List.range many).filter (fun k => !decide (k = me))).map (fun k : Nat => (k : Int))
theorem mem_rng {many me : Nat} {x : Int} : x ∈ rng many me ↔ 0 ≤ x ∧ x < many ∧ x ≠ me := by
  unfold rng
  rw [List.mem_map]
  constructor
  · rintro ⟨k, hk, rfl⟩
    rw [List.mem_filter, List.mem_range] at hk
    have h2 : k ≠ me := by simpa using hk.2
    omega
  · rintro ⟨h1, h2, h3⟩
    refine ⟨x.toNat, ?_, by omega⟩
    rw [List.mem_filter, List.mem_range]
    refine ⟨by omega, ?_⟩
    have : x.toNat ≠ me := by omega
    simpa using this
theorem rng_nodup (many me : Nat) : (rng many me).Nodup := by
  unfold rng
  refine List.Pairwise.map _ (fun a b h => ?_) (List.Pairwise.filter _ List.nodup_range)
  intro e
  exact h (by omega)
theorem rng_length (many me : Nat) (h : me < many) : (rng many me).length = many - 1 := by
  unfold rng
  rw [List.length_map]
  have : ∀ n, ((List.range n).filter (fun k => !decide (k = me))).length = if me < n then n - 1 else n := by
    intro n
    induction n with
    | zero => rfl
    | succ n ih =>
      rw [List.range_succ, List.filter_append, List.length_append, ih]
      by_cases hn : n = me
      · subst hn; simp
      · have : List.filter (fun k => !decide (k = me)) [n] = [n] := by simp [hn]
        rw [this]
        simp only [List.length_singleton]
        split <;> split <;> omega
  rw [this, if_pos h]
theorem nodup_le {l m : List Int} (hn : l.Nodup) (h : ∀ x ∈ l, x ∈ m) : l.length ≤ m.length := List.Nodup.length_le_of_subset hn h
theorem mem_oth2 {g : G} {l : List Int} {but x : Int} : x ∈ oth g l but ↔ x ∈ l ∧ 0 ≤ x ∧ x < g.many ∧ x ≠ g.me ∧ x ≠ but := by
  rw [mem_oth]
  simp [can]
theorem oth_few (g : G) (h : g.me < g.many) (l : List Int) (but : Int) : (oth g l but).length ≤ g.many - 1 := by
  rw [← rng_length g.many g.me h]
  exact nodup_le (oth_nodup g l but) fun x hx => by
    obtain ⟨_, h1, h2, h3, _⟩ := mem_oth2.1 hx
    exact mem_rng.2 ⟨h1, h2, h3⟩
/-- Of a row that has all of them. -/
theorem oth_full (g : G) (h : g.me < g.many) (l : List Int) (but : Int) (hb : but < 0) (hl : ∀ k : Nat, k < g.many → (k : Int) ∈ l) : (oth g l but).length = g.many - 1 := by
  refine Nat.le_antisymm (oth_few g h l but) ?_
  rw [← rng_length g.many g.me h]
  refine nodup_le (rng_nodup _ _) fun x hx => ?_
  obtain ⟨h1, h2, h3⟩ := mem_rng.1 hx
  obtain ⟨k, rfl⟩ : ∃ k : Nat, x = k := ⟨x.toNat, by omega⟩
  exact mem_oth2.2 ⟨hl k (by omega), h1, h2, h3, by omega⟩
theorem pick_nodup {s : BitVec 64} {l : List Int} {many : Int} (h : l.Nodup) : (Di.pick s l many).out.Nodup := by
  have hp := (Di.pick_perm s l many).nodup_iff.2 h
  exact (List.nodup_append.1 hp).1
theorem pick_mem {s : BitVec 64} {l : List Int} {many x : Int} (h : x ∈ (Di.pick s l many).out) : x ∈ l :=
  (Di.pick_perm s l many).mem_iff.1 (List.mem_append.2 (.inl h))
/-- What a round tells: so many, others, each once. -/
theorem round_length (g : G) (l : List Int) : (round g l).2.length = min g.fan (oth g l (-1)).length := by
  show (Di.pick _ _ _).out.length = _
  rw [Di.pick_length]
  omega
theorem round_mem {g : G} {l : List Int} {x : Int} (h : x ∈ (round g l).2) : x ∈ oth g l (-1) := pick_mem h
theorem round_nodup (g : G) (l : List Int) : (round g l).2.Nodup := pick_nodup (oth_nodup g l (-1))
theorem oth_same (g h : G) (e1 : g.me = h.me) (e2 : g.many = h.many) (l : List Int) (but : Int) : oth g l but = oth h l but := by
  unfold oth can
  rw [e1, e2]
end Gp
end Go.Proofs.Ytmhbfchhooggjaa
