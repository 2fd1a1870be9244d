/-
  What is told of the program's gossip: contracts, of whatever code keeps them. At w F g t: one that stands as t lies at g, its blocks are F.
-/
import Derived.Test.YtmhbfchhooggjaaGoF
namespace Go.Proofs.Ytmhbfchhooggjaa
open Go.RowKit Go.BigFrame
set_option linter.unusedVariables false

structure Goss (At : World → (Nat → Prop) → Nat → Gp.G → Prop) : Prop where
  ok : ∀ {w F g t}, At w F g t → Gp.G.Ok t
  lt : ∀ {w F g t}, At w F g t → ∀ b, F b → b < w.heap.size
  keeps : ∀ {w w' S F g t}, At w F g t → Keeps S w w' → (∀ b, S b → ¬ F b) → At w' F g t
  new_on : ∀ (w : World) (me many fan : Nat) (s : BitVec 64), Gp.In me many fan →
    Calls Try.prog 8 #[.int .i64 (me : Int), .int .i64 (many : Int), .int .i64 (fan : Int), .int .u64 (di s)] w fun e w' => ∃ g F, e = .returned (.tuple #[.pointer (some ⟨g, 0, none⟩), .int .i64 0]) ∧ At w' F g ⟨me, many, fan, s, []⟩ ∧ (∀ b, F b → w.heap.size ≤ b) ∧ Keeps (fun _ => False) w w'
  new_off : ∀ (w : World) (me many fan : Int) (s : BitVec 64), ¬ Gp.In me many fan →
    Calls Try.prog 8 #[.int .i64 me, .int .i64 many, .int .i64 fan, .int .u64 (di s)] w fun e w' => e = .returned (.tuple #[.pointer none, .int .i64 1]) ∧ Keeps (fun _ => False) w w'
  round : ∀ {w F g t} (A : Option Addr) (n c : Nat) (l : List Int), At w F g t → Src w A (ivs l) → l.length = n → n ≤ c → c ≤ 9223372036854775807 → (A = none → c = 0) → (∀ ad, A = some ad → 0 < n → ¬ F ad.block) → n ≤ 1000 →
    Calls Try.prog 10 #[.pointer (some ⟨g, 0, none⟩), .slice A n c] w fun e w' => ∃ F' A' c', e = .returned (.slice A' (Gp.round t l).2.length c') ∧ At w' F' g (Gp.round t l).1 ∧ w'.ownsRow w.heap.size 3 1 (.slice A' (Gp.round t l).2.length c') (Gp.round t l).2.length (ivs (Gp.round t l).2) ∧
      (∀ b, F' b → F b ∨ w.heap.size ≤ b) ∧ (∀ ad, A' = some ad → ¬ F' ad.block) ∧ Keeps F w w'
  flood : ∀ {w F g t} (qk : List UInt8) (A : Option Addr) (n c : Nat) (l : List Int) (but : Int), At w F g t → qk.length = 32 → Src w A (ivs l) → l.length = n → n ≤ c → c ≤ 9223372036854775807 → (A = none → c = 0) → (∀ ad, A = some ad → 0 < n → ¬ F ad.block) → n ≤ 1000 → (Lit.int .i64 but).wf = true →
    Calls Try.prog 13 #[.pointer (some ⟨g, 0, none⟩), .agg (bvs qk).toArray, .slice A n c, .int .i64 but] w fun e w' => ∃ F' A' c', e = .returned (.slice A' (Gp.flood t qk l but).2.length c') ∧ At w' F' g (Gp.flood t qk l but).1 ∧ w'.ownsRow w.heap.size 3 1 (.slice A' (Gp.flood t qk l but).2.length c') (Gp.flood t qk l but).2.length (ivs (Gp.flood t qk l but).2) ∧
      (∀ b, F' b → F b ∨ w.heap.size ≤ b) ∧ (∀ ad, A' = some ad → ¬ F' ad.block) ∧ Keeps F w w'
  seen : ∀ {w F g t} (qk : List UInt8), At w F g t → qk.length = 32 →
    Calls Try.prog 15 #[.pointer (some ⟨g, 0, none⟩), .agg (bvs qk).toArray] w fun e w' => e = .returned (.bool (decide (qk ∈ t.told))) ∧ Keeps (fun _ => False) w w'
  round_none : ∀ (w : World) (A : Option Addr) (n c : Nat), Calls Try.prog 10 #[.pointer none, .slice A n c] w fun e w' => ∃ A' c', e = .returned (.slice A' 0 c') ∧ Keeps (fun _ => False) w w'
  flood_none : ∀ (w : World) (qk : List UInt8) (A : Option Addr) (n c : Nat) (but : Int), qk.length = 32 → Calls Try.prog 13 #[.pointer none, .agg (bvs qk).toArray, .slice A n c, .int .i64 but] w fun e w' => ∃ A' c', e = .returned (.slice A' 0 c') ∧ Keeps (fun _ => False) w w'
  seen_none : ∀ (w : World) (qk : List UInt8), qk.length = 32 → Calls Try.prog 15 #[.pointer none, .agg (bvs qk).toArray] w fun e w' => e = .returned (.bool false) ∧ Keeps (fun _ => False) w w'
/-- The law's own first check. -/
abbrev Awake21 : Prop := ∀ w : World, Calls Try.prog 7 #[] w fun e w' => e = .returned (.bool true) ∧ Keeps (fun _ => False) w w'
/-- Hashes that begin with a byte, as the laws write them. -/
def hb (x : UInt8) : List UInt8 := x :: List.replicate 31 0
theorem hb_ok (x : UInt8) : (hb x).length = 32 := by simp [hb]
theorem hb_inj {x y : UInt8} : hb x = hb y ↔ x = y := by simp [hb]
theorem build_hb (x : UInt8) (V : World) : (Instr.build 36 #[(0, .int .u8 (x.toNat : Int))]).run Try.prog V = .ok (.agg (bvs (hb x)).toArray) V := by kernel_rfl
end Go.Proofs.Ytmhbfchhooggjaa
