/-
  The program's table and the document's, side by side: what carries both.
-/
import Derived.Test.YtdihkbkcefjeoaaSrF
import Derived.Test.YtdihkbkcefjeoaaOpenSc
namespace Go.Proofs.Ytdihkbkcefjeoaa
open Go.RowKit Go.BigFrame
set_option linter.unusedVariables false
set_option linter.unusedSimpArgs false

/-- The document's table stands in the block bw. -/
structure RfAt (w : World) (bw : Nat) (s : Sc.Tb) (A : Option Addr) (c : Nat) : Prop where
  row : Row w bw 30 [.int .i64 s.limit, .int .i64 s.hold, .slice A s.ps.length c]
  own : w.ownsRow 0 42 2 (.slice A s.ps.length c) s.ps.length (pcells s.ps)
section
variable {w w' : World} {bw g b : Nat} {s s' : Sc.Tb} {A : Option Addr} {c : Nat} {ps : List (Int × Int)}
theorem RfAt.later (h : RfAt w bw s A c) (hk : Keeps (fun _ => False) w w') : RfAt w' bw s A c := ⟨h.row.keeps hk id, hk.owns h.own (fun _ _ => id)⟩
theorem RfAt.turn (h : RfAt w bw s A c) (hm : PMap w b ps) (hk : Keeps (fun k => k = b) w w') : RfAt w' bw s A c :=
  ⟨h.row.keeps hk (fun e => hm.apart h.row e.symm), hk.owns h.own (fun k hv e => by
    obtain ⟨cur, hc, _⟩ := own_block h.own k hv
    exact hm.apart hc e.symm)⟩
theorem RfAt.put {A' : Option Addr} {c' : Nat} (h : RfAt w bw s A c) (ho : w.ownsRow 0 42 2 (.slice A' s'.ps.length c') s'.ps.length (pcells s'.ps)) :
    RfAt (w.setRow bw (tcs s'.limit s'.hold A' s'.ps.length c')) bw s' A' c' ∧ Keeps (fun k => k = bw) w (w.setRow bw (tcs s'.limit s'.hold A' s'.ps.length c')) := by
  have hk := Keeps.setRow (w := w) bw (tcs s'.limit s'.hold A' s'.ps.length c')
  have hr : Row (w.setRow bw (tcs s'.limit s'.hold A' s'.ps.length c')) bw 30 [.int .i64 s'.limit, .int .i64 s'.hold, .slice A' s'.ps.length c'] := setRow_heap _ _ _ _ _ _ h.row
  exact ⟨⟨hr, hk.owns ho (fun k hv e => own_apart ho h.row (by decide) k hv e)⟩, hk⟩
theorem TabAt.aside (h : TabAt w g b s) (hr : Row w bw 30 (tcs 0 0 A 0 c).toList ∨ ∃ xs, Row w bw 30 xs) (hk : Keeps (fun k => k = bw) w w') : TabAt w' g b s := by
  have hr2 : ∃ xs, Row w bw 30 xs := by
    rcases hr with h | h
    · exact ⟨_, h⟩
    · exact h
  obtain ⟨xs, hr2⟩ := hr2
  refine h.keeps hk (fun e => ?_) (fun e => h.map.apart hr2 e)
  subst e
  have h1 := h.row
  unfold Row at h1 hr2
  rw [h1] at hr2
  injection hr2 with hr2
  injection hr2 with _ h3
  exact absurd h3 (by decide)
end
end Go.Proofs.Ytdihkbkcefjeoaa
