/-
  The contracts once more, as a law wants them: all that a law makes lies from block B on; below B nothing turns.
-/
import Derived.Test.YtgbdedkbkagndaaWrC
import Derived.Test.YtgbdedkbkagndaaRdC
namespace Go.Proofs.Ytgbdedkbkagndaa
open Go.RowKit
set_option linter.unusedVariables false

/-- A Writer at b of xs, all of it from block B on. -/
def WrB (w : World) (B b : Nat) (xs : List UInt8) : Prop := B ≤ b ∧ B ≤ w.heap.size ∧ ∃ r, (∀ k, r = some k → B ≤ k) ∧ Wr w b r xs
/-- A Reader at b of s, all of it from block B on. -/
def RdB (w : World) (B b : Nat) (s : RS) : Prop := B ≤ b ∧ B ≤ w.heap.size ∧ ∃ r, (∀ k, r = some k → B ≤ k) ∧ Rd w b r s

theorem WrB.put {w w' : World} {B b : Nat} {r : Option Nat} {xs : List UInt8} {e : Ending} (hB : B ≤ b) (hw : B ≤ w.heap.size) (hr : ∀ k, r = some k → B ≤ k) (h : WrPut b r xs w e w') :
    e = .returned (.tuple #[]) ∧ WrB w' B b xs ∧ Below B w w' := by
  obtain ⟨he, r', h1, h2, h3⟩ := h
  refine ⟨he, ⟨hB, Nat.le_trans hw h3.size, r', ?_, h1⟩, h3.below hw (fun k hk h => ?_)⟩
  · intro k hk
    rcases h2 with rfl | ⟨q, hq, rfl⟩
    · exact hr k hk
    · injection hk with hk; omega
  · rcases h with h | h
    · omega
    · have := hr k h; omega
theorem Only.belowB {w w' : World} {B b : Nat} (h : Only b w w') (hw : B ≤ w.heap.size) (hB : B ≤ b) : Below B w w' := h.below hw (fun k hk e => by omega)
/-- What an argument leads to is read in each world that is as the law's was below B. -/
theorem Src.later {W w' : World} {A : Option Addr} {xs : List Value} (h : Src W A xs) (hb : Below W.heap.size W w') : Src w' A xs := fun j u hu => by
  obtain ⟨a, e, hc⟩ := h j u hu
  exact ⟨a, e, (hb.cell (World.block_lt_of_cell? W _ hc)).trans hc⟩
theorem Src.keepsB {W w w' : World} {B b : Nat} {r : Option Nat} {A : Option Addr} {xs : List Value} (h : Src W A xs) (hB : B = W.heap.size) (hb : Below B W w) (hbb : B ≤ b) (hw : B ≤ w.heap.size) (hr : ∀ k, r = some k → B ≤ k)
    (hk : Keeps (fun k => k = b ∨ r = some k) w w') : Src w' A xs := by
  subst hB
  exact h.later (hb.trans (hk.below hw (fun k hk h => by
    rcases h with h | h
    · omega
    · have := hr k h; omega)))

/-- The bytes of a number in m bytes. -/
def numB (x m : Int) : List UInt8 := if 1 ≤ m ∧ m ≤ 8 then nb x m.toNat else []

def GotW (B : Nat) (w : World) (e : Ending) (w' : World) : Prop := ∃ b, e = .returned (.pointer (some ⟨b, 0, none⟩)) ∧ WrB w' B b [] ∧ Below B w w'
theorem newWriterB (B : Nat) (w : World) (hB : B ≤ w.heap.size) : Calls Try.prog 10 #[] w (GotW B w) := by
  refine (newWriter_any w).mono ?_
  rintro e w' ⟨rfl, rfl⟩
  exact ⟨w.heap.size, rfl, ⟨hB, by simp; omega, none, (fun _ h => by simp at h), newWriter_wr w⟩, (Below.refl _ _).alloc hB _⟩
theorem wrNumB (B b : Nat) (xs : List UInt8) (x m : Int) (w : World) (h : WrB w B b xs) (hx0 : 0 ≤ x) (hx : xs.length ≤ 99990000) :
    Calls Try.prog 11 #[.pointer (some ⟨b, 0, none⟩), .int .u64 x, .int .i64 m] w fun e w' => e = .returned (.tuple #[]) ∧ WrB w' B b (xs ++ numB x m) ∧ Below B w w' := by
  obtain ⟨h1, h2, r, h3, h4⟩ := h
  by_cases hm : 1 ≤ m ∧ m ≤ 8
  · obtain ⟨n, rfl⟩ := Int.eq_ofNat_of_zero_le (show 0 ≤ m by omega)
    refine (wrNum_ok b r xs x n w h4 hx0 (by omega) (by omega) (by omega)).mono fun e w' h => ?_
    unfold numB
    rw [if_pos hm]
    exact WrB.put h1 h2 h3 h
  · refine (wrNum_bad b x m w (by omega)).mono ?_
    rintro e w' ⟨rfl, rfl⟩
    unfold numB
    rw [if_neg hm, List.append_nil]
    exact ⟨rfl, ⟨h1, h2, r, h3, h4⟩, Below.refl _ _⟩
theorem wrRawB (B b : Nat) (xs ys : List UInt8) (A : Option Addr) (c : Nat) (w : World) (h : WrB w B b xs) (hs : Src w A (bvs ys)) (hx : xs.length + ys.length ≤ 99990000) :
    Calls Try.prog 13 #[.pointer (some ⟨b, 0, none⟩), .slice A ys.length c] w fun e w' => e = .returned (.tuple #[]) ∧ WrB w' B b (xs ++ ys) ∧ Below B w w' := by
  obtain ⟨h1, h2, r, h3, h4⟩ := h
  exact (wrRaw_any b r xs ys A c w h4 hs (by omega)).mono fun e w' h => WrB.put h1 h2 h3 h
/-- Of bytes that came in: W is the world in which the law began. -/
theorem wrBytesB (b : Nat) (xs ys : List UInt8) (A : Option Addr) (c : Nat) (W w : World) (hb : Below W.heap.size W w) (h : WrB w W.heap.size b xs) (hs : Src W A (bvs ys)) (hc : ys.length ≤ c) (hx : xs.length + ys.length ≤ 99980000) (hy : ys.length ≤ 65535) :
    Calls Try.prog 12 #[.pointer (some ⟨b, 0, none⟩), .slice A ys.length c] w fun e w' => e = .returned (.tuple #[]) ∧ WrB w' W.heap.size b (xs ++ (nb ys.length 2 ++ ys)) ∧ Below W.heap.size w w' := by
  obtain ⟨h1, h2, r, h3, h4⟩ := h
  exact (wrBytes_any b r xs ys A c w h4 (fun w' hk => hs.keepsB rfl hb h1 h2 h3 hk) hc (by omega) hy).mono fun e w' h => WrB.put h1 h2 h3 h
theorem wrHashB (B b : Nat) (xs ys : List UInt8) (w : World) (h : WrB w B b xs) (hy : ys.length = 32) (hx : xs.length ≤ 99990000) :
    Calls Try.prog 14 #[.pointer (some ⟨b, 0, none⟩), .agg (bvs ys).toArray] w fun e w' => e = .returned (.tuple #[]) ∧ WrB w' B b (xs ++ ys) ∧ Below B w w' := by
  obtain ⟨h1, h2, r, h3, h4⟩ := h
  exact (wrHash_any b r xs ys w h4 hy hx).mono fun e w' h => WrB.put h1 h2 h3 h
theorem wrOutB (B b : Nat) (xs : List UInt8) (w : World) (h : WrB w B b xs) (hx : xs.length ≤ 99990000) :
    Calls Try.prog 15 #[.pointer (some ⟨b, 0, none⟩)] w (Cloned xs w) := by
  obtain ⟨h1, h2, r, h3, h4⟩ := h
  exact wrOut_any b r xs w h4 (by omega)

def GotR (B : Nat) (xs : List UInt8) (w : World) (e : Ending) (w' : World) : Prop := ∃ b, e = .returned (.pointer (some ⟨b, 0, none⟩)) ∧ RdB w' B b (xs, 0) ∧ Below B w w'
theorem newReaderB (B : Nat) (A : Option Addr) (c : Nat) (xs : List UInt8) (w : World) (hB : B ≤ w.heap.size) (hs : Src w A (bvs xs)) (hx : xs.length ≤ 100000000) :
    Calls Try.prog 18 #[.slice A xs.length c] w (GotR B xs w) := by
  refine (newReader_any A c xs w hs hx).mono ?_
  rintro e w' ⟨b, r, rfl, h1, h2, h3, h4⟩
  have := h4.size
  exact ⟨b, rfl, ⟨by omega, by omega, r, fun k hk => by have := h2 k hk; omega, h3⟩, h4.below hB (fun _ _ => id)⟩
theorem rdNumB (B b : Nat) (n : Int) (s : RS) (w : World) (h : RdB w B b s) :
    Calls Try.prog 19 #[.pointer (some ⟨b, 0, none⟩), .int .i64 n] w fun e w' => e = .returned (.int .u64 (rnum n s).2) ∧ RdB w' B b (rnum n s).1 ∧ Below B w w' ∧ Only b w w' := by
  obtain ⟨h1, h2, r, h3, h4⟩ := h
  refine (rdNum_any b r n s w h4).mono ?_
  rintro e w' ⟨he, h5, h6⟩
  exact ⟨he, ⟨h1, Nat.le_trans h2 h6.size, r, h3, h5⟩, h6.belowB h2 h1, h6⟩
/-- What is told lies in a row of its own. -/
def ToldB (B b : Nat) (p : RS × List UInt8) (w : World) (e : Ending) (w' : World) : Prop :=
  ∃ A c, e = .returned (.slice A p.2.length c) ∧ w'.ownsRow w.heap.size 5 1 (.slice A p.2.length c) p.2.length (bvs p.2) ∧ RdB w' B b p.1 ∧ Below B w w' ∧ Only b w w'
theorem ToldB.of {B b : Nat} {r : Option Nat} {p : RS × List UInt8} {w w' : World} {e : Ending} (h1 : B ≤ b) (h2 : B ≤ w.heap.size) (h3 : ∀ k, r = some k → B ≤ k) (h : Told b r p w e w') : ToldB B b p w e w' := by
  obtain ⟨A, c, he, ho, h5, h6⟩ := h
  exact ⟨A, c, he, ho, ⟨h1, Nat.le_trans h2 h6.size, r, h3, h5⟩, h6.belowB h2 h1, h6⟩
theorem rdRawB (B b : Nat) (n : Int) (s : RS) (w : World) (h : RdB w B b s) (hs : s.1.length ≤ 100000000) :
    Calls Try.prog 21 #[.pointer (some ⟨b, 0, none⟩), .int .i64 n] w (ToldB B b (rraw n s) w) := by
  obtain ⟨h1, h2, r, h3, h4⟩ := h
  exact (rdRaw_any b r n s w h4 hs).mono fun e w' h => ToldB.of h1 h2 h3 h
theorem rdBytesB (B b : Nat) (n : Int) (s : RS) (w : World) (h : RdB w B b s) (hs : s.1.length ≤ 100000000) :
    Calls Try.prog 23 #[.pointer (some ⟨b, 0, none⟩), .int .i64 n] w (ToldB B b (rbytes n s) w) := by
  obtain ⟨h1, h2, r, h3, h4⟩ := h
  exact (rdBytes_any b r n s w h4 hs).mono fun e w' h => ToldB.of h1 h2 h3 h
theorem rdHashB (B b : Nat) (s : RS) (w : World) (h : RdB w B b s) :
    Calls Try.prog 25 #[.pointer (some ⟨b, 0, none⟩)] w fun e w' => e = .returned (.agg (bvs (rhash s).2).toArray) ∧ RdB w' B b (rhash s).1 ∧ Below B w w' ∧ Only b w w' := by
  obtain ⟨h1, h2, r, h3, h4⟩ := h
  refine (rdHash_any b r s w h4).mono ?_
  rintro e w' ⟨he, h5, h6⟩
  exact ⟨he, ⟨h1, Nat.le_trans h2 h6.size, r, h3, h5⟩, h6.belowB h2 h1, h6⟩
theorem rdErrB (B b : Nat) (s : RS) (w : World) (h : RdB w B b s) :
    Calls Try.prog 26 #[.pointer (some ⟨b, 0, none⟩)] w fun e w' => e = .returned (.int .i64 s.2) ∧ w = w' := by
  obtain ⟨h1, h2, r, h3, h4⟩ := h
  exact rdErr_any b r s w h4
theorem rdEndB (B b : Nat) (s : RS) (w : World) (h : RdB w B b s) :
    Calls Try.prog 27 #[.pointer (some ⟨b, 0, none⟩)] w fun e w' => e = .returned (.int .i64 (rend s)) ∧ w = w' := by
  obtain ⟨h1, h2, r, h3, h4⟩ := h
  exact rdEnd_any b r s w h4
theorem RdB.drew {w : World} {B b : Nat} {s : RS} (h : RdB w B b s) : RdB w.drew B b s := h
theorem RdB.later {w w' : World} {B C b : Nat} {s : RS} (h : RdB w B b s) (hb : Below C w w') (hC : w.heap.size ≤ C) : RdB w' B b s := by
  obtain ⟨h1, h2, r, h3, h4⟩ := h
  have hl := h4.lt
  refine ⟨h1, Nat.le_trans h2 hb.size, r, h3, h4.keeps (Keeps.from_below hb) (by omega) (fun k hk => by have := (h4.1 k hk).1; omega)⟩
theorem RdB.lt {w : World} {B b : Nat} {s : RS} (h : RdB w B b s) : b < w.heap.size := by
  obtain ⟨_, _, r, _, h4⟩ := h
  exact h4.lt
/-- A row that was told stays, whatever the Reader reads then. -/
theorem Src.only {w w' : World} {b base : Nat} {e : TypeId} {A : Option Addr} {n c : Nat} {xs : List Value} (h : w.ownsRow base e 1 (.slice A n c) n xs) (hb : b < base) (hk : Only b w w') : Src w' A xs :=
  (Src.of_own h).keeps hk (fun a ha _ e => by
    have := (h.lt a.block (by rw [ha]; rfl)).1
    omega)
theorem WrB.drew {w : World} {B b : Nat} {xs : List UInt8} (h : WrB w B b xs) : WrB w.drew B b xs := h
end Go.Proofs.Ytgbdedkbkagndaa
