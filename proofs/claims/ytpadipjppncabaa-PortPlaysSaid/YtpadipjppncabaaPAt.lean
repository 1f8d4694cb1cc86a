/- A port in memory, and what its operations leave. -/
import Derived.Test.YtpadipjppncabaaPPoll
import Derived.Test.YtpadipjppncabaaPOffer
import Derived.Test.YtpadipjppncabaaGInts
import Derived.Deep.LoopGhost
import Derived.Deep.DeepCutAuto
import Derived.Deep.RegionHeld3
import Derived.Deep.Quiet
import Derived.Deep.QuietTactic
import Derived.Handy
import Derived.Outline
import Derived.KernelRfl
import Derived.Lib.Hide
set_option linter.unusedSimpArgs false
set_option linter.unusedVariables false
namespace Go.Proofs.Ytpadipjppncabaa
open Go.RowKit Go.Conc M

def B8 (l : List Int) : List Value := l.map (Value.int .u8)
theorem B8_len (l : List Int) : (B8 l).length = l.length := by simp [B8]
def Two (p c : Nat) : Nat → Prop := fun k => k = p ∨ k = c
def PAt (w : World) (p c cap : Nat) (buf : List Int) (cl : Bool) : Prop :=
  Blk w p #[.chan (some c), flagV cl] 63 ∧ (∃ s r, w.heap[c]? = some (.chan cap (B8 buf).toArray false s r false)) ∧ p ≠ c
def ptr (p : Nat) : Value := .pointer (some ⟨p, 0, none⟩)
theorem PAt.clt {w : World} {p c cap : Nat} {buf : List Int} {cl : Bool} (h : PAt w p c cap buf cl) : c < w.heap.size := by
  obtain ⟨s, r, h⟩ := h.2.1
  exact (Array.getElem?_eq_some_iff.1 h).1
theorem PAt.kept {S : Nat → Prop} {w w' : World} {p c cap : Nat} {buf : List Int} {cl : Bool} (h : PAt w p c cap buf cl) (ho : Only S w w') (hp : ¬ S p) (hc : ¬ S c) : PAt w' p c cap buf cl := by
  obtain ⟨s, r, h2⟩ := h.2.1
  exact ⟨h.1.kept ho hp, ⟨s, r, (ho.block c h.clt hc).trans h2⟩, h.2.2⟩
theorem PAt.c0 {w : World} {p c cap : Nat} {buf : List Int} {cl : Bool} (h : PAt w p c cap buf cl) : w.cell? ⟨p, 0, none⟩ = some (.chan (some c)) := h.1.cell 0
theorem PAt.c1 {w : World} {p c cap : Nat} {buf : List Int} {cl : Bool} (h : PAt w p c cap buf cl) : w.cell? ⟨p, 1, none⟩ = some (flagV cl) := h.1.cell 1
theorem set_only (w : World) (c cap : Nat) (buf : Array Value) (cl : Bool) (s r : Nat) (tm : Bool) : Only (One c) w (w.setChan c cap buf cl s r tm) :=
  ⟨rfl, rfl, rfl, by rw [size_setChan]; exact Nat.le_refl _, fun k _ hk => by simp only [World.setChan]; rw [Array.getElem?_setIfInBounds_ne (fun h => hk h.symm)]⟩
theorem PAt.setC {w : World} {p c cap : Nat} {buf : List Int} {cl : Bool} (h : PAt w p c cap buf cl) (buf' : List Int) (s r : Nat) : PAt (w.setChan c cap (B8 buf').toArray false s r false) p c cap buf' cl ∧ Only (Two p c) w (w.setChan c cap (B8 buf').toArray false s r false) :=
  ⟨⟨h.1.kept (set_only _ _ _ _ _ _ _ _) (fun e => h.2.2 e), ⟨s, r, heap_setChan w c cap _ false s r false h.clt⟩, h.2.2⟩, (set_only _ _ _ _ _ _ _ _).mono (fun _ e => Or.inr e)⟩
theorem pollS {w : World} {p c cap : Nat} {x : Int} {buf : List Int} {cl : Bool} (h : PAt w p c cap (x :: buf) cl) :
    Calls Try.prog 9 #[ptr p] w fun e w' => e = .returned (.tuple #[.int .u8 x, .bool true]) ∧ PAt w' p c cap buf cl ∧ Only (Two p c) w w' := by
  obtain ⟨s, r, hc⟩ := h.2.1
  refine (poll_some p c cap s r cl (.int .u8 x) (B8 buf) w h.c0 hc).mono ?_
  rintro e w' ⟨rfl, rfl⟩
  exact ⟨rfl, h.setC buf s (r + 1)⟩
theorem pollN {w : World} {p c cap : Nat} {cl : Bool} (h : PAt w p c cap [] cl) :
    Calls Try.prog 9 #[ptr p] w fun e w' => e = .returned (.tuple #[.int .u8 0, .bool false]) ∧ w' = w := by
  obtain ⟨s, r, hc⟩ := h.2.1
  exact poll_none p c cap s r w h.c0 hc
/-- What is offered finds room. -/
def fits (cap : Nat) (buf : List Int) (cl : Bool) : Bool := !cl && decide (buf.length < cap)
theorem offerP {w : World} {p c cap : Nat} {buf : List Int} {cl : Bool} (h : PAt w p c cap buf cl) (x : Int) :
    Calls Try.prog 11 #[ptr p, .int .u8 x] w fun e w' => e = .returned (.bool (fits cap buf cl)) ∧ PAt w' p c cap (if fits cap buf cl then buf ++ [x] else buf) cl ∧ Only (Two p c) w w' := by
  obtain ⟨s, r, hc⟩ := h.2.1
  have h1 := h.c1
  cases cl
  · by_cases g : buf.length < cap
    · have hf : fits cap buf false = true := by simp [fits, g]
      rw [hf]
      refine (offer_room p c cap s r _ (.int .u8 x) w h.c0 h1 hc (by simpa [B8] using g)).mono ?_
      rintro e w' ⟨rfl, rfl⟩
      have e2 : (B8 buf).toArray.push (.int .u8 x) = (B8 (buf ++ [x])).toArray := by simp [B8]
      rw [e2]
      exact ⟨rfl, h.setC (buf ++ [x]) (s + 1) r⟩
    · have hf : fits cap buf false = false := by simp [fits, g]
      rw [hf]
      refine (offer_full p c cap s r _ (.int .u8 x) w h.c0 h1 hc (by simpa [B8] using g)).mono ?_
      rintro e w' ⟨rfl, rfl⟩
      exact ⟨rfl, h, Only.refl _ _⟩
  · refine (offer_shut p c (.int .u8 x) w h.c0 h1).mono ?_
    rintro e w' ⟨rfl, rfl⟩
    exact ⟨rfl, h, Only.refl _ _⟩
theorem closeP {w : World} {p c cap : Nat} {buf : List Int} {cl : Bool} (h : PAt w p c cap buf cl) :
    Calls Try.prog 10 #[ptr p] w fun e w' => e = .returned (.tuple #[]) ∧ PAt w' p c cap buf true ∧ Only (Two p c) w w' := by
  have c1 := store_any p cl w h.c1 (h.1.free 1)
  have hlt := h.1.lt
  obtain ⟨s, r, hc⟩ := h.2.1
  have H := Lib.hid h
  have HC := Lib.hid hc
  clear hc h
  unfold ptr
  go_enter Try.func10, Try.ntmps10
  go_wp2_with fail
  refine c1.mono ?_
  rintro e w' ⟨rfl, rfl⟩
  clear c1
  go_wp2_with fail
  refine bodyPost_end (results_none rfl _ _ _) rfl ?_
  have ho : Only (One p) w (w.setCell ⟨p, 1, none⟩ (flagV true)) := Only.setCell (p := ⟨p, 1, none⟩) (Only.refl (One p) w) (fun _ => (rfl : p = p)) _
  refine ⟨rfl, ⟨H.out.1.setCell 1 (flagV true), ⟨s, r, (ho.block c H.out.clt (fun e => H.out.2.2 e.symm)).trans HC.out⟩, H.out.2.2⟩, (ho.mono (fun _ e => Or.inl e)).drew⟩
theorem stateP {w : World} {p c cap : Nat} {buf : List Int} {cl : Bool} (h : PAt w p c cap buf cl) :
    Calls Try.prog 12 #[ptr p] w fun e w' => e = .returned (.tuple #[.int .i64 (buf.length : Nat), .bool cl]) ∧ Only Nil w w' := by
  have c0 := h.c0
  have c1 := h.c1
  have hlt := h.1.lt
  obtain ⟨s, r, hc⟩ := h.2.1
  have hlen : ∀ (q : Nat) (ty : TypeId), (Builtin.len_ #[56] ty #[.chan (some c)]).run Try.prog (w.drewN q) = .ok (.int .i64 (buf.length : Nat)) (w.drewN q) := fun q ty => by
    have := run_len_chan (P := Try.prog) (w := w.drewN q) 56 ty Try.underlying56 (show (w.drewN q).heap[c]? = _ from hc)
    rw [this]
    simp [B8, goInt]
  clear hc h
  unfold ptr
  go_enter Try.func12, Try.ntmps12
  go_wp2_with fail
  go_quiet ((go_at_call 30; exact Calls.quiet_of_same (load_any p cl _ c1)))
  go_wp2_with fail
  go_ret2
  exact ⟨rfl, (Only.refl _ _).drewN _⟩
theorem infoU8 : (Try.prog.info? 5).map (·.bytes) = some 1 := by kernel_rfl
def capOf (n : Int) : Nat := (min (max n 1) 4096).toNat
theorem newAt (w : World) (N : Nat) : PAt ((w.alloc (.chan N #[] false 0 0 false)).alloc (.cells #[.chan (some w.heap.size), .int .u32 0] 63)) (w.heap.size + 1) w.heap.size N [] false := by
  have hB := Blk.new (w.alloc (.chan N #[] false 0 0 false)) #[.chan (some w.heap.size), .int .u32 0] 63
  rw [World.size_alloc] at hB
  refine ⟨hB, ⟨0, 0, ?_⟩, by omega⟩
  rw [Below.heap_alloc _ _ _ (by simp)]
  exact heap_alloc_new w _
set_option maxRecDepth 100000 in
theorem newP (n : Int) (w : World) :
    Calls Try.prog 8 #[.int .i64 n] w fun e w' => e = .returned (ptr (w.heap.size + 1)) ∧ PAt w' (w.heap.size + 1) w.heap.size (capOf n) [] false ∧ Only Nil w w' := by
  obtain ⟨i, hi, hb⟩ := Option.map_eq_some_iff.1 infoU8
  have hmk := fun (N : Nat) (h : N ≤ 4096) => run_makeChan (P := Try.prog) (w := w) Try.underlying56 hi .i64 N (by omega) (by rw [hb]; omega)
  rcases (show n < 1 ∨ 4096 < n ∨ (1 ≤ n ∧ n ≤ 4096) by omega) with g | g | g
  · have h1 := hmk 1 (by omega)
    have hc : capOf n = 1 := by unfold capOf; omega
    rw [hc]
    simp only [Int.natCast_one] at h1
    clear hmk hi hb hc
    go_enter Try.func8, Try.ntmps8
    go_wp2_with fail
    go_ret
    exact ⟨rfl, newAt w 1, ((Only.refl Nil w).alloc _).alloc _⟩
  · have h1 := hmk 4096 (by omega)
    have hc : capOf n = 4096 := by unfold capOf; omega
    rw [hc]
    have h2 : ((4096 : Nat) : Int) = 4096 := rfl
    rw [h2] at h1
    clear h2
    clear hmk hi hb hc
    go_enter Try.func8, Try.ntmps8
    go_wp2_with fail
    go_ret
    exact ⟨rfl, newAt w 4096, ((Only.refl Nil w).alloc _).alloc _⟩
  · obtain ⟨N, rfl⟩ : ∃ N : Nat, n = N := ⟨n.toNat, by omega⟩
    have h1 := hmk N (by omega)
    have hc : capOf N = N := by unfold capOf; omega
    rw [hc]
    obtain ⟨g1, g2⟩ := g
    clear hmk hi hb hc
    go_enter Try.func8, Try.ntmps8
    go_wp2_with fail
    go_ret
    exact ⟨rfl, newAt w N, ((Only.refl Nil w).alloc _).alloc _⟩
end Go.Proofs.Ytpadipjppncabaa
