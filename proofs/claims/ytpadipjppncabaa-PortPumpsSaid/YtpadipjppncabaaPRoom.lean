/- How many bytes of a port find room in another. -/
import Derived.Test.YtpadipjppncabaaPAt
import Derived.LaidEqlPtr
set_option linter.unusedSimpArgs false
set_option linter.unusedVariables false
namespace Go.Proofs.Ytpadipjppncabaa
open Go.RowKit Go.Conc M

theorem infoPort : (Try.prog.info? 63).map (·.size) = some 2 := by kernel_rfl
def roomOf (cl : Bool) (p f cap n : Nat) : Int := if cl then 0 else if p = f then n else cap - n
set_option maxRecDepth 100000 in
set_option maxHeartbeats 3200000 in
theorem room_any (p c cap f : Nat) (buf : List Int) (cl : Bool) (w : World) (h : PAt w p c cap buf cl) (cf : Array Value) (hf : Blk w f cf 63) (hb : buf.length ≤ cap) (hcap : cap ≤ 4096) :
    Calls Try.prog 31 #[ptr p, ptr f] w fun e w' => e = .returned (.int .i64 (roomOf cl p f cap buf.length)) ∧ Only Nil w w' := by
  obtain ⟨j, hj, hj2⟩ := Option.map_eq_some_iff.1 infoPort
  have hsame := run_eql_ptr_same (P := Try.prog) w (⟨p, 0, none⟩ : Addr) Try.underlying25 hj
  have hother : p ≠ f → (binOp .eql 25 (.pointer (some ⟨p, 0, none⟩)) (.pointer (some ⟨f, 0, none⟩))).run Try.prog w = .ok (.bool false) w := fun g =>
    run_eql_ptr_other (P := Try.prog) w Try.underlying25 hj (by rw [hj2]; decide) (fun e => g (by injection e)) h.1 hf
  have cL := load_any p cl w h.c1
  have c0 := h.c0
  have c1 := h.c1
  have hlt := h.1.lt
  obtain ⟨s, r, hc⟩ := h.2.1
  have hlen : ∀ (q : Nat) (ty : TypeId), (Builtin.len_ #[56] ty #[.chan (some c)]).run Try.prog (w.drewN q) = .ok (.int .i64 (buf.length : Nat)) (w.drewN q) := fun q ty => by
    have := run_len_chan (P := Try.prog) (w := w.drewN q) 56 ty Try.underlying56 (show (w.drewN q).heap[c]? = _ from hc)
    rw [this]
    simp [B8, goInt]
  have hcp : ∀ (q : Nat) (ty : TypeId), (Builtin.cap_ #[56] ty #[.chan (some c)]).run Try.prog (w.drewN q) = .ok (.int .i64 (cap : Nat)) (w.drewN q) := fun q ty => by
    have := run_cap_chan (P := Try.prog) (w := w.drewN q) 56 ty Try.underlying56 (show (w.drewN q).heap[c]? = _ from hc)
    rw [this]
    simp [goInt]
  have hlen0 : ∀ (ty : TypeId), (Builtin.len_ #[56] ty #[.chan (some c)]).run Try.prog w = .ok (.int .i64 (buf.length : Nat)) w := fun ty => by
    have := run_len_chan (P := Try.prog) (w := w) 56 ty Try.underlying56 hc
    rw [this]
    simp [B8, goInt]
  obtain ⟨n, hn⟩ : ∃ n, buf.length = n := ⟨_, rfl⟩
  rw [hn] at hlen hlen0 hb ⊢
  clear hc h hn hf hj hj2
  unfold ptr
  cases cl with
  | true =>
    clear hother hsame
    go_enter Try.func31, Try.ntmps31
    go_wp2_with fail
    refine cL.mono ?_
    rintro e w1 ⟨rfl, rfl⟩
    clear cL
    go_wp2_with fail
    go_ret
    exact ⟨rfl, Only.refl _ _⟩
  | false =>
    by_cases g : p = f
    · subst g
      clear hother
      go_enter Try.func31, Try.ntmps31
      go_wp2_with fail
      refine cL.mono ?_
      rintro e w1 ⟨rfl, rfl⟩
      clear cL
      go_wp2_with fail
      go_ret
      exact ⟨by simp [roomOf], Only.refl _ _⟩
    · have hno := hother g
      clear hother hsame
      go_enter Try.func31, Try.ntmps31
      go_wp2_with fail
      refine cL.mono ?_
      rintro e w1 ⟨rfl, rfl⟩
      clear cL
      go_wp2_with fail
      go_quiet (fail)
      go_wp2_with fail
      go_ret
      have h9 : IntKind.i64.wrap ((cap : Int) - (n : Int)) = (cap : Int) - n := by
        unfold IntKind.wrap
        simp [IntKind.bits, IntKind.signed]
        omega
      refine ⟨?_, (Only.refl _ _).drewN _⟩
      have h8 : roomOf false p f cap n = (cap : Int) - n := by simp [roomOf, g]
      rw [h8]
      show Ending.returned (.int .i64 (IntKind.i64.wrap ((cap : Int) - (n : Int)))) = _
      rw [h9]
end Go.Proofs.Ytpadipjppncabaa
