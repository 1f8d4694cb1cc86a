/- Regions that draw their order: the class of worlds may be made smaller on the way; four that may come next. One byte as a text. New memory. -/
import Derived.Test.YtbpdhpfcknaaiaaDoorGWait2
import Derived.Test.YtbpdhpfcknaaiaaDoorGInts
import Derived.Laws.BytesArg
set_option linter.unusedSimpArgs false
set_option linter.unusedVariables false
namespace Go

section
variable {P : Program} {ops : Array Oper} {Q : Exit → Act → World → Prop} {md : Region.Mode} {S S' : World → Prop} {T : List Nat}
theorem wpAnyT_sub (h : ∀ w, S' w → S w) : ∀ {fuel : Nat} {listed : Array Bool} {a : Act} {w : World}, wpAnyT P md ops Q S' T fuel listed a w → wpAnyT P md ops Q S T fuel listed a w
  | 0, _, _, _, k => k
  | fuel + 1, _, _, _, k => ⟨k.1, fun i hi => wpOp_mono (fun a' w' h' => ⟨fun ht => h w' (h'.1 ht), wpAnyT_sub h h'.2⟩) (k.2 i hi)⟩
theorem wpAnyT_four {i j k l : Nat} {fuel : Nat} {listed : Array Bool} {a : Act} {w : World} {oi oj ok ol : Oper} (hi : ops[i]? = some oi) (hj : ops[j]? = some oj) (hk : ops[k]? = some ok) (hl : ops[l]? = some ol) (hr : Region.ready md ops listed = [i, j, k, l])
    (ki : ∀ K' : Act → World → Prop, Shut (∀ a w, (T.contains i = false → S w) → wpAnyT P md ops Q S T fuel (listed.setIfInBounds i true) a w → K' a w) → if Region.wanted oi (yielded ops a.tmps) = true then Oper.wp P oi a w K' Q else K' (a.put oi.dst undef) w)
    (kj : ∀ K' : Act → World → Prop, Shut (∀ a w, (T.contains j = false → S w) → wpAnyT P md ops Q S T fuel (listed.setIfInBounds j true) a w → K' a w) → if Region.wanted oj (yielded ops a.tmps) = true then Oper.wp P oj a w K' Q else K' (a.put oj.dst undef) w)
    (kk : ∀ K' : Act → World → Prop, Shut (∀ a w, (T.contains k = false → S w) → wpAnyT P md ops Q S T fuel (listed.setIfInBounds k true) a w → K' a w) → if Region.wanted ok (yielded ops a.tmps) = true then Oper.wp P ok a w K' Q else K' (a.put ok.dst undef) w)
    (kl : ∀ K' : Act → World → Prop, Shut (∀ a w, (T.contains l = false → S w) → wpAnyT P md ops Q S T fuel (listed.setIfInBounds l true) a w → K' a w) → if Region.wanted ol (yielded ops a.tmps) = true then Oper.wp P ol a w K' Q else K' (a.put ol.dst undef) w) : wpAnyT P md ops Q S T (fuel + 1) listed a w := by
  refine ⟨fun h0 => (by rw [h0] at hr; cases hr), fun q hq => ?_⟩
  rw [hr] at hq
  simp only [List.mem_cons, List.not_mem_nil, or_false] at hq
  rcases hq with rfl | rfl | rfl | rfl
  · exact wpOp_step hi (fun K' hK => ki K' (fun a w hS hW => hK a w ⟨hS, hW⟩))
  · exact wpOp_step hj (fun K' hK => kj K' (fun a w hS hW => hK a w ⟨hS, hW⟩))
  · exact wpOp_step hk (fun K' hK => kk K' (fun a w hS hW => hK a w ⟨hS, hW⟩))
  · exact wpOp_step hl (fun K' hK => kl K' (fun a w hS hW => hK a w ⟨hS, hW⟩))
end
end Go
namespace Go.Proofs.YtbpdhpfcknaaiaaDoor
open Go.RowKit M
theorem Nil.trans {a b c : World} (h : Only Nil a b) (k : Only Nil b c) : Only Nil a c := h.trans k (fun _ _ h => h)
theorem alloc0 (w : World) (o : Obj) : Only Nil w (w.alloc o) := (Only.refl Nil w).alloc o
/-- One byte, as a text. -/
def ch (c : Nat) : ByteArray := ⟨#[UInt8.ofNat c]⟩
theorem ch_size (c : Nat) : (ch c).size = 1 := rfl
theorem conv_blk {w : World} {b c : Nat} (h : Blk w b #[.int .u8 (c : Int)] 5) : (convert 29 9 (.slice (some ⟨b, 0, none⟩) 1 1)).run Tryd.prog w = .ok (.string (ch c)) w := by
  have h := run_convert_bytes_arg (P := Tryd.prog) w 29 5 Tryd.underlying29 Tryd.underlying5 b 0 1 1 [(c : Int)] rfl (fun i hi => by
    have : i = 0 := by omega
    subst this
    exact h.cell 0) 9 Tryd.underlying9
  rw [h]
  congr 2
end Go.Proofs.YtbpdhpfcknaaiaaDoor

