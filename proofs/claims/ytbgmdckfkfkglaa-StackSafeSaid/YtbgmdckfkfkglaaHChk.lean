/- Check, the program's. -/
import Derived.Test.YtbgmdckfkfkglaaHRight
import Derived.Deep.CutBlock
set_option linter.unusedSimpArgs false
set_option linter.unusedVariables false
namespace Go.Proofs.Ytbgmdckfkfkglaa
open Go.RowKit M

/-- What Check tells. -/
def chkI (L : List Cod) : Value := match chk L with | some k => .tuple #[.int .i64 k, .int .i64 23] | none => .tuple #[.int .i64 0, .int .i64 0]
def chkR (L : List Cod) : Value := match chk L with | some k => .int .i64 k | none => .int .i64 (-1)
theorem chkI_some {L : List Cod} {k : Nat} (h : chk L = some k) : chkI L = .tuple #[.int .i64 k, .int .i64 23] := by unfold chkI; rw [h]
theorem chkI_none {L : List Cod} (h : chk L = none) : chkI L = .tuple #[.int .i64 0, .int .i64 0] := by unfold chkI; rw [h]
theorem chkR_some {L : List Cod} {k : Nat} (h : chk L = some k) : chkR L = .int .i64 k := by unfold chkR; rw [h]
theorem chkR_none {L : List Cod} (h : chk L = none) : chkR L = .int .i64 (-1) := by unfold chkR; rw [h]
def rightAt (L : List Cod) (i : Nat) : Bool := decide ((L.getD i default).Right L.length)
theorem bad_of {L : List Cod} {i : Nat} (h : rightAt L i = false) : badAt L i = true := by unfold badAt; unfold rightAt at h; rw [h]; rfl
theorem fine_of {L : List Cod} {i : Nat} (h : rightAt L i = true) (hi : i + 1 < L.length) : badAt L i = false := by
  unfold badAt; unfold rightAt at h; rw [h, decide_eq_false (show ¬ i + 1 = L.length by omega)]; rfl
theorem last_of {L : List Cod} {i : Nat} (h : rightAt L i = true) (hi : i + 1 = L.length) : badAt L i = goesOn (L.getD i default).op := by
  unfold badAt; unfold rightAt at h; rw [h, decide_eq_true hi]; simp

set_option maxRecDepth 10000 in
set_option maxHeartbeats 1600000 in
theorem chkI_any (b : Nat) (ao : Option Addr) (n cap : Nat) (L : List Cod) (w : World) (hs : CSrc w b (.slice ao n cap) L) (hn : L.length = n) (hf : ∀ c ∈ L, c.Fits) (hl : n ≤ 1000) :
    Calls Try.prog 15 #[.slice ao n cap] w fun e w' => e = .returned (chkI L) ∧ Only Nil w w' := by
  by_cases h0 : n = 0
  · rw [chkI_some (chk_nil (by omega))]
    subst h0
    clear hs hf
    go_enter Try.func15, Try.ntmps15
    go_wp2_with fail
    go_ret2
    exact ⟨rfl, Only.refl _ _⟩
  · have h0' : ((n : Int) == 0) = false := not_beq (by omega)
    have cR := fun (w' : World) (ho : Only Nil w w') (i : Nat) (hi : i < n) => rightI_any b ao n cap L w' (hs.kept ho) hn hf hl i hi
    have hlast := fun (w' : World) (ho : Only Nil w w') => hs.kept ho
    have CR := Lib.hid cR
    have HS := Lib.hid hlast
    have HN := Lib.hid hn
    have HF := Lib.hid hf
    clear cR hlast hs hn hf
    go_enter Try.func15, Try.ntmps15
    go_wp2_with fail
    go_loopg [11] n (fun m i wr => m ≤ n ∧ i = .int .i64 ((n - m : Nat) : Int) ∧ (∀ j, j < n - m → rightAt L j = true) ∧ Only Nil w wr)
    case atStart => exact ⟨Nat.le_refl _, by simp, fun j hj => by omega, Only.refl _ _⟩
    case round =>
      obtain ⟨hm, rfl, hr, ho⟩ := hrel
      obtain ⟨m, rfl⟩ : ∃ m, m = gk := ⟨gk, rfl⟩
      obtain ⟨k, hk⟩ : ∃ k, n - m = k := ⟨_, rfl⟩
      rw [hk] at hr ⊢
      have hkn : k ≤ n := by omega
      have HK := Lib.hid hk
      have HR := Lib.hid hr
      clear hk hr
      by_cases hkl : k < n
      · have cC := CR.out wr ho k hkl
        obtain ⟨R, hR⟩ : ∃ R, decide ((L.getD k default).Right n) = R := ⟨_, rfl⟩
        rw [hR] at cC
        have hR2 : rightAt L k = R := by unfold rightAt; rw [HN.out]; exact hR
        have HR2 := Lib.hid hR2
        clear hR hR2
        go_wp2_with fail
        refine cC.mono ?_
        rintro e w1 ⟨rfl, ho1⟩
        clear cC
        have ho2 := ho.trans ho1 (fun _ _ h => h)
        cases R
        · go_wp2_with fail
          go_ret2
          refine ⟨?_, ho2⟩
          rw [chkI_some (k := k) (chk_some (by rw [HN.out]; exact hkl) (bad_of HR2.out) (fun j hj => fine_of (HR.out j hj) (by rw [HN.out]; omega)))]
          rfl
        · go_wp2_with fail
          go_roundg (m - 1)
          case measure => have := HK.out; omega
          case rel =>
            rw [show n - (m - 1) = k + 1 by have := HK.out; omega]
            refine ⟨by omega, by have := HK.out; go_num, fun j hj => ?_, ho2⟩
            by_cases hjk : j = k
            · rw [hjk]; exact HR2.out
            · exact HR.out j (by omega)
      · have hkl2 : k = n := by omega
        subst hkl2
        obtain ⟨ao', cap', off, e, h2, h3, h4, h5⟩ := HS.out wr ho
        simp only [Value.slice.injEq] at e
        obtain ⟨rfl, hxx, rfl⟩ := e
        clear hxx
        have hx := h4 (by have := HN.out; omega)
        subst hx
        have hat : L[k - 1]? = some (L.getD (k - 1) default) := by
          have hlt : k - 1 < L.length := by rw [HN.out]; omega
          simp [List.getD, hlt]
        obtain ⟨r0, r1⟩ := h5 (k - 1) _ hat
        have cG := fun w => goesOn_any (L.getD (k - 1) default).op w
        have hgo : badAt L (k - 1) = goesOn (L.getD (k - 1) default).op := last_of (HR.out _ (by omega)) (by rw [HN.out]; omega)
        obtain ⟨op, hop⟩ : ∃ op, (L.getD (k - 1) default).op = op := ⟨_, rfl⟩
        rw [hop] at r0 cG hgo
        obtain ⟨g, hg⟩ : ∃ g, goesOn op = g := ⟨_, rfl⟩
        rw [hg] at cG hgo
        have HG := Lib.hid hgo
        obtain ⟨p, hp⟩ : ∃ p, k - 1 = p := ⟨_, rfl⟩
        rw [hp] at r0
        have ep : (k : Int) - 1 = (p : Int) := by omega
        have p0 : (0 : Int) ≤ (p : Int) := Int.natCast_nonneg _
        have p1 : (p : Int) < (k : Int) := by omega
        have HP := Lib.hid hp
        unfold maxLen at h3
        have h2' : k ≤ cap := by have := HN.out; omega
        clear h4 h5 hat r1 hop hg hgo hp hm h2
        go_wp2_with fail
        refine (cG _).mono ?_
        rintro e w1 ⟨rfl, rfl⟩
        clear cG
        have hall : ∀ j, j < p → badAt L j = false := fun j hj => fine_of (HR.out j (by have := HP.out; omega)) (by rw [HN.out]; have := HP.out; omega)
        cases g
        · go_wp2_with fail
          go_ret2
          refine ⟨?_, ho⟩
          rw [chkI_none (chk_none (by rw [HN.out]; omega) (fun j hj => ?_))]
          · rfl
          · rw [HN.out] at hj
            by_cases hjp : j = p
            · rw [hjp, ← HP.out]; exact HG.out
            · exact hall j (by have := HP.out; omega)
        · go_wp2_with fail
          go_ret2
          refine ⟨?_, ho⟩
          rw [chkI_some (k := p) (chk_some (by rw [HN.out]; have := HP.out; omega) (by rw [← HP.out]; exact HG.out) hall)]
          rfl
end Go.Proofs.Ytbgmdckfkfkglaa
