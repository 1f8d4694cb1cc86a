/- Symbols: all of a source, the document's. -/
import Derived.Test.YtbpdhpfcknaaiaaDoorZRSy2
import Derived.Test.YtbpdhpfcknaaiaaDoorZRSkip
import Derived.Test.YtbpdhpfcknaaiaaDoorZAll
set_option linter.unusedSimpArgs false
set_option linter.unusedVariables false
namespace Go.Proofs.YtbpdhpfcknaaiaaDoor
open Go.RowKit M

/-- What Scan tells, and where. -/
def ScanOk (s : ByteArray) (w : World) (e : Ending) (w' : World) : Except (Nat × Nat) (List Tk) → Prop
  | .ok L => ∃ v, e = .returned (.tuple #[v, .int .i64 0, .int .i64 0]) ∧ w'.ownsRow w.heap.size 35 5 v L.length (tokCells s L)
  | .error (p, k) => e = .returned (.tuple #[.slice none 0 0, .int .i64 (p : Nat), .int .i64 (k : Nat)])

theorem symK_at (s : ByteArray) (n b : Nat) (hn : s.size = n) (hb : b < n) :
    (∃ e, symS (tx s) b = .error e ∧ symV s (symK s b) = .tuple #[noTok, .int .i64 (e : Nat)] ∧ (e = 30 ∨ e = 34)) ∨
    (∃ x y : Tk, symS (tx s) b = .ok x ∧ y = x.key (fun a b => kwB (s.extract a b)) ∧ b < x.fin ∧ x.fin ≤ n ∧ y.fin = x.fin ∧ symV s (symK s b) = .tuple #[tokV s y, .int .i64 0]) := by
  subst hn
  unfold symK
  cases hs : symS (tx s) b with
  | error e => exact .inl ⟨e, rfl, rfl, symS_err _ _ _ hs⟩
  | ok x =>
    have k := symS_ok _ b hb x hs
    exact .inr ⟨x, _, rfl, rfl, k.2.1, k.2.2.1, Tk.key_fin _ _, rfl⟩

set_option maxRecDepth 10000 in
set_option maxHeartbeats 3200000 in
theorem scanR_any (s : ByteArray) (n : Nat) (hn : s.size = n) (hb : n ≤ 1000000) (w : World) :
    Calls Tryd.prog 9 #[.string s] w fun e w' => ScanOk s w e w' (allS s) ∧ Only Nil w w' := by
  have hS : allS s = if 20000 < n then .error (20000, 34) else scanE (tx s) (fun a b => kwB (s.extract a b)) 0 := by unfold allS; rw [hn]
  by_cases hbig : 20000 < n
  · rw [hS, if_pos hbig]
    have hbig' : (20000 : Int) < (n : Int) := by omega
    go_enter Tryd.func9, Tryd.ntmps9
    go_wp2_with fail
    refine bodyPost_ret (results_tmp3 rfl _ _ _) rfl ?_
    exact ⟨rfl, Only.refl _ _⟩
  · rw [hS, if_neg hbig]
    have hbig' : ¬ (20000 : Int) < (n : Int) := by omega
    obtain ⟨R, hR⟩ : ∃ R, scanE (tx s) (fun a b => kwB (s.extract a b)) 0 = R := ⟨_, rfl⟩
    rw [hR]
    have HR := Lib.hid hR
    clear hR hS
    obtain ⟨kb, hkb⟩ : ∃ kb, w.heap.size = kb := ⟨_, rfl⟩
    go_enter Tryd.func9, Tryd.ntmps9
    go_wp2_with fail
    go_loopg [5, 6] (n + 1) (fun g l i wr => Only Nil w wr ∧ ∃ (j : Nat) (acc : List Tk), i = .int .i64 (j : Int) ∧ j ≤ n ∧ acc.length ≤ j ∧ g = n + 1 - j ∧ ahead acc (scanE (tx s) (fun a b => kwB (s.extract a b)) j) = R ∧ wr.ownsRow kb 35 5 l acc.length (tokCells s acc))
    case atStart => exact ⟨Only.refl _ _, 0, [], rfl, Nat.zero_le _, Nat.zero_le _, rfl, by rw [ahead_nil]; exact HR.out, World.ownsRow_nil _ _ _ _⟩
    case round =>
      obtain ⟨ho, j, acc, rfl, hj, hal, hg, hc, hown⟩ := hrel
      have HG := Lib.hid hg
      have HO := Lib.hid ho
      have H63 : Hid (acc.length + 1 ≤ maxLen) := Lib.hid (by unfold maxLen; omega)
      have H48 : Hid ((acc.length + 1) * 48 ≤ 140737488355328) := Lib.hid (by omega)
      have hkr : kb ≤ wr.heap.size := by rw [← hkb]; exact ho.size
      obtain ⟨i0, hi, hz0, hz1, hz2⟩ := info5
      have SA : Hid (∀ (w9 : World) (o : Obj), (w9.alloc o).heap.size = w9.heap.size + 1) := Lib.hid (fun w9 o => by show (w9.heap.push o).size = _; simp)
      clear hg HR ho
      rw [scanE_eq _ _ _ (by show j ≤ s.size; omega), show (tx s).n = n from hn] at hc
      have cS := fun w => skipR_any s n hn hb j hj w
      have hge := skipE_ge (tx s) j
      have hle := skipE_le (tx s) j (by show j ≤ s.size; omega)
      rw [show (tx s).n = n from hn] at hle
      obtain ⟨⟨b, ok⟩, hsk⟩ : ∃ r, skipE (tx s) j = r := ⟨_, rfl⟩
      rw [hsk] at hc cS hge hle
      simp only [skV] at hc cS hge hle
      clear hsk
      go_wp2_with fail
      refine (cS _).mono ?_
      rintro e w2 ⟨rfl, rfl⟩
      cases ok
      · rw [if_pos rfl] at hc
        have HC := Lib.hid hc
        clear hc
        go_wp2_with fail
        refine bodyPost_ret (results_tmp3 rfl _ _ _) rfl ?_
        rw [← HC.out]
        exact ⟨rfl, HO.out⟩
      · rw [if_neg (by decide)] at hc
        have b0 : (0 : Int) ≤ (b : Int) := Int.natCast_nonneg _
        have bn : (b : Int) ≤ (n : Int) := by omega
        have HOWN := Lib.hid hown
        by_cases hbn : b = n
        · rw [if_pos (by omega)] at hc
          subst hbn
          have HC := Lib.hid hc
          clear hc hown
          go_wp2_with (with_reducible refine wpList_append_five rfl _ _ 30 rfl kb 35 i0 _ 48 Tryd.underlying30 hi hz0 hz1 hz2 rfl _ _ _ rfl HOWN.out _ _ _ _ _ rfl rfl rfl rfl rfl _ rfl rfl H63.out H48.out hkr ?_)
          intro g capb w3 hown3 hc1 hc2 hg1 ho3
          have HO3 : Hid (Only Nil w w3) := Lib.hid (HO.out.nil_own (by rw [hkb]; exact HOWN.out) ho3)
          have HOWN3 := Lib.hid hown3
          clear ho3 hown3
          go_wp2_with fail
          refine bodyPost_ret (results_tmp3 rfl _ _ _) rfl ?_
          rw [← HC.out]
          refine ⟨⟨_, rfl, ?_⟩, HO3.out⟩
          have := HOWN3.out
          rw [hkb, List.length_append, tokCells_append]
          rw [show tokCells s [⟨0, b, b, b, b, 0⟩] = [Value.int .i64 0, .int .i64 (b : Int), .int .i64 (b : Int), .string ⟨#[]⟩, .int .i32 0] by unfold tokCells; simp only [List.flatMap_cons, List.flatMap_nil, List.append_nil]; unfold tokC; rw [ext_nil]; rfl]
          exact this
        · rw [if_neg (by omega)] at hc
          have hbl : b < n := by omega
          have cY := fun w => symbolR_any s n b hn hbl hb w
          have b1 : (b : Int) < (n : Int) := by omega
          rcases symK_at s n b hn hbl with ⟨e, hs, hv, he⟩ | ⟨x, y, hs, hy, hf1, hf2, hyf, hv⟩
          · rw [hs] at hc
            rw [hv] at cY
            unfold noTok at cY
            have HC := Lib.hid hc
            have he0 : ((e : Int) == 0) = false := not_beq (by omega)
            clear hc hs hv he
            go_wp2_with fail
            refine (cY _).mono ?_
            rintro e' w2 ⟨rfl, ho2⟩
            clear cY cS
            have HO2 := Lib.hid (HO.out.trans ho2 (fun _ _ h => h))
            go_wp2_with fail
            refine bodyPost_ret (results_tmp3 rfl _ _ _) rfl ?_
            rw [← HC.out]
            exact ⟨rfl, HO2.out.alloc _⟩
          · rw [hs] at hc
            rw [hv] at cY
            unfold tokV at cY
            replace hc : ahead (acc ++ [y]) (scanE (tx s) (fun a b => kwB (s.extract a b)) x.fin) = R := by rw [hy, ahead_snoc']; exact hc
            have HC := Lib.hid hc
            have HMS : Hid (n + 1 - x.fin < gk) := Lib.hid (by have := HG.out; omega)
            have HJA : Hid (acc.length + 1 ≤ x.fin) := Lib.hid (by omega)
            have HY := Lib.hid hyf
            clear hc hs hv hy hyf
            go_wp2_with fail
            refine (cY _).mono ?_
            rintro e' w2 ⟨rfl, ho2⟩
            clear cY cS
            have HOW2 := Lib.hid (ownsRow_only hown ho2 (fun _ _ h => h))
            have HO2 := Lib.hid (HO.out.trans ho2 (fun _ _ h => h))
            have HKL : Hid (∀ o : Obj, kb ≤ (w2.alloc o).heap.size) := Lib.hid (fun o => by have h1 := ho2.size; have h2 := SA.out w2 o; omega)
            clear hown HOWN
            go_wp2_with (with_reducible refine wpList_append_five rfl _ _ 30 rfl kb 35 i0 _ 48 Tryd.underlying30 hi hz0 hz1 hz2 rfl _ _ _ rfl (HOW2.out.alloc _) _ _ _ _ _ rfl rfl rfl rfl rfl _ (SA.out _ _) rfl H63.out H48.out (HKL.out _) ?_)
            intro g capb w3 hown3 hc1 hc2 hg1 ho3
            have hBt := (Blk.new w2 _ 35).kept ho3 (fun ht => absurd (HOW2.out.lt _ (Eq.symm ht)).2 (Nat.lt_irrefl _))
            have d2 := hBt.cell 2
            simp only [List.getElem?_toArray, List.getElem?_cons_zero, List.getElem?_cons_succ] at d2
            have HO3 : Hid (Only Nil w w3) := Lib.hid ((HO2.out.alloc _).nil_own (by rw [hkb]; exact HOW2.out.alloc _) ho3)
            have HOWN3 := Lib.hid hown3
            clear hown3 hBt hg1 ho3
            go_wp2_with fail
            go_roundg (n + 1 - x.fin)
            case measure => exact HMS.out
            case rel =>
              refine ⟨HO3.out, x.fin, acc ++ [y], by rw [HY.out], hf2, by rw [List.length_append]; exact HJA.out, rfl, HC.out, ?_⟩
              have := HOWN3.out
              rw [List.length_append, tokCells_append]
              rw [show tokCells s [y] = (tokC s y).toList by unfold tokCells; simp only [List.flatMap_cons, List.flatMap_nil, List.append_nil]]
              exact this
end Go.Proofs.YtbpdhpfcknaaiaaDoor
