/- TypesChain's walk: records that extend one another. -/
import Derived.Test.YtcbeibhmjokecaaDoorYChM
import Derived.Test.YtcbeibhmjokecaaDoorYArr
import Derived.Test.YtcbeibhmjokecaaDoorYGreat
set_option linter.unusedSimpArgs false
set_option linter.unusedVariables false
namespace Go.Proofs.YtcbeibhmjokecaaDoor
open Go.RowKit M

theorem TyS.none_of {U V : Nat → Prop} {w : World} {v : Value} (h : TyS U w v []) : TyS V w v [] := by
  generalize hl : ([] : List Ty) = l at h
  cases h with
  | mk l ao cap off b ovs h0 h1 hb hn hs hc hr =>
    subst hl
    exact TyS.mk [] ao cap off b ovs h0 h1 (fun h => absurd h (by decide)) hn hs hc (fun i t hi => by cases hi)
theorem fnE (k : Nat) : (⟨#[102]⟩ : ByteArray) ++ ch (97 + k) = fn k := by
  apply ByteArray.ext
  rw [ByteArray.data_append]
  rfl
theorem nmE (k : Nat) : (⟨#[77, 46]⟩ : ByteArray) ++ ch (97 + k) = nm k := by
  apply ByteArray.ext
  rw [ByteArray.data_append]
  rfl
/-- A slice of one type without parts: its block alone. -/
theorem TyS.solo {U : Nat → Prop} {w : World} {g : Nat} {f : Int} (h : TyS U w (.slice (some ⟨g, 0, none⟩) 1 1) [bas f]) : U g ∧ TyS (fun q => q = g) w (.slice (some ⟨g, 0, none⟩) 1 1) [bas f] ∧ w.cell? ⟨g, 0, none⟩ = some (.int .i64 f) := by
  generalize hl : [bas f] = l at h
  generalize hv : Value.slice (some ⟨g, 0, none⟩) 1 1 = v at h
  cases h with
  | mk l ao cap off b ovs h0 h1 hb hn hs hc hr =>
    subst hl
    have e := h0 (by show 0 < 1; decide)
    subst e
    simp only [Value.slice.injEq, Option.some.injEq, Addr.mk.injEq, and_true] at hv
    obtain ⟨⟨rfl, rfl⟩, _, rfl⟩ := hv
    have a0 := hc 0 (bas f) rfl
    refine ⟨hb (by show 0 < 1; decide), TyS.mk [bas f] _ _ 0 g ovs (fun _ => rfl) (fun h => by cases h) (fun _ => rfl) hn hs hc (fun i t hi => ?_), ?_⟩
    · have hr0 := hr i t hi
      have ht : t.of = [] := by
        have := List.mem_of_getElem? hi
        rw [List.mem_singleton] at this
        rw [this]; rfl
      rw [ht] at hr0 ⊢
      exact TyS.none_of hr0
    · exact a0.get 0 rfl
theorem chain_made {wq w : World} {mb bd g3 fb k : Nat} {S : ByteArray} (hq : Only Nil wq w) (hmb : mb < wq.heap.size) (hd : Blk w bd #[.string ⟨#[]⟩, .bool false, .string ⟨#[]⟩, .slice none 0 0] 49) (gd : wq.heap.size ≤ bd)
    (hS : TyS (fun q => wq.heap.size ≤ q) w (.slice (some ⟨g3, 0, none⟩) 1 1) [bas 1]) (hf : (⟨#[102]⟩ : ByteArray) ++ S = fn k)
    (hB : Blk w fb #[.string (⟨#[102]⟩ ++ S), .bool false, .int .i64 7, .int .i64 ((k : Int) + 1), .string ⟨#[]⟩, .slice (some ⟨g3, 0, none⟩) 1 1] 47) (gf : wq.heap.size ≤ fb) :
    ∃ w2, (((w.setCell ⟨bd, 0, none⟩ (.string ⟨#[82]⟩)).setCell ⟨bd, 1, none⟩ (.bool false)).setCell ⟨bd, 2, none⟩ (.string ⟨#[]⟩)).setCell ⟨bd, 3, none⟩ (.slice (some ⟨fb, 0, none⟩) 1 1) = w2 ∧ Blk w2 bd #[.string ⟨#[82]⟩, .bool false, .string ⟨#[]⟩, .slice (some ⟨fb, 0, none⟩) 1 1] 49 ∧ VarS (fun q => q ≠ mb ∧ q ≠ bd) w2 (.slice (some ⟨fb, 0, none⟩) 1 1) [vC k] ∧ Only Nil wq w2 := by
  have op := M.Only.putFour (C := M.One bd) (b := bd) (Only.refl (M.One bd) w) (fun _ => rfl) (.string ⟨#[82]⟩) (.bool false) (.string ⟨#[]⟩) (.slice (some ⟨fb, 0, none⟩) 1 1)
  obtain ⟨hg, hS2, hc⟩ := hS.solo
  have hne : g3 ≠ bd := by
    intro e
    subst e
    rw [hd.cell 0] at hc
    cases hc
  have hne2 : fb ≠ bd := by
    intro e
    subst e
    have h2 := hd.cell 2
    rw [hB.cell 2] at h2
    cases h2
  refine ⟨_, rfl, hd.putFour _ _ _ _, ?_, ?_⟩
  · refine VarS.kept (U := fun q => q ≠ mb ∧ q ≠ bd) ?_ op (fun q hq2 h => hq2.2 h)
    refine VarS.of_blk (V := fun q => q = g3) [vC k] (fun _ => .slice (some ⟨g3, 0, none⟩) 1 1) (b := fb) (t := 47) ?_ ?_ ?_ ?_ ?_ ?_
    · have e : (flatV (fun _ => Value.slice (some ⟨g3, 0, none⟩) 1 1) 0 [vC k]).toArray = #[.string (⟨#[102]⟩ ++ S), .bool false, .int .i64 7, .int .i64 ((k : Int) + 1), .string ⟨#[]⟩, .slice (some ⟨g3, 0, none⟩) 1 1] := by
        show #[Value.string (fn k), .bool false, .int .i64 7, .int .i64 ((k + 1 : Nat) : Int), .string ⟨#[]⟩, .slice (some ⟨g3, 0, none⟩) 1 1] = _
        rw [← hf]
        rfl
      rw [e]
      exact hB
    · exact ⟨by omega, hne2⟩
    · intro i x hi
      have := List.mem_of_getElem? hi
      rw [List.mem_singleton] at this
      subst this
      exact hS2
    · intro q hq3
      subst hq3
      exact ⟨by omega, hne⟩
    · intro x hx
      rw [List.mem_singleton] at hx
      subst hx
      exact ⟨by show 2 ≤ maxLen; decide, by show 0 ≤ maxLen; decide⟩
    · show 1 * 80 ≤ _
      decide
  · exact hq.trans op (fun b hb h => by have h2 : b = bd := h; omega)
set_option maxRecDepth 20000 in
set_option maxHeartbeats 6400000 in
theorem chain_any (n a b : Nat) (hn : n < 256) (ha : a < 256) (hb : b < 256) (w : World) (hT : Tabs w) : Calls Tryd.prog 5 #[.int .u8 (n : Int), .int .u8 (a : Int), .int .u8 (b : Int)] w fun e w' => e = .returned (.bool true) ∧ Only Nil w w' := by
  have HT := Lib.hid hT
  obtain ⟨q, hq⟩ : ∃ q, n % 12 = q := ⟨_, rfl⟩
  have hq12 : q < 12 := by omega
  have e12 : ((n : Int) % 12) = (q : Int) := by omega
  have HE12 := Lib.hid e12
  have HQ12 := Lib.hid hq12
  have HA := Lib.hid ha
  have HB := Lib.hid hb
  clear hT hq hq12 e12 hn ha hb
  have mkm : ∀ w, (Instr.makeMap 31 none).run Tryd.prog w = .ok (.map (some w.heap.size)) (w.alloc (.map #[] 0)) := fun w => by
    simp [Instr.makeMap, run_underlying Tryd.underlying31, Result.andThen]
  go_enter Tryd.func5, Tryd.ntmps5
  go_wp2_with fail
  refine (known12_any w HT.out).mono ?_
  rintro e w1 ⟨rfl, ho1⟩
  have H1 := Lib.hid ho1
  clear ho1
  go_upto_region 4 with fail
  rw [HE12.out]
  have eK : IntKind.i64.wrap ((q : Int) + 1) = ((q + 1 : Nat) : Int) := by have := HQ12.out; rw [IntKind.wrap]; simp [IntKind.bits, IntKind.signed]; omega
  (try rw [eK])
  (try rw [show ((q : Int) + 1) = ((q + 1 : Nat) : Int) by simp])
  obtain ⟨K, hK⟩ : ∃ K, q + 1 = K := ⟨_, rfl⟩
  rw [hK]
  have HK := Lib.hid (show 1 ≤ K ∧ K ≤ 12 by have := HQ12.out; omega)
  clear eK hK HE12 HQ12
  go_upto_region 5 with fail
  obtain ⟨mb, hmb⟩ : ∃ z, w1.heap.size = z := ⟨_, rfl⟩
  have hMk := RMk.made w1 (fun _ => .slice none 0 0)
  have o1 := alloc0 w1 (.map #[] 0)
  obtain ⟨wm, hwm⟩ : ∃ z, w1.alloc (.map #[] 0) = z := ⟨_, rfl⟩
  rw [hmb, hwm] at hMk
  rw [hwm] at o1 ⊢
  rw [hmb]
  have HMK := Lib.hid hMk
  have HOM := Lib.hid (Nil.trans H1.out o1)
  have HMB := Lib.hid (show w.heap.size ≤ mb by have := H1.out.size; omega)
  clear hMk o1 hwm mkm hmb
  go_wp2_with fail
  go_loopg [9] K (fun g i wr => ∃ (k : Nat) (fv : ByteArray → Value), i = .int .i64 (k : Int) ∧ k ≤ K ∧ g = K - k ∧ RMk wr mb k (Rch k) fv ∧ Only Nil w wr)
  case atStart => exact ⟨0, _, rfl, Nat.zero_le _, rfl, HMK.out, HOM.out⟩
  case round =>
    obtain ⟨k, fv, rfl, hkK, hg, hR, ho⟩ := hrel
    obtain ⟨wq, hwq⟩ : ∃ z, wr = z := ⟨_, rfl⟩
    rw [hwq] at hR ho ⊢
    clear hwq
    have HR := Lib.hid hR
    have HO := Lib.hid ho
    have HG := Lib.hid hg
    have HMW := Lib.hid (show mb < wq.heap.size from hR.map.lt)
    have k0 : (0 : Int) ≤ (k : Int) := Int.natCast_nonneg _
    clear hR ho hg
    by_cases hgo : k < K
    · have k1 : (k : Int) < (K : Int) := by omega
      have HKK := Lib.hid hgo
      have k12 : (k : Int) < 12 := by have := HK.out; omega
      have wi1 : IntKind.u8.wrap (k : Int) = (k : Int) := by simp [IntKind.wrap, IntKind.bits, IntKind.signed]; omega
      have wi3 : IntKind.u8.wrap (97 + (k : Int)) = 97 + (k : Int) := by simp [IntKind.wrap, IntKind.bits, IntKind.signed]; omega
      have wi2 : IntKind.i64.wrap ((k : Int) + 1) = ((k + 1 : Nat) : Int) := by rw [IntKind.wrap]; simp [IntKind.bits, IntKind.signed]; omega
      clear hgo hkK
      go_upto_region 8 with fail
      go_cut [10] (fun s10 wx => ∃ (rb : Nat) (fb : Nat), s10 = .pointer (some ⟨rb, 0, none⟩) ∧ wq.heap.size ≤ rb ∧ Blk wx rb #[.string ⟨#[82]⟩, .bool false, .string ⟨#[]⟩, .slice (some ⟨fb, 0, none⟩) 1 1] 49 ∧ VarS (fun q => q ≠ mb ∧ q ≠ rb) wx (.slice (some ⟨fb, 0, none⟩) 1 1) [vC k] ∧ Only Nil wq wx)
      case first =>
        have HCK := Lib.hid (show 97 + (k : Int) = ((97 + k : Nat) : Int) by simp)
        have sS := ch_size (97 + k)
        have hfE := fnE k
        obtain ⟨S, hS⟩ : ∃ S, ch (97 + k) = S := ⟨_, rfl⟩
        rw [hS] at sS hfE
        have HS := Lib.hid hS
        have HFE := Lib.hid hfE
        clear hS hfE
        have hq : Only Nil wq wq.drew := (Only.refl Nil wq).drew
        refine wp_region_T (fun w' => Only Nil wq w') [14] (by kernel_rfl) ?_
        refine wpAnyT_sub (S' := fun w' => Only Nil wq.drew w') (fun _ h => Nil.trans hq h) ?_
        obtain ⟨wd, hwd⟩ : ∃ z, wq.drew = z := ⟨_, rfl⟩
        rw [hwd] at hq  ⊢
        clear hwd
        refine wpAnyT_take 0 (v := ?_) rfl (by kernel_rfl) (by kernel_rfl) (by kernel_rfl) (fun _ _ _ h => h) (by kernel_rfl) (by kernel_rfl) (Or.inl ⟨by kernel_rfl, ?_⟩) (Only.refl Nil _) ?_
        rotate_left
        · (intro w' hw'; go_simp; (try with_reducible rfl))
        refine wpAnyT_take 1 (v := ?_) rfl (by kernel_rfl) (by kernel_rfl) (by kernel_rfl) (fun _ _ _ h => h) (by kernel_rfl) (by kernel_rfl) (Or.inl ⟨by kernel_rfl, ?_⟩) (Only.refl Nil _) ?_
        rotate_left
        · (intro w' hw'; go_simp; (try with_reducible rfl))
        refine wpAnyT_take 2 (v := ?_) rfl (by kernel_rfl) (by kernel_rfl) (by kernel_rfl) (fun _ _ _ h => h) (by kernel_rfl) (by kernel_rfl) (Or.inl ⟨by kernel_rfl, ?_⟩) (Only.refl Nil _) ?_
        rotate_left
        · (intro w' hw'; go_simp; (try with_reducible rfl))
        refine wpAnyT_take 6 (v := ?_) rfl (by kernel_rfl) (by kernel_rfl) (by kernel_rfl) (fun _ _ _ h => h) (by kernel_rfl) (by kernel_rfl) (Or.inl ⟨by kernel_rfl, ?_⟩) (Only.refl Nil _) ?_
        rotate_left
        · (intro w' hw'; go_simp; (try with_reducible rfl))
        refine wpAnyT_take 7 (v := ?_) rfl (by kernel_rfl) (by kernel_rfl) (by kernel_rfl) (fun _ _ _ h => h) (by kernel_rfl) (by kernel_rfl) (Or.inl ⟨by kernel_rfl, ?_⟩) (Only.refl Nil _) ?_
        rotate_left
        · (intro w' hw'; go_simp; (try with_reducible rfl))
        refine wpAnyT_three (i := 3) (j := 8) (k := 13) rfl rfl rfl (by kernel_rfl) (fun K hK => ?_) (fun K hK => ?_) (fun K hK => ?_)
        · go_simp
          refine hK.out _ _ (fun _ => (Only.refl Nil wd).alloc _) ?_
          clear hK K
          have q_a := Blk.new wd #[.int .u8 (97 + (k : Int))] 5
          have ho1x := alloc0 wd (.cells #[.int .u8 (97 + (k : Int))] 5)
          obtain ⟨b_a, hb_a⟩ : ∃ z, wd.heap.size = z := ⟨_, rfl⟩
          have g_a : wq.heap.size ≤ b_a := by rw [← hb_a]; exact hq.size
          have l_a : b_a < (wd.alloc (.cells #[.int .u8 (97 + (k : Int))] 5)).heap.size := by rw [← hb_a]; simp
          obtain ⟨w1x, hw1x⟩ : ∃ z, wd.alloc (.cells #[.int .u8 (97 + (k : Int))] 5) = z := ⟨_, rfl⟩
          rw [hb_a] at q_a ⊢
          rw [hw1x] at q_a ho1x l_a   ⊢
          clear hb_a hw1x
          refine wpAnyT_sub (S' := fun w' => Only Nil w1x w') (fun _ h => Nil.trans ho1x h) ?_
          replace hq := Nil.trans hq ho1x
          clear ho1x
          refine wpAnyT_take 4 (v := ?_) rfl (by kernel_rfl) (by kernel_rfl) (by kernel_rfl) (fun _ _ _ h => h) (by kernel_rfl) (by kernel_rfl) (Or.inl ⟨by kernel_rfl, ?_⟩) (Only.refl Nil _) ?_
          rotate_left
          · (intro w' hw'; have cv := conv_blk (c := 97 + k) (by have h := q_a.kept hw' (fun h => h); rwa [HCK.out] at h); rw [HS.out] at cv; go_simp; (try with_reducible rfl))
          refine wpAnyT_take 5 (v := ?_) rfl (by kernel_rfl) (by kernel_rfl) (by kernel_rfl) (fun _ _ _ h => h) (by kernel_rfl) (by kernel_rfl) (Or.inl ⟨by kernel_rfl, ?_⟩) (Only.refl Nil _) ?_
          rotate_left
          · (intro w' hw'; go_simp; (try with_reducible rfl))
          refine wpAnyT_two (i := 8) (j := 13) rfl rfl (by kernel_rfl) (fun K hK => ?_) (fun K hK => ?_)
          · go_simp
            go_wp2_with (go_at_call 20; refine (basicR_any 1 _).mono ?_; rintro e w2x ⟨rfl, ho2x⟩)
            refine hK.out _ _ (fun _ => ho2x) ?_
            clear hK K
            replace q_a := q_a.kept ho2x (fun h => h)
            replace l_a := Nat.lt_of_lt_of_le l_a ho2x.size
            refine wpAnyT_sub (S' := fun w' => Only Nil w2x w') (fun _ h => Nil.trans ho2x h) ?_
            replace hq := Nil.trans hq ho2x
            clear ho2x
            refine wpAnyT_two (i := 9) (j := 13) rfl rfl (by kernel_rfl) (fun K hK => ?_) (fun K hK => ?_)
            · go_simp
              go_wp2_with (go_at_call 17; refine (arrR_new (U := fun _ => False) ((k : Int) + 1) 1 0 ⟨#[]⟩ (Nat.zero_le _) (.slice none 0 0) [] w2x (TyS.nil _ w2x)).mono ?_; rintro e w3x ⟨g3, rfl, hS30, ho3x⟩; have hS3 := hS30.mono (V := fun q => wq.heap.size ≤ q) (fun q hq3 => by rcases hq3 with h | h; (exact h.elim); (exact Nat.le_trans hq.size h)); clear hS30)
              refine hK.out _ _ (fun _ => ho3x) ?_
              clear hK K
              replace q_a := q_a.kept ho3x (fun h => h)
              replace l_a := Nat.lt_of_lt_of_le l_a ho3x.size
              refine wpAnyT_sub (S' := fun w' => Only Nil w3x w') (fun _ h => Nil.trans ho3x h) ?_
              replace hq := Nil.trans hq ho3x
              clear ho3x
              refine wpAnyT_take 10 (v := ?_) rfl (by kernel_rfl) (by kernel_rfl) (by kernel_rfl) (fun _ _ _ h => h) (by kernel_rfl) (by kernel_rfl) (Or.inl ⟨by kernel_rfl, ?_⟩) (Only.refl Nil _) ?_
              rotate_left
              · (intro w' hw'; go_simp; (try with_reducible rfl))
              refine wpAnyT_two (i := 11) (j := 13) rfl rfl (by kernel_rfl) (fun K hK => ?_) (fun K hK => ?_)
              · go_simp
                refine hK.out _ _ (fun _ => (Only.refl Nil w3x).alloc _) ?_
                clear hK K
                have q_e := Blk.new w3x #[.string (⟨#[102]⟩ ++ S), .bool false, .int .i64 7, .int .i64 ((k : Int) + 1), .string ⟨#[]⟩, .slice (some ⟨g3, 0, none⟩) 1 1] 47
                have ho4x := alloc0 w3x (.cells #[.string (⟨#[102]⟩ ++ S), .bool false, .int .i64 7, .int .i64 ((k : Int) + 1), .string ⟨#[]⟩, .slice (some ⟨g3, 0, none⟩) 1 1] 47)
                replace q_a := q_a.kept ho4x (fun h => h)
                replace hS3 := hS3.go ho4x
                obtain ⟨b_e, hb_e⟩ : ∃ z, w3x.heap.size = z := ⟨_, rfl⟩
                have g_e : wq.heap.size ≤ b_e := by rw [← hb_e]; exact hq.size
                have n_a_e : b_a ≠ b_e := by rw [← hb_e]; exact Nat.ne_of_lt l_a
                have l_e : b_e < (w3x.alloc (.cells #[.string (⟨#[102]⟩ ++ S), .bool false, .int .i64 7, .int .i64 ((k : Int) + 1), .string ⟨#[]⟩, .slice (some ⟨g3, 0, none⟩) 1 1] 47)).heap.size := by rw [← hb_e]; simp
                replace l_a := Nat.lt_of_lt_of_le l_a ho4x.size
                obtain ⟨w4x, hw4x⟩ : ∃ z, w3x.alloc (.cells #[.string (⟨#[102]⟩ ++ S), .bool false, .int .i64 7, .int .i64 ((k : Int) + 1), .string ⟨#[]⟩, .slice (some ⟨g3, 0, none⟩) 1 1] 47) = z := ⟨_, rfl⟩
                rw [hb_e] at q_e ⊢
                rw [hw4x] at q_e ho4x l_e q_a hS3 l_a ⊢
                clear hb_e hw4x
                refine wpAnyT_sub (S' := fun w' => Only Nil w4x w') (fun _ h => Nil.trans ho4x h) ?_
                replace hq := Nil.trans hq ho4x
                clear ho4x
                refine wpAnyT_take 12 (v := ?_) rfl (by kernel_rfl) (by kernel_rfl) (by kernel_rfl) (fun _ _ _ h => h) (by kernel_rfl) (by kernel_rfl) (Or.inl ⟨by kernel_rfl, ?_⟩) (Only.refl Nil _) ?_
                rotate_left
                · (intro w' hw'; go_simp; (try with_reducible rfl))
                refine wpAnyT_one (i := 13) rfl (by kernel_rfl) (fun K hK => ?_)
                go_simp
                refine hK.out _ _ (fun _ => (Only.refl Nil w4x).alloc _) ?_
                clear hK K
                have q_d := Blk.new w4x #[.string ⟨#[]⟩, .bool false, .string ⟨#[]⟩, .slice none 0 0] 49
                have ho5x := alloc0 w4x (.cells #[.string ⟨#[]⟩, .bool false, .string ⟨#[]⟩, .slice none 0 0] 49)
                replace q_a := q_a.kept ho5x (fun h => h)
                replace hS3 := hS3.go ho5x
                replace q_e := q_e.kept ho5x (fun h => h)
                obtain ⟨b_d, hb_d⟩ : ∃ z, w4x.heap.size = z := ⟨_, rfl⟩
                have g_d : wq.heap.size ≤ b_d := by rw [← hb_d]; exact hq.size
                have n_a_d : b_a ≠ b_d := by rw [← hb_d]; exact Nat.ne_of_lt l_a
                have n_e_d : b_e ≠ b_d := by rw [← hb_d]; exact Nat.ne_of_lt l_e
                have l_d : b_d < (w4x.alloc (.cells #[.string ⟨#[]⟩, .bool false, .string ⟨#[]⟩, .slice none 0 0] 49)).heap.size := by rw [← hb_d]; simp
                replace l_a := Nat.lt_of_lt_of_le l_a ho5x.size
                replace l_e := Nat.lt_of_lt_of_le l_e ho5x.size
                obtain ⟨w5x, hw5x⟩ : ∃ z, w4x.alloc (.cells #[.string ⟨#[]⟩, .bool false, .string ⟨#[]⟩, .slice none 0 0] 49) = z := ⟨_, rfl⟩
                rw [hb_d] at q_d ⊢
                rw [hw5x] at q_d ho5x l_d q_a hS3 q_e l_a l_e ⊢
                clear hb_d hw5x
                refine wpAnyT_sub (S' := fun w' => Only Nil w5x w') (fun _ h => Nil.trans ho5x h) ?_
                replace hq := Nil.trans hq ho5x
                clear ho5x
                obtain ⟨wz, hwz, m1, m2, m3⟩ := chain_made (k := k) hq HMW.out q_d g_d hS3 HFE.out q_e g_e
                obtain ⟨⟨z0, z1, z2, z3⟩, zf0, zf1, zf2, zf3⟩ := q_d.Fours
                have M1 := Lib.hid m1
                have M2 := Lib.hid m2
                have M3 := Lib.hid m3
                clear hS3 q_a q_d q_e m1 m2 m3
                refine wpAnyT_one (i := 14) rfl (by kernel_rfl) (fun K hK => ?_)
                go_simp
                refine hK.out _ _ (fun h => by cases h) ?_
                clear hK K
                refine wpAnyT_done (by kernel_rfl) ?_
                (try rw [hwz])
                clear z0 z1 z2 z3 zf0 zf1 zf2 zf3 hwz
                go_wp2_with fail
                go_meet
                exact ⟨_, _, rfl, g_d, M1.out, M2.out, M3.out⟩
              · go_simp
                refine hK.out _ _ (fun _ => (Only.refl Nil w3x).alloc _) ?_
                clear hK K
                have q_d := Blk.new w3x #[.string ⟨#[]⟩, .bool false, .string ⟨#[]⟩, .slice none 0 0] 49
                have ho4x := alloc0 w3x (.cells #[.string ⟨#[]⟩, .bool false, .string ⟨#[]⟩, .slice none 0 0] 49)
                replace q_a := q_a.kept ho4x (fun h => h)
                replace hS3 := hS3.go ho4x
                obtain ⟨b_d, hb_d⟩ : ∃ z, w3x.heap.size = z := ⟨_, rfl⟩
                have g_d : wq.heap.size ≤ b_d := by rw [← hb_d]; exact hq.size
                have n_a_d : b_a ≠ b_d := by rw [← hb_d]; exact Nat.ne_of_lt l_a
                have l_d : b_d < (w3x.alloc (.cells #[.string ⟨#[]⟩, .bool false, .string ⟨#[]⟩, .slice none 0 0] 49)).heap.size := by rw [← hb_d]; simp
                replace l_a := Nat.lt_of_lt_of_le l_a ho4x.size
                obtain ⟨w4x, hw4x⟩ : ∃ z, w3x.alloc (.cells #[.string ⟨#[]⟩, .bool false, .string ⟨#[]⟩, .slice none 0 0] 49) = z := ⟨_, rfl⟩
                rw [hb_d] at q_d ⊢
                rw [hw4x] at q_d ho4x l_d q_a hS3 l_a ⊢
                clear hb_d hw4x
                refine wpAnyT_sub (S' := fun w' => Only Nil w4x w') (fun _ h => Nil.trans ho4x h) ?_
                replace hq := Nil.trans hq ho4x
                clear ho4x
                refine wpAnyT_one (i := 11) rfl (by kernel_rfl) (fun K hK => ?_)
                go_simp
                refine hK.out _ _ (fun _ => (Only.refl Nil w4x).alloc _) ?_
                clear hK K
                have q_e := Blk.new w4x #[.string (⟨#[102]⟩ ++ S), .bool false, .int .i64 7, .int .i64 ((k : Int) + 1), .string ⟨#[]⟩, .slice (some ⟨g3, 0, none⟩) 1 1] 47
                have ho5x := alloc0 w4x (.cells #[.string (⟨#[102]⟩ ++ S), .bool false, .int .i64 7, .int .i64 ((k : Int) + 1), .string ⟨#[]⟩, .slice (some ⟨g3, 0, none⟩) 1 1] 47)
                replace q_a := q_a.kept ho5x (fun h => h)
                replace hS3 := hS3.go ho5x
                replace q_d := q_d.kept ho5x (fun h => h)
                obtain ⟨b_e, hb_e⟩ : ∃ z, w4x.heap.size = z := ⟨_, rfl⟩
                have g_e : wq.heap.size ≤ b_e := by rw [← hb_e]; exact hq.size
                have n_d_e : b_d ≠ b_e := by rw [← hb_e]; exact Nat.ne_of_lt l_d
                have n_a_e : b_a ≠ b_e := by rw [← hb_e]; exact Nat.ne_of_lt l_a
                have l_e : b_e < (w4x.alloc (.cells #[.string (⟨#[102]⟩ ++ S), .bool false, .int .i64 7, .int .i64 ((k : Int) + 1), .string ⟨#[]⟩, .slice (some ⟨g3, 0, none⟩) 1 1] 47)).heap.size := by rw [← hb_e]; simp
                replace l_d := Nat.lt_of_lt_of_le l_d ho5x.size
                replace l_a := Nat.lt_of_lt_of_le l_a ho5x.size
                obtain ⟨w5x, hw5x⟩ : ∃ z, w4x.alloc (.cells #[.string (⟨#[102]⟩ ++ S), .bool false, .int .i64 7, .int .i64 ((k : Int) + 1), .string ⟨#[]⟩, .slice (some ⟨g3, 0, none⟩) 1 1] 47) = z := ⟨_, rfl⟩
                rw [hb_e] at q_e ⊢
                rw [hw5x] at q_e ho5x l_e q_a hS3 q_d l_d l_a ⊢
                clear hb_e hw5x
                refine wpAnyT_sub (S' := fun w' => Only Nil w5x w') (fun _ h => Nil.trans ho5x h) ?_
                replace hq := Nil.trans hq ho5x
                clear ho5x
                refine wpAnyT_take 12 (v := ?_) rfl (by kernel_rfl) (by kernel_rfl) (by kernel_rfl) (fun _ _ _ h => h) (by kernel_rfl) (by kernel_rfl) (Or.inl ⟨by kernel_rfl, ?_⟩) (Only.refl Nil _) ?_
                rotate_left
                · (intro w' hw'; go_simp; (try with_reducible rfl))
                obtain ⟨wz, hwz, m1, m2, m3⟩ := chain_made (k := k) hq HMW.out q_d g_d hS3 HFE.out q_e g_e
                obtain ⟨⟨z0, z1, z2, z3⟩, zf0, zf1, zf2, zf3⟩ := q_d.Fours
                have M1 := Lib.hid m1
                have M2 := Lib.hid m2
                have M3 := Lib.hid m3
                clear hS3 q_a q_d q_e m1 m2 m3
                refine wpAnyT_one (i := 14) rfl (by kernel_rfl) (fun K hK => ?_)
                go_simp
                refine hK.out _ _ (fun h => by cases h) ?_
                clear hK K
                refine wpAnyT_done (by kernel_rfl) ?_
                (try rw [hwz])
                clear z0 z1 z2 z3 zf0 zf1 zf2 zf3 hwz
                go_wp2_with fail
                go_meet
                exact ⟨_, _, rfl, g_d, M1.out, M2.out, M3.out⟩
            · go_simp
              refine hK.out _ _ (fun _ => (Only.refl Nil w2x).alloc _) ?_
              clear hK K
              have q_d := Blk.new w2x #[.string ⟨#[]⟩, .bool false, .string ⟨#[]⟩, .slice none 0 0] 49
              have ho3x := alloc0 w2x (.cells #[.string ⟨#[]⟩, .bool false, .string ⟨#[]⟩, .slice none 0 0] 49)
              replace q_a := q_a.kept ho3x (fun h => h)
              obtain ⟨b_d, hb_d⟩ : ∃ z, w2x.heap.size = z := ⟨_, rfl⟩
              have g_d : wq.heap.size ≤ b_d := by rw [← hb_d]; exact hq.size
              have n_a_d : b_a ≠ b_d := by rw [← hb_d]; exact Nat.ne_of_lt l_a
              have l_d : b_d < (w2x.alloc (.cells #[.string ⟨#[]⟩, .bool false, .string ⟨#[]⟩, .slice none 0 0] 49)).heap.size := by rw [← hb_d]; simp
              replace l_a := Nat.lt_of_lt_of_le l_a ho3x.size
              obtain ⟨w3x, hw3x⟩ : ∃ z, w2x.alloc (.cells #[.string ⟨#[]⟩, .bool false, .string ⟨#[]⟩, .slice none 0 0] 49) = z := ⟨_, rfl⟩
              rw [hb_d] at q_d ⊢
              rw [hw3x] at q_d ho3x l_d q_a l_a ⊢
              clear hb_d hw3x
              refine wpAnyT_sub (S' := fun w' => Only Nil w3x w') (fun _ h => Nil.trans ho3x h) ?_
              replace hq := Nil.trans hq ho3x
              clear ho3x
              refine wpAnyT_one (i := 9) rfl (by kernel_rfl) (fun K hK => ?_)
              go_simp
              go_wp2_with (go_at_call 17; refine (arrR_new (U := fun _ => False) ((k : Int) + 1) 1 0 ⟨#[]⟩ (Nat.zero_le _) (.slice none 0 0) [] w3x (TyS.nil _ w3x)).mono ?_; rintro e w4x ⟨g3, rfl, hS30, ho4x⟩; have hS3 := hS30.mono (V := fun q => wq.heap.size ≤ q) (fun q hq3 => by rcases hq3 with h | h; (exact h.elim); (exact Nat.le_trans hq.size h)); clear hS30)
              refine hK.out _ _ (fun _ => ho4x) ?_
              clear hK K
              replace q_a := q_a.kept ho4x (fun h => h)
              replace q_d := q_d.kept ho4x (fun h => h)
              replace l_d := Nat.lt_of_lt_of_le l_d ho4x.size
              replace l_a := Nat.lt_of_lt_of_le l_a ho4x.size
              refine wpAnyT_sub (S' := fun w' => Only Nil w4x w') (fun _ h => Nil.trans ho4x h) ?_
              replace hq := Nil.trans hq ho4x
              clear ho4x
              refine wpAnyT_take 10 (v := ?_) rfl (by kernel_rfl) (by kernel_rfl) (by kernel_rfl) (fun _ _ _ h => h) (by kernel_rfl) (by kernel_rfl) (Or.inl ⟨by kernel_rfl, ?_⟩) (Only.refl Nil _) ?_
              rotate_left
              · (intro w' hw'; go_simp; (try with_reducible rfl))
              refine wpAnyT_one (i := 11) rfl (by kernel_rfl) (fun K hK => ?_)
              go_simp
              refine hK.out _ _ (fun _ => (Only.refl Nil w4x).alloc _) ?_
              clear hK K
              have q_e := Blk.new w4x #[.string (⟨#[102]⟩ ++ S), .bool false, .int .i64 7, .int .i64 ((k : Int) + 1), .string ⟨#[]⟩, .slice (some ⟨g3, 0, none⟩) 1 1] 47
              have ho5x := alloc0 w4x (.cells #[.string (⟨#[102]⟩ ++ S), .bool false, .int .i64 7, .int .i64 ((k : Int) + 1), .string ⟨#[]⟩, .slice (some ⟨g3, 0, none⟩) 1 1] 47)
              replace q_a := q_a.kept ho5x (fun h => h)
              replace q_d := q_d.kept ho5x (fun h => h)
              replace hS3 := hS3.go ho5x
              obtain ⟨b_e, hb_e⟩ : ∃ z, w4x.heap.size = z := ⟨_, rfl⟩
              have g_e : wq.heap.size ≤ b_e := by rw [← hb_e]; exact hq.size
              have n_d_e : b_d ≠ b_e := by rw [← hb_e]; exact Nat.ne_of_lt l_d
              have n_a_e : b_a ≠ b_e := by rw [← hb_e]; exact Nat.ne_of_lt l_a
              have l_e : b_e < (w4x.alloc (.cells #[.string (⟨#[102]⟩ ++ S), .bool false, .int .i64 7, .int .i64 ((k : Int) + 1), .string ⟨#[]⟩, .slice (some ⟨g3, 0, none⟩) 1 1] 47)).heap.size := by rw [← hb_e]; simp
              replace l_d := Nat.lt_of_lt_of_le l_d ho5x.size
              replace l_a := Nat.lt_of_lt_of_le l_a ho5x.size
              obtain ⟨w5x, hw5x⟩ : ∃ z, w4x.alloc (.cells #[.string (⟨#[102]⟩ ++ S), .bool false, .int .i64 7, .int .i64 ((k : Int) + 1), .string ⟨#[]⟩, .slice (some ⟨g3, 0, none⟩) 1 1] 47) = z := ⟨_, rfl⟩
              rw [hb_e] at q_e ⊢
              rw [hw5x] at q_e ho5x l_e q_a q_d hS3 l_d l_a ⊢
              clear hb_e hw5x
              refine wpAnyT_sub (S' := fun w' => Only Nil w5x w') (fun _ h => Nil.trans ho5x h) ?_
              replace hq := Nil.trans hq ho5x
              clear ho5x
              refine wpAnyT_take 12 (v := ?_) rfl (by kernel_rfl) (by kernel_rfl) (by kernel_rfl) (fun _ _ _ h => h) (by kernel_rfl) (by kernel_rfl) (Or.inl ⟨by kernel_rfl, ?_⟩) (Only.refl Nil _) ?_
              rotate_left
              · (intro w' hw'; go_simp; (try with_reducible rfl))
              obtain ⟨wz, hwz, m1, m2, m3⟩ := chain_made (k := k) hq HMW.out q_d g_d hS3 HFE.out q_e g_e
              obtain ⟨⟨z0, z1, z2, z3⟩, zf0, zf1, zf2, zf3⟩ := q_d.Fours
              have M1 := Lib.hid m1
              have M2 := Lib.hid m2
              have M3 := Lib.hid m3
              clear hS3 q_a q_d q_e m1 m2 m3
              refine wpAnyT_one (i := 14) rfl (by kernel_rfl) (fun K hK => ?_)
              go_simp
              refine hK.out _ _ (fun h => by cases h) ?_
              clear hK K
              refine wpAnyT_done (by kernel_rfl) ?_
              (try rw [hwz])
              clear z0 z1 z2 z3 zf0 zf1 zf2 zf3 hwz
              go_wp2_with fail
              go_meet
              exact ⟨_, _, rfl, g_d, M1.out, M2.out, M3.out⟩
          · go_simp
            refine hK.out _ _ (fun _ => (Only.refl Nil w1x).alloc _) ?_
            clear hK K
            have q_d := Blk.new w1x #[.string ⟨#[]⟩, .bool false, .string ⟨#[]⟩, .slice none 0 0] 49
            have ho2x := alloc0 w1x (.cells #[.string ⟨#[]⟩, .bool false, .string ⟨#[]⟩, .slice none 0 0] 49)
            replace q_a := q_a.kept ho2x (fun h => h)
            obtain ⟨b_d, hb_d⟩ : ∃ z, w1x.heap.size = z := ⟨_, rfl⟩
            have g_d : wq.heap.size ≤ b_d := by rw [← hb_d]; exact hq.size
            have n_a_d : b_a ≠ b_d := by rw [← hb_d]; exact Nat.ne_of_lt l_a
            have l_d : b_d < (w1x.alloc (.cells #[.string ⟨#[]⟩, .bool false, .string ⟨#[]⟩, .slice none 0 0] 49)).heap.size := by rw [← hb_d]; simp
            replace l_a := Nat.lt_of_lt_of_le l_a ho2x.size
            obtain ⟨w2x, hw2x⟩ : ∃ z, w1x.alloc (.cells #[.string ⟨#[]⟩, .bool false, .string ⟨#[]⟩, .slice none 0 0] 49) = z := ⟨_, rfl⟩
            rw [hb_d] at q_d ⊢
            rw [hw2x] at q_d ho2x l_d q_a l_a ⊢
            clear hb_d hw2x
            refine wpAnyT_sub (S' := fun w' => Only Nil w2x w') (fun _ h => Nil.trans ho2x h) ?_
            replace hq := Nil.trans hq ho2x
            clear ho2x
            refine wpAnyT_one (i := 8) rfl (by kernel_rfl) (fun K hK => ?_)
            go_simp
            go_wp2_with (go_at_call 20; refine (basicR_any 1 _).mono ?_; rintro e w3x ⟨rfl, ho3x⟩)
            refine hK.out _ _ (fun _ => ho3x) ?_
            clear hK K
            replace q_a := q_a.kept ho3x (fun h => h)
            replace q_d := q_d.kept ho3x (fun h => h)
            replace l_d := Nat.lt_of_lt_of_le l_d ho3x.size
            replace l_a := Nat.lt_of_lt_of_le l_a ho3x.size
            refine wpAnyT_sub (S' := fun w' => Only Nil w3x w') (fun _ h => Nil.trans ho3x h) ?_
            replace hq := Nil.trans hq ho3x
            clear ho3x
            refine wpAnyT_one (i := 9) rfl (by kernel_rfl) (fun K hK => ?_)
            go_simp
            go_wp2_with (go_at_call 17; refine (arrR_new (U := fun _ => False) ((k : Int) + 1) 1 0 ⟨#[]⟩ (Nat.zero_le _) (.slice none 0 0) [] w3x (TyS.nil _ w3x)).mono ?_; rintro e w4x ⟨g3, rfl, hS30, ho4x⟩; have hS3 := hS30.mono (V := fun q => wq.heap.size ≤ q) (fun q hq3 => by rcases hq3 with h | h; (exact h.elim); (exact Nat.le_trans hq.size h)); clear hS30)
            refine hK.out _ _ (fun _ => ho4x) ?_
            clear hK K
            replace q_a := q_a.kept ho4x (fun h => h)
            replace q_d := q_d.kept ho4x (fun h => h)
            replace l_d := Nat.lt_of_lt_of_le l_d ho4x.size
            replace l_a := Nat.lt_of_lt_of_le l_a ho4x.size
            refine wpAnyT_sub (S' := fun w' => Only Nil w4x w') (fun _ h => Nil.trans ho4x h) ?_
            replace hq := Nil.trans hq ho4x
            clear ho4x
            refine wpAnyT_take 10 (v := ?_) rfl (by kernel_rfl) (by kernel_rfl) (by kernel_rfl) (fun _ _ _ h => h) (by kernel_rfl) (by kernel_rfl) (Or.inl ⟨by kernel_rfl, ?_⟩) (Only.refl Nil _) ?_
            rotate_left
            · (intro w' hw'; go_simp; (try with_reducible rfl))
            refine wpAnyT_one (i := 11) rfl (by kernel_rfl) (fun K hK => ?_)
            go_simp
            refine hK.out _ _ (fun _ => (Only.refl Nil w4x).alloc _) ?_
            clear hK K
            have q_e := Blk.new w4x #[.string (⟨#[102]⟩ ++ S), .bool false, .int .i64 7, .int .i64 ((k : Int) + 1), .string ⟨#[]⟩, .slice (some ⟨g3, 0, none⟩) 1 1] 47
            have ho5x := alloc0 w4x (.cells #[.string (⟨#[102]⟩ ++ S), .bool false, .int .i64 7, .int .i64 ((k : Int) + 1), .string ⟨#[]⟩, .slice (some ⟨g3, 0, none⟩) 1 1] 47)
            replace q_a := q_a.kept ho5x (fun h => h)
            replace q_d := q_d.kept ho5x (fun h => h)
            replace hS3 := hS3.go ho5x
            obtain ⟨b_e, hb_e⟩ : ∃ z, w4x.heap.size = z := ⟨_, rfl⟩
            have g_e : wq.heap.size ≤ b_e := by rw [← hb_e]; exact hq.size
            have n_d_e : b_d ≠ b_e := by rw [← hb_e]; exact Nat.ne_of_lt l_d
            have n_a_e : b_a ≠ b_e := by rw [← hb_e]; exact Nat.ne_of_lt l_a
            have l_e : b_e < (w4x.alloc (.cells #[.string (⟨#[102]⟩ ++ S), .bool false, .int .i64 7, .int .i64 ((k : Int) + 1), .string ⟨#[]⟩, .slice (some ⟨g3, 0, none⟩) 1 1] 47)).heap.size := by rw [← hb_e]; simp
            replace l_d := Nat.lt_of_lt_of_le l_d ho5x.size
            replace l_a := Nat.lt_of_lt_of_le l_a ho5x.size
            obtain ⟨w5x, hw5x⟩ : ∃ z, w4x.alloc (.cells #[.string (⟨#[102]⟩ ++ S), .bool false, .int .i64 7, .int .i64 ((k : Int) + 1), .string ⟨#[]⟩, .slice (some ⟨g3, 0, none⟩) 1 1] 47) = z := ⟨_, rfl⟩
            rw [hb_e] at q_e ⊢
            rw [hw5x] at q_e ho5x l_e q_a q_d hS3 l_d l_a ⊢
            clear hb_e hw5x
            refine wpAnyT_sub (S' := fun w' => Only Nil w5x w') (fun _ h => Nil.trans ho5x h) ?_
            replace hq := Nil.trans hq ho5x
            clear ho5x
            refine wpAnyT_take 12 (v := ?_) rfl (by kernel_rfl) (by kernel_rfl) (by kernel_rfl) (fun _ _ _ h => h) (by kernel_rfl) (by kernel_rfl) (Or.inl ⟨by kernel_rfl, ?_⟩) (Only.refl Nil _) ?_
            rotate_left
            · (intro w' hw'; go_simp; (try with_reducible rfl))
            obtain ⟨wz, hwz, m1, m2, m3⟩ := chain_made (k := k) hq HMW.out q_d g_d hS3 HFE.out q_e g_e
            obtain ⟨⟨z0, z1, z2, z3⟩, zf0, zf1, zf2, zf3⟩ := q_d.Fours
            have M1 := Lib.hid m1
            have M2 := Lib.hid m2
            have M3 := Lib.hid m3
            clear hS3 q_a q_d q_e m1 m2 m3
            refine wpAnyT_one (i := 14) rfl (by kernel_rfl) (fun K hK => ?_)
            go_simp
            refine hK.out _ _ (fun h => by cases h) ?_
            clear hK K
            refine wpAnyT_done (by kernel_rfl) ?_
            (try rw [hwz])
            clear z0 z1 z2 z3 zf0 zf1 zf2 zf3 hwz
            go_wp2_with fail
            go_meet
            exact ⟨_, _, rfl, g_d, M1.out, M2.out, M3.out⟩
        · go_simp
          go_wp2_with (go_at_call 20; refine (basicR_any 1 _).mono ?_; rintro e w1x ⟨rfl, ho1x⟩)
          refine hK.out _ _ (fun _ => ho1x) ?_
          clear hK K
          refine wpAnyT_sub (S' := fun w' => Only Nil w1x w') (fun _ h => Nil.trans ho1x h) ?_
          replace hq := Nil.trans hq ho1x
          clear ho1x
          refine wpAnyT_three (i := 3) (j := 9) (k := 13) rfl rfl rfl (by kernel_rfl) (fun K hK => ?_) (fun K hK => ?_) (fun K hK => ?_)
          · go_simp
            refine hK.out _ _ (fun _ => (Only.refl Nil w1x).alloc _) ?_
            clear hK K
            have q_a := Blk.new w1x #[.int .u8 (97 + (k : Int))] 5
            have ho2x := alloc0 w1x (.cells #[.int .u8 (97 + (k : Int))] 5)
            obtain ⟨b_a, hb_a⟩ : ∃ z, w1x.heap.size = z := ⟨_, rfl⟩
            have g_a : wq.heap.size ≤ b_a := by rw [← hb_a]; exact hq.size
            have l_a : b_a < (w1x.alloc (.cells #[.int .u8 (97 + (k : Int))] 5)).heap.size := by rw [← hb_a]; simp
            obtain ⟨w2x, hw2x⟩ : ∃ z, w1x.alloc (.cells #[.int .u8 (97 + (k : Int))] 5) = z := ⟨_, rfl⟩
            rw [hb_a] at q_a ⊢
            rw [hw2x] at q_a ho2x l_a   ⊢
            clear hb_a hw2x
            refine wpAnyT_sub (S' := fun w' => Only Nil w2x w') (fun _ h => Nil.trans ho2x h) ?_
            replace hq := Nil.trans hq ho2x
            clear ho2x
            refine wpAnyT_take 4 (v := ?_) rfl (by kernel_rfl) (by kernel_rfl) (by kernel_rfl) (fun _ _ _ h => h) (by kernel_rfl) (by kernel_rfl) (Or.inl ⟨by kernel_rfl, ?_⟩) (Only.refl Nil _) ?_
            rotate_left
            · (intro w' hw'; have cv := conv_blk (c := 97 + k) (by have h := q_a.kept hw' (fun h => h); rwa [HCK.out] at h); rw [HS.out] at cv; go_simp; (try with_reducible rfl))
            refine wpAnyT_take 5 (v := ?_) rfl (by kernel_rfl) (by kernel_rfl) (by kernel_rfl) (fun _ _ _ h => h) (by kernel_rfl) (by kernel_rfl) (Or.inl ⟨by kernel_rfl, ?_⟩) (Only.refl Nil _) ?_
            rotate_left
            · (intro w' hw'; go_simp; (try with_reducible rfl))
            refine wpAnyT_two (i := 9) (j := 13) rfl rfl (by kernel_rfl) (fun K hK => ?_) (fun K hK => ?_)
            · go_simp
              go_wp2_with (go_at_call 17; refine (arrR_new (U := fun _ => False) ((k : Int) + 1) 1 0 ⟨#[]⟩ (Nat.zero_le _) (.slice none 0 0) [] w2x (TyS.nil _ w2x)).mono ?_; rintro e w3x ⟨g3, rfl, hS30, ho3x⟩; have hS3 := hS30.mono (V := fun q => wq.heap.size ≤ q) (fun q hq3 => by rcases hq3 with h | h; (exact h.elim); (exact Nat.le_trans hq.size h)); clear hS30)
              refine hK.out _ _ (fun _ => ho3x) ?_
              clear hK K
              replace q_a := q_a.kept ho3x (fun h => h)
              replace l_a := Nat.lt_of_lt_of_le l_a ho3x.size
              refine wpAnyT_sub (S' := fun w' => Only Nil w3x w') (fun _ h => Nil.trans ho3x h) ?_
              replace hq := Nil.trans hq ho3x
              clear ho3x
              refine wpAnyT_take 10 (v := ?_) rfl (by kernel_rfl) (by kernel_rfl) (by kernel_rfl) (fun _ _ _ h => h) (by kernel_rfl) (by kernel_rfl) (Or.inl ⟨by kernel_rfl, ?_⟩) (Only.refl Nil _) ?_
              rotate_left
              · (intro w' hw'; go_simp; (try with_reducible rfl))
              refine wpAnyT_two (i := 11) (j := 13) rfl rfl (by kernel_rfl) (fun K hK => ?_) (fun K hK => ?_)
              · go_simp
                refine hK.out _ _ (fun _ => (Only.refl Nil w3x).alloc _) ?_
                clear hK K
                have q_e := Blk.new w3x #[.string (⟨#[102]⟩ ++ S), .bool false, .int .i64 7, .int .i64 ((k : Int) + 1), .string ⟨#[]⟩, .slice (some ⟨g3, 0, none⟩) 1 1] 47
                have ho4x := alloc0 w3x (.cells #[.string (⟨#[102]⟩ ++ S), .bool false, .int .i64 7, .int .i64 ((k : Int) + 1), .string ⟨#[]⟩, .slice (some ⟨g3, 0, none⟩) 1 1] 47)
                replace q_a := q_a.kept ho4x (fun h => h)
                replace hS3 := hS3.go ho4x
                obtain ⟨b_e, hb_e⟩ : ∃ z, w3x.heap.size = z := ⟨_, rfl⟩
                have g_e : wq.heap.size ≤ b_e := by rw [← hb_e]; exact hq.size
                have n_a_e : b_a ≠ b_e := by rw [← hb_e]; exact Nat.ne_of_lt l_a
                have l_e : b_e < (w3x.alloc (.cells #[.string (⟨#[102]⟩ ++ S), .bool false, .int .i64 7, .int .i64 ((k : Int) + 1), .string ⟨#[]⟩, .slice (some ⟨g3, 0, none⟩) 1 1] 47)).heap.size := by rw [← hb_e]; simp
                replace l_a := Nat.lt_of_lt_of_le l_a ho4x.size
                obtain ⟨w4x, hw4x⟩ : ∃ z, w3x.alloc (.cells #[.string (⟨#[102]⟩ ++ S), .bool false, .int .i64 7, .int .i64 ((k : Int) + 1), .string ⟨#[]⟩, .slice (some ⟨g3, 0, none⟩) 1 1] 47) = z := ⟨_, rfl⟩
                rw [hb_e] at q_e ⊢
                rw [hw4x] at q_e ho4x l_e q_a hS3 l_a ⊢
                clear hb_e hw4x
                refine wpAnyT_sub (S' := fun w' => Only Nil w4x w') (fun _ h => Nil.trans ho4x h) ?_
                replace hq := Nil.trans hq ho4x
                clear ho4x
                refine wpAnyT_take 12 (v := ?_) rfl (by kernel_rfl) (by kernel_rfl) (by kernel_rfl) (fun _ _ _ h => h) (by kernel_rfl) (by kernel_rfl) (Or.inl ⟨by kernel_rfl, ?_⟩) (Only.refl Nil _) ?_
                rotate_left
                · (intro w' hw'; go_simp; (try with_reducible rfl))
                refine wpAnyT_one (i := 13) rfl (by kernel_rfl) (fun K hK => ?_)
                go_simp
                refine hK.out _ _ (fun _ => (Only.refl Nil w4x).alloc _) ?_
                clear hK K
                have q_d := Blk.new w4x #[.string ⟨#[]⟩, .bool false, .string ⟨#[]⟩, .slice none 0 0] 49
                have ho5x := alloc0 w4x (.cells #[.string ⟨#[]⟩, .bool false, .string ⟨#[]⟩, .slice none 0 0] 49)
                replace q_a := q_a.kept ho5x (fun h => h)
                replace hS3 := hS3.go ho5x
                replace q_e := q_e.kept ho5x (fun h => h)
                obtain ⟨b_d, hb_d⟩ : ∃ z, w4x.heap.size = z := ⟨_, rfl⟩
                have g_d : wq.heap.size ≤ b_d := by rw [← hb_d]; exact hq.size
                have n_e_d : b_e ≠ b_d := by rw [← hb_d]; exact Nat.ne_of_lt l_e
                have n_a_d : b_a ≠ b_d := by rw [← hb_d]; exact Nat.ne_of_lt l_a
                have l_d : b_d < (w4x.alloc (.cells #[.string ⟨#[]⟩, .bool false, .string ⟨#[]⟩, .slice none 0 0] 49)).heap.size := by rw [← hb_d]; simp
                replace l_e := Nat.lt_of_lt_of_le l_e ho5x.size
                replace l_a := Nat.lt_of_lt_of_le l_a ho5x.size
                obtain ⟨w5x, hw5x⟩ : ∃ z, w4x.alloc (.cells #[.string ⟨#[]⟩, .bool false, .string ⟨#[]⟩, .slice none 0 0] 49) = z := ⟨_, rfl⟩
                rw [hb_d] at q_d ⊢
                rw [hw5x] at q_d ho5x l_d q_a hS3 q_e l_e l_a ⊢
                clear hb_d hw5x
                refine wpAnyT_sub (S' := fun w' => Only Nil w5x w') (fun _ h => Nil.trans ho5x h) ?_
                replace hq := Nil.trans hq ho5x
                clear ho5x
                obtain ⟨wz, hwz, m1, m2, m3⟩ := chain_made (k := k) hq HMW.out q_d g_d hS3 HFE.out q_e g_e
                obtain ⟨⟨z0, z1, z2, z3⟩, zf0, zf1, zf2, zf3⟩ := q_d.Fours
                have M1 := Lib.hid m1
                have M2 := Lib.hid m2
                have M3 := Lib.hid m3
                clear hS3 q_a q_d q_e m1 m2 m3
                refine wpAnyT_one (i := 14) rfl (by kernel_rfl) (fun K hK => ?_)
                go_simp
                refine hK.out _ _ (fun h => by cases h) ?_
                clear hK K
                refine wpAnyT_done (by kernel_rfl) ?_
                (try rw [hwz])
                clear z0 z1 z2 z3 zf0 zf1 zf2 zf3 hwz
                go_wp2_with fail
                go_meet
                exact ⟨_, _, rfl, g_d, M1.out, M2.out, M3.out⟩
              · go_simp
                refine hK.out _ _ (fun _ => (Only.refl Nil w3x).alloc _) ?_
                clear hK K
                have q_d := Blk.new w3x #[.string ⟨#[]⟩, .bool false, .string ⟨#[]⟩, .slice none 0 0] 49
                have ho4x := alloc0 w3x (.cells #[.string ⟨#[]⟩, .bool false, .string ⟨#[]⟩, .slice none 0 0] 49)
                replace q_a := q_a.kept ho4x (fun h => h)
                replace hS3 := hS3.go ho4x
                obtain ⟨b_d, hb_d⟩ : ∃ z, w3x.heap.size = z := ⟨_, rfl⟩
                have g_d : wq.heap.size ≤ b_d := by rw [← hb_d]; exact hq.size
                have n_a_d : b_a ≠ b_d := by rw [← hb_d]; exact Nat.ne_of_lt l_a
                have l_d : b_d < (w3x.alloc (.cells #[.string ⟨#[]⟩, .bool false, .string ⟨#[]⟩, .slice none 0 0] 49)).heap.size := by rw [← hb_d]; simp
                replace l_a := Nat.lt_of_lt_of_le l_a ho4x.size
                obtain ⟨w4x, hw4x⟩ : ∃ z, w3x.alloc (.cells #[.string ⟨#[]⟩, .bool false, .string ⟨#[]⟩, .slice none 0 0] 49) = z := ⟨_, rfl⟩
                rw [hb_d] at q_d ⊢
                rw [hw4x] at q_d ho4x l_d q_a hS3 l_a ⊢
                clear hb_d hw4x
                refine wpAnyT_sub (S' := fun w' => Only Nil w4x w') (fun _ h => Nil.trans ho4x h) ?_
                replace hq := Nil.trans hq ho4x
                clear ho4x
                refine wpAnyT_one (i := 11) rfl (by kernel_rfl) (fun K hK => ?_)
                go_simp
                refine hK.out _ _ (fun _ => (Only.refl Nil w4x).alloc _) ?_
                clear hK K
                have q_e := Blk.new w4x #[.string (⟨#[102]⟩ ++ S), .bool false, .int .i64 7, .int .i64 ((k : Int) + 1), .string ⟨#[]⟩, .slice (some ⟨g3, 0, none⟩) 1 1] 47
                have ho5x := alloc0 w4x (.cells #[.string (⟨#[102]⟩ ++ S), .bool false, .int .i64 7, .int .i64 ((k : Int) + 1), .string ⟨#[]⟩, .slice (some ⟨g3, 0, none⟩) 1 1] 47)
                replace q_a := q_a.kept ho5x (fun h => h)
                replace hS3 := hS3.go ho5x
                replace q_d := q_d.kept ho5x (fun h => h)
                obtain ⟨b_e, hb_e⟩ : ∃ z, w4x.heap.size = z := ⟨_, rfl⟩
                have g_e : wq.heap.size ≤ b_e := by rw [← hb_e]; exact hq.size
                have n_d_e : b_d ≠ b_e := by rw [← hb_e]; exact Nat.ne_of_lt l_d
                have n_a_e : b_a ≠ b_e := by rw [← hb_e]; exact Nat.ne_of_lt l_a
                have l_e : b_e < (w4x.alloc (.cells #[.string (⟨#[102]⟩ ++ S), .bool false, .int .i64 7, .int .i64 ((k : Int) + 1), .string ⟨#[]⟩, .slice (some ⟨g3, 0, none⟩) 1 1] 47)).heap.size := by rw [← hb_e]; simp
                replace l_d := Nat.lt_of_lt_of_le l_d ho5x.size
                replace l_a := Nat.lt_of_lt_of_le l_a ho5x.size
                obtain ⟨w5x, hw5x⟩ : ∃ z, w4x.alloc (.cells #[.string (⟨#[102]⟩ ++ S), .bool false, .int .i64 7, .int .i64 ((k : Int) + 1), .string ⟨#[]⟩, .slice (some ⟨g3, 0, none⟩) 1 1] 47) = z := ⟨_, rfl⟩
                rw [hb_e] at q_e ⊢
                rw [hw5x] at q_e ho5x l_e q_a hS3 q_d l_d l_a ⊢
                clear hb_e hw5x
                refine wpAnyT_sub (S' := fun w' => Only Nil w5x w') (fun _ h => Nil.trans ho5x h) ?_
                replace hq := Nil.trans hq ho5x
                clear ho5x
                refine wpAnyT_take 12 (v := ?_) rfl (by kernel_rfl) (by kernel_rfl) (by kernel_rfl) (fun _ _ _ h => h) (by kernel_rfl) (by kernel_rfl) (Or.inl ⟨by kernel_rfl, ?_⟩) (Only.refl Nil _) ?_
                rotate_left
                · (intro w' hw'; go_simp; (try with_reducible rfl))
                obtain ⟨wz, hwz, m1, m2, m3⟩ := chain_made (k := k) hq HMW.out q_d g_d hS3 HFE.out q_e g_e
                obtain ⟨⟨z0, z1, z2, z3⟩, zf0, zf1, zf2, zf3⟩ := q_d.Fours
                have M1 := Lib.hid m1
                have M2 := Lib.hid m2
                have M3 := Lib.hid m3
                clear hS3 q_a q_d q_e m1 m2 m3
                refine wpAnyT_one (i := 14) rfl (by kernel_rfl) (fun K hK => ?_)
                go_simp
                refine hK.out _ _ (fun h => by cases h) ?_
                clear hK K
                refine wpAnyT_done (by kernel_rfl) ?_
                (try rw [hwz])
                clear z0 z1 z2 z3 zf0 zf1 zf2 zf3 hwz
                go_wp2_with fail
                go_meet
                exact ⟨_, _, rfl, g_d, M1.out, M2.out, M3.out⟩
            · go_simp
              refine hK.out _ _ (fun _ => (Only.refl Nil w2x).alloc _) ?_
              clear hK K
              have q_d := Blk.new w2x #[.string ⟨#[]⟩, .bool false, .string ⟨#[]⟩, .slice none 0 0] 49
              have ho3x := alloc0 w2x (.cells #[.string ⟨#[]⟩, .bool false, .string ⟨#[]⟩, .slice none 0 0] 49)
              replace q_a := q_a.kept ho3x (fun h => h)
              obtain ⟨b_d, hb_d⟩ : ∃ z, w2x.heap.size = z := ⟨_, rfl⟩
              have g_d : wq.heap.size ≤ b_d := by rw [← hb_d]; exact hq.size
              have n_a_d : b_a ≠ b_d := by rw [← hb_d]; exact Nat.ne_of_lt l_a
              have l_d : b_d < (w2x.alloc (.cells #[.string ⟨#[]⟩, .bool false, .string ⟨#[]⟩, .slice none 0 0] 49)).heap.size := by rw [← hb_d]; simp
              replace l_a := Nat.lt_of_lt_of_le l_a ho3x.size
              obtain ⟨w3x, hw3x⟩ : ∃ z, w2x.alloc (.cells #[.string ⟨#[]⟩, .bool false, .string ⟨#[]⟩, .slice none 0 0] 49) = z := ⟨_, rfl⟩
              rw [hb_d] at q_d ⊢
              rw [hw3x] at q_d ho3x l_d q_a l_a ⊢
              clear hb_d hw3x
              refine wpAnyT_sub (S' := fun w' => Only Nil w3x w') (fun _ h => Nil.trans ho3x h) ?_
              replace hq := Nil.trans hq ho3x
              clear ho3x
              refine wpAnyT_one (i := 9) rfl (by kernel_rfl) (fun K hK => ?_)
              go_simp
              go_wp2_with (go_at_call 17; refine (arrR_new (U := fun _ => False) ((k : Int) + 1) 1 0 ⟨#[]⟩ (Nat.zero_le _) (.slice none 0 0) [] w3x (TyS.nil _ w3x)).mono ?_; rintro e w4x ⟨g3, rfl, hS30, ho4x⟩; have hS3 := hS30.mono (V := fun q => wq.heap.size ≤ q) (fun q hq3 => by rcases hq3 with h | h; (exact h.elim); (exact Nat.le_trans hq.size h)); clear hS30)
              refine hK.out _ _ (fun _ => ho4x) ?_
              clear hK K
              replace q_a := q_a.kept ho4x (fun h => h)
              replace q_d := q_d.kept ho4x (fun h => h)
              replace l_d := Nat.lt_of_lt_of_le l_d ho4x.size
              replace l_a := Nat.lt_of_lt_of_le l_a ho4x.size
              refine wpAnyT_sub (S' := fun w' => Only Nil w4x w') (fun _ h => Nil.trans ho4x h) ?_
              replace hq := Nil.trans hq ho4x
              clear ho4x
              refine wpAnyT_take 10 (v := ?_) rfl (by kernel_rfl) (by kernel_rfl) (by kernel_rfl) (fun _ _ _ h => h) (by kernel_rfl) (by kernel_rfl) (Or.inl ⟨by kernel_rfl, ?_⟩) (Only.refl Nil _) ?_
              rotate_left
              · (intro w' hw'; go_simp; (try with_reducible rfl))
              refine wpAnyT_one (i := 11) rfl (by kernel_rfl) (fun K hK => ?_)
              go_simp
              refine hK.out _ _ (fun _ => (Only.refl Nil w4x).alloc _) ?_
              clear hK K
              have q_e := Blk.new w4x #[.string (⟨#[102]⟩ ++ S), .bool false, .int .i64 7, .int .i64 ((k : Int) + 1), .string ⟨#[]⟩, .slice (some ⟨g3, 0, none⟩) 1 1] 47
              have ho5x := alloc0 w4x (.cells #[.string (⟨#[102]⟩ ++ S), .bool false, .int .i64 7, .int .i64 ((k : Int) + 1), .string ⟨#[]⟩, .slice (some ⟨g3, 0, none⟩) 1 1] 47)
              replace q_a := q_a.kept ho5x (fun h => h)
              replace q_d := q_d.kept ho5x (fun h => h)
              replace hS3 := hS3.go ho5x
              obtain ⟨b_e, hb_e⟩ : ∃ z, w4x.heap.size = z := ⟨_, rfl⟩
              have g_e : wq.heap.size ≤ b_e := by rw [← hb_e]; exact hq.size
              have n_d_e : b_d ≠ b_e := by rw [← hb_e]; exact Nat.ne_of_lt l_d
              have n_a_e : b_a ≠ b_e := by rw [← hb_e]; exact Nat.ne_of_lt l_a
              have l_e : b_e < (w4x.alloc (.cells #[.string (⟨#[102]⟩ ++ S), .bool false, .int .i64 7, .int .i64 ((k : Int) + 1), .string ⟨#[]⟩, .slice (some ⟨g3, 0, none⟩) 1 1] 47)).heap.size := by rw [← hb_e]; simp
              replace l_d := Nat.lt_of_lt_of_le l_d ho5x.size
              replace l_a := Nat.lt_of_lt_of_le l_a ho5x.size
              obtain ⟨w5x, hw5x⟩ : ∃ z, w4x.alloc (.cells #[.string (⟨#[102]⟩ ++ S), .bool false, .int .i64 7, .int .i64 ((k : Int) + 1), .string ⟨#[]⟩, .slice (some ⟨g3, 0, none⟩) 1 1] 47) = z := ⟨_, rfl⟩
              rw [hb_e] at q_e ⊢
              rw [hw5x] at q_e ho5x l_e q_a q_d hS3 l_d l_a ⊢
              clear hb_e hw5x
              refine wpAnyT_sub (S' := fun w' => Only Nil w5x w') (fun _ h => Nil.trans ho5x h) ?_
              replace hq := Nil.trans hq ho5x
              clear ho5x
              refine wpAnyT_take 12 (v := ?_) rfl (by kernel_rfl) (by kernel_rfl) (by kernel_rfl) (fun _ _ _ h => h) (by kernel_rfl) (by kernel_rfl) (Or.inl ⟨by kernel_rfl, ?_⟩) (Only.refl Nil _) ?_
              rotate_left
              · (intro w' hw'; go_simp; (try with_reducible rfl))
              obtain ⟨wz, hwz, m1, m2, m3⟩ := chain_made (k := k) hq HMW.out q_d g_d hS3 HFE.out q_e g_e
              obtain ⟨⟨z0, z1, z2, z3⟩, zf0, zf1, zf2, zf3⟩ := q_d.Fours
              have M1 := Lib.hid m1
              have M2 := Lib.hid m2
              have M3 := Lib.hid m3
              clear hS3 q_a q_d q_e m1 m2 m3
              refine wpAnyT_one (i := 14) rfl (by kernel_rfl) (fun K hK => ?_)
              go_simp
              refine hK.out _ _ (fun h => by cases h) ?_
              clear hK K
              refine wpAnyT_done (by kernel_rfl) ?_
              (try rw [hwz])
              clear z0 z1 z2 z3 zf0 zf1 zf2 zf3 hwz
              go_wp2_with fail
              go_meet
              exact ⟨_, _, rfl, g_d, M1.out, M2.out, M3.out⟩
          · go_simp
            go_wp2_with (go_at_call 17; refine (arrR_new (U := fun _ => False) ((k : Int) + 1) 1 0 ⟨#[]⟩ (Nat.zero_le _) (.slice none 0 0) [] w1x (TyS.nil _ w1x)).mono ?_; rintro e w2x ⟨g3, rfl, hS30, ho2x⟩; have hS3 := hS30.mono (V := fun q => wq.heap.size ≤ q) (fun q hq3 => by rcases hq3 with h | h; (exact h.elim); (exact Nat.le_trans hq.size h)); clear hS30)
            refine hK.out _ _ (fun _ => ho2x) ?_
            clear hK K
            refine wpAnyT_sub (S' := fun w' => Only Nil w2x w') (fun _ h => Nil.trans ho2x h) ?_
            replace hq := Nil.trans hq ho2x
            clear ho2x
            refine wpAnyT_two (i := 3) (j := 13) rfl rfl (by kernel_rfl) (fun K hK => ?_) (fun K hK => ?_)
            · go_simp
              refine hK.out _ _ (fun _ => (Only.refl Nil w2x).alloc _) ?_
              clear hK K
              have q_a := Blk.new w2x #[.int .u8 (97 + (k : Int))] 5
              have ho3x := alloc0 w2x (.cells #[.int .u8 (97 + (k : Int))] 5)
              replace hS3 := hS3.go ho3x
              obtain ⟨b_a, hb_a⟩ : ∃ z, w2x.heap.size = z := ⟨_, rfl⟩
              have g_a : wq.heap.size ≤ b_a := by rw [← hb_a]; exact hq.size
              have l_a : b_a < (w2x.alloc (.cells #[.int .u8 (97 + (k : Int))] 5)).heap.size := by rw [← hb_a]; simp
              obtain ⟨w3x, hw3x⟩ : ∃ z, w2x.alloc (.cells #[.int .u8 (97 + (k : Int))] 5) = z := ⟨_, rfl⟩
              rw [hb_a] at q_a ⊢
              rw [hw3x] at q_a ho3x l_a hS3  ⊢
              clear hb_a hw3x
              refine wpAnyT_sub (S' := fun w' => Only Nil w3x w') (fun _ h => Nil.trans ho3x h) ?_
              replace hq := Nil.trans hq ho3x
              clear ho3x
              refine wpAnyT_take 4 (v := ?_) rfl (by kernel_rfl) (by kernel_rfl) (by kernel_rfl) (fun _ _ _ h => h) (by kernel_rfl) (by kernel_rfl) (Or.inl ⟨by kernel_rfl, ?_⟩) (Only.refl Nil _) ?_
              rotate_left
              · (intro w' hw'; have cv := conv_blk (c := 97 + k) (by have h := q_a.kept hw' (fun h => h); rwa [HCK.out] at h); rw [HS.out] at cv; go_simp; (try with_reducible rfl))
              refine wpAnyT_take 5 (v := ?_) rfl (by kernel_rfl) (by kernel_rfl) (by kernel_rfl) (fun _ _ _ h => h) (by kernel_rfl) (by kernel_rfl) (Or.inl ⟨by kernel_rfl, ?_⟩) (Only.refl Nil _) ?_
              rotate_left
              · (intro w' hw'; go_simp; (try with_reducible rfl))
              refine wpAnyT_take 10 (v := ?_) rfl (by kernel_rfl) (by kernel_rfl) (by kernel_rfl) (fun _ _ _ h => h) (by kernel_rfl) (by kernel_rfl) (Or.inl ⟨by kernel_rfl, ?_⟩) (Only.refl Nil _) ?_
              rotate_left
              · (intro w' hw'; go_simp; (try with_reducible rfl))
              refine wpAnyT_two (i := 11) (j := 13) rfl rfl (by kernel_rfl) (fun K hK => ?_) (fun K hK => ?_)
              · go_simp
                refine hK.out _ _ (fun _ => (Only.refl Nil w3x).alloc _) ?_
                clear hK K
                have q_e := Blk.new w3x #[.string (⟨#[102]⟩ ++ S), .bool false, .int .i64 7, .int .i64 ((k : Int) + 1), .string ⟨#[]⟩, .slice (some ⟨g3, 0, none⟩) 1 1] 47
                have ho4x := alloc0 w3x (.cells #[.string (⟨#[102]⟩ ++ S), .bool false, .int .i64 7, .int .i64 ((k : Int) + 1), .string ⟨#[]⟩, .slice (some ⟨g3, 0, none⟩) 1 1] 47)
                replace hS3 := hS3.go ho4x
                replace q_a := q_a.kept ho4x (fun h => h)
                obtain ⟨b_e, hb_e⟩ : ∃ z, w3x.heap.size = z := ⟨_, rfl⟩
                have g_e : wq.heap.size ≤ b_e := by rw [← hb_e]; exact hq.size
                have n_a_e : b_a ≠ b_e := by rw [← hb_e]; exact Nat.ne_of_lt l_a
                have l_e : b_e < (w3x.alloc (.cells #[.string (⟨#[102]⟩ ++ S), .bool false, .int .i64 7, .int .i64 ((k : Int) + 1), .string ⟨#[]⟩, .slice (some ⟨g3, 0, none⟩) 1 1] 47)).heap.size := by rw [← hb_e]; simp
                replace l_a := Nat.lt_of_lt_of_le l_a ho4x.size
                obtain ⟨w4x, hw4x⟩ : ∃ z, w3x.alloc (.cells #[.string (⟨#[102]⟩ ++ S), .bool false, .int .i64 7, .int .i64 ((k : Int) + 1), .string ⟨#[]⟩, .slice (some ⟨g3, 0, none⟩) 1 1] 47) = z := ⟨_, rfl⟩
                rw [hb_e] at q_e ⊢
                rw [hw4x] at q_e ho4x l_e hS3 q_a l_a ⊢
                clear hb_e hw4x
                refine wpAnyT_sub (S' := fun w' => Only Nil w4x w') (fun _ h => Nil.trans ho4x h) ?_
                replace hq := Nil.trans hq ho4x
                clear ho4x
                refine wpAnyT_take 12 (v := ?_) rfl (by kernel_rfl) (by kernel_rfl) (by kernel_rfl) (fun _ _ _ h => h) (by kernel_rfl) (by kernel_rfl) (Or.inl ⟨by kernel_rfl, ?_⟩) (Only.refl Nil _) ?_
                rotate_left
                · (intro w' hw'; go_simp; (try with_reducible rfl))
                refine wpAnyT_one (i := 13) rfl (by kernel_rfl) (fun K hK => ?_)
                go_simp
                refine hK.out _ _ (fun _ => (Only.refl Nil w4x).alloc _) ?_
                clear hK K
                have q_d := Blk.new w4x #[.string ⟨#[]⟩, .bool false, .string ⟨#[]⟩, .slice none 0 0] 49
                have ho5x := alloc0 w4x (.cells #[.string ⟨#[]⟩, .bool false, .string ⟨#[]⟩, .slice none 0 0] 49)
                replace hS3 := hS3.go ho5x
                replace q_a := q_a.kept ho5x (fun h => h)
                replace q_e := q_e.kept ho5x (fun h => h)
                obtain ⟨b_d, hb_d⟩ : ∃ z, w4x.heap.size = z := ⟨_, rfl⟩
                have g_d : wq.heap.size ≤ b_d := by rw [← hb_d]; exact hq.size
                have n_e_d : b_e ≠ b_d := by rw [← hb_d]; exact Nat.ne_of_lt l_e
                have n_a_d : b_a ≠ b_d := by rw [← hb_d]; exact Nat.ne_of_lt l_a
                have l_d : b_d < (w4x.alloc (.cells #[.string ⟨#[]⟩, .bool false, .string ⟨#[]⟩, .slice none 0 0] 49)).heap.size := by rw [← hb_d]; simp
                replace l_e := Nat.lt_of_lt_of_le l_e ho5x.size
                replace l_a := Nat.lt_of_lt_of_le l_a ho5x.size
                obtain ⟨w5x, hw5x⟩ : ∃ z, w4x.alloc (.cells #[.string ⟨#[]⟩, .bool false, .string ⟨#[]⟩, .slice none 0 0] 49) = z := ⟨_, rfl⟩
                rw [hb_d] at q_d ⊢
                rw [hw5x] at q_d ho5x l_d hS3 q_a q_e l_e l_a ⊢
                clear hb_d hw5x
                refine wpAnyT_sub (S' := fun w' => Only Nil w5x w') (fun _ h => Nil.trans ho5x h) ?_
                replace hq := Nil.trans hq ho5x
                clear ho5x
                obtain ⟨wz, hwz, m1, m2, m3⟩ := chain_made (k := k) hq HMW.out q_d g_d hS3 HFE.out q_e g_e
                obtain ⟨⟨z0, z1, z2, z3⟩, zf0, zf1, zf2, zf3⟩ := q_d.Fours
                have M1 := Lib.hid m1
                have M2 := Lib.hid m2
                have M3 := Lib.hid m3
                clear hS3 q_a q_d q_e m1 m2 m3
                refine wpAnyT_one (i := 14) rfl (by kernel_rfl) (fun K hK => ?_)
                go_simp
                refine hK.out _ _ (fun h => by cases h) ?_
                clear hK K
                refine wpAnyT_done (by kernel_rfl) ?_
                (try rw [hwz])
                clear z0 z1 z2 z3 zf0 zf1 zf2 zf3 hwz
                go_wp2_with fail
                go_meet
                exact ⟨_, _, rfl, g_d, M1.out, M2.out, M3.out⟩
              · go_simp
                refine hK.out _ _ (fun _ => (Only.refl Nil w3x).alloc _) ?_
                clear hK K
                have q_d := Blk.new w3x #[.string ⟨#[]⟩, .bool false, .string ⟨#[]⟩, .slice none 0 0] 49
                have ho4x := alloc0 w3x (.cells #[.string ⟨#[]⟩, .bool false, .string ⟨#[]⟩, .slice none 0 0] 49)
                replace hS3 := hS3.go ho4x
                replace q_a := q_a.kept ho4x (fun h => h)
                obtain ⟨b_d, hb_d⟩ : ∃ z, w3x.heap.size = z := ⟨_, rfl⟩
                have g_d : wq.heap.size ≤ b_d := by rw [← hb_d]; exact hq.size
                have n_a_d : b_a ≠ b_d := by rw [← hb_d]; exact Nat.ne_of_lt l_a
                have l_d : b_d < (w3x.alloc (.cells #[.string ⟨#[]⟩, .bool false, .string ⟨#[]⟩, .slice none 0 0] 49)).heap.size := by rw [← hb_d]; simp
                replace l_a := Nat.lt_of_lt_of_le l_a ho4x.size
                obtain ⟨w4x, hw4x⟩ : ∃ z, w3x.alloc (.cells #[.string ⟨#[]⟩, .bool false, .string ⟨#[]⟩, .slice none 0 0] 49) = z := ⟨_, rfl⟩
                rw [hb_d] at q_d ⊢
                rw [hw4x] at q_d ho4x l_d hS3 q_a l_a ⊢
                clear hb_d hw4x
                refine wpAnyT_sub (S' := fun w' => Only Nil w4x w') (fun _ h => Nil.trans ho4x h) ?_
                replace hq := Nil.trans hq ho4x
                clear ho4x
                refine wpAnyT_one (i := 11) rfl (by kernel_rfl) (fun K hK => ?_)
                go_simp
                refine hK.out _ _ (fun _ => (Only.refl Nil w4x).alloc _) ?_
                clear hK K
                have q_e := Blk.new w4x #[.string (⟨#[102]⟩ ++ S), .bool false, .int .i64 7, .int .i64 ((k : Int) + 1), .string ⟨#[]⟩, .slice (some ⟨g3, 0, none⟩) 1 1] 47
                have ho5x := alloc0 w4x (.cells #[.string (⟨#[102]⟩ ++ S), .bool false, .int .i64 7, .int .i64 ((k : Int) + 1), .string ⟨#[]⟩, .slice (some ⟨g3, 0, none⟩) 1 1] 47)
                replace hS3 := hS3.go ho5x
                replace q_a := q_a.kept ho5x (fun h => h)
                replace q_d := q_d.kept ho5x (fun h => h)
                obtain ⟨b_e, hb_e⟩ : ∃ z, w4x.heap.size = z := ⟨_, rfl⟩
                have g_e : wq.heap.size ≤ b_e := by rw [← hb_e]; exact hq.size
                have n_d_e : b_d ≠ b_e := by rw [← hb_e]; exact Nat.ne_of_lt l_d
                have n_a_e : b_a ≠ b_e := by rw [← hb_e]; exact Nat.ne_of_lt l_a
                have l_e : b_e < (w4x.alloc (.cells #[.string (⟨#[102]⟩ ++ S), .bool false, .int .i64 7, .int .i64 ((k : Int) + 1), .string ⟨#[]⟩, .slice (some ⟨g3, 0, none⟩) 1 1] 47)).heap.size := by rw [← hb_e]; simp
                replace l_d := Nat.lt_of_lt_of_le l_d ho5x.size
                replace l_a := Nat.lt_of_lt_of_le l_a ho5x.size
                obtain ⟨w5x, hw5x⟩ : ∃ z, w4x.alloc (.cells #[.string (⟨#[102]⟩ ++ S), .bool false, .int .i64 7, .int .i64 ((k : Int) + 1), .string ⟨#[]⟩, .slice (some ⟨g3, 0, none⟩) 1 1] 47) = z := ⟨_, rfl⟩
                rw [hb_e] at q_e ⊢
                rw [hw5x] at q_e ho5x l_e hS3 q_a q_d l_d l_a ⊢
                clear hb_e hw5x
                refine wpAnyT_sub (S' := fun w' => Only Nil w5x w') (fun _ h => Nil.trans ho5x h) ?_
                replace hq := Nil.trans hq ho5x
                clear ho5x
                refine wpAnyT_take 12 (v := ?_) rfl (by kernel_rfl) (by kernel_rfl) (by kernel_rfl) (fun _ _ _ h => h) (by kernel_rfl) (by kernel_rfl) (Or.inl ⟨by kernel_rfl, ?_⟩) (Only.refl Nil _) ?_
                rotate_left
                · (intro w' hw'; go_simp; (try with_reducible rfl))
                obtain ⟨wz, hwz, m1, m2, m3⟩ := chain_made (k := k) hq HMW.out q_d g_d hS3 HFE.out q_e g_e
                obtain ⟨⟨z0, z1, z2, z3⟩, zf0, zf1, zf2, zf3⟩ := q_d.Fours
                have M1 := Lib.hid m1
                have M2 := Lib.hid m2
                have M3 := Lib.hid m3
                clear hS3 q_a q_d q_e m1 m2 m3
                refine wpAnyT_one (i := 14) rfl (by kernel_rfl) (fun K hK => ?_)
                go_simp
                refine hK.out _ _ (fun h => by cases h) ?_
                clear hK K
                refine wpAnyT_done (by kernel_rfl) ?_
                (try rw [hwz])
                clear z0 z1 z2 z3 zf0 zf1 zf2 zf3 hwz
                go_wp2_with fail
                go_meet
                exact ⟨_, _, rfl, g_d, M1.out, M2.out, M3.out⟩
            · go_simp
              refine hK.out _ _ (fun _ => (Only.refl Nil w2x).alloc _) ?_
              clear hK K
              have q_d := Blk.new w2x #[.string ⟨#[]⟩, .bool false, .string ⟨#[]⟩, .slice none 0 0] 49
              have ho3x := alloc0 w2x (.cells #[.string ⟨#[]⟩, .bool false, .string ⟨#[]⟩, .slice none 0 0] 49)
              replace hS3 := hS3.go ho3x
              obtain ⟨b_d, hb_d⟩ : ∃ z, w2x.heap.size = z := ⟨_, rfl⟩
              have g_d : wq.heap.size ≤ b_d := by rw [← hb_d]; exact hq.size
              have l_d : b_d < (w2x.alloc (.cells #[.string ⟨#[]⟩, .bool false, .string ⟨#[]⟩, .slice none 0 0] 49)).heap.size := by rw [← hb_d]; simp
              obtain ⟨w3x, hw3x⟩ : ∃ z, w2x.alloc (.cells #[.string ⟨#[]⟩, .bool false, .string ⟨#[]⟩, .slice none 0 0] 49) = z := ⟨_, rfl⟩
              rw [hb_d] at q_d ⊢
              rw [hw3x] at q_d ho3x l_d hS3  ⊢
              clear hb_d hw3x
              refine wpAnyT_sub (S' := fun w' => Only Nil w3x w') (fun _ h => Nil.trans ho3x h) ?_
              replace hq := Nil.trans hq ho3x
              clear ho3x
              refine wpAnyT_one (i := 3) rfl (by kernel_rfl) (fun K hK => ?_)
              go_simp
              refine hK.out _ _ (fun _ => (Only.refl Nil w3x).alloc _) ?_
              clear hK K
              have q_a := Blk.new w3x #[.int .u8 (97 + (k : Int))] 5
              have ho4x := alloc0 w3x (.cells #[.int .u8 (97 + (k : Int))] 5)
              replace hS3 := hS3.go ho4x
              replace q_d := q_d.kept ho4x (fun h => h)
              obtain ⟨b_a, hb_a⟩ : ∃ z, w3x.heap.size = z := ⟨_, rfl⟩
              have g_a : wq.heap.size ≤ b_a := by rw [← hb_a]; exact hq.size
              have n_d_a : b_d ≠ b_a := by rw [← hb_a]; exact Nat.ne_of_lt l_d
              have l_a : b_a < (w3x.alloc (.cells #[.int .u8 (97 + (k : Int))] 5)).heap.size := by rw [← hb_a]; simp
              replace l_d := Nat.lt_of_lt_of_le l_d ho4x.size
              obtain ⟨w4x, hw4x⟩ : ∃ z, w3x.alloc (.cells #[.int .u8 (97 + (k : Int))] 5) = z := ⟨_, rfl⟩
              rw [hb_a] at q_a ⊢
              rw [hw4x] at q_a ho4x l_a hS3 q_d l_d ⊢
              clear hb_a hw4x
              refine wpAnyT_sub (S' := fun w' => Only Nil w4x w') (fun _ h => Nil.trans ho4x h) ?_
              replace hq := Nil.trans hq ho4x
              clear ho4x
              refine wpAnyT_take 4 (v := ?_) rfl (by kernel_rfl) (by kernel_rfl) (by kernel_rfl) (fun _ _ _ h => h) (by kernel_rfl) (by kernel_rfl) (Or.inl ⟨by kernel_rfl, ?_⟩) (Only.refl Nil _) ?_
              rotate_left
              · (intro w' hw'; have cv := conv_blk (c := 97 + k) (by have h := q_a.kept hw' (fun h => h); rwa [HCK.out] at h); rw [HS.out] at cv; go_simp; (try with_reducible rfl))
              refine wpAnyT_take 5 (v := ?_) rfl (by kernel_rfl) (by kernel_rfl) (by kernel_rfl) (fun _ _ _ h => h) (by kernel_rfl) (by kernel_rfl) (Or.inl ⟨by kernel_rfl, ?_⟩) (Only.refl Nil _) ?_
              rotate_left
              · (intro w' hw'; go_simp; (try with_reducible rfl))
              refine wpAnyT_take 10 (v := ?_) rfl (by kernel_rfl) (by kernel_rfl) (by kernel_rfl) (fun _ _ _ h => h) (by kernel_rfl) (by kernel_rfl) (Or.inl ⟨by kernel_rfl, ?_⟩) (Only.refl Nil _) ?_
              rotate_left
              · (intro w' hw'; go_simp; (try with_reducible rfl))
              refine wpAnyT_one (i := 11) rfl (by kernel_rfl) (fun K hK => ?_)
              go_simp
              refine hK.out _ _ (fun _ => (Only.refl Nil w4x).alloc _) ?_
              clear hK K
              have q_e := Blk.new w4x #[.string (⟨#[102]⟩ ++ S), .bool false, .int .i64 7, .int .i64 ((k : Int) + 1), .string ⟨#[]⟩, .slice (some ⟨g3, 0, none⟩) 1 1] 47
              have ho5x := alloc0 w4x (.cells #[.string (⟨#[102]⟩ ++ S), .bool false, .int .i64 7, .int .i64 ((k : Int) + 1), .string ⟨#[]⟩, .slice (some ⟨g3, 0, none⟩) 1 1] 47)
              replace hS3 := hS3.go ho5x
              replace q_d := q_d.kept ho5x (fun h => h)
              replace q_a := q_a.kept ho5x (fun h => h)
              obtain ⟨b_e, hb_e⟩ : ∃ z, w4x.heap.size = z := ⟨_, rfl⟩
              have g_e : wq.heap.size ≤ b_e := by rw [← hb_e]; exact hq.size
              have n_d_e : b_d ≠ b_e := by rw [← hb_e]; exact Nat.ne_of_lt l_d
              have n_a_e : b_a ≠ b_e := by rw [← hb_e]; exact Nat.ne_of_lt l_a
              have l_e : b_e < (w4x.alloc (.cells #[.string (⟨#[102]⟩ ++ S), .bool false, .int .i64 7, .int .i64 ((k : Int) + 1), .string ⟨#[]⟩, .slice (some ⟨g3, 0, none⟩) 1 1] 47)).heap.size := by rw [← hb_e]; simp
              replace l_d := Nat.lt_of_lt_of_le l_d ho5x.size
              replace l_a := Nat.lt_of_lt_of_le l_a ho5x.size
              obtain ⟨w5x, hw5x⟩ : ∃ z, w4x.alloc (.cells #[.string (⟨#[102]⟩ ++ S), .bool false, .int .i64 7, .int .i64 ((k : Int) + 1), .string ⟨#[]⟩, .slice (some ⟨g3, 0, none⟩) 1 1] 47) = z := ⟨_, rfl⟩
              rw [hb_e] at q_e ⊢
              rw [hw5x] at q_e ho5x l_e hS3 q_d q_a l_d l_a ⊢
              clear hb_e hw5x
              refine wpAnyT_sub (S' := fun w' => Only Nil w5x w') (fun _ h => Nil.trans ho5x h) ?_
              replace hq := Nil.trans hq ho5x
              clear ho5x
              refine wpAnyT_take 12 (v := ?_) rfl (by kernel_rfl) (by kernel_rfl) (by kernel_rfl) (fun _ _ _ h => h) (by kernel_rfl) (by kernel_rfl) (Or.inl ⟨by kernel_rfl, ?_⟩) (Only.refl Nil _) ?_
              rotate_left
              · (intro w' hw'; go_simp; (try with_reducible rfl))
              obtain ⟨wz, hwz, m1, m2, m3⟩ := chain_made (k := k) hq HMW.out q_d g_d hS3 HFE.out q_e g_e
              obtain ⟨⟨z0, z1, z2, z3⟩, zf0, zf1, zf2, zf3⟩ := q_d.Fours
              have M1 := Lib.hid m1
              have M2 := Lib.hid m2
              have M3 := Lib.hid m3
              clear hS3 q_a q_d q_e m1 m2 m3
              refine wpAnyT_one (i := 14) rfl (by kernel_rfl) (fun K hK => ?_)
              go_simp
              refine hK.out _ _ (fun h => by cases h) ?_
              clear hK K
              refine wpAnyT_done (by kernel_rfl) ?_
              (try rw [hwz])
              clear z0 z1 z2 z3 zf0 zf1 zf2 zf3 hwz
              go_wp2_with fail
              go_meet
              exact ⟨_, _, rfl, g_d, M1.out, M2.out, M3.out⟩
          · go_simp
            refine hK.out _ _ (fun _ => (Only.refl Nil w1x).alloc _) ?_
            clear hK K
            have q_d := Blk.new w1x #[.string ⟨#[]⟩, .bool false, .string ⟨#[]⟩, .slice none 0 0] 49
            have ho2x := alloc0 w1x (.cells #[.string ⟨#[]⟩, .bool false, .string ⟨#[]⟩, .slice none 0 0] 49)
            obtain ⟨b_d, hb_d⟩ : ∃ z, w1x.heap.size = z := ⟨_, rfl⟩
            have g_d : wq.heap.size ≤ b_d := by rw [← hb_d]; exact hq.size
            have l_d : b_d < (w1x.alloc (.cells #[.string ⟨#[]⟩, .bool false, .string ⟨#[]⟩, .slice none 0 0] 49)).heap.size := by rw [← hb_d]; simp
            obtain ⟨w2x, hw2x⟩ : ∃ z, w1x.alloc (.cells #[.string ⟨#[]⟩, .bool false, .string ⟨#[]⟩, .slice none 0 0] 49) = z := ⟨_, rfl⟩
            rw [hb_d] at q_d ⊢
            rw [hw2x] at q_d ho2x l_d   ⊢
            clear hb_d hw2x
            refine wpAnyT_sub (S' := fun w' => Only Nil w2x w') (fun _ h => Nil.trans ho2x h) ?_
            replace hq := Nil.trans hq ho2x
            clear ho2x
            refine wpAnyT_two (i := 3) (j := 9) rfl rfl (by kernel_rfl) (fun K hK => ?_) (fun K hK => ?_)
            · go_simp
              refine hK.out _ _ (fun _ => (Only.refl Nil w2x).alloc _) ?_
              clear hK K
              have q_a := Blk.new w2x #[.int .u8 (97 + (k : Int))] 5
              have ho3x := alloc0 w2x (.cells #[.int .u8 (97 + (k : Int))] 5)
              replace q_d := q_d.kept ho3x (fun h => h)
              obtain ⟨b_a, hb_a⟩ : ∃ z, w2x.heap.size = z := ⟨_, rfl⟩
              have g_a : wq.heap.size ≤ b_a := by rw [← hb_a]; exact hq.size
              have n_d_a : b_d ≠ b_a := by rw [← hb_a]; exact Nat.ne_of_lt l_d
              have l_a : b_a < (w2x.alloc (.cells #[.int .u8 (97 + (k : Int))] 5)).heap.size := by rw [← hb_a]; simp
              replace l_d := Nat.lt_of_lt_of_le l_d ho3x.size
              obtain ⟨w3x, hw3x⟩ : ∃ z, w2x.alloc (.cells #[.int .u8 (97 + (k : Int))] 5) = z := ⟨_, rfl⟩
              rw [hb_a] at q_a ⊢
              rw [hw3x] at q_a ho3x l_a q_d l_d ⊢
              clear hb_a hw3x
              refine wpAnyT_sub (S' := fun w' => Only Nil w3x w') (fun _ h => Nil.trans ho3x h) ?_
              replace hq := Nil.trans hq ho3x
              clear ho3x
              refine wpAnyT_take 4 (v := ?_) rfl (by kernel_rfl) (by kernel_rfl) (by kernel_rfl) (fun _ _ _ h => h) (by kernel_rfl) (by kernel_rfl) (Or.inl ⟨by kernel_rfl, ?_⟩) (Only.refl Nil _) ?_
              rotate_left
              · (intro w' hw'; have cv := conv_blk (c := 97 + k) (by have h := q_a.kept hw' (fun h => h); rwa [HCK.out] at h); rw [HS.out] at cv; go_simp; (try with_reducible rfl))
              refine wpAnyT_take 5 (v := ?_) rfl (by kernel_rfl) (by kernel_rfl) (by kernel_rfl) (fun _ _ _ h => h) (by kernel_rfl) (by kernel_rfl) (Or.inl ⟨by kernel_rfl, ?_⟩) (Only.refl Nil _) ?_
              rotate_left
              · (intro w' hw'; go_simp; (try with_reducible rfl))
              refine wpAnyT_one (i := 9) rfl (by kernel_rfl) (fun K hK => ?_)
              go_simp
              go_wp2_with (go_at_call 17; refine (arrR_new (U := fun _ => False) ((k : Int) + 1) 1 0 ⟨#[]⟩ (Nat.zero_le _) (.slice none 0 0) [] w3x (TyS.nil _ w3x)).mono ?_; rintro e w4x ⟨g3, rfl, hS30, ho4x⟩; have hS3 := hS30.mono (V := fun q => wq.heap.size ≤ q) (fun q hq3 => by rcases hq3 with h | h; (exact h.elim); (exact Nat.le_trans hq.size h)); clear hS30)
              refine hK.out _ _ (fun _ => ho4x) ?_
              clear hK K
              replace q_d := q_d.kept ho4x (fun h => h)
              replace q_a := q_a.kept ho4x (fun h => h)
              replace l_d := Nat.lt_of_lt_of_le l_d ho4x.size
              replace l_a := Nat.lt_of_lt_of_le l_a ho4x.size
              refine wpAnyT_sub (S' := fun w' => Only Nil w4x w') (fun _ h => Nil.trans ho4x h) ?_
              replace hq := Nil.trans hq ho4x
              clear ho4x
              refine wpAnyT_take 10 (v := ?_) rfl (by kernel_rfl) (by kernel_rfl) (by kernel_rfl) (fun _ _ _ h => h) (by kernel_rfl) (by kernel_rfl) (Or.inl ⟨by kernel_rfl, ?_⟩) (Only.refl Nil _) ?_
              rotate_left
              · (intro w' hw'; go_simp; (try with_reducible rfl))
              refine wpAnyT_one (i := 11) rfl (by kernel_rfl) (fun K hK => ?_)
              go_simp
              refine hK.out _ _ (fun _ => (Only.refl Nil w4x).alloc _) ?_
              clear hK K
              have q_e := Blk.new w4x #[.string (⟨#[102]⟩ ++ S), .bool false, .int .i64 7, .int .i64 ((k : Int) + 1), .string ⟨#[]⟩, .slice (some ⟨g3, 0, none⟩) 1 1] 47
              have ho5x := alloc0 w4x (.cells #[.string (⟨#[102]⟩ ++ S), .bool false, .int .i64 7, .int .i64 ((k : Int) + 1), .string ⟨#[]⟩, .slice (some ⟨g3, 0, none⟩) 1 1] 47)
              replace q_d := q_d.kept ho5x (fun h => h)
              replace q_a := q_a.kept ho5x (fun h => h)
              replace hS3 := hS3.go ho5x
              obtain ⟨b_e, hb_e⟩ : ∃ z, w4x.heap.size = z := ⟨_, rfl⟩
              have g_e : wq.heap.size ≤ b_e := by rw [← hb_e]; exact hq.size
              have n_d_e : b_d ≠ b_e := by rw [← hb_e]; exact Nat.ne_of_lt l_d
              have n_a_e : b_a ≠ b_e := by rw [← hb_e]; exact Nat.ne_of_lt l_a
              have l_e : b_e < (w4x.alloc (.cells #[.string (⟨#[102]⟩ ++ S), .bool false, .int .i64 7, .int .i64 ((k : Int) + 1), .string ⟨#[]⟩, .slice (some ⟨g3, 0, none⟩) 1 1] 47)).heap.size := by rw [← hb_e]; simp
              replace l_d := Nat.lt_of_lt_of_le l_d ho5x.size
              replace l_a := Nat.lt_of_lt_of_le l_a ho5x.size
              obtain ⟨w5x, hw5x⟩ : ∃ z, w4x.alloc (.cells #[.string (⟨#[102]⟩ ++ S), .bool false, .int .i64 7, .int .i64 ((k : Int) + 1), .string ⟨#[]⟩, .slice (some ⟨g3, 0, none⟩) 1 1] 47) = z := ⟨_, rfl⟩
              rw [hb_e] at q_e ⊢
              rw [hw5x] at q_e ho5x l_e q_d q_a hS3 l_d l_a ⊢
              clear hb_e hw5x
              refine wpAnyT_sub (S' := fun w' => Only Nil w5x w') (fun _ h => Nil.trans ho5x h) ?_
              replace hq := Nil.trans hq ho5x
              clear ho5x
              refine wpAnyT_take 12 (v := ?_) rfl (by kernel_rfl) (by kernel_rfl) (by kernel_rfl) (fun _ _ _ h => h) (by kernel_rfl) (by kernel_rfl) (Or.inl ⟨by kernel_rfl, ?_⟩) (Only.refl Nil _) ?_
              rotate_left
              · (intro w' hw'; go_simp; (try with_reducible rfl))
              obtain ⟨wz, hwz, m1, m2, m3⟩ := chain_made (k := k) hq HMW.out q_d g_d hS3 HFE.out q_e g_e
              obtain ⟨⟨z0, z1, z2, z3⟩, zf0, zf1, zf2, zf3⟩ := q_d.Fours
              have M1 := Lib.hid m1
              have M2 := Lib.hid m2
              have M3 := Lib.hid m3
              clear hS3 q_a q_d q_e m1 m2 m3
              refine wpAnyT_one (i := 14) rfl (by kernel_rfl) (fun K hK => ?_)
              go_simp
              refine hK.out _ _ (fun h => by cases h) ?_
              clear hK K
              refine wpAnyT_done (by kernel_rfl) ?_
              (try rw [hwz])
              clear z0 z1 z2 z3 zf0 zf1 zf2 zf3 hwz
              go_wp2_with fail
              go_meet
              exact ⟨_, _, rfl, g_d, M1.out, M2.out, M3.out⟩
            · go_simp
              go_wp2_with (go_at_call 17; refine (arrR_new (U := fun _ => False) ((k : Int) + 1) 1 0 ⟨#[]⟩ (Nat.zero_le _) (.slice none 0 0) [] w2x (TyS.nil _ w2x)).mono ?_; rintro e w3x ⟨g3, rfl, hS30, ho3x⟩; have hS3 := hS30.mono (V := fun q => wq.heap.size ≤ q) (fun q hq3 => by rcases hq3 with h | h; (exact h.elim); (exact Nat.le_trans hq.size h)); clear hS30)
              refine hK.out _ _ (fun _ => ho3x) ?_
              clear hK K
              replace q_d := q_d.kept ho3x (fun h => h)
              replace l_d := Nat.lt_of_lt_of_le l_d ho3x.size
              refine wpAnyT_sub (S' := fun w' => Only Nil w3x w') (fun _ h => Nil.trans ho3x h) ?_
              replace hq := Nil.trans hq ho3x
              clear ho3x
              refine wpAnyT_one (i := 3) rfl (by kernel_rfl) (fun K hK => ?_)
              go_simp
              refine hK.out _ _ (fun _ => (Only.refl Nil w3x).alloc _) ?_
              clear hK K
              have q_a := Blk.new w3x #[.int .u8 (97 + (k : Int))] 5
              have ho4x := alloc0 w3x (.cells #[.int .u8 (97 + (k : Int))] 5)
              replace q_d := q_d.kept ho4x (fun h => h)
              replace hS3 := hS3.go ho4x
              obtain ⟨b_a, hb_a⟩ : ∃ z, w3x.heap.size = z := ⟨_, rfl⟩
              have g_a : wq.heap.size ≤ b_a := by rw [← hb_a]; exact hq.size
              have n_d_a : b_d ≠ b_a := by rw [← hb_a]; exact Nat.ne_of_lt l_d
              have l_a : b_a < (w3x.alloc (.cells #[.int .u8 (97 + (k : Int))] 5)).heap.size := by rw [← hb_a]; simp
              replace l_d := Nat.lt_of_lt_of_le l_d ho4x.size
              obtain ⟨w4x, hw4x⟩ : ∃ z, w3x.alloc (.cells #[.int .u8 (97 + (k : Int))] 5) = z := ⟨_, rfl⟩
              rw [hb_a] at q_a ⊢
              rw [hw4x] at q_a ho4x l_a q_d hS3 l_d ⊢
              clear hb_a hw4x
              refine wpAnyT_sub (S' := fun w' => Only Nil w4x w') (fun _ h => Nil.trans ho4x h) ?_
              replace hq := Nil.trans hq ho4x
              clear ho4x
              refine wpAnyT_take 4 (v := ?_) rfl (by kernel_rfl) (by kernel_rfl) (by kernel_rfl) (fun _ _ _ h => h) (by kernel_rfl) (by kernel_rfl) (Or.inl ⟨by kernel_rfl, ?_⟩) (Only.refl Nil _) ?_
              rotate_left
              · (intro w' hw'; have cv := conv_blk (c := 97 + k) (by have h := q_a.kept hw' (fun h => h); rwa [HCK.out] at h); rw [HS.out] at cv; go_simp; (try with_reducible rfl))
              refine wpAnyT_take 5 (v := ?_) rfl (by kernel_rfl) (by kernel_rfl) (by kernel_rfl) (fun _ _ _ h => h) (by kernel_rfl) (by kernel_rfl) (Or.inl ⟨by kernel_rfl, ?_⟩) (Only.refl Nil _) ?_
              rotate_left
              · (intro w' hw'; go_simp; (try with_reducible rfl))
              refine wpAnyT_take 10 (v := ?_) rfl (by kernel_rfl) (by kernel_rfl) (by kernel_rfl) (fun _ _ _ h => h) (by kernel_rfl) (by kernel_rfl) (Or.inl ⟨by kernel_rfl, ?_⟩) (Only.refl Nil _) ?_
              rotate_left
              · (intro w' hw'; go_simp; (try with_reducible rfl))
              refine wpAnyT_one (i := 11) rfl (by kernel_rfl) (fun K hK => ?_)
              go_simp
              refine hK.out _ _ (fun _ => (Only.refl Nil w4x).alloc _) ?_
              clear hK K
              have q_e := Blk.new w4x #[.string (⟨#[102]⟩ ++ S), .bool false, .int .i64 7, .int .i64 ((k : Int) + 1), .string ⟨#[]⟩, .slice (some ⟨g3, 0, none⟩) 1 1] 47
              have ho5x := alloc0 w4x (.cells #[.string (⟨#[102]⟩ ++ S), .bool false, .int .i64 7, .int .i64 ((k : Int) + 1), .string ⟨#[]⟩, .slice (some ⟨g3, 0, none⟩) 1 1] 47)
              replace q_d := q_d.kept ho5x (fun h => h)
              replace hS3 := hS3.go ho5x
              replace q_a := q_a.kept ho5x (fun h => h)
              obtain ⟨b_e, hb_e⟩ : ∃ z, w4x.heap.size = z := ⟨_, rfl⟩
              have g_e : wq.heap.size ≤ b_e := by rw [← hb_e]; exact hq.size
              have n_d_e : b_d ≠ b_e := by rw [← hb_e]; exact Nat.ne_of_lt l_d
              have n_a_e : b_a ≠ b_e := by rw [← hb_e]; exact Nat.ne_of_lt l_a
              have l_e : b_e < (w4x.alloc (.cells #[.string (⟨#[102]⟩ ++ S), .bool false, .int .i64 7, .int .i64 ((k : Int) + 1), .string ⟨#[]⟩, .slice (some ⟨g3, 0, none⟩) 1 1] 47)).heap.size := by rw [← hb_e]; simp
              replace l_d := Nat.lt_of_lt_of_le l_d ho5x.size
              replace l_a := Nat.lt_of_lt_of_le l_a ho5x.size
              obtain ⟨w5x, hw5x⟩ : ∃ z, w4x.alloc (.cells #[.string (⟨#[102]⟩ ++ S), .bool false, .int .i64 7, .int .i64 ((k : Int) + 1), .string ⟨#[]⟩, .slice (some ⟨g3, 0, none⟩) 1 1] 47) = z := ⟨_, rfl⟩
              rw [hb_e] at q_e ⊢
              rw [hw5x] at q_e ho5x l_e q_d hS3 q_a l_d l_a ⊢
              clear hb_e hw5x
              refine wpAnyT_sub (S' := fun w' => Only Nil w5x w') (fun _ h => Nil.trans ho5x h) ?_
              replace hq := Nil.trans hq ho5x
              clear ho5x
              refine wpAnyT_take 12 (v := ?_) rfl (by kernel_rfl) (by kernel_rfl) (by kernel_rfl) (fun _ _ _ h => h) (by kernel_rfl) (by kernel_rfl) (Or.inl ⟨by kernel_rfl, ?_⟩) (Only.refl Nil _) ?_
              rotate_left
              · (intro w' hw'; go_simp; (try with_reducible rfl))
              obtain ⟨wz, hwz, m1, m2, m3⟩ := chain_made (k := k) hq HMW.out q_d g_d hS3 HFE.out q_e g_e
              obtain ⟨⟨z0, z1, z2, z3⟩, zf0, zf1, zf2, zf3⟩ := q_d.Fours
              have M1 := Lib.hid m1
              have M2 := Lib.hid m2
              have M3 := Lib.hid m3
              clear hS3 q_a q_d q_e m1 m2 m3
              refine wpAnyT_one (i := 14) rfl (by kernel_rfl) (fun K hK => ?_)
              go_simp
              refine hK.out _ _ (fun h => by cases h) ?_
              clear hK K
              refine wpAnyT_done (by kernel_rfl) ?_
              (try rw [hwz])
              clear z0 z1 z2 z3 zf0 zf1 zf2 zf3 hwz
              go_wp2_with fail
              go_meet
              exact ⟨_, _, rfl, g_d, M1.out, M2.out, M3.out⟩
        · go_simp
          refine hK.out _ _ (fun _ => (Only.refl Nil wd).alloc _) ?_
          clear hK K
          have q_d := Blk.new wd #[.string ⟨#[]⟩, .bool false, .string ⟨#[]⟩, .slice none 0 0] 49
          have ho1x := alloc0 wd (.cells #[.string ⟨#[]⟩, .bool false, .string ⟨#[]⟩, .slice none 0 0] 49)
          obtain ⟨b_d, hb_d⟩ : ∃ z, wd.heap.size = z := ⟨_, rfl⟩
          have g_d : wq.heap.size ≤ b_d := by rw [← hb_d]; exact hq.size
          have l_d : b_d < (wd.alloc (.cells #[.string ⟨#[]⟩, .bool false, .string ⟨#[]⟩, .slice none 0 0] 49)).heap.size := by rw [← hb_d]; simp
          obtain ⟨w1x, hw1x⟩ : ∃ z, wd.alloc (.cells #[.string ⟨#[]⟩, .bool false, .string ⟨#[]⟩, .slice none 0 0] 49) = z := ⟨_, rfl⟩
          rw [hb_d] at q_d ⊢
          rw [hw1x] at q_d ho1x l_d   ⊢
          clear hb_d hw1x
          refine wpAnyT_sub (S' := fun w' => Only Nil w1x w') (fun _ h => Nil.trans ho1x h) ?_
          replace hq := Nil.trans hq ho1x
          clear ho1x
          refine wpAnyT_two (i := 3) (j := 8) rfl rfl (by kernel_rfl) (fun K hK => ?_) (fun K hK => ?_)
          · go_simp
            refine hK.out _ _ (fun _ => (Only.refl Nil w1x).alloc _) ?_
            clear hK K
            have q_a := Blk.new w1x #[.int .u8 (97 + (k : Int))] 5
            have ho2x := alloc0 w1x (.cells #[.int .u8 (97 + (k : Int))] 5)
            replace q_d := q_d.kept ho2x (fun h => h)
            obtain ⟨b_a, hb_a⟩ : ∃ z, w1x.heap.size = z := ⟨_, rfl⟩
            have g_a : wq.heap.size ≤ b_a := by rw [← hb_a]; exact hq.size
            have n_d_a : b_d ≠ b_a := by rw [← hb_a]; exact Nat.ne_of_lt l_d
            have l_a : b_a < (w1x.alloc (.cells #[.int .u8 (97 + (k : Int))] 5)).heap.size := by rw [← hb_a]; simp
            replace l_d := Nat.lt_of_lt_of_le l_d ho2x.size
            obtain ⟨w2x, hw2x⟩ : ∃ z, w1x.alloc (.cells #[.int .u8 (97 + (k : Int))] 5) = z := ⟨_, rfl⟩
            rw [hb_a] at q_a ⊢
            rw [hw2x] at q_a ho2x l_a q_d l_d ⊢
            clear hb_a hw2x
            refine wpAnyT_sub (S' := fun w' => Only Nil w2x w') (fun _ h => Nil.trans ho2x h) ?_
            replace hq := Nil.trans hq ho2x
            clear ho2x
            refine wpAnyT_take 4 (v := ?_) rfl (by kernel_rfl) (by kernel_rfl) (by kernel_rfl) (fun _ _ _ h => h) (by kernel_rfl) (by kernel_rfl) (Or.inl ⟨by kernel_rfl, ?_⟩) (Only.refl Nil _) ?_
            rotate_left
            · (intro w' hw'; have cv := conv_blk (c := 97 + k) (by have h := q_a.kept hw' (fun h => h); rwa [HCK.out] at h); rw [HS.out] at cv; go_simp; (try with_reducible rfl))
            refine wpAnyT_take 5 (v := ?_) rfl (by kernel_rfl) (by kernel_rfl) (by kernel_rfl) (fun _ _ _ h => h) (by kernel_rfl) (by kernel_rfl) (Or.inl ⟨by kernel_rfl, ?_⟩) (Only.refl Nil _) ?_
            rotate_left
            · (intro w' hw'; go_simp; (try with_reducible rfl))
            refine wpAnyT_one (i := 8) rfl (by kernel_rfl) (fun K hK => ?_)
            go_simp
            go_wp2_with (go_at_call 20; refine (basicR_any 1 _).mono ?_; rintro e w3x ⟨rfl, ho3x⟩)
            refine hK.out _ _ (fun _ => ho3x) ?_
            clear hK K
            replace q_d := q_d.kept ho3x (fun h => h)
            replace q_a := q_a.kept ho3x (fun h => h)
            replace l_d := Nat.lt_of_lt_of_le l_d ho3x.size
            replace l_a := Nat.lt_of_lt_of_le l_a ho3x.size
            refine wpAnyT_sub (S' := fun w' => Only Nil w3x w') (fun _ h => Nil.trans ho3x h) ?_
            replace hq := Nil.trans hq ho3x
            clear ho3x
            refine wpAnyT_one (i := 9) rfl (by kernel_rfl) (fun K hK => ?_)
            go_simp
            go_wp2_with (go_at_call 17; refine (arrR_new (U := fun _ => False) ((k : Int) + 1) 1 0 ⟨#[]⟩ (Nat.zero_le _) (.slice none 0 0) [] w3x (TyS.nil _ w3x)).mono ?_; rintro e w4x ⟨g3, rfl, hS30, ho4x⟩; have hS3 := hS30.mono (V := fun q => wq.heap.size ≤ q) (fun q hq3 => by rcases hq3 with h | h; (exact h.elim); (exact Nat.le_trans hq.size h)); clear hS30)
            refine hK.out _ _ (fun _ => ho4x) ?_
            clear hK K
            replace q_d := q_d.kept ho4x (fun h => h)
            replace q_a := q_a.kept ho4x (fun h => h)
            replace l_d := Nat.lt_of_lt_of_le l_d ho4x.size
            replace l_a := Nat.lt_of_lt_of_le l_a ho4x.size
            refine wpAnyT_sub (S' := fun w' => Only Nil w4x w') (fun _ h => Nil.trans ho4x h) ?_
            replace hq := Nil.trans hq ho4x
            clear ho4x
            refine wpAnyT_take 10 (v := ?_) rfl (by kernel_rfl) (by kernel_rfl) (by kernel_rfl) (fun _ _ _ h => h) (by kernel_rfl) (by kernel_rfl) (Or.inl ⟨by kernel_rfl, ?_⟩) (Only.refl Nil _) ?_
            rotate_left
            · (intro w' hw'; go_simp; (try with_reducible rfl))
            refine wpAnyT_one (i := 11) rfl (by kernel_rfl) (fun K hK => ?_)
            go_simp
            refine hK.out _ _ (fun _ => (Only.refl Nil w4x).alloc _) ?_
            clear hK K
            have q_e := Blk.new w4x #[.string (⟨#[102]⟩ ++ S), .bool false, .int .i64 7, .int .i64 ((k : Int) + 1), .string ⟨#[]⟩, .slice (some ⟨g3, 0, none⟩) 1 1] 47
            have ho5x := alloc0 w4x (.cells #[.string (⟨#[102]⟩ ++ S), .bool false, .int .i64 7, .int .i64 ((k : Int) + 1), .string ⟨#[]⟩, .slice (some ⟨g3, 0, none⟩) 1 1] 47)
            replace q_d := q_d.kept ho5x (fun h => h)
            replace q_a := q_a.kept ho5x (fun h => h)
            replace hS3 := hS3.go ho5x
            obtain ⟨b_e, hb_e⟩ : ∃ z, w4x.heap.size = z := ⟨_, rfl⟩
            have g_e : wq.heap.size ≤ b_e := by rw [← hb_e]; exact hq.size
            have n_d_e : b_d ≠ b_e := by rw [← hb_e]; exact Nat.ne_of_lt l_d
            have n_a_e : b_a ≠ b_e := by rw [← hb_e]; exact Nat.ne_of_lt l_a
            have l_e : b_e < (w4x.alloc (.cells #[.string (⟨#[102]⟩ ++ S), .bool false, .int .i64 7, .int .i64 ((k : Int) + 1), .string ⟨#[]⟩, .slice (some ⟨g3, 0, none⟩) 1 1] 47)).heap.size := by rw [← hb_e]; simp
            replace l_d := Nat.lt_of_lt_of_le l_d ho5x.size
            replace l_a := Nat.lt_of_lt_of_le l_a ho5x.size
            obtain ⟨w5x, hw5x⟩ : ∃ z, w4x.alloc (.cells #[.string (⟨#[102]⟩ ++ S), .bool false, .int .i64 7, .int .i64 ((k : Int) + 1), .string ⟨#[]⟩, .slice (some ⟨g3, 0, none⟩) 1 1] 47) = z := ⟨_, rfl⟩
            rw [hb_e] at q_e ⊢
            rw [hw5x] at q_e ho5x l_e q_d q_a hS3 l_d l_a ⊢
            clear hb_e hw5x
            refine wpAnyT_sub (S' := fun w' => Only Nil w5x w') (fun _ h => Nil.trans ho5x h) ?_
            replace hq := Nil.trans hq ho5x
            clear ho5x
            refine wpAnyT_take 12 (v := ?_) rfl (by kernel_rfl) (by kernel_rfl) (by kernel_rfl) (fun _ _ _ h => h) (by kernel_rfl) (by kernel_rfl) (Or.inl ⟨by kernel_rfl, ?_⟩) (Only.refl Nil _) ?_
            rotate_left
            · (intro w' hw'; go_simp; (try with_reducible rfl))
            obtain ⟨wz, hwz, m1, m2, m3⟩ := chain_made (k := k) hq HMW.out q_d g_d hS3 HFE.out q_e g_e
            obtain ⟨⟨z0, z1, z2, z3⟩, zf0, zf1, zf2, zf3⟩ := q_d.Fours
            have M1 := Lib.hid m1
            have M2 := Lib.hid m2
            have M3 := Lib.hid m3
            clear hS3 q_a q_d q_e m1 m2 m3
            refine wpAnyT_one (i := 14) rfl (by kernel_rfl) (fun K hK => ?_)
            go_simp
            refine hK.out _ _ (fun h => by cases h) ?_
            clear hK K
            refine wpAnyT_done (by kernel_rfl) ?_
            (try rw [hwz])
            clear z0 z1 z2 z3 zf0 zf1 zf2 zf3 hwz
            go_wp2_with fail
            go_meet
            exact ⟨_, _, rfl, g_d, M1.out, M2.out, M3.out⟩
          · go_simp
            go_wp2_with (go_at_call 20; refine (basicR_any 1 _).mono ?_; rintro e w2x ⟨rfl, ho2x⟩)
            refine hK.out _ _ (fun _ => ho2x) ?_
            clear hK K
            replace q_d := q_d.kept ho2x (fun h => h)
            replace l_d := Nat.lt_of_lt_of_le l_d ho2x.size
            refine wpAnyT_sub (S' := fun w' => Only Nil w2x w') (fun _ h => Nil.trans ho2x h) ?_
            replace hq := Nil.trans hq ho2x
            clear ho2x
            refine wpAnyT_two (i := 3) (j := 9) rfl rfl (by kernel_rfl) (fun K hK => ?_) (fun K hK => ?_)
            · go_simp
              refine hK.out _ _ (fun _ => (Only.refl Nil w2x).alloc _) ?_
              clear hK K
              have q_a := Blk.new w2x #[.int .u8 (97 + (k : Int))] 5
              have ho3x := alloc0 w2x (.cells #[.int .u8 (97 + (k : Int))] 5)
              replace q_d := q_d.kept ho3x (fun h => h)
              obtain ⟨b_a, hb_a⟩ : ∃ z, w2x.heap.size = z := ⟨_, rfl⟩
              have g_a : wq.heap.size ≤ b_a := by rw [← hb_a]; exact hq.size
              have n_d_a : b_d ≠ b_a := by rw [← hb_a]; exact Nat.ne_of_lt l_d
              have l_a : b_a < (w2x.alloc (.cells #[.int .u8 (97 + (k : Int))] 5)).heap.size := by rw [← hb_a]; simp
              replace l_d := Nat.lt_of_lt_of_le l_d ho3x.size
              obtain ⟨w3x, hw3x⟩ : ∃ z, w2x.alloc (.cells #[.int .u8 (97 + (k : Int))] 5) = z := ⟨_, rfl⟩
              rw [hb_a] at q_a ⊢
              rw [hw3x] at q_a ho3x l_a q_d l_d ⊢
              clear hb_a hw3x
              refine wpAnyT_sub (S' := fun w' => Only Nil w3x w') (fun _ h => Nil.trans ho3x h) ?_
              replace hq := Nil.trans hq ho3x
              clear ho3x
              refine wpAnyT_take 4 (v := ?_) rfl (by kernel_rfl) (by kernel_rfl) (by kernel_rfl) (fun _ _ _ h => h) (by kernel_rfl) (by kernel_rfl) (Or.inl ⟨by kernel_rfl, ?_⟩) (Only.refl Nil _) ?_
              rotate_left
              · (intro w' hw'; have cv := conv_blk (c := 97 + k) (by have h := q_a.kept hw' (fun h => h); rwa [HCK.out] at h); rw [HS.out] at cv; go_simp; (try with_reducible rfl))
              refine wpAnyT_take 5 (v := ?_) rfl (by kernel_rfl) (by kernel_rfl) (by kernel_rfl) (fun _ _ _ h => h) (by kernel_rfl) (by kernel_rfl) (Or.inl ⟨by kernel_rfl, ?_⟩) (Only.refl Nil _) ?_
              rotate_left
              · (intro w' hw'; go_simp; (try with_reducible rfl))
              refine wpAnyT_one (i := 9) rfl (by kernel_rfl) (fun K hK => ?_)
              go_simp
              go_wp2_with (go_at_call 17; refine (arrR_new (U := fun _ => False) ((k : Int) + 1) 1 0 ⟨#[]⟩ (Nat.zero_le _) (.slice none 0 0) [] w3x (TyS.nil _ w3x)).mono ?_; rintro e w4x ⟨g3, rfl, hS30, ho4x⟩; have hS3 := hS30.mono (V := fun q => wq.heap.size ≤ q) (fun q hq3 => by rcases hq3 with h | h; (exact h.elim); (exact Nat.le_trans hq.size h)); clear hS30)
              refine hK.out _ _ (fun _ => ho4x) ?_
              clear hK K
              replace q_d := q_d.kept ho4x (fun h => h)
              replace q_a := q_a.kept ho4x (fun h => h)
              replace l_d := Nat.lt_of_lt_of_le l_d ho4x.size
              replace l_a := Nat.lt_of_lt_of_le l_a ho4x.size
              refine wpAnyT_sub (S' := fun w' => Only Nil w4x w') (fun _ h => Nil.trans ho4x h) ?_
              replace hq := Nil.trans hq ho4x
              clear ho4x
              refine wpAnyT_take 10 (v := ?_) rfl (by kernel_rfl) (by kernel_rfl) (by kernel_rfl) (fun _ _ _ h => h) (by kernel_rfl) (by kernel_rfl) (Or.inl ⟨by kernel_rfl, ?_⟩) (Only.refl Nil _) ?_
              rotate_left
              · (intro w' hw'; go_simp; (try with_reducible rfl))
              refine wpAnyT_one (i := 11) rfl (by kernel_rfl) (fun K hK => ?_)
              go_simp
              refine hK.out _ _ (fun _ => (Only.refl Nil w4x).alloc _) ?_
              clear hK K
              have q_e := Blk.new w4x #[.string (⟨#[102]⟩ ++ S), .bool false, .int .i64 7, .int .i64 ((k : Int) + 1), .string ⟨#[]⟩, .slice (some ⟨g3, 0, none⟩) 1 1] 47
              have ho5x := alloc0 w4x (.cells #[.string (⟨#[102]⟩ ++ S), .bool false, .int .i64 7, .int .i64 ((k : Int) + 1), .string ⟨#[]⟩, .slice (some ⟨g3, 0, none⟩) 1 1] 47)
              replace q_d := q_d.kept ho5x (fun h => h)
              replace q_a := q_a.kept ho5x (fun h => h)
              replace hS3 := hS3.go ho5x
              obtain ⟨b_e, hb_e⟩ : ∃ z, w4x.heap.size = z := ⟨_, rfl⟩
              have g_e : wq.heap.size ≤ b_e := by rw [← hb_e]; exact hq.size
              have n_d_e : b_d ≠ b_e := by rw [← hb_e]; exact Nat.ne_of_lt l_d
              have n_a_e : b_a ≠ b_e := by rw [← hb_e]; exact Nat.ne_of_lt l_a
              have l_e : b_e < (w4x.alloc (.cells #[.string (⟨#[102]⟩ ++ S), .bool false, .int .i64 7, .int .i64 ((k : Int) + 1), .string ⟨#[]⟩, .slice (some ⟨g3, 0, none⟩) 1 1] 47)).heap.size := by rw [← hb_e]; simp
              replace l_d := Nat.lt_of_lt_of_le l_d ho5x.size
              replace l_a := Nat.lt_of_lt_of_le l_a ho5x.size
              obtain ⟨w5x, hw5x⟩ : ∃ z, w4x.alloc (.cells #[.string (⟨#[102]⟩ ++ S), .bool false, .int .i64 7, .int .i64 ((k : Int) + 1), .string ⟨#[]⟩, .slice (some ⟨g3, 0, none⟩) 1 1] 47) = z := ⟨_, rfl⟩
              rw [hb_e] at q_e ⊢
              rw [hw5x] at q_e ho5x l_e q_d q_a hS3 l_d l_a ⊢
              clear hb_e hw5x
              refine wpAnyT_sub (S' := fun w' => Only Nil w5x w') (fun _ h => Nil.trans ho5x h) ?_
              replace hq := Nil.trans hq ho5x
              clear ho5x
              refine wpAnyT_take 12 (v := ?_) rfl (by kernel_rfl) (by kernel_rfl) (by kernel_rfl) (fun _ _ _ h => h) (by kernel_rfl) (by kernel_rfl) (Or.inl ⟨by kernel_rfl, ?_⟩) (Only.refl Nil _) ?_
              rotate_left
              · (intro w' hw'; go_simp; (try with_reducible rfl))
              obtain ⟨wz, hwz, m1, m2, m3⟩ := chain_made (k := k) hq HMW.out q_d g_d hS3 HFE.out q_e g_e
              obtain ⟨⟨z0, z1, z2, z3⟩, zf0, zf1, zf2, zf3⟩ := q_d.Fours
              have M1 := Lib.hid m1
              have M2 := Lib.hid m2
              have M3 := Lib.hid m3
              clear hS3 q_a q_d q_e m1 m2 m3
              refine wpAnyT_one (i := 14) rfl (by kernel_rfl) (fun K hK => ?_)
              go_simp
              refine hK.out _ _ (fun h => by cases h) ?_
              clear hK K
              refine wpAnyT_done (by kernel_rfl) ?_
              (try rw [hwz])
              clear z0 z1 z2 z3 zf0 zf1 zf2 zf3 hwz
              go_wp2_with fail
              go_meet
              exact ⟨_, _, rfl, g_d, M1.out, M2.out, M3.out⟩
            · go_simp
              go_wp2_with (go_at_call 17; refine (arrR_new (U := fun _ => False) ((k : Int) + 1) 1 0 ⟨#[]⟩ (Nat.zero_le _) (.slice none 0 0) [] w2x (TyS.nil _ w2x)).mono ?_; rintro e w3x ⟨g3, rfl, hS30, ho3x⟩; have hS3 := hS30.mono (V := fun q => wq.heap.size ≤ q) (fun q hq3 => by rcases hq3 with h | h; (exact h.elim); (exact Nat.le_trans hq.size h)); clear hS30)
              refine hK.out _ _ (fun _ => ho3x) ?_
              clear hK K
              replace q_d := q_d.kept ho3x (fun h => h)
              replace l_d := Nat.lt_of_lt_of_le l_d ho3x.size
              refine wpAnyT_sub (S' := fun w' => Only Nil w3x w') (fun _ h => Nil.trans ho3x h) ?_
              replace hq := Nil.trans hq ho3x
              clear ho3x
              refine wpAnyT_one (i := 3) rfl (by kernel_rfl) (fun K hK => ?_)
              go_simp
              refine hK.out _ _ (fun _ => (Only.refl Nil w3x).alloc _) ?_
              clear hK K
              have q_a := Blk.new w3x #[.int .u8 (97 + (k : Int))] 5
              have ho4x := alloc0 w3x (.cells #[.int .u8 (97 + (k : Int))] 5)
              replace q_d := q_d.kept ho4x (fun h => h)
              replace hS3 := hS3.go ho4x
              obtain ⟨b_a, hb_a⟩ : ∃ z, w3x.heap.size = z := ⟨_, rfl⟩
              have g_a : wq.heap.size ≤ b_a := by rw [← hb_a]; exact hq.size
              have n_d_a : b_d ≠ b_a := by rw [← hb_a]; exact Nat.ne_of_lt l_d
              have l_a : b_a < (w3x.alloc (.cells #[.int .u8 (97 + (k : Int))] 5)).heap.size := by rw [← hb_a]; simp
              replace l_d := Nat.lt_of_lt_of_le l_d ho4x.size
              obtain ⟨w4x, hw4x⟩ : ∃ z, w3x.alloc (.cells #[.int .u8 (97 + (k : Int))] 5) = z := ⟨_, rfl⟩
              rw [hb_a] at q_a ⊢
              rw [hw4x] at q_a ho4x l_a q_d hS3 l_d ⊢
              clear hb_a hw4x
              refine wpAnyT_sub (S' := fun w' => Only Nil w4x w') (fun _ h => Nil.trans ho4x h) ?_
              replace hq := Nil.trans hq ho4x
              clear ho4x
              refine wpAnyT_take 4 (v := ?_) rfl (by kernel_rfl) (by kernel_rfl) (by kernel_rfl) (fun _ _ _ h => h) (by kernel_rfl) (by kernel_rfl) (Or.inl ⟨by kernel_rfl, ?_⟩) (Only.refl Nil _) ?_
              rotate_left
              · (intro w' hw'; have cv := conv_blk (c := 97 + k) (by have h := q_a.kept hw' (fun h => h); rwa [HCK.out] at h); rw [HS.out] at cv; go_simp; (try with_reducible rfl))
              refine wpAnyT_take 5 (v := ?_) rfl (by kernel_rfl) (by kernel_rfl) (by kernel_rfl) (fun _ _ _ h => h) (by kernel_rfl) (by kernel_rfl) (Or.inl ⟨by kernel_rfl, ?_⟩) (Only.refl Nil _) ?_
              rotate_left
              · (intro w' hw'; go_simp; (try with_reducible rfl))
              refine wpAnyT_take 10 (v := ?_) rfl (by kernel_rfl) (by kernel_rfl) (by kernel_rfl) (fun _ _ _ h => h) (by kernel_rfl) (by kernel_rfl) (Or.inl ⟨by kernel_rfl, ?_⟩) (Only.refl Nil _) ?_
              rotate_left
              · (intro w' hw'; go_simp; (try with_reducible rfl))
              refine wpAnyT_one (i := 11) rfl (by kernel_rfl) (fun K hK => ?_)
              go_simp
              refine hK.out _ _ (fun _ => (Only.refl Nil w4x).alloc _) ?_
              clear hK K
              have q_e := Blk.new w4x #[.string (⟨#[102]⟩ ++ S), .bool false, .int .i64 7, .int .i64 ((k : Int) + 1), .string ⟨#[]⟩, .slice (some ⟨g3, 0, none⟩) 1 1] 47
              have ho5x := alloc0 w4x (.cells #[.string (⟨#[102]⟩ ++ S), .bool false, .int .i64 7, .int .i64 ((k : Int) + 1), .string ⟨#[]⟩, .slice (some ⟨g3, 0, none⟩) 1 1] 47)
              replace q_d := q_d.kept ho5x (fun h => h)
              replace hS3 := hS3.go ho5x
              replace q_a := q_a.kept ho5x (fun h => h)
              obtain ⟨b_e, hb_e⟩ : ∃ z, w4x.heap.size = z := ⟨_, rfl⟩
              have g_e : wq.heap.size ≤ b_e := by rw [← hb_e]; exact hq.size
              have n_d_e : b_d ≠ b_e := by rw [← hb_e]; exact Nat.ne_of_lt l_d
              have n_a_e : b_a ≠ b_e := by rw [← hb_e]; exact Nat.ne_of_lt l_a
              have l_e : b_e < (w4x.alloc (.cells #[.string (⟨#[102]⟩ ++ S), .bool false, .int .i64 7, .int .i64 ((k : Int) + 1), .string ⟨#[]⟩, .slice (some ⟨g3, 0, none⟩) 1 1] 47)).heap.size := by rw [← hb_e]; simp
              replace l_d := Nat.lt_of_lt_of_le l_d ho5x.size
              replace l_a := Nat.lt_of_lt_of_le l_a ho5x.size
              obtain ⟨w5x, hw5x⟩ : ∃ z, w4x.alloc (.cells #[.string (⟨#[102]⟩ ++ S), .bool false, .int .i64 7, .int .i64 ((k : Int) + 1), .string ⟨#[]⟩, .slice (some ⟨g3, 0, none⟩) 1 1] 47) = z := ⟨_, rfl⟩
              rw [hb_e] at q_e ⊢
              rw [hw5x] at q_e ho5x l_e q_d hS3 q_a l_d l_a ⊢
              clear hb_e hw5x
              refine wpAnyT_sub (S' := fun w' => Only Nil w5x w') (fun _ h => Nil.trans ho5x h) ?_
              replace hq := Nil.trans hq ho5x
              clear ho5x
              refine wpAnyT_take 12 (v := ?_) rfl (by kernel_rfl) (by kernel_rfl) (by kernel_rfl) (fun _ _ _ h => h) (by kernel_rfl) (by kernel_rfl) (Or.inl ⟨by kernel_rfl, ?_⟩) (Only.refl Nil _) ?_
              rotate_left
              · (intro w' hw'; go_simp; (try with_reducible rfl))
              obtain ⟨wz, hwz, m1, m2, m3⟩ := chain_made (k := k) hq HMW.out q_d g_d hS3 HFE.out q_e g_e
              obtain ⟨⟨z0, z1, z2, z3⟩, zf0, zf1, zf2, zf3⟩ := q_d.Fours
              have M1 := Lib.hid m1
              have M2 := Lib.hid m2
              have M3 := Lib.hid m3
              clear hS3 q_a q_d q_e m1 m2 m3
              refine wpAnyT_one (i := 14) rfl (by kernel_rfl) (fun K hK => ?_)
              go_simp
              refine hK.out _ _ (fun h => by cases h) ?_
              clear hK K
              refine wpAnyT_done (by kernel_rfl) ?_
              (try rw [hwz])
              clear z0 z1 z2 z3 zf0 zf1 zf2 zf3 hwz
              go_wp2_with fail
              go_meet
              exact ⟨_, _, rfl, g_d, M1.out, M2.out, M3.out⟩
      case rest =>
        obtain ⟨rb, fb, rfl, hrb, hB, hV, ho⟩ := hcut
        obtain ⟨w2, hw2⟩ : ∃ z, wc = z := ⟨_, rfl⟩
        rw [hw2] at hB hV ho ⊢
        have HB := Lib.hid hB
        have HV := Lib.hid hV
        have HO2 := Lib.hid ho
        clear hw2 hB hV ho wi3
        go_upto_if 46 with fail
        go_cut [] (fun wx => Blk wx rb #[.string ⟨#[82]⟩, .bool false, .string (bsC k), .slice (some ⟨fb, 0, none⟩) 1 1] 49 ∧ VarS (fun q => q ≠ mb ∧ q ≠ rb) wx (.slice (some ⟨fb, 0, none⟩) 1 1) [vC k] ∧ Only Nil wq wx)
        case first =>
          by_cases hk0 : k = 0
          · have k2 : ¬ (0:Int) < (k:Int) := by omega
            have k3 : ¬ 0 < k := by omega
            have e0 : bsC k = ⟨#[]⟩ := by subst hk0; rfl
            have E0 := Lib.hid e0
            clear hk0 e0 k0 k1 k12 wi1 wi2
            go_wp2_with fail
            go_meet
            exact ⟨by rw [E0.out]; exact HB.out, HV.out, HO2.out⟩
          · obtain ⟨p, hp⟩ : ∃ p, k = p + 1 := ⟨k - 1, by omega⟩
            have k2 : (0:Int) < (k:Int) := by omega
            have k3 : 0 < k := by omega
            have e0 : bsC k = ⟨#[77, 46]⟩ ++ ch (97 + p) := by rw [hp, bsC_succ, nmE]
            have E0 := Lib.hid e0
            have wj0 : IntKind.i64.wrap ((k : Int) - 1) = (p : Int) := by rw [IntKind.wrap]; simp [IntKind.bits, IntKind.signed]; omega
            have wj1 : IntKind.u8.wrap (p : Int) = (p : Int) := by simp [IntKind.wrap, IntKind.bits, IntKind.signed]; omega
            have wj3 : IntKind.u8.wrap (97 + (p : Int)) = 97 + (p : Int) := by simp [IntKind.wrap, IntKind.bits, IntKind.signed]; omega
            have hCb := Blk.new w2 #[.int .u8 ((97 + p : Nat) : Int)] 5
            have cvb := conv_blk hCb
            have oCb := alloc0 w2 (.cells #[.int .u8 ((97 + p : Nat) : Int)] 5)
            have cSb := ch_size (97 + p)
            obtain ⟨SC, hSC⟩ : ∃ S, ch (97 + p) = S := ⟨_, rfl⟩
            rw [hSC] at cvb cSb E0
            rw [show ((97 + p : Nat) : Int) = 97 + (p : Int) by simp] at cvb oCb
            have hB9 := (HB.out.kept oCb (fun h => h)).setCell 2 (.string (⟨#[77, 46]⟩ ++ SC))
            have o9 := M.Only.setCell (Only.refl (M.One rb) (w2.alloc (.cells #[.int .u8 (97 + (p : Int))] 5))) (p := ⟨rb, 2, none⟩) (fun _ => rfl) (.string (⟨#[77, 46]⟩ ++ SC))
            have z2 : w2.cell? ⟨rb, 2, none⟩ = some (.string ⟨#[]⟩) := HB.out.cell 2
            have zf2 := HB.out.free 2
            have za2 := (HB.out.kept oCb (fun h => h)).cell 2
            have zaf2 := (HB.out.kept oCb (fun h => h)).free 2
            have H9 := Lib.hid hB9
            have O9 := Lib.hid o9
            have HRB := Lib.hid hrb
            have HOC := Lib.hid oCb
            clear hp hk0 e0 k0 k1 k12 wi1 wi2 hCb oCb hSC hB9 o9 hrb
            go_wp2_with fail
            go_meet
            refine ⟨?_, ?_, ?_⟩
            · rw [E0.out]; exact H9.out
            · exact ((HV.out.go HOC.out).kept O9.out (fun q hq h => hq.2 h))
            · exact (Nil.trans HO2.out HOC.out).trans O9.out (fun i hi h => by have h2 : i = rb := h; have := HRB.out; omega)
        case rest =>
          obtain ⟨hB, hV, ho⟩ := hcut
          obtain ⟨w3, hw3⟩ : ∃ z, wc = z := ⟨_, rfl⟩
          rw [hw3] at hB hV ho ⊢
          clear hw3
          have wi3 : IntKind.u8.wrap (97 + (k : Int)) = 97 + (k : Int) := by simp [IntKind.wrap, IntKind.bits, IntKind.signed]; omega
          have hCb := Blk.new w3 #[.int .u8 ((97 + k : Nat) : Int)] 5
          have cvb := conv_blk hCb
          have oCb := alloc0 w3 (.cells #[.int .u8 ((97 + k : Nat) : Int)] 5)
          have cSb := ch_size (97 + k)
          have hnE := nmE k
          obtain ⟨SC, hSC⟩ : ∃ S, ch (97 + k) = S := ⟨_, rfl⟩
          rw [hSC] at cvb cSb hnE
          rw [show ((97 + k : Nat) : Int) = 97 + (k : Int) by simp] at cvb oCb
          obtain ⟨w9, run9, hR9, o9⟩ := ((HR.out.go ho).go oCb).put (⟨#[77, 46]⟩ ++ SC) (by rw [ByteArray.size_append, cSb]; show 2 + 1 ≤ maxLen; decide) (rC k) (by refine ⟨?_, by show 1 ≤ maxLen; decide⟩; show (bsC k).size ≤ maxLen; unfold bsC; split; exact Nat.zero_le _; show 3 ≤ maxLen; decide) (.slice (some ⟨fb, 0, none⟩) 1 1) ((hV.mono (fun q h => h.1)).go oCb) (by have := HK.out; have := HKK.out; omega)
          have run9' : (Instr.mapUpdate 31 (.map (some mb)) (.string (⟨#[77, 46]⟩ ++ SC)) (.agg #[.string ⟨#[82]⟩, .bool false, .string (bsC k), .slice (some ⟨fb, 0, none⟩) 1 1])).run Tryd.prog (w3.alloc (.cells #[.int .u8 (97 + (k : Int))] 5)) = .ok () w9 := run9
          rw [hnE] at hR9
          rw [Rch_new (Nat.le_refl k) (by omega)] at hR9
          have HR9 := Lib.hid hR9
          have HO9 := Lib.hid ((Nil.trans HO.out (Nil.trans ho oCb)).trans o9 (fun q hq h => by have h2 : q = mb := h; have := HMB.out; omega))
          have z0 : w3.cell? ⟨rb, 0, none⟩ = some (.string ⟨#[82]⟩) := hB.cell 0
          have z1 : w3.cell? ⟨rb, 1, none⟩ = some (.bool false) := hB.cell 1
          have z2 : w3.cell? ⟨rb, 2, none⟩ = some (.string (bsC k)) := hB.cell 2
          have z3 : w3.cell? ⟨rb, 3, none⟩ = some (.slice (some ⟨fb, 0, none⟩) 1 1) := hB.cell 3
          have za0 := oCb.cell z0 (fun h => h)
          have za1 := oCb.cell z1 (fun h => h)
          have za2 := oCb.cell z2 (fun h => h)
          have za3 := oCb.cell z3 (fun h => h)
          have run9 := run9'
          obtain ⟨BS, hBS⟩ : ∃ z, bsC k = z := ⟨_, rfl⟩
          rw [hBS] at z2 za2 run9
          clear hCb oCb hSC hR9 o9 run9' hnE hB hV ho hBS k12
          go_wp2_with fail
          go_roundg (K - (k + 1))
          case measure => have := HG.out; have := HKK.out; omega
          case rel => exact ⟨k + 1, _, rfl, HKK.out, rfl, HR9.out, HO9.out⟩
    · have k1 : ¬ (k : Int) < (K : Int) := by omega
      have k3 : decide (k < K) = false := by simp; omega
      have e1 : k = K := by omega
      have HR1 : Hid (RMk wq mb K (Rch K) fv) := Lib.hid (by have h := HR.out; rw [e1] at h; exact h)
      have HK1 := HK
      clear hgo hkK HR
      obtain ⟨x, hx⟩ : ∃ x, a % K = x := ⟨_, rfl⟩
      obtain ⟨y, hy⟩ : ∃ y, b % K = y := ⟨_, rfl⟩
      have hxk : x < K := by rw [← hx]; exact Nat.mod_lt _ (by have := HK.out; omega)
      have hyk : y < K := by rw [← hy]; exact Nat.mod_lt _ (by have := HK.out; omega)
      have tx : ((a : Int).tmod (K : Int)) = (x : Int) := by rw [← hx]; rfl
      have ty : ((b : Int).tmod (K : Int)) = (y : Int) := by rw [← hy]; rfl
      have tx2 : ((a : Int) % (K : Int)) = (x : Int) := by rw [← hx]; rfl
      have ty2 : ((b : Int) % (K : Int)) = (y : Int) := by rw [← hy]; rfl
      have hk9 : 1 ≤ K := by have := HK1.out; omega
      have tK : ((K : Int) == 0) = false := by simp; omega
      have tK2 : ¬ (K : Int) = 0 := by omega
      have tK3 : ¬ K = 0 := by omega
      have ia : IntKind.i64.wrap (a : Int) = (a : Int) := by have := HA.out; rw [IntKind.wrap]; simp [IntKind.bits, IntKind.signed]; omega
      have ib : IntKind.i64.wrap (b : Int) = (b : Int) := by have := HB.out; rw [IntKind.wrap]; simp [IntKind.bits, IntKind.signed]; omega
      have HXK := Lib.hid hxk
      have HYK := Lib.hid hyk
      clear hx hy hxk hyk e1 k0 hk9
      go_upto_region 12 with fail
      go_cut [11, 12] (fun s11 s12 wx => s11 = .int .i64 (x : Int) ∧ s12 = .int .i64 (y : Int) ∧ Only Nil wq wx)
      case first =>
        go_quiet (fail)
        go_wp2_with fail
        go_meet
        exact ⟨rfl, rfl, (Only.refl Nil wq).drewN _⟩
      case rest =>
        obtain ⟨rfl, rfl, hoz⟩ := hcut
        obtain ⟨wz, hwz⟩ : ∃ z, wc = z := ⟨_, rfl⟩
        rw [hwz] at hoz ⊢
        have HOZ := Lib.hid (Nil.trans HO.out hoz)
        have HRZ := Lib.hid (HR1.out.go hoz).rmap
        clear hwz hoz tx ty tx2 ty2 tK tK2 tK3 ia ib k1 k3 HR1
        have hk12 := HK1.out
        have hx12 := HXK.out
        have hy12 := HYK.out
        have x0 : (0 : Int) ≤ (x : Int) := Int.natCast_nonneg _
        have wx1 : IntKind.u8.wrap (x : Int) = (x : Int) := by simp [IntKind.wrap, IntKind.bits, IntKind.signed]; omega
        have wx3 : IntKind.u8.wrap (97 + (x : Int)) = 97 + (x : Int) := by simp [IntKind.wrap, IntKind.bits, IntKind.signed]; omega
        have wy1 : IntKind.u8.wrap (y : Int) = (y : Int) := by simp [IntKind.wrap, IntKind.bits, IntKind.signed]; omega
        have wy3 : IntKind.u8.wrap (97 + (y : Int)) = 97 + (y : Int) := by simp [IntKind.wrap, IntKind.bits, IntKind.signed]; omega
        have HCX := Lib.hid (show 97 + (x : Int) = ((97 + x : Nat) : Int) by simp)
        have HCY := Lib.hid (show 97 + (y : Int) = ((97 + y : Nat) : Int) by simp)
        have sX := ch_size (97 + x)
        have sY := ch_size (97 + y)
        have hnX := nmE x
        have hnY := nmE y
        obtain ⟨SX, hSX⟩ : ∃ S, ch (97 + x) = S := ⟨_, rfl⟩
        obtain ⟨SY, hSY⟩ : ∃ S, ch (97 + y) = S := ⟨_, rfl⟩
        rw [hSX] at sX hnX
        rw [hSY] at sY hnY
        have HSX := Lib.hid hSX
        have HSY := Lib.hid hSY
        have HNX := Lib.hid hnX
        have HNY := Lib.hid hnY
        clear hSX hSY hnX hnY hk12 hx12 hy12
        go_upto_region 13 with fail
        go_cut [13, 14] (fun s13 s14 wx => s13 = .string (nm x) ∧ s14 = .string (nm y) ∧ Only Nil wz wx)
        case first =>
          have hq : Only Nil wz wz.drew := (Only.refl Nil wz).drew
          refine wp_region_T (fun w' => Only Nil wz w') [] (by kernel_rfl) ?_
          refine wpAnyT_sub (S' := fun w' => Only Nil wz.drew w') (fun _ h => Nil.trans hq h) ?_
          obtain ⟨wd, hwd⟩ : ∃ z, wz.drew = z := ⟨_, rfl⟩
          rw [hwd] at hq  ⊢
          clear hwd
          refine wpAnyT_take 0 (v := ?_) rfl (by kernel_rfl) (by kernel_rfl) (by kernel_rfl) (fun _ _ _ h => h) (by kernel_rfl) (by kernel_rfl) (Or.inl ⟨by kernel_rfl, ?_⟩) (Only.refl Nil _) ?_
          rotate_left
          · (intro w' hw'; go_simp; (try with_reducible rfl))
          refine wpAnyT_take 1 (v := ?_) rfl (by kernel_rfl) (by kernel_rfl) (by kernel_rfl) (fun _ _ _ h => h) (by kernel_rfl) (by kernel_rfl) (Or.inl ⟨by kernel_rfl, ?_⟩) (Only.refl Nil _) ?_
          rotate_left
          · (intro w' hw'; go_simp; (try with_reducible rfl))
          refine wpAnyT_take 2 (v := ?_) rfl (by kernel_rfl) (by kernel_rfl) (by kernel_rfl) (fun _ _ _ h => h) (by kernel_rfl) (by kernel_rfl) (Or.inl ⟨by kernel_rfl, ?_⟩) (Only.refl Nil _) ?_
          rotate_left
          · (intro w' hw'; go_simp; (try with_reducible rfl))
          refine wpAnyT_take 6 (v := ?_) rfl (by kernel_rfl) (by kernel_rfl) (by kernel_rfl) (fun _ _ _ h => h) (by kernel_rfl) (by kernel_rfl) (Or.inl ⟨by kernel_rfl, ?_⟩) (Only.refl Nil _) ?_
          rotate_left
          · (intro w' hw'; go_simp; (try with_reducible rfl))
          refine wpAnyT_take 7 (v := ?_) rfl (by kernel_rfl) (by kernel_rfl) (by kernel_rfl) (fun _ _ _ h => h) (by kernel_rfl) (by kernel_rfl) (Or.inl ⟨by kernel_rfl, ?_⟩) (Only.refl Nil _) ?_
          rotate_left
          · (intro w' hw'; go_simp; (try with_reducible rfl))
          refine wpAnyT_take 8 (v := ?_) rfl (by kernel_rfl) (by kernel_rfl) (by kernel_rfl) (fun _ _ _ h => h) (by kernel_rfl) (by kernel_rfl) (Or.inl ⟨by kernel_rfl, ?_⟩) (Only.refl Nil _) ?_
          rotate_left
          · (intro w' hw'; go_simp; (try with_reducible rfl))
          refine wpAnyT_two (i := 3) (j := 9) rfl rfl (by kernel_rfl) (fun K hK => ?_) (fun K hK => ?_)
          · go_simp
            refine hK.out _ _ (fun _ => (Only.refl Nil wd).alloc _) ?_
            clear hK K
            have q_a := Blk.new wd #[.int .u8 (97 + (x : Int))] 5
            have ho1x := alloc0 wd (.cells #[.int .u8 (97 + (x : Int))] 5)
            obtain ⟨b_a, hb_a⟩ : ∃ z, wd.heap.size = z := ⟨_, rfl⟩
            have g_a : wz.heap.size ≤ b_a := by rw [← hb_a]; exact hq.size
            have l_a : b_a < (wd.alloc (.cells #[.int .u8 (97 + (x : Int))] 5)).heap.size := by rw [← hb_a]; simp
            obtain ⟨w1x, hw1x⟩ : ∃ z, wd.alloc (.cells #[.int .u8 (97 + (x : Int))] 5) = z := ⟨_, rfl⟩
            rw [hb_a] at q_a ⊢
            rw [hw1x] at q_a ho1x l_a   ⊢
            clear hb_a hw1x
            refine wpAnyT_sub (S' := fun w' => Only Nil w1x w') (fun _ h => Nil.trans ho1x h) ?_
            replace hq := Nil.trans hq ho1x
            clear ho1x
            refine wpAnyT_take 4 (v := ?_) rfl (by kernel_rfl) (by kernel_rfl) (by kernel_rfl) (fun _ _ _ h => h) (by kernel_rfl) (by kernel_rfl) (Or.inl ⟨by kernel_rfl, ?_⟩) (Only.refl Nil _) ?_
            rotate_left
            · (intro w' hw'; have cv := conv_blk (c := 97 + x) (by have h := q_a.kept hw' (fun h => h); rwa [HCX.out] at h); rw [HSX.out] at cv; go_simp; (try with_reducible rfl))
            refine wpAnyT_take 5 (v := ?_) rfl (by kernel_rfl) (by kernel_rfl) (by kernel_rfl) (fun _ _ _ h => h) (by kernel_rfl) (by kernel_rfl) (Or.inl ⟨by kernel_rfl, ?_⟩) (Only.refl Nil _) ?_
            rotate_left
            · (intro w' hw'; go_simp; (try with_reducible rfl))
            refine wpAnyT_take 12 (v := ?_) rfl (by kernel_rfl) (by kernel_rfl) (by kernel_rfl) (fun _ _ _ h => h) (by kernel_rfl) (by kernel_rfl) (Or.inl ⟨by kernel_rfl, ?_⟩) (Only.refl Nil _) ?_
            rotate_left
            · (intro w' hw'; go_simp; (try with_reducible rfl))
            refine wpAnyT_one (i := 9) rfl (by kernel_rfl) (fun K hK => ?_)
            go_simp
            refine hK.out _ _ (fun _ => (Only.refl Nil w1x).alloc _) ?_
            clear hK K
            have q_b := Blk.new w1x #[.int .u8 (97 + (y : Int))] 5
            have ho2x := alloc0 w1x (.cells #[.int .u8 (97 + (y : Int))] 5)
            replace q_a := q_a.kept ho2x (fun h => h)
            obtain ⟨b_b, hb_b⟩ : ∃ z, w1x.heap.size = z := ⟨_, rfl⟩
            have g_b : wz.heap.size ≤ b_b := by rw [← hb_b]; exact hq.size
            have n_a_b : b_a ≠ b_b := by rw [← hb_b]; exact Nat.ne_of_lt l_a
            have l_b : b_b < (w1x.alloc (.cells #[.int .u8 (97 + (y : Int))] 5)).heap.size := by rw [← hb_b]; simp
            replace l_a := Nat.lt_of_lt_of_le l_a ho2x.size
            obtain ⟨w2x, hw2x⟩ : ∃ z, w1x.alloc (.cells #[.int .u8 (97 + (y : Int))] 5) = z := ⟨_, rfl⟩
            rw [hb_b] at q_b ⊢
            rw [hw2x] at q_b ho2x l_b q_a l_a ⊢
            clear hb_b hw2x
            refine wpAnyT_sub (S' := fun w' => Only Nil w2x w') (fun _ h => Nil.trans ho2x h) ?_
            replace hq := Nil.trans hq ho2x
            clear ho2x
            refine wpAnyT_take 10 (v := ?_) rfl (by kernel_rfl) (by kernel_rfl) (by kernel_rfl) (fun _ _ _ h => h) (by kernel_rfl) (by kernel_rfl) (Or.inl ⟨by kernel_rfl, ?_⟩) (Only.refl Nil _) ?_
            rotate_left
            · (intro w' hw'; have cv := conv_blk (c := 97 + y) (by have h := q_b.kept hw' (fun h => h); rwa [HCY.out] at h); rw [HSY.out] at cv; go_simp; (try with_reducible rfl))
            refine wpAnyT_take 11 (v := ?_) rfl (by kernel_rfl) (by kernel_rfl) (by kernel_rfl) (fun _ _ _ h => h) (by kernel_rfl) (by kernel_rfl) (Or.inl ⟨by kernel_rfl, ?_⟩) (Only.refl Nil _) ?_
            rotate_left
            · (intro w' hw'; go_simp; (try with_reducible rfl))
            refine wpAnyT_take 13 (v := ?_) rfl (by kernel_rfl) (by kernel_rfl) (by kernel_rfl) (fun _ _ _ h => h) (by kernel_rfl) (by kernel_rfl) (Or.inl ⟨by kernel_rfl, ?_⟩) (Only.refl Nil _) ?_
            rotate_left
            · (intro w' hw'; go_simp; (try with_reducible rfl))
            refine wpAnyT_done (by kernel_rfl) ?_
            have HQ := Lib.hid hq
            clear q_a q_b g_a g_b l_a l_b hq
            go_wp2_with fail
            go_meet
            exact ⟨by rw [HNX.out], by rw [HNY.out], HQ.out⟩
          · go_simp
            refine hK.out _ _ (fun _ => (Only.refl Nil wd).alloc _) ?_
            clear hK K
            have q_b := Blk.new wd #[.int .u8 (97 + (y : Int))] 5
            have ho1x := alloc0 wd (.cells #[.int .u8 (97 + (y : Int))] 5)
            obtain ⟨b_b, hb_b⟩ : ∃ z, wd.heap.size = z := ⟨_, rfl⟩
            have g_b : wz.heap.size ≤ b_b := by rw [← hb_b]; exact hq.size
            have l_b : b_b < (wd.alloc (.cells #[.int .u8 (97 + (y : Int))] 5)).heap.size := by rw [← hb_b]; simp
            obtain ⟨w1x, hw1x⟩ : ∃ z, wd.alloc (.cells #[.int .u8 (97 + (y : Int))] 5) = z := ⟨_, rfl⟩
            rw [hb_b] at q_b ⊢
            rw [hw1x] at q_b ho1x l_b   ⊢
            clear hb_b hw1x
            refine wpAnyT_sub (S' := fun w' => Only Nil w1x w') (fun _ h => Nil.trans ho1x h) ?_
            replace hq := Nil.trans hq ho1x
            clear ho1x
            refine wpAnyT_take 10 (v := ?_) rfl (by kernel_rfl) (by kernel_rfl) (by kernel_rfl) (fun _ _ _ h => h) (by kernel_rfl) (by kernel_rfl) (Or.inl ⟨by kernel_rfl, ?_⟩) (Only.refl Nil _) ?_
            rotate_left
            · (intro w' hw'; have cv := conv_blk (c := 97 + y) (by have h := q_b.kept hw' (fun h => h); rwa [HCY.out] at h); rw [HSY.out] at cv; go_simp; (try with_reducible rfl))
            refine wpAnyT_take 11 (v := ?_) rfl (by kernel_rfl) (by kernel_rfl) (by kernel_rfl) (fun _ _ _ h => h) (by kernel_rfl) (by kernel_rfl) (Or.inl ⟨by kernel_rfl, ?_⟩) (Only.refl Nil _) ?_
            rotate_left
            · (intro w' hw'; go_simp; (try with_reducible rfl))
            refine wpAnyT_one (i := 3) rfl (by kernel_rfl) (fun K hK => ?_)
            go_simp
            refine hK.out _ _ (fun _ => (Only.refl Nil w1x).alloc _) ?_
            clear hK K
            have q_a := Blk.new w1x #[.int .u8 (97 + (x : Int))] 5
            have ho2x := alloc0 w1x (.cells #[.int .u8 (97 + (x : Int))] 5)
            replace q_b := q_b.kept ho2x (fun h => h)
            obtain ⟨b_a, hb_a⟩ : ∃ z, w1x.heap.size = z := ⟨_, rfl⟩
            have g_a : wz.heap.size ≤ b_a := by rw [← hb_a]; exact hq.size
            have n_b_a : b_b ≠ b_a := by rw [← hb_a]; exact Nat.ne_of_lt l_b
            have l_a : b_a < (w1x.alloc (.cells #[.int .u8 (97 + (x : Int))] 5)).heap.size := by rw [← hb_a]; simp
            replace l_b := Nat.lt_of_lt_of_le l_b ho2x.size
            obtain ⟨w2x, hw2x⟩ : ∃ z, w1x.alloc (.cells #[.int .u8 (97 + (x : Int))] 5) = z := ⟨_, rfl⟩
            rw [hb_a] at q_a ⊢
            rw [hw2x] at q_a ho2x l_a q_b l_b ⊢
            clear hb_a hw2x
            refine wpAnyT_sub (S' := fun w' => Only Nil w2x w') (fun _ h => Nil.trans ho2x h) ?_
            replace hq := Nil.trans hq ho2x
            clear ho2x
            refine wpAnyT_take 4 (v := ?_) rfl (by kernel_rfl) (by kernel_rfl) (by kernel_rfl) (fun _ _ _ h => h) (by kernel_rfl) (by kernel_rfl) (Or.inl ⟨by kernel_rfl, ?_⟩) (Only.refl Nil _) ?_
            rotate_left
            · (intro w' hw'; have cv := conv_blk (c := 97 + x) (by have h := q_a.kept hw' (fun h => h); rwa [HCX.out] at h); rw [HSX.out] at cv; go_simp; (try with_reducible rfl))
            refine wpAnyT_take 5 (v := ?_) rfl (by kernel_rfl) (by kernel_rfl) (by kernel_rfl) (fun _ _ _ h => h) (by kernel_rfl) (by kernel_rfl) (Or.inl ⟨by kernel_rfl, ?_⟩) (Only.refl Nil _) ?_
            rotate_left
            · (intro w' hw'; go_simp; (try with_reducible rfl))
            refine wpAnyT_take 12 (v := ?_) rfl (by kernel_rfl) (by kernel_rfl) (by kernel_rfl) (fun _ _ _ h => h) (by kernel_rfl) (by kernel_rfl) (Or.inl ⟨by kernel_rfl, ?_⟩) (Only.refl Nil _) ?_
            rotate_left
            · (intro w' hw'; go_simp; (try with_reducible rfl))
            refine wpAnyT_take 13 (v := ?_) rfl (by kernel_rfl) (by kernel_rfl) (by kernel_rfl) (fun _ _ _ h => h) (by kernel_rfl) (by kernel_rfl) (Or.inl ⟨by kernel_rfl, ?_⟩) (Only.refl Nil _) ?_
            rotate_left
            · (intro w' hw'; go_simp; (try with_reducible rfl))
            refine wpAnyT_done (by kernel_rfl) ?_
            have HQ := Lib.hid hq
            clear q_a q_b g_a g_b l_a l_b hq
            go_wp2_with fail
            go_meet
            exact ⟨by rw [HNX.out], by rw [HNY.out], HQ.out⟩
        case rest =>
          obtain ⟨rfl, rfl, hoc⟩ := hcut
          obtain ⟨w6, hw6⟩ : ∃ z, wc = z := ⟨_, rfl⟩
          rw [hw6] at hoc ⊢
          clear hw6 wx1 wx3 wy1 wy3 HCX HCY sX sY HSX HSY HNX HNY
          have HO6 := Lib.hid (Nil.trans HOZ.out hoc)
          have HRM := Lib.hid (HRZ.out.go hoc)
          clear hoc
          have hk12 := HK1.out
          have hF : ∀ s r, Rch K s = some r → r.fields.length ≤ 1000 := fun s r h => Rch_len h
          have CF := fieldsP_any HRM.out hF (by omega) (nm x) (by show 3 ≤ maxLen; decide) w6 (Only.refl _ _)
          rw [fieldsC hk12.2 HXK.out HXK.out] at CF
          have CW := fun w' (h : Only Nil w6 w') => wordsP_any HRM.out hF (by omega) (TyS.nil Any w6) 8 0 (nm x) (by show 3 ≤ maxLen; decide) w' h
          rw [words_chain hk12.2 HXK.out HXK.out] at CW
          have CE := fun w' (h : Only Nil w6 w') => extP_any HRM.out (nm y) (nm x) (by show 3 ≤ maxLen; decide) w' h
          rw [extC hk12.2 HYK.out HXK.out (show x < K + 1 by have := HXK.out; omega)] at CE
          have CT := fun w' (h : Only Nil w6 w') => fitsP_any HRM.out (TyS.nil Any w6) (TyS.nil Any w6) 9 0 9 0 (nm y) (nm x) (by show 3 ≤ maxLen; decide) w' h
          rw [fitsC hk12.2 HYK.out HXK.out] at CT
          obtain ⟨be, hbe⟩ : ∃ z, decide (y ≤ x) = z := ⟨_, rfl⟩
          have hbe2 : decide ((y : Int) ≤ (x : Int)) = be := by rw [← hbe]; exact decide_eq_decide.2 (by omega)
          have HBE := Lib.hid hbe
          have HBE2 := Lib.hid hbe2
          rw [hbe] at CE CT
          obtain ⟨X1, hX1⟩ : ∃ z, x + 1 = z := ⟨_, rfl⟩
          obtain ⟨X2, hX2⟩ : ∃ z, x + 2 = z := ⟨_, rfl⟩
          obtain ⟨P, hP⟩ : ∃ z, X1 * X2 = z := ⟨_, rfl⟩
          obtain ⟨V, hV⟩ : ∃ z, wC x = z := ⟨_, rfl⟩
          have hP200 : P ≤ 200 := by
            rw [← hP, ← hX1, ← hX2]
            exact Nat.le_trans (Nat.mul_le_mul (show x + 1 ≤ 12 by have := HXK.out; omega) (show x + 2 ≤ 13 by have := HXK.out; omega)) (by decide)
          have hPV : P / 2 = V := by rw [← hP, ← hX1, ← hX2, wC_half, hV]
          have wX1 : IntKind.i64.wrap ((x : Int) + 1) = (X1 : Int) := by have := HXK.out; rw [IntKind.wrap]; simp [IntKind.bits, IntKind.signed]; omega
          have wX2 : IntKind.i64.wrap ((x : Int) + 2) = (X2 : Int) := by have := HXK.out; rw [IntKind.wrap]; simp [IntKind.bits, IntKind.signed]; omega
          have hPI : (X1 : Int) * (X2 : Int) = (P : Int) := by rw [← hP]; simp
          have wP : IntKind.i64.wrap ((X1 : Int) * (X2 : Int)) = (P : Int) := by rw [hPI, IntKind.wrap]; simp [IntKind.bits, IntKind.signed]; omega
          have wQ : (P : Int).tdiv 2 = (V : Int) := by rw [← hPV]; rfl
          have wQ2 : (P : Int) / 2 = (V : Int) := by rw [← hPV]; rfl
          have wQ3 : IntKind.i64.wrap (V : Int) = (V : Int) := by rw [IntKind.wrap]; simp [IntKind.bits, IntKind.signed]; omega
          rw [hV] at CW
          have HCF := Lib.hid CF
          have HCW := Lib.hid CW
          have HCE := Lib.hid CE
          have HCT := Lib.hid CT
          have HX1 := Lib.hid hX1
          have nbe : (be != be) = false := by simp
          have ebe : (be == be) = true := by simp
          have nX1 : ((X1 : Int) != (X1 : Int)) = false := by simp
          have nV : ((V : Int) != (V : Int)) = false := by simp
          clear hk12 hF CF CW CE CT hbe hbe2 hX1 hX2 hP hV hP200 hPV hPI
          go_wp2_with fail
          refine HCF.out.mono ?_
          rintro e w7 ⟨fv1, rfl, hv1, ho7⟩
          have H7 := Lib.hid ho7
          obtain ⟨ao1, cap1, off1, b1, ovs1, e1, p0, pU, pn, ps, pc, pr⟩ := hv1.inv
          have hln : (((some (lC x)).getD []).length) = X1 := by rw [← HX1.out]; exact lC_len x
          have ea := p0 (by rw [hln]; have := HX1.out; omega)
          rw [hln] at e1
          subst ea
          subst e1
          have PC := Lib.hid (fun i (hi : i < X1) => (pc i (vC i) (by show (lC x)[i]? = _; exact lC_get (by have := HX1.out; omega))).get0)
          clear hv1 ho7 p0 pU pn ps pc pr hln HCF
          simp only [Option.isSome_some, Option.getD_some]
          go_wp2_with fail
          refine (HCW.out _ H7.out).mono ?_
          rintro e w8 ⟨rfl, ho8⟩
          have H8 := Lib.hid (Nil.trans H7.out ho8)
          have HO78 := Lib.hid ho8
          clear ho8 HCW
          simp only [Option.isSome_some, Option.getD_some]
          have b0e := HBE2.out
          have b0n := HBE.out
          go_wp2_with fail
          refine (HCE.out _ H8.out).mono ?_
          rintro e w9 ⟨rfl, ho9⟩
          have H9 := Lib.hid (Nil.trans H8.out ho9)
          have HO79 := Lib.hid (Nil.trans HO78.out ho9)
          clear ho9 HCE
          go_wp2_with fail
          go_loopg [19] X1 (fun g i wr => ∃ j : Nat, i = .int .i64 (j : Int) ∧ j ≤ X1 ∧ g = X1 - j ∧ Only Nil w9 wr)
          case atStart => exact ⟨0, rfl, Nat.zero_le _, rfl, Only.refl _ _⟩
          case round =>
            obtain ⟨j, rfl, hj, hg, hoj⟩ := hrel
            obtain ⟨wy, hwy⟩ : ∃ z, wr = z := ⟨_, rfl⟩
            rw [hwy] at hoj ⊢
            have HG2 := Lib.hid hg
            have HOJ := Lib.hid hoj
            have j0 : (0 : Int) ≤ (j : Int) := Int.natCast_nonneg _
            clear hwy hg hoj
            by_cases hjx : j < X1
            · have HJ := Lib.hid hjx
              have HJ12 := Lib.hid (show j < 12 by have := HK1.out; have := HXK.out; have := HX1.out; omega)
              have j1 : (j : Int) < (X1 : Int) := by omega
              have c0 := (Nil.trans HO79.out HOJ.out).cell (PC.out j hjx) (fun h => h)
              have wj1 : IntKind.u8.wrap (j : Int) = (j : Int) := by have := HJ12.out; simp [IntKind.wrap, IntKind.bits, IntKind.signed]; omega
              have wj3 : IntKind.u8.wrap (97 + (j : Int)) = 97 + (j : Int) := by have := HJ12.out; simp [IntKind.wrap, IntKind.bits, IntKind.signed]; omega
              have wj2 : IntKind.i64.wrap ((j : Int) + 1) = ((j + 1 : Nat) : Int) := by have := HJ12.out; rw [IntKind.wrap]; simp [IntKind.bits, IntKind.signed]; omega
              have HCJ := Lib.hid (show 97 + (j : Int) = ((97 + j : Nat) : Int) by simp)
              have sJ := ch_size (97 + j)
              have hfJ := fnE j
              obtain ⟨SJ, hSJ⟩ : ∃ S, ch (97 + j) = S := ⟨_, rfl⟩
              obtain ⟨FJ, hFJ⟩ : ∃ S, fn j = S := ⟨_, rfl⟩
              have c0 : wy.cell? ⟨b1, off1 + j * 6, none⟩ = some (.string FJ) := by rw [← hFJ]; exact c0
              rw [hSJ, hFJ] at hfJ
              rw [hSJ] at sJ
              have HSJ := Lib.hid hSJ
              have HFJ := Lib.hid hfJ
              clear hSJ hFJ hfJ hj hjx
              go_upto_region 21 with fail
              go_cut [146] (fun s wx => s = .bool false ∧ Only Nil wy wx)
              case first =>
                have hq : Only Nil wy wy.drew := (Only.refl Nil wy).drew
                refine wp_region_T (fun w' => Only Nil wy w') [] (by kernel_rfl) ?_
                refine wpAnyT_sub (S' := fun w' => Only Nil wy.drew w') (fun _ h => Nil.trans hq h) ?_
                obtain ⟨wd, hwd⟩ : ∃ z, wy.drew = z := ⟨_, rfl⟩
                rw [hwd] at hq  ⊢
                clear hwd
                refine wpAnyT_take 0 (v := ?_) rfl (by kernel_rfl) (by kernel_rfl) (by kernel_rfl) (fun _ _ _ h => h) (by kernel_rfl) (by kernel_rfl) (Or.inl ⟨by kernel_rfl, ?_⟩) (Only.refl Nil _) ?_
                rotate_left
                · (intro w' hw'; go_simp; (try with_reducible rfl))
                refine wpAnyT_take 1 (v := ?_) rfl (by kernel_rfl) (by kernel_rfl) (by kernel_rfl) (fun _ _ _ h => h) (by kernel_rfl) (by kernel_rfl) (Or.inl ⟨by kernel_rfl, ?_⟩) (Only.refl Nil _) ?_
                rotate_left
                · (intro w' hw'; go_simp; (try with_reducible rfl))
                refine wpAnyT_take 2 (v := ?_) rfl (by kernel_rfl) (by kernel_rfl) (by kernel_rfl) (fun _ _ _ h => h) (by kernel_rfl) (by kernel_rfl) (Or.inl ⟨by kernel_rfl, ?_⟩) (Only.refl Nil _) ?_
                rotate_left
                · (intro w' hw'; go_simp; (try with_reducible rfl))
                refine wpAnyT_take 3 (v := ?_) rfl (by kernel_rfl) (by kernel_rfl) (by kernel_rfl) (fun _ _ _ h => h) (by kernel_rfl) (by kernel_rfl) (Or.inl ⟨by kernel_rfl, ?_⟩) (Only.refl Nil _) ?_
                rotate_left
                · (intro w' hw'; go_simp; (try with_reducible rfl))
                refine wpAnyT_take 4 (v := ?_) rfl (by kernel_rfl) (by kernel_rfl) (by kernel_rfl) (fun _ _ _ h => h) (by kernel_rfl) (by kernel_rfl) (Or.inl ⟨by kernel_rfl, ?_⟩) (Only.refl Nil _) ?_
                rotate_left
                · (intro w' hw'; have e0 := M.Only.cell hw' (M.Only.cell hq c0 (fun h => h)) (fun h => h); go_simp; (try with_reducible rfl))
                refine wpAnyT_take 5 (v := ?_) rfl (by kernel_rfl) (by kernel_rfl) (by kernel_rfl) (fun _ _ _ h => h) (by kernel_rfl) (by kernel_rfl) (Or.inl ⟨by kernel_rfl, ?_⟩) (Only.refl Nil _) ?_
                rotate_left
                · (intro w' hw'; go_simp; (try with_reducible rfl))
                refine wpAnyT_take 6 (v := ?_) rfl (by kernel_rfl) (by kernel_rfl) (by kernel_rfl) (fun _ _ _ h => h) (by kernel_rfl) (by kernel_rfl) (Or.inl ⟨by kernel_rfl, ?_⟩) (Only.refl Nil _) ?_
                rotate_left
                · (intro w' hw'; go_simp; (try with_reducible rfl))
                refine wpAnyT_take 7 (v := ?_) rfl (by kernel_rfl) (by kernel_rfl) (by kernel_rfl) (fun _ _ _ h => h) (by kernel_rfl) (by kernel_rfl) (Or.inl ⟨by kernel_rfl, ?_⟩) (Only.refl Nil _) ?_
                rotate_left
                · (intro w' hw'; go_simp; (try with_reducible rfl))
                refine wpAnyT_one (i := 8) rfl (by kernel_rfl) (fun K hK => ?_)
                go_simp
                refine hK.out _ _ (fun _ => (Only.refl Nil wd).alloc _) ?_
                clear hK K
                have q_a := Blk.new wd #[.int .u8 (97 + (j : Int))] 5
                have ho1x := alloc0 wd (.cells #[.int .u8 (97 + (j : Int))] 5)
                obtain ⟨b_a, hb_a⟩ : ∃ z, wd.heap.size = z := ⟨_, rfl⟩
                have g_a : wy.heap.size ≤ b_a := by rw [← hb_a]; exact hq.size
                have l_a : b_a < (wd.alloc (.cells #[.int .u8 (97 + (j : Int))] 5)).heap.size := by rw [← hb_a]; simp
                obtain ⟨w1x, hw1x⟩ : ∃ z, wd.alloc (.cells #[.int .u8 (97 + (j : Int))] 5) = z := ⟨_, rfl⟩
                rw [hb_a] at q_a ⊢
                rw [hw1x] at q_a ho1x l_a   ⊢
                clear hb_a hw1x
                refine wpAnyT_sub (S' := fun w' => Only Nil w1x w') (fun _ h => Nil.trans ho1x h) ?_
                replace hq := Nil.trans hq ho1x
                clear ho1x
                refine wpAnyT_take 9 (v := ?_) rfl (by kernel_rfl) (by kernel_rfl) (by kernel_rfl) (fun _ _ _ h => h) (by kernel_rfl) (by kernel_rfl) (Or.inl ⟨by kernel_rfl, ?_⟩) (Only.refl Nil _) ?_
                rotate_left
                · (intro w' hw'; have cv := conv_blk (c := 97 + j) (by have h := q_a.kept hw' (fun h => h); rwa [HCJ.out] at h); rw [HSJ.out] at cv; go_simp; (try with_reducible rfl))
                refine wpAnyT_take 10 (v := ?_) rfl (by kernel_rfl) (by kernel_rfl) (by kernel_rfl) (fun _ _ _ h => h) (by kernel_rfl) (by kernel_rfl) (Or.inl ⟨by kernel_rfl, ?_⟩) (Only.refl Nil _) ?_
                rotate_left
                · (intro w' hw'; go_simp; (try with_reducible rfl))
                refine wpAnyT_take 11 (v := ?_) rfl (by kernel_rfl) (by kernel_rfl) (by kernel_rfl) (fun _ _ _ h => h) (by kernel_rfl) (by kernel_rfl) (Or.inl ⟨by kernel_rfl, ?_⟩) (Only.refl Nil _) ?_
                rotate_left
                · (intro w' hw'; have hfj := HFJ.out; go_simp; (try with_reducible rfl))
                refine wpAnyT_done (by kernel_rfl) ?_
                have HQ := Lib.hid hq
                have hfj := HFJ.out
                clear q_a g_a l_a hq
                go_wp2_with fail
                go_meet
                exact ⟨rfl, HQ.out⟩
              case rest =>
                obtain ⟨rfl, hoc⟩ := hcut
                obtain ⟨wv, hwv⟩ : ∃ z, wc = z := ⟨_, rfl⟩
                rw [hwv] at hoc ⊢
                have HOV := Lib.hid (Nil.trans HOJ.out hoc)
                clear hwv hoc c0 wj1 wj3 HCJ sJ HSJ HFJ
                go_wp2_with fail
                go_roundg (X1 - (j + 1))
                case measure => have := HG2.out; have := HJ.out; omega
                case rel => exact ⟨j + 1, rfl, HJ.out, rfl, HOV.out⟩
            · have j1 : ¬ (j : Int) < (X1 : Int) := by omega
              have j3 : decide (j < X1) = false := by simp; omega
              have HO9z := Lib.hid (Nil.trans H9.out HOJ.out)
              clear hj hjx
              go_wp2_with fail
              refine (HCT.out _ HO9z.out).mono ?_
              rintro e wE ⟨rfl, hoE⟩
              have HOE := Lib.hid (Nil.trans HO6.out (Nil.trans HO9z.out hoE))
              clear hoE HCT
              go_wp2_with fail
              go_ret
              exact ⟨by simp, HOE.out⟩
end Go.Proofs.YtcbeibhmjokecaaDoor
