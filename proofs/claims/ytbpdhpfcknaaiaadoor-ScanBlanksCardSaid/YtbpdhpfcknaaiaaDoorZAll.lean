/- Symbols: all of a source, the program's. -/
import Derived.Test.YtbpdhpfcknaaiaaDoorZRows
set_option linter.unusedSimpArgs false
set_option linter.unusedVariables false
namespace Go.Proofs.YtbpdhpfcknaaiaaDoor
open Go.RowKit M

theorem info5 : ∃ i, Tryd.prog.info? 35 = some i ∧ i.zero = some (.agg #[.int .i64 0, .int .i64 0, .int .i64 0, .string ⟨#[]⟩, .int .i32 0]) ∧ i.size = 5 ∧ i.bytes = 48 := info_parts Tryd.info35

/-- The symbol at b of the whole, as the program lays it. -/
theorem sym_at (s : ByteArray) (n b : Nat) (hn : s.size = n) (hb : b < n) :
    (∃ e, symS (tx s) b = .error e ∧ symV (s.extract b n) (symI (tx (s.extract b n))) = .tuple #[noTok, .int .i64 (e : Nat)] ∧ (e = 30 ∨ e = 34)) ∨
    (∃ x : Tk, symS (tx s) b = .ok x ∧ x.pos = b ∧ b < x.fin ∧ x.fin ≤ n ∧ 1 ≤ x.kind ∧ x.kind ≤ 5 ∧
      symV (s.extract b n) (symI (tx (s.extract b n))) = .tuple #[.agg #[.int .i64 (x.kind : Nat), .int .i64 0, .int .i64 ((x.fin - b : Nat) : Int), .string (s.extract x.a x.b), .int .i32 x.num], .int .i64 0]) := by
  subst hn
  have h1 := symS_from (tx s) b 0 (Nat.le_of_lt hb)
  rw [Nat.add_zero] at h1
  have hne : ¬ (tx (s.extract b s.size)).n = 0 := by
    show ¬ (s.extract b s.size).size = 0
    rw [ext_size]; omega
  have h2 : symI (tx (s.extract b s.size)) = symS ((tx s).from b) 0 := by unfold symI; rw [if_neg hne, tx_from]
  rw [h2]
  cases hs : symS ((tx s).from b) 0 with
  | error e =>
    rw [hs] at h1
    exact .inl ⟨e, h1.symm, rfl, symS_err _ _ _ hs⟩
  | ok x =>
    rw [hs] at h1
    have k := symS_ok _ 0 (by show 0 < s.size - b; omega) x hs
    rw [from_n] at k
    have kn : (tx s).n = s.size := rfl
    rw [kn] at k
    obtain ⟨k1, k2, k3, k4, k5, k6, k7⟩ := k
    refine .inr ⟨x.up b, h1.symm, ?_, ?_, ?_, k6, k7, ?_⟩
    · show b + x.pos = b; omega
    · show b < b + x.fin; omega
    · show b + x.fin ≤ s.size; omega
    · show Value.tuple #[tokV _ x, _] = _
      unfold tokV
      rw [ext_ext s b x.a x.b k4 (by omega), k1]
      show _ = Value.tuple #[.agg #[.int .i64 (x.kind : Nat), .int .i64 0, .int .i64 ((b + x.fin - b : Nat) : Int), .string (s.extract (b + x.a) (b + x.b)), .int .i32 x.num], .int .i64 0]
      rw [show b + x.fin - b = x.fin by omega]; rfl
theorem sym_end (s : ByteArray) (n : Nat) (hn : s.size = n) :
    symV (s.extract n n) (symI (tx (s.extract n n))) = .tuple #[noTok, .int .i64 0] := by
  rw [ext_nil]
  rfl

theorem contains_any (kb : Nat) (y : ByteArray) (w : World) (hK : Blk w kb kwC 9) :
    Calls Tryd.prog 18 #[.slice (some ⟨kb, 0, none⟩) 33 33, .string y] w fun e w' => e = .returned (.bool (kwB y)) ∧ w = w' := by
  have c := Tryd.slices_Contains_string kb 0 33 33 kwL y w (by rw [kwL_len]; exact Nat.le_refl _) (by decide) (fun j hj => by rw [Nat.zero_add, hK.cell, kw_get j (by rw [kwL_len] at hj; exact hj)])
  refine c.mono fun e w' ⟨h1, h2⟩ => ⟨?_, h2.symm⟩
  rw [h1]; unfold kwB
  rw [List.take_of_length_le (by rw [kwL_len]; exact Nat.le_refl _)]
theorem ahead_snoc' (t : Txt) (kw) (acc : List Tk) (x : Tk) : ahead (acc ++ [x.key kw]) (scanE t kw x.fin) = ahead acc (match scanE t kw x.fin with | .error e => .error e | .ok l => .ok (x.key kw :: l)) := by
  rw [ahead_snoc]; cases scanE t kw x.fin <;> rfl
set_option maxRecDepth 10000 in
set_option maxHeartbeats 3200000 in
theorem all_any (s : ByteArray) (n : Nat) (hn : s.size = n) (hb : n ≤ 1000000) (w : World) (hA : Asc w) :
    Calls Tryd.prog 10 #[.string s] w fun e w' => AllOk s w e w' (allS s) ∧ Only Nil w w' := by
  have hS : allS s = if 20000 < n then .error (20000, 34) else scanE (tx s) (fun a b => kwB (s.extract a b)) 0 := by unfold allS; rw [hn]
  by_cases hbig : 20000 < n
  · rw [hS, if_pos hbig]
    have hbig' : (20000 : Int) < (n : Int) := by omega
    go_enter Tryd.func10, Tryd.ntmps10
    go_wp2_with fail
    go_ret2
    refine ⟨⟨_, rfl, ?_, ?_⟩, (Only.refl _ _).alloc _⟩
    · exact (Blk.new w _ _).cell 0
    · exact (Blk.new w _ _).cell 1
  · rw [hS, if_neg hbig]
    have hbig' : ¬ (20000 : Int) < (n : Int) := by omega
    obtain ⟨R, hR⟩ : ∃ R, scanE (tx s) (fun a b => kwB (s.extract a b)) 0 = R := ⟨_, rfl⟩
    rw [hR]
    have HR := Lib.hid hR
    clear hR hS
    have cK := keywords_any w hA
    go_enter Tryd.func10, Tryd.ntmps10
    go_wp2_with fail
    refine cK.mono ?_
    rintro e w1 ⟨rfl, hw1⟩
    have hK : Blk w1 w.heap.size kwC 9 := by rw [hw1]; exact Blk.new w _ _
    have ho1 : Only Nil w w1 := by rw [hw1]; exact (Only.refl _ _).alloc _
    obtain ⟨kb, hkb⟩ : ∃ kb, w.heap.size = kb := ⟨_, rfl⟩
    rw [hkb] at hK ⊢
    clear hw1 cK hA
    go_wp2_with fail
    go_loopg [5, 6] (n + 1) (fun g l i wr => Only Nil w wr ∧ Blk wr kb kwC 9 ∧ ∃ (j : Nat) (acc : List Tk), i = .int .i64 (j : Int) ∧ j ≤ n ∧ acc.length ≤ j ∧ g = n + 1 - j ∧ ahead acc (scanE (tx s) (fun a b => kwB (s.extract a b)) j) = R ∧ wr.ownsRow (kb + 1) 35 5 l acc.length (tokCells s acc))
    case atStart => exact ⟨ho1, hK, 0, [], rfl, Nat.zero_le _, Nat.zero_le _, rfl, by rw [ahead_nil]; exact HR.out, World.ownsRow_nil _ _ _ _⟩
    case round =>
      obtain ⟨ho, hKr, j, acc, rfl, hj, hal, hg, hc, hown⟩ := hrel
      have HG := Lib.hid hg
      have HO := Lib.hid ho
      have H63 : Hid (acc.length + 1 ≤ maxLen) := Lib.hid (by unfold maxLen; omega)
      have H48 : Hid ((acc.length + 1) * 48 ≤ 140737488355328) := Lib.hid (by omega)
      have hkr : kb < wr.heap.size := hKr.lt
      obtain ⟨i0, hi, hz0, hz1, hz2⟩ := info5
      have SA : Hid (∀ (w9 : World) (o : Obj), (w9.alloc o).heap.size = w9.heap.size + 1) := Lib.hid (fun w9 o => by show (w9.heap.push o).size = _; simp)
      clear hg ho1 hK HR ho
      rw [scanE_eq _ _ _ (by show j ≤ s.size; omega), show (tx s).n = n from hn] at hc
      have cS := fun w => skip_any s n hn hb j hj w
      have hge := skipE_ge (tx s) j
      have hle := skipE_le (tx s) j (by show j ≤ s.size; omega)
      rw [show (tx s).n = n from hn] at hle
      obtain ⟨⟨b, ok⟩, hsk⟩ : ∃ r, skipE (tx s) j = r := ⟨_, rfl⟩
      rw [hsk] at hc cS hge hle
      simp only [skV] at hc cS hge hle
      clear hsk
      go_wp2_with fail
      refine (cS _).mono ?_
      rintro e w2 ⟨rfl, rfl⟩
      cases ok
      · rw [if_pos rfl] at hc
        have HC := Lib.hid hc
        clear hc
        go_wp2_with fail
        go_ret2
        rw [← HC.out]
        exact ⟨⟨wr.heap.size, rfl, (Blk.new wr _ _).cell 0, (Blk.new wr _ _).cell 1⟩, HO.out.alloc _⟩
      · rw [if_neg (by decide)] at hc
        have b0 : (0 : Int) ≤ (b : Int) := Int.natCast_nonneg _
        have bn : (b : Int) ≤ (n : Int) := by omega
        have cY := fun w => symbol_any (s.extract b n) (n - b) (by rw [← hn, ext_size]) (by omega) w
        by_cases hbn : b = n
        · rw [if_pos (by omega)] at hc
          subst hbn
          rw [sym_end s b hn, ext_nil] at cY
          unfold noTok at cY
          have HC := Lib.hid hc
          clear hc
          go_wp2_with fail
          refine (cY _).mono ?_
          rintro e w2 ⟨rfl, ho2⟩
          clear cY cS
          have HOWN := Lib.hid (ownsRow_only hown ho2 (fun _ _ h => h))
          have HO2 := Lib.hid (HO.out.trans ho2 (fun _ _ h => h))
          have HKL : Hid (∀ o : Obj, kb + 1 ≤ (w2.alloc o).heap.size) := Lib.hid (fun o => by have h1 := ho2.size; have h2 := SA.out w2 o; omega)
          clear hown
          go_wp2_with (with_reducible refine wpList_append_five rfl _ _ 30 rfl (kb + 1) 35 i0 _ 48 Tryd.underlying30 hi hz0 hz1 hz2 rfl _ _ _ rfl (HOWN.out.alloc _) _ _ _ _ _ rfl rfl rfl rfl rfl _ (SA.out _ _) rfl H63.out H48.out (HKL.out _) ?_)
          intro g capb w3 hown3 hc1 hc2 hg1 ho3
          have hBt := (Blk.new w2 #[Value.int .i64 0, .int .i64 (b : Int), .int .i64 (b : Int), .string ⟨#[]⟩, .int .i32 0] 35).kept ho3 (fun ht => absurd (HOWN.out.lt _ (Eq.symm ht)).2 (Nat.lt_irrefl _))
          have d0 := hBt.cell 0
          have d2 := hBt.cell 2
          simp only [List.getElem?_toArray, List.getElem?_cons_zero, List.getElem?_cons_succ] at d0 d2
          have HO3 : Hid (Only Nil w w3) := Lib.hid ((HO2.out.alloc _).nil_own (by rw [hkb]; exact ownsRow_base (HOWN.out.alloc _) (Nat.le_succ kb)) ho3)
          have HOWN3 := Lib.hid hown3
          clear hown3 hBt hg1
          clear ho3
          go_wp2_with fail
          go_ret2
          rw [← HC.out]
          refine ⟨⟨_, rfl, ?_⟩, HO3.out⟩
          have := HOWN3.out
          rw [hkb, List.length_append, tokCells_append]
          rw [show tokCells s [⟨0, b, b, b, b, 0⟩] = [Value.int .i64 0, .int .i64 (b : Int), .int .i64 (b : Int), .string ⟨#[]⟩, .int .i32 0] by unfold tokCells; simp only [List.flatMap_cons, List.flatMap_nil, List.append_nil]; unfold tokC; rw [ext_nil]; rfl]
          exact ownsRow_base this (Nat.le_succ kb)
        · rw [if_neg (by omega)] at hc
          rcases sym_at s n b hn (by omega) with ⟨e, hs, hv, he⟩ | ⟨x, hs, hp, hf1, hf2, hk1, hk2, hv⟩
          · rw [hs] at hc
            rw [hv] at cY
            unfold noTok at cY
            have HC := Lib.hid hc
            have he0 : ((e : Int) == 0) = false := not_beq (by omega)
            clear hc hs hv he
            go_wp2_with fail
            refine (cY _).mono ?_
            rintro e' w2 ⟨rfl, ho2⟩
            clear cY cS
            have HO2 := Lib.hid (HO.out.trans ho2 (fun _ _ h => h))
            go_wp2_with fail
            go_ret2
            rw [← HC.out]
            have hBd := Blk.new (w2.alloc (.cells #[Value.int .i64 0, .int .i64 0, .int .i64 0, .string ⟨#[]⟩, .int .i32 0] 35)) #[Value.int .i64 (b : Int), .int .i64 (e : Int)] 43
            rw [SA.out] at hBd
            exact ⟨⟨_, rfl, hBd.cell 0, hBd.cell 1⟩, (HO2.out.alloc _).alloc _⟩
          · rw [hs] at hc
            rw [hv] at cY
            replace hc : ahead (acc ++ [x.key (fun a b => kwB (s.extract a b))]) (scanE (tx s) (fun a b => kwB (s.extract a b)) x.fin) = R := by rw [ahead_snoc']; exact hc
            have HC := Lib.hid hc
            have hk0 : ((x.kind : Int) == 0) = false := not_beq (by omega)
            obtain ⟨m, hm⟩ : ∃ m, x.fin - b = m := ⟨_, rfl⟩
            rw [hm] at cY
            have HM := Lib.hid hm
            clear hc hs hv hm
            go_wp2_with fail
            refine (cY _).mono ?_
            rintro e' w2 ⟨rfl, ho2⟩
            clear cY cS
            have HOWN := Lib.hid (ownsRow_only hown ho2 (fun _ _ h => h))
            have HO2 := Lib.hid (HO.out.trans ho2 (fun _ _ h => h))
            have HKL : Hid (∀ o : Obj, kb + 1 ≤ (w2.alloc o).heap.size) := Lib.hid (fun o => by have h1 := ho2.size; have h2 := SA.out w2 o; omega)
            have hK2 := hKr.kept ho2 (fun h => h)
            clear hown hKr
            have HMS : Hid (n + 1 - x.fin < gk) := Lib.hid (by have := HG.out; omega)
            have HJA : Hid (acc.length + 1 ≤ x.fin) := Lib.hid (by omega)
            have hwm : wrap64 ((b : Int) + (m : Int)) = (x.fin : Int) := by have := HM.out; unfold wrap64; omega
            by_cases hk : x.kind = 1
            · have hk' : ((x.kind : Int) == 1) = true := by rw [hk]; rfl
              have cC := fun w h => contains_any kb (s.extract x.a x.b) w h
              obtain ⟨q, hq⟩ : ∃ q, kwB (s.extract x.a x.b) = q := ⟨_, rfl⟩
              rw [hq] at cC
              have HQ := Lib.hid hq
              have HKK := Lib.hid hk
              clear hq
              go_wp2_with fail
              refine (cC _ (hK2.alloc _)).mono ?_
              rintro e' w9 ⟨rfl, rfl⟩
              clear cC
              cases q
              · have KEY : x.key (fun a b => kwB (s.extract a b)) = x := by unfold Tk.key; rw [if_neg (by simp only [HQ.out]; simp)]
                have HKEY := Lib.hid KEY
                clear KEY
                go_wp2_with (with_reducible refine wpList_append_five rfl _ _ 30 rfl (kb + 1) 35 i0 _ 48 Tryd.underlying30 hi hz0 hz1 hz2 rfl _ _ _ rfl (HOWN.out.alloc _) _ _ _ _ _ rfl rfl rfl rfl rfl _ (SA.out _ _) rfl H63.out H48.out (HKL.out _) ?_)
                intro g capb w3 hown3 hc1 hc2 hg1 ho3
                have hBt := (Blk.new w2 _ 35).kept ho3 (fun ht => absurd (HOWN.out.lt _ (Eq.symm ht)).2 (Nat.lt_irrefl _))
                have d0 := hBt.cell 0
                have d2 := hBt.cell 2
                simp only [List.getElem?_toArray, List.getElem?_cons_zero, List.getElem?_cons_succ] at d0 d2
                have hnot : ¬ Own u5.ownBlock kb := fun ht => absurd (HOWN.out.lt _ (Eq.symm ht)).1 (Nat.not_succ_le_self kb)
                have HK3 := Lib.hid ((hK2.alloc _).kept ho3 hnot)
                have HO3 : Hid (Only Nil w w3) := Lib.hid ((HO2.out.alloc _).nil_own (by rw [hkb]; exact ownsRow_base (HOWN.out.alloc _) (Nat.le_succ kb)) ho3)
                have HOWN3 := Lib.hid hown3
                clear hown3 hBt hg1 ho3 hnot hK2
                go_wp2_with fail
                go_roundg (n + 1 - x.fin)
                case measure => exact HMS.out
                case rel =>
                  refine ⟨HO3.out, HK3.out, x.fin, acc ++ [x.key (fun a b => kwB (s.extract a b))], rfl, hf2, by rw [List.length_append]; exact HJA.out, rfl, HC.out, ?_⟩
                  have := HOWN3.out
                  rw [HKEY.out]
                  rw [List.length_append, tokCells_append]
                  rw [show tokCells s [x] = [Value.int .i64 1, .int .i64 (b : Int), .int .i64 (x.fin : Int), .string (s.extract x.a x.b), .int .i32 x.num] by unfold tokCells; simp only [List.flatMap_cons, List.flatMap_nil, List.append_nil]; unfold tokC; simp only [hp, hk]; rfl]
                  exact this
              · have KEY : x.key (fun a b => kwB (s.extract a b)) = { x with kind := 6 } := by unfold Tk.key; rw [if_pos ⟨hk, HQ.out⟩]
                have HKEY := Lib.hid KEY
                clear KEY
                go_wp2_with (with_reducible refine wpList_append_five rfl _ _ 30 rfl (kb + 1) 35 i0 _ 48 Tryd.underlying30 hi hz0 hz1 hz2 rfl _ _ _ rfl (HOWN.out.alloc _) _ _ _ _ _ rfl rfl rfl rfl rfl _ (SA.out _ _) rfl H63.out H48.out (HKL.out _) ?_)
                intro g capb w3 hown3 hc1 hc2 hg1 ho3
                have hBt := (Blk.new w2 _ 35).kept ho3 (fun ht => absurd (HOWN.out.lt _ (Eq.symm ht)).2 (Nat.lt_irrefl _))
                have d0 := hBt.cell 0
                have d2 := hBt.cell 2
                simp only [List.getElem?_toArray, List.getElem?_cons_zero, List.getElem?_cons_succ] at d0 d2
                have hnot : ¬ Own u5.ownBlock kb := fun ht => absurd (HOWN.out.lt _ (Eq.symm ht)).1 (Nat.not_succ_le_self kb)
                have HK3 := Lib.hid ((hK2.alloc _).kept ho3 hnot)
                have HO3 : Hid (Only Nil w w3) := Lib.hid ((HO2.out.alloc _).nil_own (by rw [hkb]; exact ownsRow_base (HOWN.out.alloc _) (Nat.le_succ kb)) ho3)
                have HOWN3 := Lib.hid hown3
                clear hown3 hBt hg1 ho3 hnot hK2
                go_wp2_with fail
                go_roundg (n + 1 - x.fin)
                case measure => exact HMS.out
                case rel =>
                  refine ⟨HO3.out, HK3.out, x.fin, acc ++ [x.key (fun a b => kwB (s.extract a b))], rfl, hf2, by rw [List.length_append]; exact HJA.out, rfl, HC.out, ?_⟩
                  have := HOWN3.out
                  rw [HKEY.out]
                  rw [List.length_append, tokCells_append]
                  rw [show tokCells s [{ x with kind := 6 }] = [Value.int .i64 6, .int .i64 (b : Int), .int .i64 (x.fin : Int), .string (s.extract x.a x.b), .int .i32 x.num] by unfold tokCells; simp only [List.flatMap_cons, List.flatMap_nil, List.append_nil]; unfold tokC; simp only [hp]; rfl]
                  exact this
            · have hk' : ((x.kind : Int) == 1) = false := not_beq (by omega)
              have KEY : x.key (fun a b => kwB (s.extract a b)) = x := by unfold Tk.key; rw [if_neg (by intro h; exact hk h.1)]
              have HKEY := Lib.hid KEY
              clear KEY
              go_wp2_with (with_reducible refine wpList_append_five rfl _ _ 30 rfl (kb + 1) 35 i0 _ 48 Tryd.underlying30 hi hz0 hz1 hz2 rfl _ _ _ rfl (HOWN.out.alloc _) _ _ _ _ _ rfl rfl rfl rfl rfl _ (SA.out _ _) rfl H63.out H48.out (HKL.out _) ?_)
              intro g capb w3 hown3 hc1 hc2 hg1 ho3
              have hBt := (Blk.new w2 _ 35).kept ho3 (fun ht => absurd (HOWN.out.lt _ (Eq.symm ht)).2 (Nat.lt_irrefl _))
              have d0 := hBt.cell 0
              have d2 := hBt.cell 2
              simp only [List.getElem?_toArray, List.getElem?_cons_zero, List.getElem?_cons_succ] at d0 d2
              have hnot : ¬ Own u5.ownBlock kb := fun ht => absurd (HOWN.out.lt _ (Eq.symm ht)).1 (Nat.not_succ_le_self kb)
              have HK3 := Lib.hid ((hK2.alloc _).kept ho3 hnot)
              have HO3 : Hid (Only Nil w w3) := Lib.hid ((HO2.out.alloc _).nil_own (by rw [hkb]; exact ownsRow_base (HOWN.out.alloc _) (Nat.le_succ kb)) ho3)
              have HOWN3 := Lib.hid hown3
              clear hown3 hBt hg1 ho3 hnot hK2
              go_wp2_with fail
              go_roundg (n + 1 - x.fin)
              case measure => exact HMS.out
              case rel =>
                refine ⟨HO3.out, HK3.out, x.fin, acc ++ [x.key (fun a b => kwB (s.extract a b))], rfl, hf2, by rw [List.length_append]; exact HJA.out, rfl, HC.out, ?_⟩
                have := HOWN3.out
                rw [HKEY.out]
                rw [List.length_append, tokCells_append]
                rw [show tokCells s [x] = [Value.int .i64 (x.kind : Int), .int .i64 (b : Int), .int .i64 (x.fin : Int), .string (s.extract x.a x.b), .int .i32 x.num] by unfold tokCells; simp only [List.flatMap_cons, List.flatMap_nil, List.append_nil]; unfold tokC; simp only [hp]]
                exact this
end Go.Proofs.YtbpdhpfcknaaiaaDoor
