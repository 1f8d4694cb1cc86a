/- The walk of the law VarReads. -/
import Derived.Test.YtpjjlpldalmjnaaVKnown
namespace Go.Proofs.Ytpjjlpldalmjnaa
open Go.RowKit M

theorem readV_fail (l : List Nat) : ∀ (i acc a n : Nat), readV i acc l = (a, n, false) → a = 0 := by
  induction l with
  | nil => intro i acc a n h; rw [readV_nil] at h; simp at h; omega
  | cons c l ih =>
    intro i acc a n h
    rw [readV] at h
    split at h
    · simp at h; omega
    · split at h
      · simp at h; omega
      · split at h
        · split at h
          · simp at h; omega
          · simp at h
        · exact ih _ _ _ _ h

/-- A slice of bytes that came in. -/
theorem IsRow.rowIn {w : World} {a : Option Addr} {len cap : Nat} {zs : List Int} (h : IsRow .u8 w a len cap zs) :
    ∃ B : List Nat, B.length = len ∧ Row w (.slice a len cap) B := by
  obtain ⟨b, B, h1, ⟨ao, cap', off, e, h2, h3, h4⟩, _, h6⟩ := h.bytes
  rw [List.length_map, h1] at e
  simp only [Value.slice.injEq] at e
  obtain ⟨rfl, _, rfl⟩ := e
  refine ⟨B, h1, b, a, cap, off, by rw [h1], ?_, ?_, fun h => h2 (by simpa using h), h3, h4, h6⟩
  · rcases h with ⟨rfl, rfl, rfl, rfl⟩ | ⟨x, rfl, hl, hm, _⟩
    · omega
    · omega
  · rcases h with ⟨rfl, rfl, rfl, rfl⟩ | ⟨x, rfl, hl, hm, _⟩
    · exact Nat.zero_le _
    · exact hm

set_option maxRecDepth 10000 in
set_option maxHeartbeats 1600000 in
theorem reads_any (nb capb : Nat) (ab : Option Addr) (B : List Nat) (v t x : Nat) (w : World)
    (hb : Row w (.slice ab nb capb) B) (hBl : B.length = nb) (hv : v < 18446744073709551616) (ht : t < 256) (hx : x < 256) :
    Calls Try.prog 4 #[.slice ab nb capb, .int .u64 v, .int .u8 t, .int .u8 x] w fun e w' => e = .returned (.bool true) ∧ Only Nil w w' := by
  have HB := Lib.hid hb
  have HBL := Lib.hid hBl
  clear hb hBl
  by_cases h100 : 100 < nb
  · go_enter Try.func4, Try.ntmps4
    go_wp2_with (go_at_call 7; refine (known_any w).mono ?_; rintro e w1 ⟨rfl, ho1⟩)
    go_ret
    exact ⟨rfl, ho1⟩
  · have t100 : decide ((100 : Int) < (nb : Int)) = false := by simp; omega
    have hL10 := putVar_len v hv
    have hLp := putVar_pos v
    have hC8 := putVar_lt v
    have hput := fun w => putVar_nil v w hv
    obtain ⟨C, hC⟩ : ∃ C, putVar v = C := ⟨_, rfl⟩
    simp only [hC] at hL10 hLp hC8 hput
    obtain ⟨L, hL⟩ : ∃ L, C.length = L := ⟨_, rfl⟩
    rw [hL] at hL10 hLp
    have HL := Lib.hid hL
    have HC8 := Lib.hid hC8
    clear hC hL hC8
    obtain ⟨k, hk⟩ : ∃ k, t % L = k := ⟨_, rfl⟩
    have hkL : k < L := by rw [← hk]; exact Nat.mod_lt _ hLp
    have ek : (t : Int) % (L : Int) = (k : Int) := by rw [← hk]; simp
    clear hk
    go_enter Try.func4, Try.ntmps4
    go_wp2_with (go_at_call 7; refine (known_any w).mono ?_; rintro e w1 ⟨rfl, ho1⟩)
    refine (hput w1).mono ?_
    rintro e w2 ⟨sc, rfl, hown2, ho2⟩
    have ho12 := ho1.trans ho2 (fun _ _ h => h)
    rw [U8s_len, HL.out] at hown2
    obtain ⟨gc, capc, rfl, hgc, hcc1, hcc2, _⟩ := ownsRow_shape hown2 (by omega)
    have hsz1 := ho1.size
    obtain ⟨c, hc⟩ : ∃ c, C[k]? = some c := ⟨_, List.getElem?_eq_getElem (by rw [HL.out]; exact hkL)⟩
    have hc8 : c < 256 := HC8.out c (List.mem_of_getElem? hc)
    have ck := hown2.cellAt k (by omega)
    have fk := hown2.frozenAt k
    rw [show (U8s C)[k]? = some (.int .u8 c) by simp [U8s, hc]] at ck
    obtain ⟨z, hz⟩ : ∃ z, c ^^^ x = z := ⟨_, rfl⟩
    have ez : bits BinOp.xor IntKind.u8 (c : Int) (x : Int) = (z : Int) := by rw [u8_xor_nat c x hc8 hx, hz]
    have hz8 : z < 256 := by rw [← hz]; exact Nat.xor_lt_two_pow (n := 8) hc8 hx
    have hst := (hown2.stored k (.int .u8 z)).1
    have hCs : U8s (C.set k z) = (U8s C).set k (.int .u8 z) := by simp [U8s, List.map_set]
    rw [← hCs] at hst
    have HST := Lib.hid hst
    clear hz hc hCs hst hput ho1 ho2 hown2
    go_upto_region 7 with fail
    have honly3 : Only Nil w (w2.setCell ⟨gc, k, none⟩ (.int .u8 z)) := ho12.setCell (p := ⟨gc, k, none⟩) (fun h => absurd h (by simp; omega)) _
    obtain ⟨w3, hw3⟩ : ∃ w3, w2.setCell ⟨gc, k, none⟩ (.int .u8 z) = w3 := ⟨_, rfl⟩
    rw [hw3] at honly3 HST ⊢
    have hown3 := HST.out
    have hset8 : ∀ y ∈ C.set k z, y < 256 := fun y hy => by
      rcases List.mem_or_eq_of_mem_set hy with h | h
      · exact HC8.out y h
      · omega
    have hsl : (C.set k z).length = L := by rw [List.length_set, HL.out]
    obtain ⟨E, hE⟩ : ∃ E, C.set k z = E := ⟨_, rfl⟩
    rw [hE] at hown3 hset8 hsl
    have hrow3 := Row.of_own hown3 hset8
    have hsc := Src.of_own hown3
    simp only [Value.ownBlock, Option.getD_some] at hsc
    have hsz3 := honly3.size
    have HE8 := Lib.hid hset8
    have HSL := Lib.hid hsl
    clear HST hw3 hE ck fk ez ek hset8 hsl hown3 ho12
    obtain ⟨i0, hi, hz0, hz1, hz2⟩ := info_parts Try.info5
    go_wp2_with (at_builtin; refine wpList_append_src rfl _ _ 22 rfl w3.heap.size 5 i0 (.int .u8 0) 1 Try.underlying22 hi hz0 hz1 hz2 rfl _ _ _ rfl (World.ownsRow_nil _ _ _ _) gc _ (U8s E) rfl hsc (U8s_one _) ?c1 ?c2 ?c3 ?_)
    case c1 => rw [U8s_len, HSL.out]; simp [maxLen]; omega
    case c2 => rw [U8s_len, HSL.out]; omega
    case c3 => omega
    intro v4 w4 hown4 hv4 ho4
    have ho34 : Only Nil w3 w4 := ho4.mono (T := Nil) (fun k h => by cases h)
    rw [U8s_len, HSL.out] at hown4
    have hsz4 := ho34.size
    clear hv4 ho4 hsc
    go_wp2_with (with_reducible refine wpList_append_one rfl _ _ 22 rfl w3.heap.size 5 i0 (.int .u8 0) 1 Try.underlying22 hi hz0 hz1 hz2 rfl _ _ _ rfl hown4 _ rfl rfl ?c4 ?c5 ?c6 ?_)
    case c4 => simp [maxLen]; omega
    case c5 => omega
    case c6 => omega
    intro ge cape w5 hown5 hce1 hce2 hge ho5
    have ho35 := ho34.nil_own hown4 ho5
    have hown5' : w5.ownsRow w3.heap.size 5 1 (.slice (some ⟨ge, 0, none⟩) (L + 1) cape) (L + 1) (U8s (E ++ [0])) := by rw [U8s_append]; exact hown5
    have hrow5 := Row.of_own hown5' (fun y hy => by
      rcases List.mem_append.1 hy with h | h
      · exact HE8.out y h
      · simp at h; omega)
    have hrow35 := hrow3.kept ho35
    have honly5 := honly3.trans ho35 (fun _ _ h => h)
    have hrowb := HB.out.kept honly5
    clear hown5 hown5' hce1 hce2 hge ho5 ho35 ho34 hown4 hrow3 honly3 hsz4
    go_wp2_with fail
    have hblk := Blk.new w5 #[.slice ab nb capb, .slice (some ⟨gc, 0, none⟩) L capc, .slice (some ⟨ge, 0, none⟩) (L + 1) cape] 22
    have ho56 : Only Nil w5 (w5.alloc (.cells #[.slice ab nb capb, .slice (some ⟨gc, 0, none⟩) L capc, .slice (some ⟨ge, 0, none⟩) (L + 1) cape] 22)) := (Only.refl _ _).alloc _
    obtain ⟨w6, hw6⟩ : ∃ w6, w5.alloc (.cells #[.slice ab nb capb, .slice (some ⟨gc, 0, none⟩) L capc, .slice (some ⟨ge, 0, none⟩) (L + 1) cape] 22) = w6 := ⟨_, rfl⟩
    rw [hw6] at hblk ho56 ⊢
    obtain ⟨W, hW⟩ : ∃ W, w5.heap.size = W := ⟨_, rfl⟩
    rw [hW] at hblk ⊢
    have honly6 := honly5.trans ho56 (fun _ _ h => h)
    have hcells : ∀ j, j < 3 → ∃ y Y, w6.cell? ⟨W, j, none⟩ = some y ∧ Row w6 y Y := by
      intro j hj
      rw [hblk.cell j]
      match j, hj with
      | 0, _ => exact ⟨_, B, rfl, hrowb.kept ho56⟩
      | 1, _ => exact ⟨_, E, rfl, hrow35.kept ho56⟩
      | 2, _ => exact ⟨_, E ++ [0], rfl, hrow5.kept ho56⟩
    have HCELLS := Lib.hid hcells
    clear hcells hblk ho56 hw6 hW hrowb hrow35 hrow5 honly5
    go_loopg [47] 3 (fun g i wx => g ≤ 3 ∧ i = .int .i64 ((3 - g : Nat) : Int) ∧ w6 = wx)
    case atStart => exact ⟨Nat.le_refl _, by simp, rfl⟩
    case round =>
      obtain ⟨hg, rfl, rfl⟩ := hrel
      obtain ⟨g, rfl⟩ : ∃ g, g = gk := ⟨gk, rfl⟩
      obtain ⟨j, hj⟩ : ∃ j, 3 - g = j := ⟨_, rfl⟩
      rw [hj]
      have HJ := Lib.hid hj
      clear hj
      by_cases hjl : j < 3
      · obtain ⟨y, Y, hcy, hry⟩ := HCELLS.out j hjl
        obtain ⟨a, n, ok, hr⟩ : ∃ a n ok, readV 0 0 Y = (a, n, ok) := ⟨_, _, _, rfl⟩
        have hc1 := read_val y Y w6 hry a n ok hr
        have hc2 := readVar_val y Y w6 hry a n ok hr
        have hc3 := readInt_val y Y w6 hry a n ok hr
        have ha : a < 18446744073709551616 := by
          have := (readV_bound Y 0 0 (by decide) (by decide) (by omega)).1
          rw [hr] at this; exact this
        have hzag := fun w => zag_any a w ha
        have hfail : ok = false → zag a = 0 := by
          intro h
          have := readV_fail Y 0 0 a n (by rw [hr, h])
          rw [this]; rfl
        obtain ⟨Zg, hZ⟩ : ∃ Z, zag a = Z := ⟨_, rfl⟩
        simp only [hZ] at hc3 hzag hfail
        clear hr hry hZ
        cases ok
        · have hz0 := hfail rfl
          subst hz0
          clear hfail
          go_wp2_with (first
            | (go_at_call 10; refine hc1.mono ?_; rintro e w7 ⟨rfl, rfl⟩)
            | (go_at_call 14; refine hc2.mono ?_; rintro e w7 ⟨rfl, rfl⟩)
            | (go_at_call 12; refine hc3.mono ?_; rintro e w7 ⟨rfl, rfl⟩)
            | (go_at_call 15; refine (hzag _).mono ?_; rintro e w7 ⟨rfl, rfl⟩))
          go_roundg (g - 1)
          case measure => have := HJ.out; omega
          case rel => exact ⟨by omega, by have := HJ.out; go_num, rfl⟩
        · clear hfail
          go_wp2_with (first
            | (go_at_call 10; refine hc1.mono ?_; rintro e w7 ⟨rfl, rfl⟩)
            | (go_at_call 14; refine hc2.mono ?_; rintro e w7 ⟨rfl, rfl⟩)
            | (go_at_call 12; refine hc3.mono ?_; rintro e w7 ⟨rfl, rfl⟩)
            | (go_at_call 15; refine (hzag _).mono ?_; rintro e w7 ⟨rfl, rfl⟩))
          go_roundg (g - 1)
          case measure => have := HJ.out; omega
          case rel => exact ⟨by omega, by have := HJ.out; go_num, rfl⟩
      · go_wp2_with fail
        go_ret
        exact ⟨rfl, honly6⟩
end Go.Proofs.Ytpjjlpldalmjnaa
