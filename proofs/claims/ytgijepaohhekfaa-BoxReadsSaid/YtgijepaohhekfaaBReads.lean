/- The walk of the law BoxReads. -/
import Derived.Test.YtgijepaohhekfaaBBack
import Derived.Deep.CutBlock
namespace Go.Proofs.Ytgijepaohhekfaa
open Go.RowKit M

theorem Row.shape {w : World} {s : Value} {B : List Nat} (h : Row w s B) : ∃ ao n cap, s = .slice ao n cap := by
  obtain ⟨b, ao, cap, off, rfl, _⟩ := h
  exact ⟨_, _, _, rfl⟩

section
variable {P : Program} {w : World}
/-- append of what lies anywhere onto a slice that is read and has no spare room. -/
theorem wpList_append_full {ops : Array Oper} {rest : List Oper} {o : Oper} {a : Act} {Q : Exit → Act → World → Prop} (hgd : o.guard = none) (s x : Operand) (t : TypeId)
    (ho : o.op = .call { callee := .builtin .append, args := #[s, x], argTypes := #[t, t] })
    (i : TypeInfo) (z : Value) (ht : P.underlying t = some (.slice 5)) (hi : P.info? 5 = some i) (hz : i.zero = some z)
    (hsize : i.size = 1) (hby : i.bytes = 1) (hzs : z.cells.size = 1)
    (g n : Nat) (B : List Nat) (hs : a.eval s = .slice (some ⟨g, 0, none⟩) n n) (hn : B.length = n) (hB : Row w (.slice (some ⟨g, 0, none⟩) n n) B)
    (sv : Value) (C : List Nat) (hx : a.eval x = sv) (hC : Row w sv C)
    (h63 : n + C.length ≤ 1099511627776)
    (h : ∀ v' w', Row w' v' (B ++ C) → Only Nil w w' → wpList P ops Q rest (a.put o.dst v') w') :
    wpList P ops Q (o :: rest) a w := by
  refine wpList_plain hgd fun K hK => ?_
  have hrun : ∃ v' w', (Builtin.append_ #[t, t] o.type #[.slice (some ⟨g, 0, none⟩) n n, sv]).run P w = .ok v' w' ∧ Row w' v' (B ++ C) ∧ Only Nil w w' := by
    have hC' := hC
    obtain ⟨b, ao, cap, off, rfl, h2, h3, h4, h5, h6, h7⟩ := hC'
    by_cases hc0 : C.length = 0
    · have hc : C = [] := List.eq_nil_of_length_eq_zero hc0
      subst hc
      refine ⟨.slice (some ⟨g, 0, none⟩) n n, w, ?_, by rw [List.append_nil]; exact hB, Only.refl _ _⟩
      cases ao with
      | none =>
        have := h5 rfl
        subst this
        simp [Builtin.append_, run_underlying ht, sizeOf, typeInfo, hi, Builtin.lenOf, Builtin.firstCells, storeCells]
      | some ad =>
        have := run_append_room_cells (P := P) (w := w) t o.type 5 i ht hi g 0 n n ad 0 cap [] (by simp) (by simp) (by simp) (by simp) (by simp) (by simp)
        exact this
    · have e1 := h4 (by omega)
      subst e1
      obtain ⟨bB, aoB, capB, offB, eB, _, _, hB4, _, hB6, hB7⟩ := hB
      simp only [Value.slice.injEq] at eB
      obtain ⟨rfl, _, rfl⟩ := eB
      obtain ⟨v', w', hr, ho1, hg⟩ := run_append_arg_grows (P := P) w t o.type 5 i z 1 1 ht hi hz hsize hby hzs (by decide) ⟨g, 0, none⟩ n n (U8s B) (by rw [U8s_len]; omega)
        (by
          intro j u hj
          have hjn : j < B.length := by have := (List.getElem?_eq_some_iff.1 hj).1; rwa [U8s_len] at this
          have e2 := hB4 (by omega)
          simp only [Option.some.injEq, Addr.mk.injEq, and_true] at e2
          obtain ⟨rfl, rfl⟩ := e2
          rw [addr_add]
          exact hB6 j u hj)
        ⟨b, off, none⟩ C.length cap (U8s C) (by rw [U8s_len]; omega)
        (by
          intro j u hj
          rw [addr_add]
          exact h6 j u hj) (by omega) (by simp [maxLen]; omega) (by omega)
      refine ⟨v', w', hr, ?_, (Only.of_grown hg).mono (fun k h => by cases h)⟩
      rw [← U8s_append] at ho1
      exact Row.of_own ho1 (fun x hx => by
        rcases List.mem_append.1 hx with h | h
        · exact hB7 x h
        · exact h7 x h)
  obtain ⟨v', w', hr, h2, h3⟩ := hrun
  unfold Oper.wp execOp
  simp only [ho, resolve, invoke, builtin, Sem.run_bind, Sem.run_pure, Result.andThen_ok, List.map_toArray, List.map_cons, List.map_nil, hs, hx, hr]
  exact hK _ _ (h v' w' h2 h3)
end

set_option maxRecDepth 10000 in
set_option maxHeartbeats 3200000 in
theorem reads_any (ar ab : Option Addr) (nr capr k nb capb t x how : Nat) (R P : List Nat) (w : World) (hk : k < 256) (ht : t < 65536) (hx : x < 256) (hh : how < 256)
    (hr : Row w (.slice ar nr capr) R) (hRl : R.length = nr) (hb : Row w (.slice ab nb capb) P) (hPl : P.length = nb) :
    Calls Try.prog 4 #[.slice ar nr capr, .int .u8 k, .slice ab nb capb, .int .u16 t, .int .u8 x, .int .u8 how] w fun e w' => e = .returned (.bool true) ∧ Only Nil w w' := by
  have HB := Lib.hid hb
  have HPL := Lib.hid hPl
  have HR := Lib.hid hr
  have HRL := Lib.hid hRl
  clear hb hPl hr hRl
  by_cases h300 : 300 < nr
  · go_enter Try.func4, Try.ntmps4
    go_wp2_with (go_at_call 7; refine (known_any w).mono ?_; rintro e w1 ⟨rfl, ho1⟩)
    go_ret
    exact ⟨rfl, ho1⟩
  · have t300 : decide ((300 : Int) < (nr : Int)) = false := by simp; omega
    by_cases h301 : 300 < nb
    · go_enter Try.func4, Try.ntmps4
      go_wp2_with (go_at_call 7; refine (known_any w).mono ?_; rintro e w1 ⟨rfl, ho1⟩)
      go_ret
      exact ⟨rfl, ho1⟩
    · have t301 : decide ((300 : Int) < (nb : Int)) = false := by simp; omega
      have hFl := fileOf_len k P
      have hz := putVar_len P.length (by rw [HPL.out]; omega)
      have hzp := putVar_pos P.length
      rw [HPL.out] at hFl hz hzp
      have hP8 : ∀ x ∈ P, x < 256 := by
        obtain ⟨_, _, _, _, _, _, _, _, _, _, h8⟩ := HB.out
        exact h8
      have hF8 := fileOf_lt k P hk hP8
      have hw1 := fun w hs => wrap_any1 k (.slice ab nb capb) P w hs hk (by rw [HPL.out]; omega)
      obtain ⟨F, hFd⟩ : ∃ F, fileOf k P = F := ⟨_, rfl⟩
      simp only [hFd] at hFl hF8 hw1
      obtain ⟨L, hL⟩ : ∃ L, F.length = L := ⟨_, rfl⟩
      rw [hL] at hFl
      simp only [hL] at hw1
      have hL0 : 0 < L := by omega
      have hL1 : L ≤ 1000 := by omega
      obtain ⟨i, hi⟩ : ∃ i, t % L = i := ⟨_, rfl⟩
      have hiL : i < L := by rw [← hi]; exact Nat.mod_lt _ hL0
      have ei : (t : Int) % (L : Int) = (i : Int) := by rw [← hi]; simp
      obtain ⟨c, hc⟩ : ∃ c, F[i]? = some c := ⟨_, List.getElem?_eq_getElem (by omega)⟩
      have hc8 : c < 256 := hF8 c (List.mem_of_getElem? hc)
      obtain ⟨z, hz'⟩ : ∃ z, c ^^^ x = z := ⟨_, rfl⟩
      have ez : bits BinOp.xor IntKind.u8 (c : Int) (x : Int) = (z : Int) := by rw [u8_xor_nat c x hc8 hx, hz']
      have hz8 : z < 256 := by rw [← hz']; exact Nat.xor_lt_two_pow (n := 8) hc8 hx
      have hE8 : ∀ y ∈ F.set i z, y < 256 := fun y hy => by
        rcases List.mem_or_eq_of_mem_set hy with h | h
        · exact hF8 y h
        · omega
      obtain ⟨m, hm⟩ : ∃ m, how % 3 = m := ⟨_, rfl⟩
      have em : (how : Int) % 3 = (m : Int) := by omega
      have hm3 : m < 3 := by omega
      have hR8 : ∀ x ∈ R, x < 256 := by
        obtain ⟨_, _, _, _, _, _, _, _, _, _, h8⟩ := HR.out
        exact h8
      have HW1 := Lib.hid hw1
      have HE8 := Lib.hid hE8
      have HF8 := Lib.hid hF8
      have HR8 := Lib.hid hR8
      have HC := Lib.hid hc
      have HLL := Lib.hid hL
      clear hFl hz hP8 hF8 hw1 hFd hL hi hc hz' hE8 hzp hm hR8
      obtain ⟨i0, hi0, hz0, hz1, hz2⟩ := info_parts Try.info5
      go_enter Try.func4, Try.ntmps4
      go_wp2_with (go_at_call 7; refine (known_any w).mono ?_; rintro e w1 ⟨rfl, ho1⟩)
      refine (HW1.out w1 (HB.out.kept ho1)).mono ?_
      rintro e w2 ⟨v2, rfl, hown2, ho2'⟩
      have ho2 := ho1.trans ho2' (fun _ _ h => h)
      obtain ⟨g, cap, rfl, hg1, hcp1, hcp2, hg2⟩ := ownsRow_shape hown2 hL0
      have hsz1 := ho1.size
      have HOWN2 := Lib.hid hown2
      clear hown2 ho2'
      go_upto_block 0 with fail
      rw [ei, em]
      clear ei em
      go_cut [13] (fun s13 wx => ∃ B : List Nat, Row wx s13 B ∧ B.length ≤ 2000 ∧ Only Nil w wx)
      case first =>
        have hm012 : m = 0 ∨ m = 1 ∨ m = 2 := by omega
        rcases hm012 with hm | hm | hm
        · have e0 : ((m : Int) == 0) = true := by rw [beq_iff_eq]; omega
          have ck := HOWN2.out.cellAt i (by omega)
          have fk := HOWN2.out.frozenAt i
          rw [show (U8s F)[i]? = some (.int .u8 c) by simp [U8s, HC.out]] at ck
          have hst := (HOWN2.out.stored i (.int .u8 z)).1
          have hEs : U8s (F.set i z) = (U8s F).set i (.int .u8 z) := by simp [U8s, List.map_set]
          rw [← hEs] at hst
          have hrow := Row.of_own hst HE8.out
          have HROW := Lib.hid hrow
          have ho3 : Only Nil w (w2.setCell ⟨g, i, none⟩ (.int .u8 z)) := ho2.setCell (p := ⟨g, i, none⟩) (fun h => absurd h (by simp; omega)) _
          clear hst hEs hrow hm
          go_wp2_with fail
          go_meet
          exact ⟨F.set i z, HROW.out, by rw [List.length_set, HLL.out]; omega, ho3⟩
        · have e0 : ((m : Int) == 0) = false := by rw [beq_eq_false_iff_ne]; omega
          have e1 : ((m : Int) == 1) = true := by rw [beq_iff_eq]; omega
          have hrow := (Row.of_own HOWN2.out HF8.out).sub hL0 0 i (by omega)
          have HROW := Lib.hid hrow
          have i1 : (0 : Int) ≤ (i : Int) := by omega
          have i2 : (i : Int) ≤ (cap : Int) := by omega
          clear hrow hm
          go_wp2_with fail
          go_meet
          exact ⟨_, HROW.out, by simp; omega, ho2⟩
        · have e0 : ((m : Int) == 0) = false := by rw [beq_eq_false_iff_ne]; omega
          have e1 : ((m : Int) == 1) = false := by rw [beq_eq_false_iff_ne]; omega
          have hown2 := HOWN2.out
          have hsz2 := ho2.size
          clear hm
          go_wp2_with (with_reducible refine wpList_append_one rfl _ _ 22 rfl w1.heap.size 5 i0 (.int .u8 0) 1 Try.underlying22 hi0 hz0 hz1 hz2 rfl _ _ _ rfl hown2 _ rfl rfl ?c4 ?c5 ?c6 ?_)
          case c4 => simp [maxLen]; omega
          case c5 => omega
          case c6 => omega
          intro ge cape w3 hown3 _ _ _ ho3'
          have ho3 : Only Nil w w3 := ho2.trans ho3' (fun j hj ht => by
            have hj2 : some j = some g := ht
            injection hj2 with hj2
            omega)
          have hown3' : w3.ownsRow w1.heap.size 5 1 (.slice (some ⟨ge, 0, none⟩) (L + 1) cape) (L + 1) (U8s (F ++ [x])) := by rw [U8s_append]; exact hown3
          have hrow := Row.of_own hown3' (fun y hy => by
            rcases List.mem_append.1 hy with h | h
            · exact HF8.out y h
            · simp at h; omega)
          clear hown3 hown3' ho3' hown2
          go_wp2_with fail
          go_meet
          exact ⟨_, hrow, by rw [List.length_append, HLL.out]; simp; omega, ho3⟩
      case rest =>
        obtain ⟨B, hrowB, hB2000, ho3⟩ := hcut
        clear HOWN2 ho2 ho1 HW1
        obtain ⟨aB, nB, cB, rfl⟩ := Row.shape hrowB
        have kc := fun (w : World) (C : Array Value) (n c : Nat) => Lib.run_convert_bytes_const (P := Try.prog) w 22 5 C n c Try.underlying22 Try.underlying5
        have hwr : Row (wc.alloc (.cells #[.int .u8 87, .int .u8 65, .int .u8 70, .int .u8 82] 5 (4, 5))) (.slice (some ⟨wc.heap.size, 0, none⟩) 4 4) [87, 65, 70, 82] :=
          mark_row wc [87, 65, 70, 82] (4, 5) 4 rfl (by decide) (by decide)
        have ho3m : Only Nil wc (wc.alloc (.cells #[.int .u8 87, .int .u8 65, .int .u8 70, .int .u8 82] 5 (4, 5))) := (Only.refl _ _).alloc _
        have hrr := (HR.out.kept ho3).kept ho3m
        go_wp2_with (at_builtin; refine wpList_append_full rfl _ _ 22 rfl i0 (.int .u8 0) Try.underlying22 hi0 hz0 hz1 hz2 rfl wc.heap.size 4 [87, 65, 70, 82] rfl rfl hwr _ R rfl hrr ?c1 ?_)
        case c1 => rw [HRL.out]; omega
        intro vW w4 hrowW ho4'
        have ho34 := ho3m.trans ho4' (fun _ _ h => h)
        have ho4 := ho3.trans ho34 (fun _ _ h => h)
        have hrowB4 := hrowB.kept ho34
        have hrowR4 := HR.out.kept ho4
        have hWl : ([87, 65, 70, 82] ++ R).length ≤ 2000 := by rw [List.length_append, HRL.out]; simp; omega
        obtain ⟨W, hW⟩ : ∃ W, [87, 65, 70, 82] ++ R = W := ⟨_, rfl⟩
        have hW' : 87 :: 65 :: 70 :: 82 :: R = W := hW
        first | rw [hW] at hrowW hWl | (rw [hW'] at hrowW; rw [hW] at hWl)
        clear hW hW' ho4' ho34 hrr ho3m hwr kc ho3 hrowB
        obtain ⟨aW, nW, cW, rfl⟩ := Row.shape hrowW
        go_wp2_with fail
        have hblk := Blk.new w4 #[.slice ar nr capr, .slice aB nB cB, .slice aW nW cW] 22
        have ho5' : Only Nil w4 (w4.alloc (.cells #[.slice ar nr capr, .slice aB nB cB, .slice aW nW cW] 22)) := (Only.refl _ _).alloc _
        obtain ⟨w5, hw5⟩ : ∃ w5, w4.alloc (.cells #[.slice ar nr capr, .slice aB nB cB, .slice aW nW cW] 22) = w5 := ⟨_, rfl⟩
        rw [hw5] at hblk ho5' ⊢
        obtain ⟨Y5, hY5⟩ : ∃ Y, w4.heap.size = Y := ⟨_, rfl⟩
        rw [hY5] at hblk ⊢
        have ho5 := ho4.trans ho5' (fun _ _ h => h)
        have hcells : ∀ j, j < 3 → ∃ y Y, w5.cell? ⟨Y5, j, none⟩ = some y ∧ Row w5 y Y ∧ Y.length ≤ 2000 := by
          intro j hj
          rw [hblk.cell j]
          match j, hj with
          | 0, _ => exact ⟨_, R, rfl, hrowR4.kept ho5', by rw [HRL.out]; omega⟩
          | 1, _ => exact ⟨_, B, rfl, hrowB4.kept ho5', hB2000⟩
          | 2, _ => exact ⟨_, W, rfl, hrowW.kept ho5', hWl⟩
        have HCELLS := Lib.hid hcells
        clear hcells hblk ho5' hw5 hY5 hrowB4 hrowR4 hrowW ho4 hWl hB2000
        go_loopg [73] 3 (fun g i wx => g ≤ 3 ∧ i = .int .i64 ((3 - g : Nat) : Int) ∧ Only Nil w5 wx)
        case atStart => exact ⟨Nat.le_refl _, by simp, Only.refl _ _⟩
        case round =>
          obtain ⟨hg, rfl, ho6⟩ := hrel
          obtain ⟨g, rfl⟩ : ∃ g, g = gk := ⟨gk, rfl⟩
          obtain ⟨j, hj⟩ : ∃ j, 3 - g = j := ⟨_, rfl⟩
          rw [hj]
          have HJ := Lib.hid hj
          clear hj
          by_cases hjl : j < 3
          · obtain ⟨y, Y, hcy5, hry, hYl⟩ := HCELLS.out j hjl
            have hcy := ho6.cell hcy5 (fun h => h)
            have hry6 := hry.kept ho6
            obtain ⟨vk, vp, ve, hV⟩ : ∃ k p e, openV Y = (k, p, e) := ⟨_, _, _, rfl⟩
            have hop := fun w hs => open_val y Y w hs (by omega) vk vp ve hV vk ve rfl rfl _ rfl
            have hop1 := fun w hs => open_val1 y Y w hs (by omega) vk vp ve hV vk ve rfl rfl _ rfl
            obtain ⟨T, hT⟩ : ∃ T, strOf vp = T := ⟨_, rfl⟩
            have HT := Lib.hid hT
            clear hcy5 hV hT hYl
            go_wp2_with fail
            refine (hop wr hry6).mono ?_
            rintro e w7 ⟨v7, rfl, hown7, ho7⟩
            go_wp2_with fail
            refine (hop1 w7 (hry6.kept ho7)).mono ?_
            rintro e w8 ⟨v8, rfl, hown8, ho8⟩
            have c7 := conv_src w8 _ v7 vp ((Src.of_own hown7).kept ho8 (fun _ h => h))
            have c8 := conv_src w8 _ v8 vp (Src.of_own hown8)
            rw [HT.out] at c7 c8
            have ho68 := (ho6.trans ho7 (fun _ _ h => h)).trans ho8 (fun _ _ h => h)
            clear hop hop1 hown7 hown8 hry6 hcy ho6 ho7 ho8 hry
            go_wp2_with fail
            go_roundg (g - 1)
            case measure => have := HJ.out; omega
            case rel => exact ⟨by omega, by have := HJ.out; go_num, ho68⟩
          · go_wp2_with fail
            go_ret
            exact ⟨rfl, ho5.trans ho6 (fun _ _ h => h)⟩
end Go.Proofs.Ytgijepaohhekfaa
