/- The walk of the law CodeReads. -/
import Derived.Test.YtipdfgkemghmoaaDoorCKnown
import Derived.Test.YtipdfgkemghmoaaDoorCEncR
import Derived.Test.YtipdfgkemghmoaaDoorCDecR
import Derived.Test.YtipdfgkemghmoaaDoorCCodes
import Derived.Deep.DeepCutAuto
set_option linter.unusedSimpArgs false
set_option linter.unusedVariables false
namespace Go.Proofs.YtipdfgkemghmoaaDoor
open Go.RowKit M

theorem codes_nil (w : World) : Calls Tryd.prog 12 #[.slice none 0 0, .slice none 0 0] w fun e w' => e = .returned (.bool true) ∧ Only Nil w w' := by
  have h : CSrc w 0 (.slice none 0 0) [] := ⟨none, 0, 0, rfl, Nat.le_refl _, Nat.zero_le _, fun h => by simp at h, fun k c hk => by simp at hk⟩
  exact codes_same 0 0 _ _ [] w h h (by simp)

theorem ownsRow_slice' {w : World} {base : Nat} {e : TypeId} {v : Value} {n : Nat} {xs : List Value} (h : w.ownsRow base e 1 v n xs) : ∃ ao cap, v = .slice ao n cap := by
  rcases h.2 with ⟨rfl, h0⟩ | ⟨g, cap, cur, rfl, _⟩
  · exact ⟨_, _, by rw [h0]⟩
  · exact ⟨_, _, rfl⟩

theorem enc_some (bs : Nat) (s : Value) (L : List Cod) (w : World) (hs : CSrc w bs s L) (hf : ∀ c ∈ L, c.Fits) (hl : L.length ≤ 40) :
    Calls Tryd.prog 10 #[s] w fun e w' => ∃ sv g B, e = .returned (.tuple #[sv, .bool g]) ∧ w'.ownsRow w.heap.size 5 1 sv B.length (U8s B) ∧ (∀ x ∈ B, x < 256) ∧ B.length ≤ 500 ∧ Only Nil w w' :=
  (encR_any bs s L w hs hf (by omega)).mono fun e w' ⟨h, ho⟩ => by
    rcases h with ⟨hg, sv, rfl, hown⟩ | ⟨_, rfl⟩
    · exact ⟨sv, _, encL L, rfl, hown, encL_lt L hg, by have := encL_le L hf (by omega); omega, ho⟩
    · exact ⟨_, _, [], rfl, World.ownsRow_nil _ _ _ _, nofun, by simp, ho⟩

set_option maxRecDepth 20000 in
set_option maxHeartbeats 3200000 in
theorem reads_any (nb capb : Nat) (ab : Option Addr) (B : List Nat) (bs : Nat) (al : Option Addr) (n cap : Nat) (L : List Cod) (t x : Nat) (w : World)
    (hb : Row w (.slice ab nb capb) B) (hBl : B.length = nb) (hs : CSrc w bs (.slice al n cap) L) (hn : L.length = n) (hf : ∀ c ∈ L, c.Fits) (ht : t < 65536) (hx : x < 256) (hT : Tabs w) :
    Calls Tryd.prog 4 #[.slice ab nb capb, .slice al n cap, .int .u16 t, .int .u8 x] w fun e w' => e = .returned (.bool true) ∧ Only Nil w w' := by
  have cK := known_any w hT
  have HB := Lib.hid hb
  have HBL := Lib.hid hBl
  clear hb hBl hT
  by_cases h200 : 200 < nb
  · have t1 : (200 : Int) < (nb : Int) := by omega
    clear hs hn hf
    go_enter Tryd.func4, Tryd.ntmps4
    go_wp2_with fail
    refine cK.mono ?_
    rintro e w1 ⟨rfl, ho1⟩
    clear cK
    go_wp2_with fail
    go_ret
    exact ⟨rfl, ho1⟩
  · have t1 : (nb : Int) ≤ 200 := by omega
    by_cases h40 : 40 < n
    · have t2 : (40 : Int) < (n : Int) := by omega
      clear hs hn hf
      go_enter Tryd.func4, Tryd.ntmps4
      go_wp2_with fail
      refine cK.mono ?_
      rintro e w1 ⟨rfl, ho1⟩
      clear cK
      go_wp2_with fail
      go_ret
      exact ⟨rfl, ho1⟩
    · have t2 : (n : Int) ≤ 40 := by omega
      have hd1 : decide ((200 : Int) < (nb : Int)) = false := by simp; omega
      have hd2 : decide ((40 : Int) < (n : Int)) = false := by simp; omega
      have cE := fun (w' : World) (ho : Only Nil w w') => enc_some bs (.slice al n cap) L w' (hs.kept ho) hf (by omega)
      clear hs hn hf h200 h40
      go_enter Tryd.func4, Tryd.ntmps4
      go_wp2_with fail
      refine cK.mono ?_
      rintro e w1 ⟨rfl, ho1⟩
      clear cK
      go_wp2_with fail
      refine (cE w1 ho1).mono ?_
      rintro e w2 ⟨sv, g, C, rfl, hown2, hC8, hCl, ho2⟩
      have ho12 := ho1.trans ho2 (fun _ _ h => h)
      have hsz1 := ho1.size
      obtain ⟨m, hm⟩ : ∃ m, C.length = m := ⟨_, rfl⟩
      rw [hm] at hown2 hCl
      obtain ⟨ac, capc, rfl⟩ := ownsRow_slice' hown2
      have HOWN := Lib.hid hown2
      have HC8 := Lib.hid hC8
      have HM := Lib.hid hm
      have HO := Lib.hid ho12
      clear cE ho1 ho2 ho12 hown2 hC8 hm
      go_upto_if 34 with fail
      go_cut [9] (fun s9 w3 => s9 = .slice ac m capc ∧ ∃ E : List Nat, Row w3 (.slice ac m capc) E ∧ E.length ≤ 500 ∧ Only Nil w w3)
      case first =>
        by_cases h0 : m = 0
        · have hm0 : m ≤ 0 := by omega
          have hrow := Row.of_own HOWN.out HC8.out
          have hl := HM.out
          clear h0
          go_wp2_with fail
          go_meet
          exact ⟨rfl, C, hrow, by omega, HO.out⟩
        · have hmp : (0 : Int) < (m : Int) := by omega
          have hown2 := HOWN.out
          obtain ⟨gc, capc', e, hgc, hcc1, hcc2, hgl⟩ := ownsRow_shape hown2 (by omega)
          simp only [Value.slice.injEq, true_and] at e
          obtain ⟨rfl, rfl⟩ := e
          obtain ⟨k, hk⟩ : ∃ k, t % m = k := ⟨_, rfl⟩
          have hkm : k < m := by rw [← hk]; exact Nat.mod_lt _ (by omega)
          have ek : (t : Int) % (m : Int) = (k : Int) := by rw [← hk]; simp
          have ek2 : (t : Int).tmod (m : Int) = (k : Int) := by rw [Int.tmod_eq_emod_of_nonneg (by omega), ek]
          obtain ⟨c, hc⟩ : ∃ c, C[k]? = some c := ⟨_, List.getElem?_eq_getElem (by rw [HM.out]; exact hkm)⟩
          have hc8 : c < 256 := HC8.out c (List.mem_of_getElem? hc)
          have ck := hown2.cellAt k (by omega)
          have fk := hown2.frozenAt k
          rw [show (U8s C)[k]? = some (.int .u8 c) by simp [U8s, hc]] at ck
          obtain ⟨z, hz⟩ : ∃ z, c ^^^ x = z := ⟨_, rfl⟩
          have ez : bits BinOp.xor IntKind.u8 (c : Int) (x : Int) = (z : Int) := by rw [u8_xor_nat c x hc8 hx, hz]
          have hz8 : z < 256 := by rw [← hz]; exact Nat.xor_lt_two_pow (n := 8) hc8 hx
          have hst := (hown2.stored k (.int .u8 z)).1
          have hCs : U8s (C.set k z) = (U8s C).set k (.int .u8 z) := by simp [U8s, List.map_set]
          rw [← hCs] at hst
          have hset8 : ∀ y ∈ C.set k z, y < 256 := fun y hy => by
            rcases List.mem_or_eq_of_mem_set hy with h | h
            · exact HC8.out y h
            · omega
          have hrow := Row.of_own hst hset8
          have hsl : (C.set k z).length ≤ 500 := by rw [List.length_set, HM.out]; exact hCl
          have ho3 : Only Nil w (w2.setCell ⟨gc, k, none⟩ (.int .u8 z)) := HO.out.setCell (p := ⟨gc, k, none⟩) (fun h => absurd h (by simp only; omega)) _
          have HROW := Lib.hid hrow
          have HSL := Lib.hid hsl
          have HO3 := Lib.hid ho3
          have k0 : (0 : Int) ≤ (k : Int) := Int.natCast_nonneg _
          have k1 : (k : Int) < (m : Int) := by omega
          clear hz hc hCs hst hset8 hrow hsl ho3 hk h0 hown2 HOWN HO HC8
          go_wp2_with fail
          go_meet
          exact ⟨rfl, C.set k z, HROW.out, HSL.out, HO3.out⟩
      case rest =>
        obtain ⟨rfl, E, hrow, hEl, ho3⟩ := hcut
        clear HOWN HO HC8 HM
        go_wp2_with fail
        have hblk := Blk.new wc #[.slice ab nb capb, .slice ac m capc] 29
        have ho6 : Only Nil wc (wc.alloc (.cells #[.slice ab nb capb, .slice ac m capc] 29)) := (Only.refl _ _).alloc _
        obtain ⟨w6, hw6⟩ : ∃ w6, wc.alloc (.cells #[.slice ab nb capb, .slice ac m capc] 29) = w6 := ⟨_, rfl⟩
        rw [hw6] at hblk ho6 ⊢
        obtain ⟨W, hW⟩ : ∃ W, wc.heap.size = W := ⟨_, rfl⟩
        rw [hW] at hblk ⊢
        have hcells : ∀ j, j < 2 → ∃ y Y, w6.cell? ⟨W, j, none⟩ = some y ∧ Row w6 y Y ∧ Y.length ≤ 500 := by
          intro j hj
          rw [hblk.cell j]
          match j, hj with
          | 0, _ => exact ⟨_, B, rfl, (HB.out.kept ho3).kept ho6, by rw [HBL.out]; omega⟩
          | 1, _ => exact ⟨_, E, rfl, hrow.kept ho6, hEl⟩
        have HC := Lib.hid hcells
        have HO6 := Lib.hid (ho3.trans ho6 (fun _ _ h => h))
        clear hblk ho6 hw6 hW hcells hrow hEl ho3 HB HBL
        go_loopg [50] 2 (fun m i wx => m ≤ 2 ∧ i = .int .i64 ((2 - m : Nat) : Int) ∧ Only Nil w6 wx)
        case atStart => exact ⟨Nat.le_refl _, by simp, Only.refl _ _⟩
        case round =>
          obtain ⟨hm, rfl, ho⟩ := hrel
          obtain ⟨q, rfl⟩ : ∃ q, q = gk := ⟨gk, rfl⟩
          obtain ⟨j, hj⟩ : ∃ j, 2 - q = j := ⟨_, rfl⟩
          rw [hj]
          have HJ := Lib.hid hj
          have hj2 : j ≤ 2 := by omega
          clear hj
          by_cases hjl : j < 2
          · obtain ⟨y, Y, hy0, hrY, hlY⟩ := HC.out j hjl
            have hy := ho.cell hy0 (fun h => h)
            have hyv : ∃ a l c, y = .slice a l c := by
              obtain ⟨b', ao', cap', off', e, _⟩ := hrY
              exact ⟨_, _, _, e⟩
            obtain ⟨ya, yl, yc, rfl⟩ := hyv
            have cD := decI_any _ Y wr (hrY.kept ho) (by omega)
            have cR := fun (w' : World) (ho' : Only Nil wr w') => decR_any _ Y w' ((hrY.kept ho).kept ho') (by omega)
            have hdl : ∀ l, decL Y = some l → l.length ≤ 500 := fun l hl => by
              have h1 := decL_some hl
              unfold decL at hl
              rw [if_pos h1.1] at hl
              have := listV_some _ _ _ hl
              omega
            obtain ⟨R, hR⟩ : ∃ R, decL Y = R := ⟨_, rfl⟩
            rw [hR] at cD cR hdl
            have j0 : (0 : Int) ≤ (j : Int) := Int.natCast_nonneg _
            have j1 : (j : Int) < 2 := by omega
            have HOR := Lib.hid ho
            clear hrY hy0 ho hR hlY
            cases R with
            | none =>
              unfold DecIs at cD
              have e1 : decErr none = 20 := rfl
              rw [e1] at cD
              simp only [Option.isSome_none] at cR
              clear hdl e1
              go_wp2_with fail
              refine cD.mono ?_
              rintro e w7 ⟨sl, rfl, rfl, ho7⟩
              clear cD
              go_wp2_with fail
              refine (cR w7 ho7).mono ?_
              rintro e w8 ⟨sr, rfl, _, ho8⟩
              clear cR
              have ho9 := (HOR.out.trans ho7 (fun _ _ h => h)).trans ho8 (fun _ _ h => h)
              clear ho7 ho8 hy
              go_wp2_with fail
              refine (codes_nil _).mono ?_
              rintro e w9 ⟨rfl, ho10⟩
              have ho11 := ho9.trans ho10 (fun _ _ h => h)
              clear ho9 ho10
              go_wp2_with fail
              go_roundg (q - 1)
              case measure => have := HJ.out; omega
              case rel => exact ⟨by omega, by have := HJ.out; go_num, ho11⟩
            | some l =>
              unfold DecIs at cD
              unfold DecIsR at cR
              have e1 : decErr (some l) = 0 := rfl
              rw [e1] at cD
              simp only [Option.isSome_some] at cR
              have hl500 := hdl l rfl
              clear hdl e1
              go_wp2_with fail
              refine cD.mono ?_
              rintro e w7 ⟨sl, rfl, hown7, ho7⟩
              clear cD
              go_wp2_with fail
              refine (cR w7 ho7).mono ?_
              rintro e w8 ⟨sr, rfl, hown8, ho8⟩
              clear cR
              have h7 := (CSrc.of_own hown7).kept ho8
              have h8 := CSrc.of_own (hown8 l rfl)
              have cC := codes_same _ _ sl sr l w8 h7 h8 (by omega)
              have ho9 := (HOR.out.trans ho7 (fun _ _ h => h)).trans ho8 (fun _ _ h => h)
              clear ho7 ho8 hy hown7 hown8 h7 h8
              go_wp2_with fail
              refine cC.mono ?_
              rintro e w9 ⟨rfl, ho10⟩
              have ho11 := ho9.trans ho10 (fun _ _ h => h)
              clear ho9 ho10 cC
              go_wp2_with fail
              go_roundg (q - 1)
              case measure => have := HJ.out; omega
              case rel => exact ⟨by omega, by have := HJ.out; go_num, ho11⟩
          · have hj3 : j = 2 := by omega
            subst hj3
            clear HC
            go_wp2_with fail
            go_ret
            exact ⟨rfl, HO6.out.trans ho (fun _ _ h => h)⟩
end Go.Proofs.YtipdfgkemghmoaaDoor
