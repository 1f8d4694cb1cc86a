/- The walk of the law BitsBack. -/
import Derived.Test.YtiikkngllmdljaaWritten
import Derived.Test.YtiikkngllmdljaaBackM
import Derived.Deep.RegionHeld3
namespace Go.Proofs.Ytiikkngllmdljaa
open Go.RowKit M

theorem Try.info3 : (Try.prog.info? 3).map (fun i => (i.zero, i.size, i.bytes)) = some (some (.int .i64 0), 1, 8) := by kernel_rfl

/-- How many bits the law asks for. -/
def backN (x : ActD) : Nat := (x.n.tmod 65).natAbs
theorem backN_le (x : ActD) : backN x ≤ 64 := by unfold backN; rw [Int.natAbs_tmod]; exact Nat.le_of_lt_succ (Nat.mod_lt _ (by decide))
def backBits (l : List ActD) : List Bool := l.flatMap fun x => bitsOf x.v (backN x)
theorem backBits_le (l : List ActD) : (backBits l).length ≤ 64 * l.length := by
  induction l with
  | nil => simp [backBits]
  | cons x t ih =>
    have := backN_le x
    simp only [backBits, List.flatMap_cons, List.length_append, List.length_cons, length_bitsOf] at *
    omega
def I64s (l : List Nat) : List Value := l.map (fun (x : Nat) => Value.int .i64 x)

/-- The writer and the list of all sizes, each in blocks of the call's own. -/
structure BState (w wr : World) (wb : Nat) (L : List Bool) (ns : List Nat) (t : Value) : Prop where
  wrep : ∃ r, WRep wr wb L r ∧ (∀ k, r = some k → w.heap.size ≤ k ∧ t.ownBlock ≠ some k)
  own : wr.ownsRow 0 3 1 t ns.length (I64s ns)
  hwb : w.heap.size ≤ wb
  tb : ∀ k, t.ownBlock = some k → w.heap.size ≤ k ∧ k ≠ wb
  only : Only Nil w wr

/-- The cells from an address on. -/
def CellsAt (w : World) (b off : Nat) (xs : List Value) : Prop := ∀ i u, xs[i]? = some u → w.cell? ⟨b, off + i, none⟩ = some u
theorem CellsAt.kept {S : Nat → Prop} {w w' : World} {b off : Nat} {xs : List Value} (h : CellsAt w b off xs) (ho : Only S w w') (hb : 0 < xs.length → ¬ S b) : CellsAt w' b off xs :=
  fun i u hi => ho.cell (h i u hi) (hb (by have := (List.getElem?_eq_some_iff.1 hi).1; omega))

set_option maxHeartbeats 800000 in
theorem back_any (ao : Option Addr) (n cap b off : Nat) (l : List ActD) (w : World) (hn : l.length = n) (h2 : 0 < n → ao = some ⟨b, off, none⟩) (h4 : Acts w b off l) (h5 : 0 < n → b < w.heap.size) :
    Calls Try.prog 5 #[.slice ao n cap] w fun e w' => e = .returned (.bool true) ∧ Only Nil w w' := by
  have H2 := Lib.hid h2
  have H4 := Lib.hid h4
  have HN := Lib.hid hn
  have H5 := Lib.hid h5
  clear h2 h4 hn h5
  obtain ⟨i0, hi, hz0, hz1, hz2⟩ := info_parts Try.info3
  by_cases h40 : 40 < n
  · go_enter Try.func5, Try.ntmps5
    go_wp2_with (go_at_call 7; refine (known_any w).mono ?_; rintro e w1 ⟨rfl, ho1⟩)
    go_ret
    exact ⟨rfl, ho1⟩
  · have t40 : decide ((40 : Int) < (n : Int)) = false := by simp; omega
    go_enter Try.func5, Try.ntmps5
    go_wp2_with (go_at_call 7; refine (known_any w).mono ?_; rintro e w1 ⟨rfl, ho1⟩)
    refine (newWriter_any w1).mono ?_
    rintro e w2 ⟨rfl, hw2⟩
    have hst : BState w w2 w1.heap.size [] [] (.slice none 0 0) := by
      refine ⟨⟨none, by rw [hw2]; exact WRep.new w1, fun k h => by simp at h⟩, World.ownsRow_nil _ _ _ _, ho1.size, fun k h => by simp [Value.ownBlock] at h, by rw [hw2]; exact ho1.alloc _⟩
    obtain ⟨wb, hwb⟩ : ∃ wb, w1.heap.size = wb := ⟨_, rfl⟩
    rw [hwb] at hst ⊢
    clear hwb hw2 ho1
    go_wp2_with fail
    go_loopg [4, 5] n (fun g t i wr => g ≤ n ∧ i = .int .i64 ((n - g : Nat) : Int) ∧ BState w wr wb (backBits (l.take (n - g))) ((l.take (n - g)).map backN) t)
    case atStart => exact ⟨Nat.le_refl _, by simp, by simpa [backBits] using hst⟩
    case round =>
      clear hst
      obtain ⟨hg, rfl, hst⟩ := hrel
      obtain ⟨g, rfl⟩ : ∃ g, g = gk := ⟨gk, rfl⟩
      obtain ⟨k, hk⟩ : ∃ k, n - g = k := ⟨_, rfl⟩
      rw [hk] at hst ⊢
      have hkn : k ≤ n := by omega
      have HK := Lib.hid hk
      clear hk
      by_cases hkl : k < n
      · have hkl2 : k < l.length := by rw [HN.out]; exact hkl
        have hao := H2.out (by omega)
        obtain ⟨⟨v, x⟩, hx⟩ : ∃ x, l[k] = x := ⟨_, rfl⟩
        obtain ⟨a0, a1, hv⟩ := H4.out k ⟨v, x⟩ (by rw [List.getElem?_eq_getElem hkl2, hx])
        have ht : backBits (l.take (k + 1)) = backBits (l.take k) ++ bitsOf v (backN ⟨v, x⟩) := by
          rw [List.take_succ_eq_append_getElem hkl2, hx]; simp [backBits]
        have htn : (l.take (k + 1)).map backN = (l.take k).map backN ++ [backN ⟨v, x⟩] := by
          rw [List.take_succ_eq_append_getElem hkl2, hx]; simp
        have c0 := hst.only.cell a0 (fun h => h)
        have c1 := hst.only.cell a1 (fun h => h)
        clear a0 a1 hx
        have hbw : b < w.heap.size := H5.out (by omega)
        have hLl : (backBits (l.take k)).length ≤ 64 * k := by
          have := backBits_le (l.take k)
          simp at this; omega
        have hnl : ((l.take k).map backN).length = k := by simp; omega
        obtain ⟨L, hL⟩ : ∃ L, backBits (l.take k) = L := ⟨_, rfl⟩
        obtain ⟨ns, hns⟩ : ∃ ns, (l.take k).map backN = ns := ⟨_, rfl⟩
        rw [hL, hns] at hst
        rw [hL] at ht hLl
        rw [hns] at htn hnl
        have HT := Lib.hid ht
        have HTN := Lib.hid htn
        clear ht hL htn hns
        subst hao
        obtain ⟨⟨r, hW, hr⟩, hown, hwb, htb, honly⟩ := hst
        rw [hnl] at hown
        have HNL := Lib.hid hnl
        clear hnl
        have hnb : ¬ (b = wb ∨ some b = r) := by
          rintro (h | h)
          · omega
          · have := (hr b h.symm).1; omega
        have hbk := backN_le ⟨v, x⟩
        obtain ⟨m, hm⟩ : ∃ m, backN ⟨v, x⟩ = m := ⟨_, rfl⟩
        rw [hm] at hbk
        have HM := Lib.hid hm
        clear hm
        go_upto_if 30 with fail
        go_cut [6] (fun s6 wx => s6 = .int .i64 (m : Int) ∧ wr = wx)
        case first =>
          have hmv : ((x.tmod 65).natAbs : Int) = (m : Int) := by have := HM.out; unfold backN at this; simpa using congrArg Int.ofNat this
          have hb64 : (x.tmod 65).natAbs ≤ 64 := by omega
          by_cases hneg : x.tmod 65 < 0
          · have HV := Lib.hid hmv
            clear hmv
            go_wp2_with fail
            go_meet
            case rel => 
              refine ⟨?_, rfl⟩
              rw [← HV.out]
              generalize x.tmod 65 = y at *
              congr 1; omega
          · have HV := Lib.hid hmv
            clear hmv
            go_wp2_with fail
            go_meet
            case rel =>
              refine ⟨?_, rfl⟩
              rw [← HV.out]
              generalize x.tmod 65 = y at *
              congr 1; omega
        case rest =>
          obtain ⟨rfl, rfl⟩ := hcut
          go_wp2_with (at_builtin; refine wpList_append_one rfl _ _ 37 rfl 0 3 i0 (.int .i64 0) 8 Try.underlying37 hi hz0 hz1 hz2 rfl _ _ _ rfl hown (.int .i64 m) rfl rfl ?c1 ?c2 (Nat.zero_le _) ?_)
          case c1 => simp [maxLen]; omega
          case c2 => omega
          intro g' cap' w3 hown3 hcp1 hcp2 hg3 ho3
          have hW3 := hW.kept ho3 (fun h => (htb wb h.symm).2 rfl) (fun k hk h => (hr k hk).2 h.symm)
          have c03 := ho3.cell c0 (fun h => by have := (htb b h.symm).1; omega)
          have honly3 := honly.trans ho3 (fun i hi h => by have := (htb i h.symm).1; omega)
          have hltW := hW.lt
          have hs := honly.size
          have hgf : w.heap.size ≤ g' ∧ g' ≠ wb ∧ r ≠ some g' := by
            rcases hg3 with h | h
            · exact ⟨(htb g' h.symm).1, (htb g' h.symm).2, fun h2 => (hr g' h2).2 h.symm⟩
            · exact ⟨by omega, by omega, fun h2 => by have := hltW.2 _ h2; omega⟩
          have hrf : ∀ k, r = some k → w.heap.size ≤ k := fun k hk => (hr k hk).1
          clear hW hr hown honly ho3 hg3 c0 c1 hnb htb hltW
          go_wp2_with fail
          refine (put_any v m wb L r w3 hv hbk hW3 (by omega)).mono ?_
          rintro e w4 ⟨rfl, r4, hW4, hr4, ho4⟩
          have hst : BState w w4 wb (L ++ bitsOf v m) (ns ++ [m]) (.slice (some ⟨g', 0, none⟩) (k + 1) cap') := by
            refine ⟨⟨r4, hW4, fun j hj => ?_⟩, ?_, hwb, fun j hj => ?_, honly3.trans ho4 (fun i hi h => ?_)⟩
            · rcases hr4 with h | ⟨k2, h, h2⟩
              · rw [h] at hj; exact ⟨hrf j hj, fun h3 => by simp [Value.ownBlock] at h3; subst h3; exact hgf.2.2 hj⟩
              · rw [hj] at h; injection h with h; subst h
                have hs3 := honly3.size
                refine ⟨by omega, fun h3 => ?_⟩
                have := (hown3.lt _ h3).2
                omega
            · have := ownsRow_only hown3 ho4 (fun j hj h => by
                simp [Value.ownBlock] at hj
                subst hj
                rcases h with h | h
                · exact hgf.2.1 h
                · exact hgf.2.2 h.symm)
              simpa [I64s, HNL.out] using this
            · simp [Value.ownBlock] at hj; subst hj; exact ⟨hgf.1, hgf.2.1⟩
            · rcases h with h | h
              · omega
              · have := hrf i h.symm; omega
          clear hW4 hr4 ho4 hown3 honly3 hW3 c03 hgf hrf hcp1 hcp2
          go_wp2_with fail
          go_roundg (g - 1)
          case measure => have := HK.out; omega
          case rel =>
            refine ⟨by omega, by have := HK.out; go_num, ?_⟩
            rw [show n - (g - 1) = k + 1 by have := HK.out; omega, HT.out, HTN.out, HM.out]
            exact hst
      · have hkl2 : k = n := by omega
        have hlt : l.take k = l := by rw [hkl2]; exact List.take_of_length_le (by rw [HN.out]; exact Nat.le_refl _)
        rw [hlt] at hst
        have hll : l.length = k := by rw [HN.out]; exact hkl2.symm
        subst hkl2
        clear hlt
        have hnl : (l.map backN).length = k := by simp; omega
        have hLl : (backBits l).length ≤ 2560 := by have := backBits_le l; omega
        obtain ⟨ns, hns⟩ : ∃ ns, l.map backN = ns := ⟨_, rfl⟩
        obtain ⟨L, hL⟩ : ∃ L, backBits l = L := ⟨_, rfl⟩
        rw [hns, hL] at hst
        rw [hns] at hnl
        rw [hL] at hLl
        obtain ⟨⟨r, hW, hr⟩, hown, hwb, htb, honly⟩ := hst
        rw [hnl] at hown
        have hin : (I64s ns).length = k := by simp [I64s]; omega
        have hsrc := Src.of_own hown
        obtain ⟨tb, htbe⟩ : ∃ tb, u4.ownBlock.getD 0 = tb := ⟨_, rfl⟩
        rw [htbe] at hsrc
        have htl : 0 < k → tb < wr.heap.size := fun h => hsrc.ofLt (by omega)
        clear htbe
        obtain ⟨ta, tc, toff, hte, hta, _, hcs⟩ := hsrc.opened (n := k) hin
        subst hte
        have hcs : CellsAt wr tb toff (I64s ns) := hcs
        have hbytes := bytes_rep wb L r wr hW (by omega)
        have hwr := honly.size
        have HNS := Lib.hid hns
        have HL := Lib.hid hL
        have HTL := Lib.hid htl
        have HIN := Lib.hid hin
        have HTA := Lib.hid hta
        have HLL := Lib.hid hll
        clear hns hL htl hW hr hown htb hnl hin hta hll
        go_wp2_with fail
        refine hbytes.mono ?_
        rintro e w3 ⟨sv, rfl, hown3, ho3⟩
        go_wp2_with fail
        refine (newReader_any (sv.ownBlock.getD 0) sv (pack L) w3 (Src.of_own hown3) (by simp; omega)).mono ?_
        rintro e w4 ⟨a, r4, rfl, ha, hR4, hr4, ho4⟩
        have ho34 := ho3.trans ho4 (fun _ _ h => h)
        have hs3 := ho3.size
        have hsrc4 := hcs.kept ho34 (fun _ h => h)
        have honly4 := honly.trans ho34 (fun _ _ h => h)
        have hwa : w.heap.size ≤ a := by omega
        have htba : 0 < k → tb < a := fun h => by have := HTL.out h; omega
        have HTBA := Lib.hid htba
        have HR4 := Lib.hid hr4
        have har : ∀ x, r4 = some x → w.heap.size ≤ x := fun x hx => by have := hr4 x hx; omega
        have HAR := Lib.hid har
        clear hbytes hsrc hcs honly hwr hown3 ho3 hs3 ha ho4 ho34 htba hr4 har hwb
        go_wp2_with fail
        go_loopg [8] k (fun g i wx => g ≤ k ∧ i = .int .i64 ((k - g : Nat) : Int) ∧ RRep wx a (pack L) (backBits (l.take (k - g))).length r4 ∧ CellsAt wx tb toff (I64s ns) ∧ Only Nil w wx)
        case atStart => exact ⟨Nat.le_refl _, by simp, by simpa [backBits] using hR4, hsrc4, honly4⟩
        case round =>
          clear hR4 hsrc4 honly4
          obtain ⟨hg, rfl, hR, hsrc, honly⟩ := hrel
          obtain ⟨g2, rfl⟩ : ∃ g, g = gk := ⟨gk, rfl⟩
          obtain ⟨j, hj⟩ : ∃ j, k - g2 = j := ⟨_, rfl⟩
          rw [hj] at hR ⊢
          have hjk : j ≤ k := by omega
          have HJ := Lib.hid hj
          clear hj
          by_cases hjl : j < k
          · have hjl2 : j < l.length := by rw [HLL.out]; exact hjl
            have hao := H2.out (by omega)
            have htao := HTA.out (by omega)
            have htba := HTBA.out (by omega)
            obtain ⟨⟨v, x⟩, hx⟩ : ∃ x, l[j] = x := ⟨_, rfl⟩
            obtain ⟨a0, _, hv⟩ := H4.out j ⟨v, x⟩ (by rw [List.getElem?_eq_getElem hjl2, hx])
            have hbw : b < w.heap.size := H5.out (by omega)
            have hbk := backN_le ⟨v, x⟩
            obtain ⟨m, hm⟩ : ∃ m, backN ⟨v, x⟩ = m := ⟨_, rfl⟩
            rw [hm] at hbk
            have hnsj : (I64s ns)[j]? = some (.int .i64 m) := by
              rw [← HNS.out]
              simp [I64s, List.getElem?_eq_getElem hjl2, hx, hm]
            have hA : backBits (l.take (j + 1)) = backBits (l.take j) ++ bitsOf v m := by
              rw [List.take_succ_eq_append_getElem hjl2, hx]; simp [backBits, hm]
            have hLL : L = backBits (l.take j) ++ bitsOf v m ++ backBits (l.drop (j + 1)) := by
              rw [← hA, ← HL.out]
              unfold backBits
              rw [← List.flatMap_append, List.take_append_drop]
            have htk := take_unpack_pack (backBits (l.take j)) (bitsOf v m) (backBits (l.drop (j + 1)))
            rw [← hLL, length_bitsOf] at htk
            have hA2 : (backBits (l.take (j + 1))).length = (backBits (l.take j)).length + m := by rw [hA]; simp
            have hle : (backBits (l.take j)).length + m ≤ L.length := by rw [hLL]; simp
            obtain ⟨M0, hM0⟩ : ∃ M, (backBits (l.take j)).length = M := ⟨_, rfl⟩
            rw [hM0] at hle hA2 htk hR
            have hget := get_any a M0 m (pack L) wr hR (by simp; omega) (pack_lt L) hbk (by simp; omega)
            rw [htk] at hget
            have hnum : number (bitsOf v m) < 2 ^ 64 := by
              have := number_lt (bitsOf v m)
              rw [length_bitsOf] at this
              exact Nat.lt_of_lt_of_le this (Nat.pow_le_pow_right (by omega) hbk)
            obtain ⟨Z, hZ⟩ : ∃ Z, number (bitsOf v m) = Z := ⟨_, rfl⟩
            rw [hZ] at hget hnum
            have hnumber := fun wx sv h => number_any (Value.ownBlock sv |>.getD 0) sv (bitsOf v m) wx h (by simp; omega)
            rw [hZ, Nat.mod_eq_of_lt hnum] at hnumber
            have hZZ : ((Z : Int) != (Z : Int)) = false := by simp
            have c0 := honly.cell a0 (fun h => h)
            subst hao htao
            have c1 := hsrc j _ hnsj
            have HA2 := Lib.hid hA2
            have HZ := Lib.hid hZ
            have HLE := Lib.hid hle
            clear hx a0 hm hnsj hA hLL htk hA2 hM0 hZ hnum hle
            have hba : ¬ One a b := fun h => by have h1 : b = a := h; omega
            have htaa : ¬ One a tb := fun h => by have h1 : tb = a := h; omega
            go_wp2_with fail
            refine hget.mono ?_
            rintro e w5 ⟨rfl, hR5, ho5⟩
            have c05 : w5.drew.cell? ⟨b, off + j * 2, none⟩ = some (.int .u64 v) := ho5.cell c0 hba
            have c15 : w5.drew.cell? ⟨tb, toff + j, none⟩ = some (.int .i64 m) := ho5.cell c1 htaa
            have hsrc5 := hsrc.kept ho5 (fun _ => htaa)
            have honly5 : Only Nil w w5 := honly.trans ho5 (fun i hi h => by have h1 : i = a := h; omega)
            clear hR hget c0 c1 hsrc honly ho5 hba htaa
            have hbits := bits_any v m w5.drew hv hbk
            go_upto_region 23 with fail
            go_cut [82] (fun s82 wx => s82 = .bool false ∧ Only Nil w5.drew wx)
            case first =>
              clear hR5 hsrc5 honly5
              go_region_held3 (fun w' => w'.cell? ⟨b, off + j * 2, none⟩ = some (.int .u64 v) ∧ w'.cell? ⟨tb, toff + j, none⟩ = some (.int .i64 m)) (go_keep) (first
                | (go_at_call 10; refine hbits.mono ?_; rintro e w6 ⟨sv6, rfl, hown6, ho6⟩; rw [List.length_map, length_bitsOf] at hown6; have c06 := ho6.cell c05 (fun h => h); have c16 := ho6.cell c15 (fun h => h))
                | (go_at_call 17; refine (hnumber w6 sv6 (Src.of_own hown6)).mono ?_; rintro e w7 ⟨rfl, rfl⟩))
              all_goals (go_wp2_with fail; go_meet)
              all_goals exact ⟨rfl, ho6⟩
            case rest =>
              obtain ⟨rfl, ho⟩ := hcut
              have hR5d : RRep w5.drew a (pack L) (M0 + m) r4 := hR5
              have hsrc5d : CellsAt w5.drew tb toff (I64s ns) := hsrc5
              have hR6 := hR5d.kept ho (fun h => h) (fun _ _ h => h)
              have hsrc6 := hsrc5d.kept ho (fun _ h => h)
              have honly6 := honly5.drew.trans ho (fun _ _ h => h)
              clear hR5 hR5d hsrc5 hsrc5d honly5 ho hbits c05 c15 hnumber
              go_wp2_with fail
              go_roundg (g2 - 1)
              case measure => have := HJ.out; omega
              case rel =>
                have e1 : k - (g2 - 1) = j + 1 := by have := HJ.out; omega
                refine ⟨by omega, by have := HJ.out; go_num, ?_, hsrc6, honly6⟩
                rw [e1, HA2.out]
                exact hR6
          · have hjk2 : j = k := by omega
            subst hjk2
            have hlt : l.take j = l := List.take_of_length_le (by rw [HLL.out]; exact Nat.le_refl _)
            rw [hlt, HL.out] at hR
            have hrest : restB (pack L) L.length = true := by
              unfold restB
              rw [number_rest]
              simp; omega
            have hre := rest_any a L.length (pack L) wr hR (by simp; omega) (by simp; omega) (pack_lt L)
            rw [hrest] at hre
            have hleft := fun q => left_any a L.length (pack L) (wr.drewN q) (hR.drewN q) (by simp; omega) (by simp; omega)
            obtain ⟨y, hy⟩ : ∃ y, 8 * (pack L).length - L.length = y := ⟨_, rfl⟩
            have hy8 : decide ((y : Int) < 8) = true := by simp at hy; simp; omega
            rw [hy] at hleft
            clear hlt hrest hy hR hsrc
            go_wp2_with fail
            refine hre.mono ?_
            rintro e w5 ⟨rfl, q, rfl⟩
            go_wp2_with fail
            refine (hleft q).mono ?_
            rintro e w6 ⟨rfl, q2, rfl⟩
            go_wp2_with fail
            go_ret
            exact ⟨rfl, only_drewN honly _⟩
end Go.Proofs.Ytiikkngllmdljaa
