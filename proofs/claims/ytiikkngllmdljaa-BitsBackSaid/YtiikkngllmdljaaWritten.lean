/- The walk of the law BitsWritten. -/
import Derived.Test.YtiikkngllmdljaaKnown
import Derived.Deep.RegionWith
namespace Go.Proofs.Ytiikkngllmdljaa
open Go.RowKit M

/-- A number in so many bits, as the law's argument has it. -/
structure ActD where
  v : Nat
  n : Int

def ActD.ok (x : ActD) : Bool := fitsB x.n
def ActD.bits (x : ActD) : List Bool := if x.ok then bitsOf x.v x.n.toNat else []
def allBits (l : List ActD) : List Bool := l.flatMap ActD.bits

/-- The acts lie in block b, two cells each. -/
def Acts (w : World) (b off : Nat) (l : List ActD) : Prop :=
  ∀ i x, l[i]? = some x → w.cell? ⟨b, off + i * 2, none⟩ = some (.int .u64 x.v) ∧ w.cell? ⟨b, off + i * 2 + 1, none⟩ = some (.int .i64 x.n) ∧ x.v < 18446744073709551616

theorem allBits_le (l : List ActD) : (allBits l).length ≤ 64 * l.length := by
  induction l with
  | nil => simp [allBits]
  | cons x t ih =>
    have hb : x.bits.length ≤ 64 := by
      unfold ActD.bits ActD.ok
      split
      · rename_i h; simp [fitsB] at h; simp; omega
      · simp
    simp only [allBits, List.flatMap_cons, List.length_append, List.length_cons] at *
    omega

theorem fits_cases (x : Int) : fitsB x = true ∨ x < 0 ∨ 64 < x := by
  simp [fitsB]; omega

/-- Put, whatever size is asked. -/
theorem put_both (v : Nat) (x : Int) (b : Nat) (L : List Bool) (r : Option Nat) (w : World) (hv : v < 18446744073709551616) (hw : WRep w b L r) (hL : L.length ≤ 1099511627776) :
    Calls Try.prog 9 #[.pointer (some ⟨b, 0, none⟩), .int .u64 v, .int .i64 x] w fun e w' => e = .returned (.bool (fitsB x)) ∧ PutPost w b (L ++ ActD.bits ⟨v, x⟩) r w' := by
  by_cases hf : fitsB x = true
  · obtain ⟨m, rfl⟩ : ∃ m : Nat, x = m := ⟨x.toNat, by simp [fitsB] at hf; omega⟩
    have hm : m ≤ 64 := by simp [fitsB] at hf; omega
    have h := put_any v m b L r w hv hm hw hL
    rw [hf]
    simpa [ActD.bits, ActD.ok, hf] using h
  · have hf2 : fitsB x = false := by simpa using hf
    rw [hf2]
    refine (put_none b v x w hf2).mono ?_
    rintro e w' ⟨rfl, rfl⟩
    refine ⟨rfl, r, ?_, Or.inl rfl, Only.refl _ _⟩
    simpa [ActD.bits, ActD.ok, hf2] using hw

/-- The writer and the list of all bits so far, each in blocks of the call's own. -/
structure WState (w wr : World) (wb : Nat) (L : List Bool) (t : Value) : Prop where
  wrep : ∃ r, WRep wr wb L r ∧ (∀ k, r = some k → w.heap.size ≤ k ∧ t.ownBlock ≠ some k)
  own : wr.ownsRow 0 4 1 t L.length (L.map Value.bool)
  hwb : w.heap.size ≤ wb
  tb : ∀ k, t.ownBlock = some k → w.heap.size ≤ k ∧ k ≠ wb
  only : Only Nil w wr

set_option maxHeartbeats 400000 in
theorem written_any (ao : Option Addr) (n cap b off : Nat) (l : List ActD) (w : World) (hn : l.length = n) (h2 : 0 < n → ao = some ⟨b, off, none⟩) (h4 : Acts w b off l) (h5 : 0 < n → b < w.heap.size) :
    Calls Try.prog 3 #[.slice ao n cap] w fun e w' => e = .returned (.bool true) ∧ Only Nil w w' := by
  have H2 := Lib.hid h2
  have H4 := Lib.hid h4
  have HN := Lib.hid hn
  have H5 := Lib.hid h5
  clear h2 h4 hn h5
  obtain ⟨i0, hi, hz0, hz1, hz2⟩ := info_parts Try.info4
  by_cases h40 : 40 < n
  · go_enter Try.func3, Try.ntmps3
    go_wp2_with (go_at_call 7; refine (known_any w).mono ?_; rintro e w1 ⟨rfl, ho1⟩)
    go_ret
    exact ⟨rfl, ho1⟩
  · have t40 : decide ((40 : Int) < (n : Int)) = false := by simp; omega
    go_enter Try.func3, Try.ntmps3
    go_wp2_with (go_at_call 7; refine (known_any w).mono ?_; rintro e w1 ⟨rfl, ho1⟩)
    refine (newWriter_any w1).mono ?_
    rintro e w2 ⟨rfl, hw2⟩
    have hst : WState w w2 w1.heap.size [] (.slice none 0 0) := by
      refine ⟨⟨none, by rw [hw2]; exact WRep.new w1, fun k h => by simp at h⟩, World.ownsRow_nil _ _ _ _, ho1.size, fun k h => by simp [Value.ownBlock] at h, by rw [hw2]; exact ho1.alloc _⟩
    obtain ⟨wb, hwb⟩ : ∃ wb, w1.heap.size = wb := ⟨_, rfl⟩
    rw [hwb] at hst ⊢
    clear hwb hw2 ho1
    go_wp2_with fail
    go_loopg [4, 5] n (fun g t i wr => g ≤ n ∧ i = .int .i64 ((n - g : Nat) : Int) ∧ WState w wr wb (allBits (l.take (n - g))) t)
    case atStart => exact ⟨Nat.le_refl _, by simp, by simpa [allBits] using hst⟩
    case round =>
      clear hst
      obtain ⟨hg, rfl, hst⟩ := hrel
      obtain ⟨g, rfl⟩ : ∃ g, g = gk := ⟨gk, rfl⟩
      obtain ⟨k, hk⟩ : ∃ k, n - g = k := ⟨_, rfl⟩
      rw [hk] at hst ⊢
      have hkn : k ≤ n := by omega
      have HK := Lib.hid hk
      clear hk
      by_cases hkl : k < n
      · have hkl2 : k < l.length := by rw [HN.out]; exact hkl
        have hao := H2.out (by omega)
        obtain ⟨⟨v, x⟩, hx⟩ : ∃ x, l[k] = x := ⟨_, rfl⟩
        obtain ⟨a0, a1, hv⟩ := H4.out k ⟨v, x⟩ (by rw [List.getElem?_eq_getElem hkl2, hx])
        have ht : allBits (l.take (k + 1)) = allBits (l.take k) ++ ActD.bits ⟨v, x⟩ := by
          rw [List.take_succ_eq_append_getElem hkl2, hx]; simp [allBits]
        have c0 := hst.only.cell a0 (fun h => h)
        have c1 := hst.only.cell a1 (fun h => h)
        clear a0 a1 hx
        have hbw0 := H5.out
        have hLl0 : (allBits (l.take k)).length ≤ 64 * k := by
          have := allBits_le (l.take k)
          simp at this; omega
        obtain ⟨L, hL⟩ : ∃ L, allBits (l.take k) = L := ⟨_, rfl⟩
        rw [hL] at hst ht hLl0
        have HT := Lib.hid ht
        clear ht hL
        subst hao
        have hbw : b < w.heap.size := hbw0 (by omega)
        have hLl : L.length ≤ 64 * k := hLl0
        obtain ⟨⟨r, hW, hr⟩, hown, hwb, htb, honly⟩ := hst
        have hnb : ¬ (b = wb ∨ some b = r) := by
          rintro (h | h)
          · omega
          · have := (hr b h.symm).1; omega
        go_upto_region 11 with fail
        go_cut [7] (fun s7 wx => s7 = .bool (fitsB x) ∧ wr = wx)
        case first =>
          rcases fits_cases x with hf | hf | hf
          · have h0 : (0 : Int) ≤ x ∧ x ≤ 64 := by simpa [fitsB] using hf
            obtain ⟨h0, h1⟩ := h0
            go_wp2_with fail
            go_meet
            case rel => exact ⟨by rw [hf], rfl⟩
          · have hff : fitsB x = false := by simp [fitsB]; omega
            go_wp2_with fail
            go_meet
            case rel => exact ⟨by rw [hff], rfl⟩
          · have hff : fitsB x = false := by simp [fitsB]; omega
            have h0 : (0 : Int) ≤ x := by omega
            have h1 : decide (x ≤ 64) = false := by simp; omega
            go_wp2_with fail
            go_meet
            case rel => exact ⟨by rw [hff], rfl⟩
        case rest =>
          obtain ⟨rfl, rfl⟩ := hcut
          have hput := put_both v x wb L r wr hv hW (by omega)
          obtain ⟨p, hp⟩ : ∃ p, fitsB x = p := ⟨_, rfl⟩
          rw [hp] at hput ⊢
          have HPP := Lib.hid hp
          have hxx : (p != p) = false := by simp
          clear hp
          go_wp2_with fail
          refine hput.mono ?_
          rintro e w3 ⟨rfl, r3, hW3, hr3, ho3⟩
          have c03 := ho3.cell c0 hnb
          clear c0 c1 hnb
          have hown3 : w3.ownsRow 0 4 1 u4 L.length (L.map Value.bool) := ownsRow_only hown ho3 (fun k hk h => by
            rcases h with h | h
            · exact (htb k hk).2 h
            · exact (hr k h.symm).2 hk)
          have honly3 : Only Nil w w3 := honly.trans ho3 (fun i hi h => by
            rcases h with h | h
            · omega
            · have := (hr i h.symm).1; omega)
          have hrr : ∀ k, r3 = some k → w.heap.size ≤ k ∧ u4.ownBlock ≠ some k := by
            intro k hk
            have hs := honly.size
            rcases hr3 with h | ⟨k2, h, h2⟩
            · exact hr k (h ▸ hk)
            · rw [hk] at h; injection h with h; subst h
              exact ⟨by omega, fun h => by have := (hown.lt k h).2; omega⟩
          clear hW hr hown honly ho3 hr3
          go_upto_if 41 with fail
          go_cut [4] (fun s4 wx => WState w wx wb (L ++ ActD.bits ⟨v, x⟩) s4)
          case first =>
            clear hput hxx
            cases p
            rotate_left
            · have hf := HPP.out
              obtain ⟨m, rfl⟩ : ∃ m : Nat, x = m := ⟨x.toNat, by simp [fitsB] at hf; omega⟩
              have hm : m ≤ 64 := by simp [fitsB] at hf; omega
              have hbits : ActD.bits ⟨v, (m : Int)⟩ = bitsOf v m := by simp [ActD.bits, ActD.ok, hf]
              rw [hbits] at hW3
              have hlt3 := hW3.lt
              have HB := Lib.hid hbits
              clear hbits hf
              go_wp2_with fail
              refine (bits_any v m w3 hv hm).mono ?_
              rintro e w4 ⟨sv, rfl, hown4, ho4⟩
              have hW4 := hW3.kept ho4 (fun h => h) (fun _ _ h => h)
              have ho43 := ownsRow_only hown3 ho4 (fun _ _ h => h)
              have honly4 := honly3.trans ho4 (fun _ _ h => h)
              have hsrc := Src.of_own hown4
              have hs4 := ho4.size
              have hs3 := honly3.size
              clear hown4 ho4 hW3 hown3 honly3
              go_wp2_with (at_builtin; refine wpList_append_src rfl _ _ 26 rfl 0 4 i0 (.bool false) 1 Try.underlying26 hi hz0 hz1 hz2 rfl _ _ _ rfl ho43 (sv.ownBlock.getD 0) sv ((bitsOf v m).map Value.bool) rfl hsrc ?c1 ?c2 ?c3 (Nat.zero_le _) ?_)
              case c1 => intro u hu; simp only [List.mem_map] at hu; obtain ⟨y, _, rfl⟩ := hu; rfl
              case c2 => simp [maxLen]; omega
              case c3 => simp; omega
              intro t' w5 hown5 ht5 ho5
              have hst : WState w w5 wb (L ++ bitsOf v m) t' := by
                refine ⟨⟨r3, hW4.kept ho5 (fun h => (htb wb h.symm).2 rfl) (fun k hk h => (hrr k hk).2 h.symm), fun k hk => ⟨(hrr k hk).1, fun h => ?_⟩⟩, ?_, hwb, fun k hk => ?_, honly4.trans ho5 (fun i hi h => by have := (htb i h.symm).1; omega)⟩
                · rcases ht5 with h5 | ⟨k5, h5, h6⟩
                  · exact (hrr k hk).2 (h5 ▸ h)
                  · rw [h5] at h; injection h with h; subst h
                    have := hlt3.2 _ hk; omega
                · simpa using hown5
                · rcases ht5 with h5 | ⟨k5, h5, h6⟩
                  · exact htb k (h5 ▸ hk)
                  · rw [h5] at hk; injection hk with hk; subst hk
                    have := hlt3.1
                    exact ⟨by omega, by omega⟩
              clear hown5 ht5 ho5 ho43 hsrc hW4 honly4 hrr c03 hlt3
              go_wp2_with fail
              go_meet
              case rel => rw [HB.out]; exact hst
            · have hff : fitsB x = false := HPP.out
              have hbits : ActD.bits ⟨v, x⟩ = [] := by simp [ActD.bits, ActD.ok, hff]
              rw [hbits, List.append_nil] at hW3
              have HB := Lib.hid hbits
              clear hbits hff
              go_wp2_with fail
              go_meet
              case rel => rw [HB.out, List.append_nil]; exact ⟨⟨r3, hW3, hrr⟩, hown3, hwb, htb, honly3⟩
          case rest =>
            have hst := hcut
            rw [← HT.out] at hst
            obtain ⟨L2, hL2⟩ : ∃ L2, allBits (l.take (k + 1)) = L2 := ⟨_, rfl⟩
            rw [hL2] at hst
            have hL2l : L2.length ≤ 2624 := by
              have := allBits_le (l.take (k + 1))
              rw [hL2] at this
              simp at this; omega
            have HL2 := Lib.hid hL2
            clear hL2 hcut hW3 hown3 honly3 hrr htb hwb c03
            obtain ⟨⟨r2, hW2, hr2⟩, hown2, hwb2, htb2, honly2⟩ := hst
            obtain ⟨ta, tc, toff, hte, _, _, _⟩ := (Src.of_own hown2).opened (n := L2.length) (by simp)
            subst hte
            have hWd : WRep wc.drew wb L2 r2 := hW2
            have hownd : wc.drew.ownsRow 0 4 1 (.slice ta L2.length tc) L2.length (L2.map Value.bool) := hown2
            have honlyd : Only Nil w wc.drew := honly2.drew
            have hlen := len_rep wb L2 r2 wc.drew hWd
            have hbytes := bytes_rep wb L2 r2 wc.drew hWd (by omega)
            have hpack := fun w6 (h : Src w6 _ _ _) => pack_any ((Value.slice ta L2.length tc).ownBlock.getD 0) (.slice ta L2.length tc) L2 w6 h (by omega)
            clear hW2 hown2 honly2
            go_upto_region 16 with fail
            go_cut [64] (fun s64 wx => s64 = .bool false ∧ Only Nil wc.drew wx)
            case first =>
              go_region_with (first
                | (go_at_call 11; refine hlen.mono ?_; rintro e w6 ⟨rfl, rfl⟩)
                | (go_at_call 12; refine hbytes.mono ?_; rintro e w6 ⟨sv6, rfl, hown6, ho6⟩; have hcv6 := conv_src w6 _ sv6 (pack L2) (Src.of_own hown6); have hownt6 := ownsRow_only hownd ho6 (fun _ _ h => h))
                | (go_at_call 13; refine (hpack w6 (Src.of_own hownt6)).mono ?_; rintro e w7 ⟨sv7, rfl, hown7, ho7⟩; have hcv7 := conv_src w7 _ sv7 (pack L2) (Src.of_own hown7); have hcv67 := conv_src w7 _ sv6 (pack L2) (Src.of_own (ownsRow_only hown6 ho7 (fun _ _ h => h)))))
              all_goals (go_wp2_with fail; go_meet)
              all_goals exact ⟨rfl, ho6.trans ho7 (fun _ _ h => h)⟩
            case rest =>
              obtain ⟨rfl, ho67⟩ := hcut
              have hst : WState w wc wb L2 (.slice ta L2.length tc) :=
                ⟨⟨r2, hWd.kept ho67 (fun h => h) (fun _ _ h => h), hr2⟩, ownsRow_only hownd ho67 (fun _ _ h => h), hwb2, htb2, honlyd.trans ho67 (fun _ _ h => h)⟩
              clear hlen hbytes hpack hownd hWd honlyd ho67
              go_wp2_with fail
              go_roundg (g - 1)
              case measure => have := HK.out; omega
              case rel =>
                refine ⟨by omega, by have := HK.out; go_num, ?_⟩
                rw [show n - (g - 1) = k + 1 by have := HK.out; omega, HL2.out]
                exact hst
      · have hkl2 : k = n := by omega
        subst hkl2
        obtain ⟨⟨r2, hW2, hr2⟩, hown2, hwb2, htb2, honly2⟩ := hst
        obtain ⟨ta, tc, toff, hte, _, _, _⟩ := (Src.of_own hown2).opened (n := (allBits (l.take k)).length) (by simp)
        subst hte
        have hlen := len_rep wb _ r2 wr hW2
        go_wp2_with fail
        refine hlen.mono ?_
        rintro e w3 ⟨rfl, rfl⟩
        go_wp2_with fail
        go_ret
        exact ⟨rfl, honly2⟩
end Go.Proofs.Ytiikkngllmdljaa
