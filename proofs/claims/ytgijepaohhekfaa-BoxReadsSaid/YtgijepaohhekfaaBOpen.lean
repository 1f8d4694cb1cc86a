/- Open, and the document's own. -/
import Derived.Test.YtgijepaohhekfaaBCalls
import Derived.Deep.Quiet
import Derived.Deep.QuietTactic
import Derived.Deep.RegionHeld3
namespace Go.Proofs.Ytgijepaohhekfaa
open Go.RowKit M

theorem strOf_inj {B C : List Nat} (hB : ∀ x ∈ B, x < 256) (hC : ∀ x ∈ C, x < 256) (h : strOf B = strOf C) : B = C := by
  have h1 : (strOf B).data.toList = (strOf C).data.toList := by rw [h]
  unfold strOf at h1
  rw [strOfNums_data, strOfNums_data, List.map_map, List.map_map] at h1
  have e : ∀ D : List Nat, (∀ x ∈ D, x < 256) → (D.map ((fun n : Int => UInt8.ofNat n.toNat) ∘ fun x : Nat => (x : Int))).map (fun u => u.toNat) = D := by
    intro D hD
    rw [List.map_map]
    conv => rhs; rw [← List.map_id D]
    apply List.map_congr_left
    intro x hx
    have := hD x hx
    simp; omega
  rw [← e B hB, ← e C hC, h1]
theorem only_drewN {S : Nat → Prop} {a w : World} (h : Only S a w) (n : Nat) : Only S a (w.drewN n) := by
  unfold World.drewN
  exact ⟨h.os, h.tape, h.output, h.size, h.block⟩

theorem toList_inj {a b : ByteArray} (h : a.toList = b.toList) : a = b := by
  rw [ByteArray.toList_eq, ByteArray.toList_eq] at h
  exact Go.WideShapes.bytes_inj h
theorem strOf_ne {B C : List Nat} (hB : ∀ x ∈ B, x < 256) (hC : ∀ x ∈ C, x < 256) (h : B ≠ C) : ((strOf B).toList == (strOf C).toList) = false := by
  rw [beq_eq_false_iff_ne]
  exact fun e => h (strOf_inj hB hC (toList_inj e))

/-- A slice of a slice. -/
theorem Row.sub {w : World} {b off n cap : Nat} {B : List Nat} (h : Row w (.slice (some ⟨b, off, none⟩) n cap) B) (hn : 0 < n) (i k : Nat) (hk : i + k ≤ n) :
    Row w (.slice (some ⟨b, off + i, none⟩) k (cap - i)) ((B.drop i).take k) := by
  obtain ⟨b', ao, cap', off', e, h2, h3, h4, h5, h6, h7⟩ := h
  simp only [Value.slice.injEq] at e
  obtain ⟨rfl, hn', rfl⟩ := e
  have e2 := h4 (by omega)
  simp only [Option.some.injEq, Addr.mk.injEq, and_true] at e2
  obtain ⟨rfl, rfl⟩ := e2
  have hl : ((B.drop i).take k).length = k := by simp; omega
  refine ⟨b, some ⟨b, off + i, none⟩, cap - i, off + i, by rw [hl], by omega, by omega, fun _ => rfl, fun h => (by cases h), fun j u hj => ?_, fun x hx => h7 x (List.mem_of_mem_drop (List.mem_of_mem_take hx))⟩
  have hjk : j < k := by have := (List.getElem?_eq_some_iff.1 hj).1; rw [U8s_len, hl] at this; exact this
  have : (U8s B)[i + j]? = some u := by
    rw [← hj]
    simp only [U8s, List.getElem?_map]
    rw [List.getElem?_take_of_lt hjk, List.getElem?_drop]
  have h8 := h6 (i + j) u this
  rw [show off + i + j = off + (i + j) by omega]
  exact h8

section
variable {P : Program} {w : World}
/-- append of what lies anywhere, as one step of a region that draws. -/
theorem step_append_src {ops : Array Oper} {o : Oper} {a : Act} {K : Act → World → Prop} {Q : Exit → Act → World → Prop} {E : Prop} (hgd : o.guard = none) (s x : Operand) (t : TypeId)
    (ho : o.op = .call { callee := .builtin .append, args := #[s, x], argTypes := #[t, t] })
    (base : Nat) (e : TypeId) (i : TypeInfo) (z : Value) (bytes : Nat) (ht : P.underlying t = some (.slice e)) (hi : P.info? e = some i) (hz : i.zero = some z)
    (hsize : i.size = 1) (hby : i.bytes = bytes) (hzs : z.cells.size = 1)
    (v : Value) (n : Nat) (xs : List Value) (hs : a.eval s = v) (hown : w.ownsRow base e 1 v n xs)
    (b : Nat) (sv : Value) (news : List Value) (hx : a.eval x = sv) (hsrc : Src w b sv news) (h1 : ∀ u ∈ news, u.oneCell' = true)
    (h63 : n + news.length ≤ maxLen) (hbytes : (n + news.length) * bytes ≤ 140737488355328) (hbase : base ≤ w.heap.size)
    (h : ∀ v' w', w'.ownsRow base e 1 v' (n + news.length) (xs ++ news) → Only (Own v.ownBlock) w w' → K (a.put o.dst v') w') :
    if Region.wanted o (yielded ops a.tmps) = true then Oper.wp P o a w K Q else E := by
  have hw : Region.wanted o (yielded ops a.tmps) = true := by simp [Region.wanted, hgd]
  rw [if_pos hw]
  obtain ⟨ao, cap, off, rfl, hs2, hs3, hs4⟩ := hsrc
  have hrun : ∃ v' w', (Builtin.append_ #[t, t] o.type #[v, .slice ao news.length cap]).run P w = .ok v' w' ∧ w'.ownsRow base e 1 v' (n + news.length) (xs ++ news) ∧ Only (Own v.ownBlock) w w' := by
    cases ao with
    | none =>
      have hn : news = [] := by
        cases news with
        | nil => rfl
        | cons y t => have := hs2 (by simp); simp at this
      subst hn
      have hc := hs3 rfl
      subst hc
      exact ⟨v, w, run_append_owned_none (P := P) (w := w) base t o.type e i 1 ht hi v n xs hown, by simpa using hown, Only.refl _ _⟩
    | some ad =>
      obtain ⟨v', w', hr, h2, h3, _⟩ := run_append_row (P := P) base t o.type e i z 1 bytes ht hi hz hsize hby hzs (by decide) v n xs hown ad news.length cap news (by simp)
        (by
          intro j u hj
          have hjl : j < news.length := (List.getElem?_eq_some_iff.1 hj).1
          have e1 := hs2 (by omega)
          injection e1 with e1
          rw [e1, addr_add, hs4 j u hj]) h1 h63 hbytes hbase
      exact ⟨v', w', hr, h2, Only.of_grown h3⟩
  obtain ⟨v', w', hr, h2, h3⟩ := hrun
  unfold Oper.wp execOp
  simp only [ho, resolve, invoke, builtin, Sem.run_bind, Sem.run_pure, Result.andThen_ok, List.map_toArray, List.map_cons, List.map_nil, hs, hx, hr]
  exact h v' w' h2 h3
end

theorem flip_q {P : Program} {f : Nat} {args : Array Value} {v : Value} {w : World} (h : Calls P f args w fun e w' => e = .returned v ∧ w = w') : Calls P f args w fun e w' => e = .returned v ∧ w' = w :=
  h.mono fun _ _ ⟨h1, h2⟩ => ⟨h1, h2.symm⟩

/-- What Open hands back. -/
def Opened (w : World) (V : Nat × List Nat × Nat) (en : Ending) (w' : World) : Prop :=
  ∃ sv, en = .returned (.tuple #[.int .u8 V.1, sv, .int .i64 V.2.2]) ∧ w'.ownsRow w.heap.size 5 1 sv V.2.1.length (U8s V.2.1) ∧ Only Nil w w'
theorem opened_none (w w' : World) (e : Nat) (h : Only Nil w w') : Opened w (0, [], e) (.returned (.tuple #[.int .u8 0, .slice none 0 0, .int .i64 e])) w' :=
  ⟨_, rfl, World.ownsRow_nil _ _ _ _, h⟩

/-- All that both functions called Open ask of bytes: which way they go. -/
structure Parts (B : List Nat) (n a m G E : Nat) : Prop where
  read : readV 0 0 (B.drop 5) = (a, m, true)
  small : a ≤ 16777216
  gap : 5 + m = G
  stop : G + a = E
  whole : n = E + 4
theorem open_ways (B : List Nat) (n : Nat) (hn : B.length = n) (h5 : 5 ≤ n) (hW : B.take 4 = [87, 65, 70, 82]) :
    (∃ a m, readV 0 0 (B.drop 5) = (a, m, false) ∧ openV B = (0, [], 20)) ∨
    (∃ a m, readV 0 0 (B.drop 5) = (a, m, true) ∧ 16777216 < a ∧ openV B = (0, [], 22)) ∨
    (∃ a m G E, readV 0 0 (B.drop 5) = (a, m, true) ∧ a ≤ 16777216 ∧ 5 + m = G ∧ G + a = E ∧ n ≠ E + 4 ∧ openV B = (0, [], 20)) ∨
    (∃ a m G E, Parts B n a m G E ∧ B.drop E ≠ four (sumOf (B.take E)) ∧ openV B = (0, [], 21)) ∨
    (∃ a m G E, Parts B n a m G E ∧ B.drop E = four (sumOf (B.take E)) ∧ openV B = (B.getD 4 0, (B.drop G).take a, 0)) := by
  obtain ⟨a, m, ok, hr⟩ : ∃ a m ok, readV 0 0 (B.drop 5) = (a, m, ok) := ⟨_, _, _, rfl⟩
  have h0 : ¬ (B.length < 5 ∨ B.take 4 ≠ [87, 65, 70, 82]) := by rw [hW]; simp; omega
  unfold openV
  rw [hr, if_neg h0]
  cases ok with
  | false => exact Or.inl ⟨a, m, rfl, by simp⟩
  | true =>
    by_cases ha : 16777216 < a
    · exact Or.inr (Or.inl ⟨a, m, rfl, ha, by rw [if_neg (by simp), if_pos ha]⟩)
    · by_cases hl : B.length ≠ 5 + m + a + 4
      · exact Or.inr (Or.inr (Or.inl ⟨a, m, _, _, rfl, by omega, rfl, rfl, by omega, by rw [if_neg (by simp), if_neg ha, if_pos hl]⟩))
      · have hE : B.length - 4 = 5 + m + a := by omega
        rw [if_neg (by simp), if_neg ha, if_neg hl, hE]
        by_cases hs : B.drop (5 + m + a) = four (sumOf (B.take (5 + m + a)))
        · exact Or.inr (Or.inr (Or.inr (Or.inr ⟨a, m, _, _, ⟨hr, by omega, rfl, rfl, by omega⟩, hs, by rw [if_neg (by rw [hs]; simp)]⟩)))
        · exact Or.inr (Or.inr (Or.inr (Or.inl ⟨a, m, _, _, ⟨hr, by omega, rfl, rfl, by omega⟩, hs, by rw [if_pos hs]⟩)))

/-- b[5:], where it lies. -/
theorem Row.five {w : World} {b off n cap : Nat} {B : List Nat} (h : Row w (.slice (some ⟨b, off, none⟩) n cap) B) (hn : 5 ≤ n) :
    Row w (.slice (if cap = 5 then some ⟨b, off, none⟩ else some ⟨b, off + 5, none⟩) (n - 5) (cap - 5)) (B.drop 5) := by
  have hs := h.sub (by omega) 5 (n - 5) (by omega)
  have hl : B.length = n := h.app.2
  rw [List.take_of_length_le (by simp; omega)] at hs
  split
  · rename_i hc
    have hn5 : n = 5 := by have := h.caps.1; omega
    obtain ⟨b', ao, cap', off', e, h2, h3, h4, h5, h6, h7⟩ := hs
    simp only [Value.slice.injEq] at e
    obtain ⟨rfl, h8, rfl⟩ := e
    exact ⟨b', some ⟨b, off, none⟩, cap - 5, off', by rw [← h8], h2, h3, fun h => by omega, fun h => (by cases h), h6, h7⟩
  · exact hs

set_option maxRecDepth 10000 in
set_option maxHeartbeats 1600000 in
theorem open_any (s : Value) (B : List Nat) (w : World) (hs : Row w s B) (hl : B.length ≤ 100000) :
    Calls Try.prog 10 #[s] w (Opened w (openV B)) := by
  obtain ⟨n, hn⟩ : ∃ n, B.length = n := ⟨_, rfl⟩
  rw [hn] at hl
  have hrow := hs
  obtain ⟨b, ao, cap, off, rfl, h2, h3, h4, h5, h6, h7⟩ := hs
  rw [hn] at h2 h4 hrow ⊢
  by_cases hn5 : n < 5
  · have hV : openV B = (0, [], 20) := by unfold openV; rw [if_pos (Or.inl (by omega))]
    rw [hV]
    clear hV h4 h5 h6 h7 hrow
    go_enter Try.func10, Try.ntmps10
    go_wp2
    go_ret3
    exact opened_none w w 20 (Only.refl _ _)
  · have hao := h4 (by omega)
    subst hao
    unfold maxLen at h3
    have hrow4 := hrow.sub (by omega) 0 4 (by omega)
    rw [List.drop_zero, Nat.add_zero, Nat.sub_zero] at hrow4
    obtain ⟨b4, hs4⟩ := hrow4.src
    have hcv := conv_src w b4 _ _ hs4
    clear hs4 hrow4 h4 h5
    by_cases hW : B.take 4 = [87, 65, 70, 82]
    · rw [hW, show strOf [87, 65, 70, 82] = { data := #[87, 65, 70, 82] } from rfl] at hcv
      have hrow5 := hrow.five (by omega)
      obtain ⟨A5, hA5⟩ : ∃ A, (if cap = 5 then some (⟨b, off, none⟩ : Addr) else some ⟨b, off + 5, none⟩) = A := ⟨_, rfl⟩
      rw [hA5] at hrow5
      rcases open_ways B n hn (by omega) hW with ⟨a, m, hr, hV⟩ | ⟨a, m, hr, ha, hV⟩ | ⟨a, m, G, E, hr, ha, hG, hE, hne, hV⟩ | ⟨a, m, G, E, ⟨hr, ha, hG, hE, hnE⟩, hS, hV⟩ | ⟨a, m, G, E, ⟨hr, ha, hG, hE, hnE⟩, hS, hV⟩
      · rw [hV]
        have hread := read_val _ _ w hrow5 a m false hr
        clear hV hr hrow5 hrow h6 h7 hW hn
        go_enter Try.func10, Try.ntmps10
        go_wp2_with fail
        refine hread.mono ?_
        rintro e w1 ⟨rfl, rfl⟩
        go_wp2_with fail
        go_ret3
        exact opened_none w w 20 (Only.refl _ _)
      · rw [hV]
        have hread := read_val _ _ w hrow5 a m true hr
        clear hV hr hrow5 hrow h6 h7 hW hn
        go_enter Try.func10, Try.ntmps10
        go_wp2_with fail
        refine hread.mono ?_
        rintro e w1 ⟨rfl, rfl⟩
        go_wp2_with fail
        go_ret3
        exact opened_none w w 22 (Only.refl _ _)
      · rw [hV]
        have hread := read_val _ _ w hrow5 a m true hr
        have hm10 := (readV_bound (B.drop 5) 0 0 (by decide) (by decide) (by omega)).2
        rw [hr] at hm10
        have hm10 : m ≤ 10 := hm10
        have eG : (5 : Int) + (m : Int) = (G : Int) := by omega
        have eE : (G : Int) + (a : Int) = (E : Int) := by omega
        have hE2 : E ≤ 20000000 := by omega
        have hcmp : ((n : Int) != (E : Int) + 4) = true := by rw [bne_iff_ne]; omega
        clear hV hr hrow5 hrow h6 h7 hW hn hne hG hE
        go_enter Try.func10, Try.ntmps10
        go_wp2_with fail
        refine hread.mono ?_
        rintro e w1 ⟨rfl, rfl⟩
        go_wp2_with fail
        go_ret3
        exact opened_none w w 20 (Only.refl _ _)
      · rw [hV]
        rw [if_neg (show ¬ cap = 5 by omega)] at hA5
        subst hA5
        have hread := read_val _ _ w hrow5 a m true hr
        have hm10 := (readV_bound (B.drop 5) 0 0 (by decide) (by decide) (by omega)).2
        rw [hr] at hm10
        have hm10 : m ≤ 10 := hm10
        have eG : (5 : Int) + (m : Int) = (G : Int) := by omega
        have eE : (G : Int) + (a : Int) = (E : Int) := by omega
        have hE2 : E ≤ 100000 := by omega
        have hEn : E < n := by omega
        have hGE : G ≤ E := by omega
        have i1 : (0 : Int) ≤ (E : Int) := by omega
        have i2 : (E : Int) ≤ (n : Int) := by omega
        have i3 : (n : Int) ≤ (cap : Int) := by omega
        have i4 : ¬ cap = E := by omega
        have i5 : (E : Int) ≤ (cap : Int) := by omega
        have i6 : (G : Int) ≤ (E : Int) := by omega
        have i7 : (0 : Int) ≤ (G : Int) := by omega
        have i8 : ¬ cap = G := by omega
        have i9 : (4 : Int) < (n : Int) := by omega
        have hcmp : ((n : Int) != (E : Int) + 4) = false := by rw [bne_eq_false_iff_eq]; omega
        have hrowS := hrow.sub (by omega) 0 E (by omega)
        rw [List.drop_zero, Nat.add_zero, Nat.sub_zero] at hrowS
        have hrowW := hrow.sub (by omega) E (n - E) (by omega)
        rw [List.take_of_length_le (by simp; omega)] at hrowW
        have hW8 : ∀ x ∈ B.drop E, x < 256 := fun x hx => h7 x (List.mem_of_mem_drop hx)
        have hWl : (B.drop E).length = 4 := by simp; omega
        have hword := word_four (B.drop E) hWl hW8 (sumOf (B.take E)) (sumOf_lt _)
        have hcs := fun q => flip_q (sum_any _ _ (w.drewN q) (hrowS.kept (only_drewN (Only.refl _ _) q)))
        have hcw := fun q => flip_q (word_any _ _ (w.drewN q) (hrowW.kept (only_drewN (Only.refl _ _) q)))
        obtain ⟨X, hX⟩ : ∃ X, sumOf (B.take E) = X := ⟨_, rfl⟩
        obtain ⟨Y, hY⟩ : ∃ Y, wordN (B.drop E) = Y := ⟨_, rfl⟩
        simp only [hX, hY] at hcs hcw hword hS
        have hXY : ((Y : Int) != (X : Int)) = true := by
          rw [bne_iff_ne]
          intro h
          exact hS (hword.1 (by omega))
        have HCS := Lib.hid hcs
        have HCW := Lib.hid hcw
        clear hV hr hrow5 hrow h6 h7 hW hn hG hE hnE hrowS hrowW hW8 hWl hword hcs hcw hX hY hS
        go_enter Try.func10, Try.ntmps10
        go_wp2_with fail
        refine hread.mono ?_
        rintro e w1 ⟨rfl, rfl⟩
        go_wp2_with fail
        go_quiet (first
          | (go_at_call 19; exact Calls.quiet_of_same (HCW.out _))
          | (go_at_call 11; exact Calls.quiet_of_same (HCS.out _)))
        go_wp2_with fail
        go_ret3
        exact opened_none w _ 21 (only_drewN (Only.refl _ _) _)
      · rw [hV]
        rw [if_neg (show ¬ cap = 5 by omega)] at hA5
        subst hA5
        have hread := read_val _ _ w hrow5 a m true hr
        have hm10 := (readV_bound (B.drop 5) 0 0 (by decide) (by decide) (by omega)).2
        rw [hr] at hm10
        have hm10 : m ≤ 10 := hm10
        have eG : (5 : Int) + (m : Int) = (G : Int) := by omega
        have eE : (G : Int) + (a : Int) = (E : Int) := by omega
        have hE2 : E ≤ 100000 := by omega
        have hEn : E < n := by omega
        have hGE : G ≤ E := by omega
        have i1 : (0 : Int) ≤ (E : Int) := by omega
        have i2 : (E : Int) ≤ (n : Int) := by omega
        have i3 : (n : Int) ≤ (cap : Int) := by omega
        have i4 : ¬ cap = E := by omega
        have i5 : (E : Int) ≤ (cap : Int) := by omega
        have i6 : (G : Int) ≤ (E : Int) := by omega
        have i7 : (0 : Int) ≤ (G : Int) := by omega
        have i8 : ¬ cap = G := by omega
        have i9 : (4 : Int) < (n : Int) := by omega
        have hcmp : ((n : Int) != (E : Int) + 4) = false := by rw [bne_eq_false_iff_eq]; omega
        have hrowS := hrow.sub (by omega) 0 E (by omega)
        rw [List.drop_zero, Nat.add_zero, Nat.sub_zero] at hrowS
        have hrowW := hrow.sub (by omega) E (n - E) (by omega)
        rw [List.take_of_length_le (by simp; omega)] at hrowW
        have hW8 : ∀ x ∈ B.drop E, x < 256 := fun x hx => h7 x (List.mem_of_mem_drop hx)
        have hWl : (B.drop E).length = 4 := by simp; omega
        have hword := word_four (B.drop E) hWl hW8 (sumOf (B.take E)) (sumOf_lt _)
        have hcs := fun q => flip_q (sum_any _ _ (w.drewN q) (hrowS.kept (only_drewN (Only.refl _ _) q)))
        have hcw := fun q => flip_q (word_any _ _ (w.drewN q) (hrowW.kept (only_drewN (Only.refl _ _) q)))
        obtain ⟨X, hX⟩ : ∃ X, sumOf (B.take E) = X := ⟨_, rfl⟩
        obtain ⟨Y, hY⟩ : ∃ Y, wordN (B.drop E) = Y := ⟨_, rfl⟩
        simp only [hX, hY] at hcs hcw hword hS
        have hXY : ((Y : Int) != (X : Int)) = false := by
          rw [bne_eq_false_iff_eq, hword.2 hS]
        have HCS := Lib.hid hcs
        have HCW := Lib.hid hcw
        have hrowP := hrow.sub (by omega) G (E - G) (by omega)
        rw [show E - G = a by omega] at hrowP
        have hBP : ((B.drop G).take a).length = a := by simp; omega
        obtain ⟨c4, hc4⟩ : ∃ c, B[4]? = some c := ⟨_, List.getElem?_eq_getElem (by omega)⟩
        have hg4 : B.getD 4 0 = c4 := by rw [List.getD, hc4]; rfl
        have cell4 : w.cell? ⟨b, off + 4, none⟩ = some (.int .u8 c4) := h6 4 _ (by simp [U8s, hc4])
        have hga : E - G = a := by omega
        rw [hg4]
        obtain ⟨P, hP⟩ : ∃ P, (B.drop G).take a = P := ⟨_, rfl⟩
        rw [hP] at hrowP hBP ⊢
        have HP := Lib.hid hBP
        have HROWP := Lib.hid hrowP
        have HGA := Lib.hid hga
        clear hV hr hrow5 hrow h6 h7 hW hn hG hE hnE hrowS hrowW hW8 hWl hword hcs hcw hX hY hS hrowP hBP hg4 hc4 hP hga
        obtain ⟨i0, hi, hz0, hz1, hz2⟩ := info_parts Try.info5
        go_enter Try.func10, Try.ntmps10
        go_wp2_with fail
        refine hread.mono ?_
        rintro e w1 ⟨rfl, rfl⟩
        go_wp2_with fail
        go_quiet (first
          | (go_at_call 19; exact Calls.quiet_of_same (HCW.out _))
          | (go_at_call 11; exact Calls.quiet_of_same (HCS.out _)))
        go_upto_region 14 with fail
        have ho2 : Only Nil w (w.drewN nq) := only_drewN (Only.refl _ _) _
        have hrowP := HROWP.out.kept ho2
        have cell2 := ho2.cell cell4 (fun h => h)
        obtain ⟨w2, hw2⟩ : ∃ w2, w.drewN nq = w2 := ⟨_, rfl⟩
        rw [hw2] at ho2 hrowP cell2 ⊢
        have ho2d : Only Nil w w2.drew := ho2.drew
        have cell2d : w2.drew.cell? ⟨b, off + 4, none⟩ = some (.int .u8 c4) := cell2
        obtain ⟨bp, hsrcP⟩ := hrowP.src
        have hsrcPd : Src w2.drew bp _ (U8s P) := hsrcP
        rw [← HGA.out] at hsrcPd
        have A1 := Lib.hid (show 0 + (U8s P).length ≤ maxLen by rw [U8s_len, HP.out]; simp [maxLen]; omega)
        have A2 := Lib.hid (show (0 + (U8s P).length) * 1 ≤ 140737488355328 by rw [U8s_len, HP.out]; omega)
        have A3 := Lib.hid (show w.heap.size ≤ w2.drew.heap.size from ho2d.size)
        clear hrowP hsrcP cell2 cell4 hw2
        go_region_held3 (fun w' => w'.cell? ⟨b, off + 4, none⟩ = some (.int .u8 c4)) (go_keep) (first
          | (refine step_append_src rfl _ _ 22 rfl w.heap.size 5 i0 (.int .u8 0) 1 Try.underlying22 hi hz0 hz1 hz2 rfl _ 0 [] rfl (World.ownsRow_nil _ _ _ _) bp _ (U8s P) rfl hsrcPd (U8s_one _) A1.out A2.out A3.out ?_; intro v9 w9 hown9 ho9; have hc9 := ho9.cell cell2d (fun h => by cases h)))
        all_goals (go_wp2_with fail; go_ret3)
        all_goals
          rw [List.nil_append, U8s_len, Nat.zero_add] at hown9
          exact ⟨_, rfl, hown9, ho2d.trans ho9 (fun _ _ h => by cases h)⟩
    · obtain ⟨T, hT⟩ : ∃ T, strOf (B.take 4) = T := ⟨_, rfl⟩
      have hne : (T.toList == [87, 65, 70, 82]) = false := by
        have e : (strOf [87, 65, 70, 82]).toList = [87, 65, 70, 82] := by rw [ByteArray.toList_eq]; rfl
        rw [← hT, ← e]
        exact strOf_ne (C := [87, 65, 70, 82]) (fun x hx => h7 x (List.mem_of_mem_take hx)) (by decide) hW
      have hV : openV B = (0, [], 20) := by unfold openV; rw [if_pos (Or.inr hW)]
      rw [hV]
      rw [hT] at hcv
      clear hV h6 h7 hrow hT hW
      go_enter Try.func10, Try.ntmps10
      go_wp2
      go_ret3
      exact opened_none w w 20 (Only.refl _ _)
end Go.Proofs.Ytgijepaohhekfaa
