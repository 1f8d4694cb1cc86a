/- Bytes go from one port into another. -/
import Derived.Test.YtpadipjppncabaaPRoom
import Derived.Test.YtpadipjppncabaaPFill
import Derived.Lib.MinMax
set_option linter.unusedSimpArgs false
set_option linter.unusedVariables false
namespace Go.Proofs.Ytpadipjppncabaa
open Go.RowKit Go.Conc M

theorem min3 (ts : Array TypeId) (t : TypeId) (w : World) (x y z N : Int) (h : min (min x y) z = N) :
    (Builtin.min_ ts t #[.int .i64 x, .int .i64 y, .int .i64 z]).run Try.prog w = .ok (.int .i64 N) w := by
  have e : (if z < (if y < x then y else x) then z else (if y < x then y else x)) = N := by
    rw [← h]
    simp only [Int.min_def]
    repeat' split
    all_goals omega
  simp [Builtin.min_, Builtin.min2, e]
def Four (f d p c : Nat) : Nat → Prop := fun k => Two f d k ∨ Two p c k
/-- How many bytes are pumped. -/
def pumpN (most : Int) (n : Nat) (r : Int) : Nat := (min (min (max most 0) n) r).toNat
theorem pumpN_le (most : Int) (n : Nat) (r : Int) : pumpN most n r ≤ n := by unfold pumpN; omega
theorem pumpN_room (most : Int) (n : Nat) (r : Int) (h : 0 ≤ r) : (pumpN most n r : Int) ≤ r := by unfold pumpN; omega
theorem pumpN_min (most : Int) (n : Nat) (r : Int) (h : 0 ≤ r) : min (min (max most 0) (n : Int)) r = (pumpN most n r : Int) := by unfold pumpN; omega
theorem roomOf_nonneg {cl : Bool} {p f cap n : Nat} (h : n ≤ cap) : 0 ≤ roomOf cl p f cap n := by
  unfold roomOf
  split
  · omega
  · split <;> omega

set_option maxRecDepth 100000 in
set_option maxHeartbeats 3200000 in
theorem pump_two (f d capF p c cap : Nat) (x y : List Int) (clF cl : Bool) (most : Int) (w : World) (hF : PAt w f d capF x clF) (hP : PAt w p c cap y cl) (hoff : ∀ k, Two f d k → ¬ Two p c k) (hx : x.length ≤ 4096) (hb : y.length ≤ cap) (hcap : cap ≤ 4096) :
    Calls Try.prog 15 #[ptr f, ptr p, .int .i64 most] w fun e w' => ∃ n, n = pumpN most x.length (roomOf cl p f cap y.length) ∧ e = .returned (.int .i64 (n : Nat)) ∧ PAt w' f d capF (x.drop n) clF ∧ PAt w' p c cap (y ++ x.take n) cl ∧ Only (Four f d p c) w w' := by
  have cR := room_any p c cap f y cl w hP _ hF.1 hb hcap
  have hr := roomOf_nonneg (cl := cl) (p := p) (f := f) hb
  have hN1 := pumpN_le most x.length (roomOf cl p f cap y.length)
  have hN2 := pumpN_room most x.length (roomOf cl p f cap y.length) hr
  have hN3 := pumpN_min most x.length (roomOf cl p f cap y.length) hr
  have hN4 : cl = false → y.length + pumpN most x.length (roomOf cl p f cap y.length) ≤ cap := fun e => by
    subst e
    have : p ≠ f := fun e => hoff f (Or.inl rfl) (Or.inl e.symm)
    simp only [roomOf, this, if_false, Bool.false_eq_true] at hN2 ⊢
    omega
  have hN5 : cl = true → pumpN most x.length (roomOf cl p f cap y.length) = 0 := fun e => by
    subst e
    simp only [roomOf, if_true] at hN2 ⊢
    omega
  obtain ⟨N, hNN⟩ : ∃ N, pumpN most x.length (roomOf cl p f cap y.length) = N := ⟨_, rfl⟩
  obtain ⟨r, hrr⟩ : ∃ r, roomOf cl p f cap y.length = r := ⟨_, rfl⟩
  rw [hNN] at hN1 hN2 hN3 hN4 hN5
  rw [hrr] at cR hN3
  have c0 := hF.c0
  have hlt := hF.1.lt
  obtain ⟨s, r', hc⟩ := hF.2.1
  obtain ⟨m, hm⟩ : ∃ m, x.length = m := ⟨_, rfl⟩
  have hlen0 : ∀ (ty : TypeId), (Builtin.len_ #[56] ty #[.chan (some d)]).run Try.prog w = .ok (.int .i64 (m : Nat)) w := fun ty => by
    have := run_len_chan (P := Try.prog) (w := w) 56 ty Try.underlying56 hc
    rw [this]
    simp [B8, goInt, hm]
  rw [hm] at hN3 hN1
  have hNB : N ≤ 4096 := by omega
  have hmin := fun ts t w => min3 ts t w _ _ _ _ hN3
  have HF := Lib.hid hF
  have HP := Lib.hid hP
  have HN := Lib.hid hNN
  have HN1 := Lib.hid hN1
  have HN4 := Lib.hid hN4
  have HN5 := Lib.hid hN5
  have HM := Lib.hid hm
  have HOFF := Lib.hid hoff
  rw [hrr]
  have HRR := Lib.hid hrr
  clear hF hP hc hx hb hcap hr hN1 hN2 hN3 hN4 hN5 hNN hm hoff hrr
  unfold ptr at *
  go_enter Try.func15, Try.ntmps15
  go_wp2_with fail
  refine cR.mono ?_
  rintro e w1 ⟨rfl, o1⟩
  have h1 := HF.out.kept o1 (fun h => h) (fun h => h)
  have h2 := HP.out.kept o1 (fun h => h) (fun h => h)
  have H1 := Lib.hid h1
  have H2 := Lib.hid h2
  have O1 := Lib.hid o1
  clear cR c0 hlen0 h1 h2 o1 hlt
  go_wp2_with fail
  clear hmin
  go_loopg [29] N (fun g i wr => ∃ (k : Nat), i = .int .i64 (k : Int) ∧ k ≤ N ∧ g = N - k ∧ PAt wr f d capF (x.drop k) clF ∧ PAt wr p c cap (y ++ x.take k) cl ∧ Only (Four f d p c) w wr)
  case atStart => exact ⟨0, rfl, Nat.zero_le _, rfl, H1.out, by simpa using H2.out, O1.out.mono (fun _ h => h.elim)⟩
  case round =>
    clear H1 H2 O1
    obtain ⟨k, rfl, hk, hg, hA, hB, ho⟩ := hrel
    have HG := Lib.hid hg
    have HO := Lib.hid ho
    have HB := Lib.hid hB
    clear hg
    have k0 : (0 : Int) ≤ (k : Int) := Int.natCast_nonneg _
    by_cases hkn : k < N
    · have k1 : (k : Int) < (N : Int) := by omega
      obtain ⟨z, hz⟩ : ∃ z, x[k]? = some z := ⟨_, List.getElem?_eq_getElem (by rw [HM.out]; have := HN1.out; omega)⟩
      have e1 : x.drop k = z :: x.drop (k + 1) := by
        obtain ⟨h1, h2⟩ := List.getElem?_eq_some_iff.1 hz
        rw [List.drop_eq_getElem_cons h1, h2]
      rw [e1] at hA
      have cP := pollS hA
      have HZ := Lib.hid hz
      unfold ptr at cP
      clear hA hB ho e1 hz
      go_wp2_with fail
      refine cP.mono ?_
      rintro e w2 ⟨rfl, h3, o3⟩
      have h4 := HB.out.kept o3 (fun h => HOFF.out p h (Or.inl rfl)) (fun h => HOFF.out c h (Or.inr rfl))
      have cO := offerP h4 z
      have hfit : fits cap (y ++ x.take k) cl = true := by
        have hcl : cl = false := by cases hcl : cl with
          | false => rfl
          | true => have := HN5.out hcl; omega
        have := HN4.out hcl
        have h9 : (x.take k).length ≤ k := by simp [List.length_take]; omega
        rw [hcl]
        simp [fits]
        omega
      rw [hfit] at cO
      simp only [if_true] at cO
      have H3 := Lib.hid h3
      have O3 := Lib.hid o3
      unfold ptr at cO
      clear cP h3 o3 h4 hfit
      go_wp2_with fail
      refine cO.mono ?_
      rintro e w3 ⟨rfl, h5, o5⟩
      have h6 := H3.out.kept o5 (fun h => HOFF.out f (Or.inl rfl) h) (fun h => HOFF.out d (Or.inr rfl) h)
      have H5 := Lib.hid h5
      have H6 := Lib.hid h6
      have O5 := Lib.hid o5
      clear cO h5 h6 o5
      go_wp2_with fail
      go_roundg (N - (k + 1))
      case measure => have := HG.out; omega
      case rel =>
        refine ⟨k + 1, by go_num, by omega, rfl, H6.out, ?_, (HO.out.trans O3.out (fun _ _ h => Or.inl h)).trans O5.out (fun _ _ h => Or.inr h)⟩
        have e2 : x.take (k + 1) = x.take k ++ [z] := by
          obtain ⟨h1, h2⟩ := List.getElem?_eq_some_iff.1 HZ.out
          rw [List.take_succ_eq_append_getElem h1, h2]
        rw [e2, ← List.append_assoc]
        exact H5.out
    · have hkn' : k = N := by omega
      subst hkn'
      have k1 : (k : Int) ≤ (k : Int) := Int.le_refl _
      have HA := Lib.hid hA
      clear hA hB ho
      go_wp2_with fail
      go_ret
      exact ⟨k, by rw [HM.out] at *; rw [← HN.out, HRR.out, HM.out], rfl, HA.out, HB.out, HO.out⟩

set_option maxRecDepth 100000 in
set_option maxHeartbeats 3200000 in
/-- A port's own bytes go round. -/
theorem pump_one (f d cap : Nat) (x : List Int) (cl : Bool) (most : Int) (w : World) (hF : PAt w f d cap x cl) (hb : x.length ≤ cap) (hcap : cap ≤ 4096) :
    Calls Try.prog 15 #[ptr f, ptr f, .int .i64 most] w fun e w' => ∃ n, n = pumpN most x.length (roomOf cl f f cap x.length) ∧ e = .returned (.int .i64 (n : Nat)) ∧ PAt w' f d cap (x.drop n ++ x.take n) cl ∧ Only (Two f d) w w' := by
  have cR := room_any f d cap f x cl w hF _ hF.1 hb hcap
  have hr := roomOf_nonneg (cl := cl) (p := f) (f := f) hb
  have hN1 := pumpN_le most x.length (roomOf cl f f cap x.length)
  have hN2 := pumpN_room most x.length (roomOf cl f f cap x.length) hr
  have hN3 := pumpN_min most x.length (roomOf cl f f cap x.length) hr
  have hN5 : cl = true → pumpN most x.length (roomOf cl f f cap x.length) = 0 := fun e => by
    subst e
    simp only [roomOf, if_true] at hN2 ⊢
    omega
  obtain ⟨N, hNN⟩ : ∃ N, pumpN most x.length (roomOf cl f f cap x.length) = N := ⟨_, rfl⟩
  obtain ⟨r, hrr⟩ : ∃ r, roomOf cl f f cap x.length = r := ⟨_, rfl⟩
  rw [hNN] at hN1 hN2 hN3 hN5
  rw [hrr] at cR hN3
  have c0 := hF.c0
  have hlt := hF.1.lt
  obtain ⟨s, r', hc⟩ := hF.2.1
  obtain ⟨m, hm⟩ : ∃ m, x.length = m := ⟨_, rfl⟩
  have hlen0 : ∀ (ty : TypeId), (Builtin.len_ #[56] ty #[.chan (some d)]).run Try.prog w = .ok (.int .i64 (m : Nat)) w := fun ty => by
    have := run_len_chan (P := Try.prog) (w := w) 56 ty Try.underlying56 hc
    rw [this]
    simp [B8, goInt, hm]
  rw [hm] at hN3 hN1
  have hNB : N ≤ 4096 := by omega
  have hmin := fun ts t w => min3 ts t w _ _ _ _ hN3
  have HF := Lib.hid hF
  have HN := Lib.hid hNN
  have HN1 := Lib.hid hN1
  have HN5 := Lib.hid hN5
  have HM := Lib.hid hm
  have HBB := Lib.hid hb
  rw [hrr]
  have HRR := Lib.hid hrr
  clear hF hc hb hcap hr hN1 hN2 hN3 hN5 hNN hm hrr
  unfold ptr at *
  go_enter Try.func15, Try.ntmps15
  go_wp2_with fail
  refine cR.mono ?_
  rintro e w1 ⟨rfl, o1⟩
  have h1 := HF.out.kept o1 (fun h => h) (fun h => h)
  have H1 := Lib.hid h1
  have O1 := Lib.hid o1
  clear cR c0 hlen0 h1 o1 hlt
  go_wp2_with fail
  clear hmin
  go_loopg [29] N (fun g i wr => ∃ (k : Nat), i = .int .i64 (k : Int) ∧ k ≤ N ∧ g = N - k ∧ PAt wr f d cap (x.drop k ++ x.take k) cl ∧ Only (Two f d) w wr)
  case atStart => exact ⟨0, rfl, Nat.zero_le _, rfl, by simpa using H1.out, O1.out.mono (fun _ h => h.elim)⟩
  case round =>
    clear H1 O1
    obtain ⟨k, rfl, hk, hg, hA, ho⟩ := hrel
    have HG := Lib.hid hg
    have HO := Lib.hid ho
    clear hg
    have k0 : (0 : Int) ≤ (k : Int) := Int.natCast_nonneg _
    by_cases hkn : k < N
    · have k1 : (k : Int) < (N : Int) := by omega
      obtain ⟨z, hz⟩ : ∃ z, x[k]? = some z := ⟨_, List.getElem?_eq_getElem (by rw [HM.out]; have := HN1.out; omega)⟩
      have e1 : x.drop k = z :: x.drop (k + 1) := by
        obtain ⟨h1, h2⟩ := List.getElem?_eq_some_iff.1 hz
        rw [List.drop_eq_getElem_cons h1, h2]
      rw [e1, List.cons_append] at hA
      have cP := pollS hA
      have HZ := Lib.hid hz
      unfold ptr at cP
      clear hA ho e1 hz
      go_wp2_with fail
      refine cP.mono ?_
      rintro e w2 ⟨rfl, h3, o3⟩
      have cO := offerP h3 z
      have hfit : fits cap (x.drop (k + 1) ++ x.take k) cl = true := by
        have hcl : cl = false := by cases hcl : cl with
          | false => rfl
          | true => have := HN5.out hcl; omega
        have h7 := HN1.out
        have h8 := HM.out
        have h9 := HBB.out
        rw [hcl]
        simp [fits]
        omega
      rw [hfit] at cO
      simp only [if_true] at cO
      have O3 := Lib.hid o3
      unfold ptr at cO
      clear cP h3 o3 hfit
      go_wp2_with fail
      refine cO.mono ?_
      rintro e w3 ⟨rfl, h5, o5⟩
      have H5 := Lib.hid h5
      have O5 := Lib.hid o5
      clear cO h5 o5
      go_wp2_with fail
      go_roundg (N - (k + 1))
      case measure => have := HG.out; omega
      case rel =>
        refine ⟨k + 1, by go_num, by omega, rfl, ?_, (HO.out.trans O3.out (fun _ _ h => h)).trans O5.out (fun _ _ h => h)⟩
        have e2 : x.take (k + 1) = x.take k ++ [z] := by
          obtain ⟨h1, h2⟩ := List.getElem?_eq_some_iff.1 HZ.out
          rw [List.take_succ_eq_append_getElem h1, h2]
        rw [e2, ← List.append_assoc]
        exact H5.out
    · have hkn' : k = N := by omega
      subst hkn'
      have k1 : (k : Int) ≤ (k : Int) := Int.le_refl _
      have HA := Lib.hid hA
      clear hA ho
      go_wp2_with fail
      go_ret
      exact ⟨k, by rw [← HN.out, HRR.out, HM.out], rfl, HA.out, HO.out⟩
theorem pump_nil1 (q : Value) (most : Int) (w : World) : Calls Try.prog 15 #[.pointer none, q, .int .i64 most] w fun e w' => e = .returned (.int .i64 0) ∧ w = w' := by
  go_enter Try.func15, Try.ntmps15
  go_wp2_with fail
  go_ret
  exact ⟨rfl, rfl⟩
theorem pump_nil2 (f : Nat) (most : Int) (w : World) : Calls Try.prog 15 #[ptr f, .pointer none, .int .i64 most] w fun e w' => e = .returned (.int .i64 0) ∧ w = w' := by
  unfold ptr
  go_enter Try.func15, Try.ntmps15
  go_wp2_with fail
  go_ret
  exact ⟨rfl, rfl⟩
end Go.Proofs.Ytpadipjppncabaa
