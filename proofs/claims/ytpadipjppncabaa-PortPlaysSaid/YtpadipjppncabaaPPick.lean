/- Pick: a byte of the first port that has one. -/
import Derived.Test.YtpadipjppncabaaPAt
import Derived.OwnWalk
set_option linter.unusedSimpArgs false
set_option linter.unusedVariables false
namespace Go.Proofs.Ytpadipjppncabaa
open Go.RowKit Go.Conc M

/-- A port: its block, its channel's, its room, what is in it, is it closed. -/
structure PD where
  p : Nat
  c : Nat
  cap : Nat
  buf : List Int
  cl : Bool
def PD.here (q : PD) (w : World) : Prop := PAt w q.p q.c q.cap q.buf q.cl
def pdV : Option PD → Value
  | none => .pointer none
  | some q => ptr q.p
def emptyP (o : Option PD) : Prop := ∀ q, o = some q → q.buf = []
def PickPost (w : World) (L : List (Option PD)) (e : Ending) (w' : World) : Prop :=
  (∃ (k : Nat) (q : PD) (x : Int) (rest : List Int), (∀ (i : Nat) (o : Option PD), i < k → L[i]? = some o → emptyP o) ∧ L[k]? = some (some q) ∧ q.buf = x :: rest ∧ e = .returned (.tuple #[.int .i64 (k : Nat), .int .u8 x, .bool true]) ∧ PAt w' q.p q.c q.cap rest q.cl ∧ Only (Two q.p q.c) w w') ∨
  ((∀ (i : Nat) (o : Option PD), L[i]? = some o → emptyP o) ∧ e = .returned (.tuple #[.int .i64 0, .int .u8 0, .bool false]) ∧ w' = w)

set_option maxRecDepth 100000 in
set_option maxHeartbeats 3200000 in
theorem pick_any (b : Nat) (sv : Value) (L : List (Option PD)) (w : World) (hs : Src w b sv (L.map pdV)) (hL : ∀ (i : Nat) (q : PD), L[i]? = some (some q) → q.here w) (hn : L.length ≤ 1000) :
    Calls Try.prog 28 #[sv] w (PickPost w L) := by
  obtain ⟨ao, cap, off, rfl, p1, p2, p3⟩ := hs
  rw [List.length_map] at p1 ⊢
  obtain ⟨n, hnn⟩ : ∃ n, L.length = n := ⟨_, rfl⟩
  rw [hnn] at p1 hn ⊢
  have HN := Lib.hid hnn
  have H1 := Lib.hid p3
  have G1 := Lib.hid p1
  have HL := Lib.hid hL
  clear p1 p2 p3 hL hnn
  go_enter Try.func28, Try.ntmps28
  go_wp2_with fail
  go_loopg [11] n (fun g i wr => ∃ (k : Nat), i = .int .i64 (k : Int) ∧ k ≤ n ∧ g = n - k ∧ wr = w ∧ ∀ (i : Nat) (o : Option PD), i < k → L[i]? = some o → emptyP o)
  case atStart => exact ⟨0, rfl, Nat.zero_le _, rfl, rfl, fun i o hi => by omega⟩
  case round =>
    obtain ⟨k, rfl, hk, hg, rfl, hE⟩ := hrel
    have HG := Lib.hid hg
    have HE := Lib.hid hE
    clear hg hE
    have k0 : (0 : Int) ≤ (k : Int) := Int.natCast_nonneg _
    by_cases hkn : k < n
    · have k1 : (k : Int) < (n : Int) := by omega
      obtain ⟨o, ho⟩ : ∃ o, L[k]? = some o := ⟨_, List.getElem?_eq_getElem (by rw [HN.out]; exact hkn)⟩
      have e1 := G1.out (by omega)
      subst e1
      have t1 := H1.out k _ (show (L.map pdV)[k]? = some (pdV o) by rw [List.getElem?_map, ho]; rfl)
      have hlt := World.block_lt_of_cell? wr _ t1
      cases o with
      | none =>
        have HE2 := Lib.hid (show ∀ (i : Nat) (o : Option PD), i < k + 1 → L[i]? = some o → emptyP o from fun i o hi h => by
          by_cases hik : i = k
          · subst hik
            rw [ho] at h
            injection h with h
            subst h
            exact fun q e => by cases e
          · exact HE.out i o (by omega) h)
        unfold pdV at t1
        clear ho
        go_wp2_with fail
        go_roundg (n - (k + 1))
        case measure => have := HG.out; omega
        case rel => exact ⟨k + 1, by go_num, by omega, rfl, rfl, HE2.out⟩
      | some q =>
        have hq := HL.out k q ho
        have HO := Lib.hid ho
        obtain ⟨p, c, cp, buf, cl⟩ := q
        unfold pdV ptr at t1
        unfold PD.here at hq
        simp only at t1 hq
        cases buf with
        | nil =>
          have cP := pollN hq
          unfold ptr at cP
          have HE2 := Lib.hid (show ∀ (i : Nat) (o : Option PD), i < k + 1 → L[i]? = some o → emptyP o from fun i o hi h => by
            by_cases hik : i = k
            · subst hik
              rw [HO.out] at h
              injection h with h
              subst h
              exact fun q e => by injection e with e; subst e; rfl
            · exact HE.out i o (by omega) h)
          clear ho hq
          go_wp2_with fail
          refine cP.mono ?_
          rintro e w1 ⟨rfl, rfl⟩
          clear cP
          go_wp2_with fail
          go_roundg (n - (k + 1))
          case measure => have := HG.out; omega
          case rel => exact ⟨k + 1, by go_num, by omega, rfl, rfl, HE2.out⟩
        | cons x rest =>
          have cP := pollS hq
          unfold ptr at cP
          clear ho hq
          go_wp2_with fail
          refine cP.mono ?_
          rintro e w1 ⟨rfl, hp1, ho1⟩
          have HP1 := Lib.hid hp1
          have HO1 := Lib.hid ho1
          clear cP hp1 ho1
          go_wp2_with fail
          go_ret3
          exact Or.inl ⟨k, _, x, rest, HE.out, HO.out, rfl, rfl, HP1.out, HO1.out⟩
    · have hkn' : k = n := by omega
      subst hkn'
      have k1 : (k : Int) ≤ (k : Int) := Int.le_refl _
      go_wp2_with fail
      go_ret3
      exact Or.inr ⟨fun i o h => HE.out i o (by have := (List.getElem?_eq_some_iff.1 h).1; rw [HN.out] at this; exact this) h, rfl, rfl⟩
end Go.Proofs.Ytpadipjppncabaa
