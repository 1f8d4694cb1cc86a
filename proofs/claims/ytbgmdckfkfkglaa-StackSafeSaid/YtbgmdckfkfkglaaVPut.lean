/- Put and PutVar: a number behind others. -/
import Derived.Test.YtbgmdckfkfkglaaVBase
set_option linter.unusedSimpArgs false
set_option linter.unusedVariables false
namespace Go.Proofs.Ytbgmdckfkfkglaa
open Go.RowKit M

theorem part_last (v : Nat) (h : v < 128) : IntKind.u8.wrap (v : Int) = (v : Int) := by rw [wrap_u8, Nat.mod_eq_of_lt (by omega)]
theorem part_more (v : Nat) : bits .or .u8 ((v : Int) % 256) 128 = ((v % 128 + 128 : Nat) : Int) := by
  rw [show (v : Int) % 256 = ((v % 256 : Nat) : Int) by omega, or_128 _ (Nat.mod_lt _ (by decide))]; congr 2; omega

set_option maxHeartbeats 400000 in
theorem put_any (b : Nat) (s : Value) (B : List Nat) (v : Nat) (w : World) (hs : Src w b s (U8s B)) (hv : v < 18446744073709551616) (hl : B.length ≤ 1099511627776) :
    Calls Try.prog 66 #[s, .int .u64 v] w (NewRow 5 w (U8s (B ++ putVar v))) := by
  obtain ⟨n, hn⟩ : ∃ n, B.length = n := ⟨_, rfl⟩
  have hsrc := hs
  obtain ⟨ao, cap, off, rfl, hs2, hs3, hs4⟩ := hs.opened (n := n) (by simpa [U8s] using hn)
  rw [hn] at hl
  have HN := Lib.hid hn
  clear hn hs2 hs3 hs4 hs
  obtain ⟨i0, hi, hz0, hz1, hz2⟩ := info_parts Try.info5
  go_enter Try.func66, Try.ntmps66
  go_wp2_with (with_reducible refine wpList_make_own _ rfl _ _ 35 rfl w.heap.size 5 i0 (.int .u8 0) 1 Try.underlying35 hi hz0 hz1 _ _ _ (n + 10) rfl rfl ?c1 ?c2 ?c3 ?c4 ?_)
  case c1 => omega
  case c2 => rw [hz2]; omega
  case c3 => simp [maxLen]; omega
  case c4 => omega
  intro w1 hown1 ho1
  have ho := (Only.of_grown ho1).mono (T := Nil) (fun k h => by cases h)
  have hsrc1 := hsrc.kept ho (fun _ h => h)
  have hsz1 := ho.size
  go_wp2_with (at_builtin; refine wpList_append_src rfl _ _ 35 rfl w.heap.size 5 i0 (.int .u8 0) 1 Try.underlying35 hi hz0 hz1 hz2 rfl _ _ _ rfl hown1 b _ (U8s B) rfl hsrc1 (U8s_one _) ?c1 ?c2 ?c3 ?_)
  case c1 => simp [maxLen, U8s, HN.out]; omega
  case c2 => simp [U8s, HN.out]; omega
  case c3 => omega
  intro v1 w2 hown2 hv2 ho2
  have ho3 : Only Nil w w2 := ho.nil_own hown1 ho2
  rw [U8s_len] at hown2
  have hvl := putVar_len v hv
  have hC0 : ∃ C : List Nat, C ++ putVar v = B ++ putVar v ∧ w2.ownsRow w.heap.size 5 1 v1 C.length (U8s C) ∧ Only Nil w w2 := ⟨B, rfl, hown2, ho3⟩
  clear hv2 ho2 hown2 ho3 hsrc1 hown1 ho1 ho hsrc hsz1
  go_wp2_with fail
  go_loopg [1, 5] v (fun g x s wr => g < 18446744073709551616 ∧ x = .int .u64 (g : Int) ∧ ∃ C : List Nat, C ++ putVar g = B ++ putVar v ∧ wr.ownsRow w.heap.size 5 1 s C.length (U8s C) ∧ Only Nil w wr)
  case atStart => exact ⟨hv, rfl, hC0⟩
  case round =>
    clear hC0
    obtain ⟨hg, rfl, C, hC, hown, ho⟩ := hrel
    obtain ⟨g, rfl⟩ : ∃ g, g = gk := ⟨gk, rfl⟩
    have hCl : C.length ≤ n + 10 := by
      have := congrArg List.length hC
      simp only [List.length_append] at this
      rw [HN.out] at this
      omega
    have hsz := ho.size
    by_cases h128 : g < 128
    · have hd : decide ((128 : Int) ≤ (g : Int)) = false := by simp; omega
      rw [putVar_small h128] at hC
      have HC := Lib.hid hC
      have HP := Lib.hid (part_last g h128)
      clear hC
      go_wp2_with (with_reducible refine wpList_append_one rfl _ _ 35 rfl w.heap.size 5 i0 (.int .u8 0) 1 Try.underlying35 hi hz0 hz1 hz2 rfl _ _ _ rfl hown _ rfl rfl ?c4 ?c5 ?c6 ?_)
      case c4 => simp [maxLen]; omega
      case c5 => omega
      case c6 => omega
      intro gb capb w1 hown1 hc1 hc2 hg1 ho1
      have ho2 := ho.nil_own hown ho1
      clear hc1 hc2 hg1 ho1 hown ho
      go_wp2_with fail
      go_ret
      refine ⟨_, rfl, ?_, ho2⟩
      rw [← HC.out]
      simpa [U8s] using hown1
    · have hd : decide ((128 : Int) ≤ (g : Int)) = true := by simp; omega
      rw [putVar_more h128] at hC
      have HC := Lib.hid hC
      have HP := Lib.hid (part_more g)
      clear hC
      go_wp2_with (with_reducible refine wpList_append_one rfl _ _ 35 rfl w.heap.size 5 i0 (.int .u8 0) 1 Try.underlying35 hi hz0 hz1 hz2 rfl _ _ _ rfl hown _ rfl rfl ?c7 ?c8 ?c9 ?_)
      case c7 => simp [maxLen]; omega
      case c8 => omega
      case c9 => omega
      intro gb capb w1 hown1 hc1 hc2 hg1 ho1
      have ho2 := ho.nil_own hown ho1
      clear hc1 hc2 hg1 ho1 hown ho
      go_wp2_with fail
      go_roundg (g / 128)
      case measure => omega
      case rel =>
        refine ⟨by omega, by go_num, C ++ [g % 128 + 128], ?_, ?_, ho2⟩
        · have := HC.out
          simpa using this
        · rw [HP.out] at hown1
          simpa [U8s] using hown1

/-- What may be appended to, so that new memory is made: a row of one's own, or any slice without spare room. -/
def AppRow (w0 wr : World) (s : Value) (B : List Nat) : Prop :=
  wr.ownsRow w0.heap.size 5 1 s B.length (U8s B) ∨ ∃ x, s = .slice (some x) B.length B.length ∧ ∀ j u, (U8s B)[j]? = some u → wr.cell? (x.add j) = some u

section
variable {P : Program} {w : World}
theorem wpList_append_app {ops : Array Oper} {rest : List Oper} {o : Oper} {a : Act} {Q : Exit → Act → World → Prop} (hgd : o.guard = none) (s x : Operand) (t : TypeId)
    (ho : o.op = .call { callee := .builtin .append, args := #[s, x], argTypes := #[t, t] })
    (w0 : World) (i : TypeInfo) (z : Value) (ht : P.underlying t = some (.slice 5)) (hi : P.info? 5 = some i) (hz : i.zero = some z)
    (hsize : i.size = 1) (hby : i.bytes = 1) (hzs : z.cells.size = 1)
    (v : Value) (B : List Nat) (hs : a.eval s = v) (happ : AppRow w0 w v B) (x0 : Value) (c : Nat) (hx0 : x0 = .int .u8 c)
    (hx : a.eval x = .slice (some ⟨w.heap.size, 0, none⟩) 1 1) (h63 : B.length + 1 ≤ 1099511627776) (hbase : Only Nil w0 w)
    (h : ∀ v' w', w'.ownsRow w0.heap.size 5 1 v' (B ++ [c]).length (U8s (B ++ [c])) → Only Nil w0 w' → wpList P ops Q rest (a.put o.dst v') w') :
    wpList P ops Q (o :: rest) a (w.alloc (.cells #[x0] 5)) := by
  have hb := hbase.size
  have e1 : U8s (B ++ [c]) = U8s B ++ [x0] := by rw [U8s_append, hx0]; rfl
  have e2 : (B ++ [c]).length = B.length + 1 := by simp
  rcases happ with hown | ⟨y, rfl, hc⟩
  · refine wpList_append_one hgd s x t ho w0.heap.size 5 i z 1 ht hi hz hsize hby hzs v B.length (U8s B) hs hown x0 (by rw [hx0]; rfl) hx (by simp [maxLen]; omega) (by omega) hb ?_
    intro g cap w' h2 h3 h4 h5 h6
    refine h _ w' (by rw [e1, e2]; exact h2) (hbase.nil_own hown h6)
  · refine wpList_plain hgd fun K hK => ?_
    have hr := run_append_grow (P := P) (w.alloc (.cells #[x0] 5)) t o.type 5 i z ht hi hz y B.length B.length (U8s B) (by rw [hsize, U8s_len]; omega)
      (fun j u hj => by
        have := hc j u hj
        exact ((Only.refl Nil w).alloc (.cells #[x0] 5)).cell this (fun h => h))
      ⟨w.heap.size, 0, none⟩ 1 1 [x0] (by rw [hsize]; rfl)
      (by
        intro j u hj
        match j, hj with
        | 0, hj => simp at hj; subst hj; simp [Addr.add]) (by omega) (by omega) (growslice_fits (by omega) (by rw [hby]; omega))
    unfold Oper.wp execOp
    simp only [ho, resolve, invoke, builtin, Sem.run_bind, Sem.run_pure, Result.andThen_ok, List.map_toArray, List.map_cons, List.map_nil, hs, hx, hr]
    have hge := grownCap_ge (w.alloc (.cells #[x0] 5)) (B.length + 1) B.length 5
    have hcm : grownCap (w.alloc (.cells #[x0] 5)) (B.length + 1) B.length 5 ≤ maxLen := grownCap_le_maxLen _ (B.length + 1) B.length 5 (by simp [maxLen]; omega)
    refine hK _ _ (h _ _ ?_ ?_)
    · rw [e1, e2]
      refine ⟨by simp [U8s_len], .inr ⟨_, _, _, rfl, ?_, heap_alloc_new (w.alloc (.cells #[x0] 5)).drew _, hge, hcm, ?_, ?_⟩⟩
      · simp; omega
      · simp only [Array.size_append, List.size_toArray, size_zeroCells, hzs, U8s_len, List.length_singleton]
        omega
      · simp only [Array.toList_append, List.append_assoc]
        rw [← List.append_assoc]
        refine List.take_left' ?_
        simp [U8s_len]
    · exact ((hbase.alloc _).drew).alloc _
end

end Go.Proofs.Ytbgmdckfkfkglaa
