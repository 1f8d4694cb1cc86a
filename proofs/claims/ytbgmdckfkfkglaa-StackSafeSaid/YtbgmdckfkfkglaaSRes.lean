/- What the stack machine has written, and how it ended. -/
import Derived.Test.YtbgmdckfkfkglaaSOk
import Derived.Test.YtbgmdckfkfkglaaSrc
import Derived.Deep.RegionHeld3
import Derived.Deep.RegionLaw
import Derived.Handy
set_option linter.unusedSimpArgs false
set_option linter.unusedVariables false
namespace Go.Proofs.Ytbgmdckfkfkglaa
open Go.RowKit M
variable {Q : Nat → Prop}

section
variable {P : Program} {w : World}
/-- append of what lies anywhere, as one step of a region that draws. -/
theorem step_append_from {ops : Array Oper} {o : Oper} {a : Act} {K : Act → World → Prop} {Q : Exit → Act → World → Prop} {E : Prop} (hgd : o.guard = none) (s x : Operand) (t : TypeId)
    (ho : o.op = .call { callee := .builtin .append, args := #[s, x], argTypes := #[t, t] })
    (base : Nat) (e : TypeId) (i : TypeInfo) (z : Value) (bytes : Nat) (ht : P.underlying t = some (.slice e)) (hi : P.info? e = some i) (hz : i.zero = some z)
    (hsize : i.size = 1) (hby : i.bytes = bytes) (hzs : z.cells.size = 1)
    (v : Value) (n : Nat) (xs : List Value) (hs : a.eval s = v) (hown : w.ownsRow base e 1 v n xs)
    (b : Nat) (sv : Value) (news : List Value) (hx : a.eval x = sv) (hsrc : Src w b sv news) (h1 : ∀ u ∈ news, u.oneCell' = true)
    (h63 : n + news.length ≤ maxLen) (hbytes : (n + news.length) * bytes ≤ 140737488355328) (hbase : base ≤ w.heap.size)
    (h : ∀ v' w', w'.ownsRow base e 1 v' (n + news.length) (xs ++ news) → Only (Own v.ownBlock) w w' → K (a.put o.dst v') w') :
    if Region.wanted o (yielded ops a.tmps) = true then Oper.wp P o a w K Q else E := by
  have hw : Region.wanted o (yielded ops a.tmps) = true := by simp [Region.wanted, hgd]
  rw [if_pos hw]
  obtain ⟨ao, cap, off, rfl, hs2, hs3, hs4⟩ := hsrc
  have hrun : ∃ v' w', (Builtin.append_ #[t, t] o.type #[v, .slice ao news.length cap]).run P w = .ok v' w' ∧ w'.ownsRow base e 1 v' (n + news.length) (xs ++ news) ∧ Only (Own v.ownBlock) w w' := by
    cases ao with
    | none =>
      have hn : news = [] := by
        cases news with
        | nil => rfl
        | cons y t => have := hs2 (by simp); simp at this
      subst hn
      have hc := hs3 rfl
      subst hc
      exact ⟨v, w, run_append_owned_none (P := P) (w := w) base t o.type e i 1 ht hi v n xs hown, by simpa using hown, Only.refl _ _⟩
    | some ad =>
      obtain ⟨v', w', hr, h2, h3, _⟩ := run_append_row (P := P) base t o.type e i z 1 bytes ht hi hz hsize hby hzs (by decide) v n xs hown ad news.length cap news (by simp)
        (by
          intro j u hj
          have hjl : j < news.length := (List.getElem?_eq_some_iff.1 hj).1
          have e1 := hs2 (by omega)
          injection e1 with e1
          rw [e1, addr_add, hs4 j u hj]) h1 h63 hbytes hbase
      exact ⟨v', w', hr, h2, Only.of_grown h3⟩
  obtain ⟨v', w', hr, h2, h3⟩ := hrun
  unfold Oper.wp execOp
  simp only [ho, resolve, invoke, builtin, Sem.run_bind, Sem.run_pure, Result.andThen_ok, List.map_toArray, List.map_cons, List.map_nil, hs, hx, hr]
  exact h v' w' h2 h3
end

theorem ownsRow_slice {w : World} {base : Nat} {e : TypeId} {size : Nat} {v : Value} {n : Nat} {xs : List Value} (h : w.ownsRow base e size v n xs) : ∃ ao m cap, v = .slice ao m cap := by
  rcases h.2 with ⟨rfl, _⟩ | ⟨g, cap, cur, rfl, _⟩
  · exact ⟨_, _, _, rfl⟩
  · exact ⟨_, _, _, rfl⟩
theorem ownsRow_apart {w : World} {base : Nat} {e : TypeId} {size : Nat} {v : Value} {n : Nat} {xs : List Value} (h : w.ownsRow base e size v n xs) {k : Nat} (hk : k < base) : v.ownBlock ≠ some k := by
  rcases h.2 with ⟨rfl, _⟩ | ⟨g, cap, cur, rfl, hb, _⟩
  · exact nofun
  · intro e; injection e with e; have e : g = k := e; omega
theorem U8s_len' (l : List Nat) : (U8s l).length = l.length := by simp [U8s]
theorem U8s_one' (l : List Nat) : ∀ u ∈ U8s l, u.oneCell' = true := by intro u hu; obtain ⟨x, _, rfl⟩ := List.mem_map.1 hu; rfl
set_option maxHeartbeats 1600000 in
/-- What a machine tells of its run. -/
theorem resultS_any (mb wb : Nat) (code : List Cod) (s : SS) (cv sv kv iv ov : Value) (w : World) (hM : SAt Q w mb wb code s cv sv kv iv ov) (hol : s.out.length ≤ 1099511627776) :
    Calls Try.prog 41 #[.pointer (some ⟨mb, 0, none⟩)] w fun e w' => ∃ rv, e = .returned (.agg #[rv, .int .i64 s.fin, .int .i64 s.trap]) ∧ w'.ownsRow w.heap.size 5 1 rv s.out.length (U8s s.out) ∧ Only Nil w w' := by
  obtain ⟨i0, hi, hz0, hz1, hz2⟩ := info_parts Try.info5
  have c3 : w.cell? ⟨mb, 5, none⟩ = some ov := hM.blk.cell 5
  have c26 : w.cell? ⟨mb, 9, none⟩ = some (.int .i64 s.fin) := hM.blk.cell 9
  have c27 : w.cell? ⟨mb, 10, none⟩ = some (.int .i64 s.trap) := hM.blk.cell 10
  have hlt := hM.blk.lt
  have hsrc := Src.of_own hM.out
  obtain ⟨sb, hsb⟩ : ∃ sb, ov.ownBlock.getD 0 = sb := ⟨_, rfl⟩
  rw [hsb] at hsrc
  obtain ⟨n, hn⟩ : ∃ n, s.out.length = n := ⟨_, rfl⟩
  obtain ⟨U, hU⟩ : ∃ U, U8s s.out = U := ⟨_, rfl⟩
  have hUl : U.length = n := by rw [← hU, U8s_len', hn]
  have hU1 : Hid (∀ u ∈ U, u.oneCell' = true) := Lib.hid (by rw [← hU]; exact U8s_one' _)
  rw [hU] at hsrc
  rw [hn] at hol
  have b1 : Hid (0 + U.length ≤ maxLen) := Lib.hid (by rw [hUl]; simp [maxLen]; omega)
  have b2 : Hid ((0 + U.length) * 1 ≤ 140737488355328) := Lib.hid (by rw [hUl]; omega)
  have HU := Lib.hid hU
  have HN := Lib.hid hn
  have HL := Lib.hid hUl
  clear hM hol hU hn hUl hsb
  go_enter Try.func41, Try.ntmps41
  go_wp2_with fail
  have ho1 : Only Nil w (w.alloc (.cells #[Value.slice none 0 0, .int .i64 0, .int .i64 0] 44)) := (Only.refl Nil w).alloc _
  have hB1 := Blk.new w #[Value.slice none 0 0, .int .i64 0, .int .i64 0] 44
  have hsz : w.heap.size < (w.alloc (.cells #[Value.slice none 0 0, .int .i64 0, .int .i64 0] 44)).heap.size := hB1.lt
  obtain ⟨w1, hw1⟩ : ∃ w1, w.alloc (.cells #[Value.slice none 0 0, .int .i64 0, .int .i64 0] 44) = w1 := ⟨_, rfl⟩
  rw [hw1] at ho1 hB1 hsz ⊢
  obtain ⟨rb, hrb⟩ : ∃ b, w.heap.size = b := ⟨_, rfl⟩
  have d3 := ho1.cell c3 (fun h => h)
  have d26 := ho1.cell c26 (fun h => h)
  have d27 := ho1.cell c27 (fun h => h)
  have dsrc := hsrc.kept ho1 (fun _ h => h)
  have hbase : w.heap.size ≤ w1.heap.size := ho1.size
  have hne : mb ≠ rb := by omega
  have hneo : rb ≠ mb := fun h => hne h.symm
  rw [hrb] at hB1 hsz hbase ⊢
  have HS : Hid (Src w1.drew sb ov U) := Lib.hid (dsrc.kept (Only.refl Nil w1).drew (fun _ h => h))
  have dd26 : w1.drew.cell? ⟨mb, 9, none⟩ = some (.int .i64 s.fin) := d26
  have dd27 : w1.drew.cell? ⟨mb, 10, none⟩ = some (.int .i64 s.trap) := d27
  have hB2 := hB1.drew
  have hbase2 : rb + 1 ≤ w1.drew.heap.size := hsz
  clear hsrc hw1 c3 c26 c27 dsrc
  go_region_law (first
    | (refine step_append_from rfl _ _ 35 rfl (rb + 1) 5 i0 (.int .u8 0) 1 Try.underlying35 hi hz0 hz1 hz2 rfl _ 0 [] rfl (World.ownsRow_nil _ _ _ _) sb _ U (by first | rfl | simp [Act.eval, Act.put]) HS.out hU1.out b1.out b2.out hbase2 ?_; intro v9 w9 hown9 ho9; obtain ⟨ao9, n9, cap9, rfl⟩ := ownsRow_slice hown9; have hB9 := hB2.kept ho9 (fun h => by cases h); have e26 := ho9.cell dd26 (fun h => by cases h); have e27 := ho9.cell dd27 (fun h => by cases h); have g0 := hB9.cell 0; have g1 := hB9.cell 1; have g2 := hB9.cell 2; have f0 := hB9.free 0; have f1 := hB9.free 1; have f2 := hB9.free 2; have hlt9 := hB9.lt))
  all_goals
    go_wp2_with fail
    have hB8 := ((hB9.setCell 0 (.slice ao9 n9 cap9)).setCell 1 (.int .i64 s.fin)).setCell 2 (.int .i64 s.trap)
    simp only [List.setIfInBounds_toArray, List.set_cons_zero, List.set_cons_succ] at hB8
    have hown8 : World.ownsRow (((w9.setCell ⟨rb, 0, none⟩ (.slice ao9 n9 cap9)).setCell ⟨rb, 1, none⟩ (.int .i64 s.fin)).setCell ⟨rb, 2, none⟩ (.int .i64 s.trap)) rb 5 1 (.slice ao9 n9 cap9) (0 + U.length) ([] ++ U) :=
      have hne := ownsRow_apart hown9 (Nat.lt_succ_self rb)
      ownsRow_set_other (ownsRow_set_other (ownsRow_set_other (ownsRow_base hown9 (Nat.le_succ rb)) ⟨rb, 0, none⟩ (.slice ao9 n9 cap9) hne) ⟨rb, 1, none⟩ (.int .i64 s.fin) hne) ⟨rb, 2, none⟩ (.int .i64 s.trap) hne
    (try simp only [Exit.inBlock, Exit.then])
    refine bodyPost_ret (results_cell_row rfl _ _ rb 44 _ (0, 0) _ rfl hB8 Try.underlying44 rfl (by kernel_rfl)) rfl ?_
    have e1 := HL.out
    rw [e1, Nat.zero_add, List.nil_append] at hown8
    rw [HN.out, HU.out, hrb]
    refine ⟨_, rfl, hown8, ?_⟩
    have hq : ∀ S : Nat → Prop, rb < w.heap.size → S rb := fun _ h => absurd h (by rw [hrb]; exact Nat.lt_irrefl _)
    exact (((ho1.drew.trans ho9 (fun _ _ h => by cases h)).setCell (hq _) _).setCell (hq _) _).setCell (hq _) _
end Go.Proofs.Ytbgmdckfkfkglaa
