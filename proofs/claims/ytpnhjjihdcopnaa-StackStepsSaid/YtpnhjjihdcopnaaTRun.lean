/- The document's stack machine: what it tells of its run; how it is made; its Run. -/
import Derived.Test.YtpnhjjihdcopnaaTStep
import Derived.Test.YtpnhjjihdcopnaaSNew
import Derived.Lib.MinMax
import Derived.Deep.LoopGhost
import Derived.Test.YtpnhjjihdcopnaaSDo
set_option linter.unusedSimpArgs false
set_option linter.unusedVariables false
namespace Go.Proofs.Ytpnhjjihdcopnaa
open Go.RowKit M
variable {Q : Nat → Prop}

set_option maxHeartbeats 1600000 in
/-- What the document's machine tells of its run. -/
theorem tresult_any (db vb : Nat) (code : List Cod) (s : SS) (lv pv kv iv ov : Value) (w : World) (hM : TAt Q w db vb code s lv pv kv iv ov) (hol : s.out.length ≤ 1099511627776) :
    Calls Try.prog 39 #[.pointer (some ⟨db, 0, none⟩)] w fun e w' => ∃ rv, e = .returned (.agg #[rv, .int .i64 s.fin, .int .i64 s.trap]) ∧ w'.ownsRow w.heap.size 5 1 rv s.out.length (U8s s.out) ∧ Only Nil w w' := by
  obtain ⟨i0, hi, hz0, hz1, hz2⟩ := info_parts Try.info5
  have c3 : w.cell? ⟨db, 8, none⟩ = some ov := hM.blk.cell 8
  have c26 : w.cell? ⟨db, 9, none⟩ = some (.int .i64 s.fin) := hM.blk.cell 9
  have c27 : w.cell? ⟨db, 10, none⟩ = some (.int .i64 s.trap) := hM.blk.cell 10
  have hlt := hM.blk.lt
  have hsrc := Src.of_own hM.out
  obtain ⟨sb, hsb⟩ : ∃ sb, ov.ownBlock.getD 0 = sb := ⟨_, rfl⟩
  rw [hsb] at hsrc
  obtain ⟨n, hn⟩ : ∃ n, s.out.length = n := ⟨_, rfl⟩
  obtain ⟨U, hU⟩ : ∃ U, U8s s.out = U := ⟨_, rfl⟩
  have hUl : U.length = n := by rw [← hU, U8s_len', hn]
  have hU1 : Hid (∀ u ∈ U, u.oneCell' = true) := Lib.hid (by rw [← hU]; exact U8s_one' _)
  rw [hU] at hsrc
  rw [hn] at hol
  have b1 : Hid (0 + U.length ≤ maxLen) := Lib.hid (by rw [hUl]; simp [maxLen]; omega)
  have b2 : Hid ((0 + U.length) * 1 ≤ 140737488355328) := Lib.hid (by rw [hUl]; omega)
  have HU := Lib.hid hU
  have HN := Lib.hid hn
  have HL := Lib.hid hUl
  clear hM hol hU hn hUl hsb
  go_enter Try.func39, Try.ntmps39
  go_wp2_with fail
  have ho1 : Only Nil w (w.alloc (.cells #[Value.slice none 0 0, .int .i64 0, .int .i64 0] 34)) := (Only.refl Nil w).alloc _
  have hB1 := Blk.new w #[Value.slice none 0 0, .int .i64 0, .int .i64 0] 34
  have hsz : w.heap.size < (w.alloc (.cells #[Value.slice none 0 0, .int .i64 0, .int .i64 0] 34)).heap.size := hB1.lt
  obtain ⟨w1, hw1⟩ : ∃ w1, w.alloc (.cells #[Value.slice none 0 0, .int .i64 0, .int .i64 0] 34) = w1 := ⟨_, rfl⟩
  rw [hw1] at ho1 hB1 hsz ⊢
  obtain ⟨rb, hrb⟩ : ∃ b, w.heap.size = b := ⟨_, rfl⟩
  have d3 := ho1.cell c3 (fun h => h)
  have d26 := ho1.cell c26 (fun h => h)
  have d27 := ho1.cell c27 (fun h => h)
  have dsrc := hsrc.kept ho1 (fun _ h => h)
  have hbase : w.heap.size ≤ w1.heap.size := ho1.size
  have hne : db ≠ rb := by omega
  have hneo : rb ≠ db := fun h => hne h.symm
  rw [hrb] at hB1 hsz hbase ⊢
  have HS : Hid (Src w1.drew sb ov U) := Lib.hid (dsrc.kept (Only.refl Nil w1).drew (fun _ h => h))
  have dd26 : w1.drew.cell? ⟨db, 9, none⟩ = some (.int .i64 s.fin) := d26
  have dd27 : w1.drew.cell? ⟨db, 10, none⟩ = some (.int .i64 s.trap) := d27
  have hB2 := hB1.drew
  have hbase2 : rb + 1 ≤ w1.drew.heap.size := hsz
  clear hsrc hw1 c3 c26 c27 dsrc
  go_region_law (first
    | (refine step_append_from rfl _ _ 23 rfl (rb + 1) 5 i0 (.int .u8 0) 1 Try.underlying23 hi hz0 hz1 hz2 rfl _ 0 [] rfl (World.ownsRow_nil _ _ _ _) sb _ U (by first | rfl | simp [Act.eval, Act.put]) HS.out hU1.out b1.out b2.out hbase2 ?_; intro v9 w9 hown9 ho9; obtain ⟨ao9, n9, cap9, rfl⟩ := ownsRow_slice hown9; have hB9 := hB2.kept ho9 (fun h => by cases h); have e26 := ho9.cell dd26 (fun h => by cases h); have e27 := ho9.cell dd27 (fun h => by cases h); have g0 := hB9.cell 0; have g1 := hB9.cell 1; have g2 := hB9.cell 2; have f0 := hB9.free 0; have f1 := hB9.free 1; have f2 := hB9.free 2; have hlt9 := hB9.lt))
  all_goals
    go_wp2_with fail
    have hB8 := ((hB9.setCell 0 (.slice ao9 n9 cap9)).setCell 1 (.int .i64 s.fin)).setCell 2 (.int .i64 s.trap)
    simp only [List.setIfInBounds_toArray, List.set_cons_zero, List.set_cons_succ] at hB8
    have hown8 : World.ownsRow (((w9.setCell ⟨rb, 0, none⟩ (.slice ao9 n9 cap9)).setCell ⟨rb, 1, none⟩ (.int .i64 s.fin)).setCell ⟨rb, 2, none⟩ (.int .i64 s.trap)) rb 5 1 (.slice ao9 n9 cap9) (0 + U.length) ([] ++ U) :=
      have hne := ownsRow_apart hown9 (Nat.lt_succ_self rb)
      ownsRow_set_other (ownsRow_set_other (ownsRow_set_other (ownsRow_base hown9 (Nat.le_succ rb)) ⟨rb, 0, none⟩ (.slice ao9 n9 cap9) hne) ⟨rb, 1, none⟩ (.int .i64 s.fin) hne) ⟨rb, 2, none⟩ (.int .i64 s.trap) hne
    (try simp only [Exit.inBlock, Exit.then])
    refine bodyPost_ret (results_cell_row rfl _ _ rb 34 _ (0, 0) _ rfl hB8 Try.underlying34 rfl (by kernel_rfl)) rfl ?_
    have e1 := HL.out
    rw [e1, Nat.zero_add, List.nil_append] at hown8
    rw [HN.out, HU.out, hrb]
    refine ⟨_, rfl, hown8, ?_⟩
    have hq : ∀ S : Nat → Prop, rb < w.heap.size → S rb := fun _ h => absurd h (by rw [hrb]; exact Nat.lt_irrefl _)
    exact (((ho1.drew.trans ho9 (fun _ _ h => by cases h)).setCell (hq _) _).setCell (hq _) _).setCell (hq _) _

/-- How many words a machine has. -/
theorem twords_any (N : Int) (n : Nat) (hN : min (max N 0) 1048576 = (n : Int)) (w : World) : Calls Try.prog 31 #[.int .i64 N] w fun e w' => e = .returned (.int .i64 (n : Nat)) ∧ w = w' := by
  go_enter Try.func31, Try.ntmps31
  go_wp2_with fail
  go_ret
  exact ⟨rfl, rfl⟩

/-- A document's machine that was made: its code, its input are the caller's. -/
theorem tmade_at {w4 : World} {lv iv : Value} {n q : Nat} {code : List Cod} {inp : List Nat} {w0 : World} (hc : CodRow Q w0 lv code) (hi : BytRow Q w0 iv inp) {vb db : Nat} (hw : w0.heap.size ≤ vb) (hm : w0.heap.size ≤ db) (hne : db ≠ vb) (ho : Only Nil w0 w4) (hB : Blk w4 db (tcells lv (.slice (some ⟨vb, 0, none⟩) n n) (.slice none 0 0) (.slice none 0 0) iv (.slice none 0 0) (ss0 n q inp)) 66) (hW : Blk w4 vb (I32s (List.replicate n 0)).toArray 21) :
    TAt Q w4 db vb code (ss0 n q inp) lv (.slice none 0 0) (.slice none 0 0) iv (.slice none 0 0) := by
  have hml : (ss0 n q inp).mem.length = n := by show (List.replicate n 0).length = n; simp
  have emp : ∀ (S : Nat → Prop) (xs : List Value), xs = [] → RdRow S w4 (.slice none 0 0) 0 xs := fun S xs h => ⟨0, none, 0, 0, rfl, Nat.le_refl _, Nat.zero_le _, Or.inr ⟨rfl, rfl⟩, (by rw [h]; intro i u hu; simp at hu), fun h => absurd h (Nat.lt_irrefl 0)⟩
  have less : ∀ k, k < w0.heap.size → OwnTQ Q db vb none k → Q k := fun k hk h => by
    rcases h with (h | h | h) | h
    · omega
    · omega
    · cases h
    · exact h
  refine ⟨by rw [hml]; exact hB, hW, emp _ _ rfl, emp _ _ rfl, World.ownsRow_nil _ _ _ _, ?_, ?_, hne, nofun, nofun⟩
  · exact (hc.less (T := OwnTQ Q db vb none) less).kept ho (fun _ h => h.elim)
  · exact (hi.less (T := OwnTQ Q db vb none) less).kept ho (fun _ h => h.elim)

set_option maxHeartbeats 1600000 in
theorem tnew_any (code : List Cod) (inp : List Nat) (N B : Int) (n q : Nat) (hN : min (max N 0) 1048576 = (n : Int)) (hB : min (max B 0) (n : Int) = (q : Int)) (hn : n ≤ 1048576) (lv iv : Value) (w : World) (hc : CodRow Q w lv code) (hi : BytRow Q w iv inp) :
    Calls Try.prog 10 #[lv, .int .i64 N, .int .i64 B, iv] w fun e w' => ∃ db vb, e = .returned (.pointer (some ⟨db, 0, none⟩)) ∧ w.heap.size ≤ db ∧ w.heap.size ≤ vb ∧ Only Nil w w' ∧ TAt Q w' db vb code (ss0 n q inp) lv (.slice none 0 0) (.slice none 0 0) iv (.slice none 0 0) := by
  have cW := fun w => twords_any N n hN w
  have mk := make_i32 n hn
  have e1 : ∃ ao l cap, lv = .slice ao l cap := by obtain ⟨b, ao, cap, off, h, _⟩ := hc; exact ⟨_, _, _, h⟩
  have e2 : ∃ ao l cap, iv = .slice ao l cap := by obtain ⟨b, ao, cap, off, h, _⟩ := hi; exact ⟨_, _, _, h⟩
  obtain ⟨a1, l1, c1, rfl⟩ := e1
  obtain ⟨a2, l2, c2, rfl⟩ := e2
  obtain ⟨Z, hZ⟩ : ∃ Z, (I32s (List.replicate n 0)).toArray = Z := ⟨_, rfl⟩
  rw [hZ] at mk
  have HZ := Lib.hid hZ
  have HC := Lib.hid hc
  have HI := Lib.hid hi
  clear hN hn hc hi hZ
  go_enter Try.func10, Try.ntmps10
  go_wp2_with fail
  refine (cW _).mono ?_
  rintro e w1 ⟨rfl, rfl⟩
  clear cW
  go_wp2_with fail
  go_ret
  refine ⟨_, w.heap.size, rfl, ?_, Nat.le_refl _, ?_, ?_⟩
  · (try simp only [World.size_alloc]); omega
  · exact ((Only.refl _ _).alloc _).alloc _
  · refine tmade_at HC.out HI.out (Nat.le_refl _) (by (try simp only [World.size_alloc]); omega) (by (try simp only [World.size_alloc]); omega) (((Only.refl _ _).alloc _).alloc _) ?_ ?_
    · have hb := Blk.new (w.alloc (.cells Z 21)) (tcells (.slice a1 l1 c1) (.slice (some ⟨w.heap.size, 0, none⟩) n n) (.slice none 0 0) (.slice none 0 0) (.slice a2 l2 c2) (.slice none 0 0) (ss0 n q inp)) 66
      rw [World.size_alloc] at hb
      exact hb
    · rw [HZ.out]
      exact (Blk.new _ _ _).alloc _
end Go.Proofs.Ytpnhjjihdcopnaa

/- The document's stack machine's Run. -/
set_option linter.unusedSimpArgs false
set_option linter.unusedVariables false
namespace Go.Proofs.Ytpnhjjihdcopnaa
open Go.RowKit M
variable {Q : Nat → Prop}

theorem M.sOne_trap {s t : SS} {op : Int} (e : sOne s op = some t) : t.trap = s.trap := by
  unfold sOne at e
  (repeat' split at e) <;> first | (cases e; done) | exact (puts_keeps e).2.2.1
theorem M.sTwo_trap {s t : SS} {c : Cod} (e : sTwo s c = some t) : t.trap = s.trap := by
  unfold sTwo at e
  (repeat' split at e) <;> first | (cases e; done) | exact (puts_keeps e).2.2.1 | skip
  cases h : reck c.op (opd s 1) (opd s 0) with
  | none => rw [h] at e; cases e
  | some v => rw [h] at e; exact (puts_keeps (show puts s 2 [v] = some t from e)).2.2.1
theorem M.sChange_trap {s t : SS} {c : Cod} (e : sChange s c = some t) : t.trap = s.trap := by
  unfold sChange at e
  split at e
  · exact (puts_keeps e).2.2.1
  split at e
  · exact (puts_keeps e).2.2.1
  split at e
  · unfold sEnter at e
    split at e
    · cases e
    · injection e with e; subst e; rfl
  split at e
  · unfold sGetc at e
    split at e
    · exact (puts_keeps e).2.2.1
    · cases h : puts s 0 [((s.inp.getD 0 0 : Nat) : Int)] with
      | none => rw [h] at e; cases e
      | some u => rw [h] at e; injection e with e; subst e; exact (puts_keeps h).2.2.1
  split at e
  · exact (puts_keeps e).2.2.1
  split at e
  · exact sOne_trap e
  · exact sTwo_trap e
/-- A machine that goes on has no trap. -/
def Free (s : SS) : Prop := s.fin = 0 → s.trap = 0
theorem ended_free (s : SS) (k : Nat) : Free (sEnded s k) := by
  intro h
  exfalso
  have h : (if k = 0 then 1 else 2) = 0 := h
  split at h <;> cases h
theorem sExec_free {s t : SS} {c : Cod} (hf : s.trap = 0) (e : sExec s c = some t) : Free t := by
  unfold sExec at e
  split at e
  · unfold sTurn at e
    split at e
    · cases e; intro _; rfl
    split at e
    · split at e
      · cases e
      · cases e; exact ended_free _ _
    split at e
    · cases e; exact fun _ => hf
    split at e
    · split at e
      · cases e
      · cases e; exact fun _ => hf
    split at e
    · split at e
      · cases e
      · cases e; exact fun _ => hf
    split at e
    · cases e
    · cases e; exact fun _ => hf
  · cases h : sChange s c with
    | none => rw [h] at e; cases e
    | some u =>
      rw [h] at e
      cases e
      exact fun _ => (M.sChange_trap h).trans hf
theorem sStep_free {code : List Cod} {s : SS} (hf : Free s) : Free (sStep code s) := by
  unfold sStep
  split
  · exact hf
  · rename_i h0
    have h0 : s.fin = 0 := by omega
    cases h : sDo code s with
    | none => exact ended_free _ _
    | some t =>
      show Free t
      unfold sDo at h
      split at h
      · split at h
        · exact sExec_free (hf h0) h
        · cases h
      · cases h
theorem ss0_free (n q : Nat) (inp : List Nat) : Free (ss0 n q inp) := fun _ => rfl

theorem OwnTQ.of {db vb : Nat} {ob : Option Nat} {k : Nat} (h : OwnT db vb ob k) : OwnTQ Q db vb ob k := Or.inl h
theorem TAt.less {T : Nat → Prop} {w : World} {db vb : Nat} {code : List Cod} {s : SS} {lv pv kv iv ov : Value} (h : TAt Q w db vb code s lv pv kv iv ov) (hs : ∀ k, k < w.heap.size → T k → Q k) : TAt T w db vb code s lv pv kv iv ov :=
  ⟨h.blk, h.wrd, h.ops.less (fun k hk hb => hb.imp id (hs k hk)), h.cls.less (fun k hk hb => hb.imp id (hs k hk)), h.out, h.cod.less (fun k hk hb => hb.imp id (hs k hk)), h.inp.less (fun k hk hb => hb.imp id (hs k hk)), h.dv, h.od, h.ow⟩
def OffT (rb : Nat) (ov : Value) : Prop := ov.ownBlock ≠ some rb
theorem TAt.off {w : World} {db vb rb : Nat} {code : List Cod} {s : SS} {lv pv kv iv ov : Value} (h : TAt Q w db vb code s lv pv kv iv ov) (hr : w.heap.size ≤ rb) : OffT rb ov :=
  fun e => by have := (h.out.lt _ e).2; omega
theorem OffT.gone {w w' : World} {db vb rb : Nat} {ov ov' : Value} (h : OffT rb ov) (hg : TGone w w' db vb ov ov') (hr : rb < w.heap.size) : OffT rb ov' := by
  intro e
  rcases hg.o with h1 | ⟨k, h1, h3⟩
  · exact h (by rw [← h1, e])
  · rw [h1] at e; injection e with e; omega
theorem OffT.own {db vb rb : Nat} {ov : Value} (h : OffT rb ov) (hm : db ≠ rb) (hw : vb ≠ rb) : ¬ OwnT db vb ov.ownBlock rb := by
  rintro (e | e | e)
  · exact hm e.symm
  · exact hw e.symm
  · exact h e.symm
theorem TAt.apart {S : Nat → Prop} {w w' : World} {db vb : Nat} {code : List Cod} {s : SS} {lv pv kv iv ov : Value} (h : TAt Q w db vb code s lv pv kv iv ov) (ho : Only S w w') (hS : ∀ k, S k → ¬ OwnT db vb ov.ownBlock k) (hq : ∀ k, S k → Q k) : TAt Q w' db vb code s lv pv kv iv ov :=
  ⟨h.blk.kept ho (fun e => hS _ e (Or.inl rfl)), h.wrd.kept ho (fun e => hS _ e (Or.inr (Or.inl rfl))), h.ops.kept ho (fun k hk => Or.inr (hq k hk)) (ops_nil s), h.cls.kept ho (fun k hk => Or.inr (hq k hk)) (cls_nil s), ownsRow_only h.out ho (fun k hk e => hS _ e (Or.inr (Or.inr hk.symm))), h.cod.kept ho (fun k hk => Or.inr (hq k hk)), h.inp.kept ho (fun k hk => Or.inr (hq k hk)), h.dv, h.od, h.ow⟩

set_option maxHeartbeats 1600000 in
/-- The document's machine's Run. -/
theorem trun_any (db vb : Nat) (code : List Cod) (hc : ∀ c ∈ code, I32 c.k) (hl : code.length ≤ 2147483647) (s : SS) (cv sv kv iv ov : Value) (w : World) (hQ : ∀ j, Q j → j < w.heap.size) (hfr : Free s) (hM : TAt Q w db vb code s cv sv kv iv ov) (hs : s.Ok) (f : Int) (hf1 : -9223372036854775808 ≤ f) (hf2 : f ≤ 9223372036854775807) (hol : s.out.length + f.toNat ≤ 1099511627776) {t : SS} (ht : sRun code f.toNat s = t) :
    Calls Try.prog 17 #[.pointer (some ⟨db, 0, none⟩), .int .i64 f] w fun e w' => ∃ sv' kv' iv' ov' rv, e = .returned (.agg #[rv, .int .i64 t.fin, .int .i64 t.trap]) ∧ TGone w w' db vb ov ov' ∧
      w'.ownsRow w.heap.size 5 1 rv t.out.length (U8s t.out) ∧ TAt Q w' db vb code t cv sv' kv' iv' ov' := by
  go_enter Try.func17, Try.ntmps17
  go_wp2_with fail
  have hB0 := Blk.new w #[Value.slice none 0 0, .int .i64 0, .int .i64 0] 34
  obtain ⟨rb, hrb⟩ : ∃ b, w.heap.size = b := ⟨_, rfl⟩
  have hq1 : Only Nil w (w.alloc (.cells #[Value.slice none 0 0, .int .i64 0, .int .i64 0] 34)) := (Only.refl Nil w).alloc _
  obtain ⟨w1, hw1⟩ : ∃ w1, w.alloc (.cells #[Value.slice none 0 0, .int .i64 0, .int .i64 0] 34) = w1 := ⟨_, rfl⟩
  rw [hw1] at hB0 hq1 ⊢
  rw [hrb] at hB0 ⊢
  have hM1 := hM.quiet hq1
  have hlm := hM.blk.lt
  have hlw := hM.wrd.lt
  have hmr : db ≠ rb := by omega
  have hwr : vb ≠ rb := by omega
  have hor : OffT rb ov := hM.off (by omega)
  have hM2 : TAt (fun k => Q k ∨ k = rb) w1 db vb code s cv sv kv iv ov := (hM.less (T := fun k => Q k ∨ k = rb) (fun k hk h => h.elim id (fun h => absurd hk (by omega)))).quiet hq1
  have HQR := Lib.hid (show ∀ wr : World, w1.heap.size ≤ wr.heap.size → rb < wr.heap.size → ∀ j, (Q j ∨ j = rb) → j < wr.heap.size from fun wr h1 h2 j hj => hj.elim (fun h => by have := hQ j h; have := hq1.size; omega) (fun h => by omega))
  have HQ := Lib.hid hq1
  have HR := Lib.hid hrb
  clear hM hM1 hw1 hrb hq1
  go_loopg [1] f.toNat (fun g s1 wr => ∃ (n : Int) (sx : SS) (svx kvx ivx ovx : Value), s1 = .int .i64 n ∧ n.toNat = g ∧ n ≤ 9223372036854775807 ∧ -9223372036854775808 ≤ n ∧ sx.Ok ∧ sx.out.length + g ≤ 1099511627776 ∧ sRun code g sx = t ∧ Free sx ∧ TAt (fun k => Q k ∨ k = rb) wr db vb code sx cv svx kvx ivx ovx ∧ TGone w1 wr db vb ov ovx ∧ OffT rb ovx ∧ Blk wr rb #[Value.slice none 0 0, .int .i64 0, .int .i64 0] 34)
  case atStart => exact ⟨f, s, sv, kv, iv, ov, rfl, rfl, hf2, hf1, hs, hol, ht, hfr, hM2, TGone.of_nil (Only.refl _ _), hor, hB0⟩
  case round =>
    clear hM2 hB0
    obtain ⟨n, sx, svx, kvx, ivx, ovx, rfl, hng, hn1, hn2, hok, hlen, hrun, hfrx, hM, hW, hor', hBr⟩ := hrel
    by_cases hn : 0 < n
    · obtain ⟨g', hg'⟩ : ∃ g', gk = g' + 1 := ⟨gk - 1, by omega⟩
      rw [hg', sRun_succ] at hrun
      have cS := tstep_any db vb code hc sx cv svx kvx ivx ovx wr (HQR.out wr hW.only.size hBr.lt) hM hok (by omega) hfrx
      unfold TStepped at cS
      have hfr2 := sStep_free (code := code) hfrx
      obtain ⟨ok2, len2, out2⟩ := sStep_k hok hc hl
      by_cases hfin : sx.fin = 0
      · rw [show (sx.fin == 0) = true by rw [hfin]; rfl] at cS
        have HBr := Lib.hid hBr
        have HW := Lib.hid hW
        have HOR := Lib.hid hor'
        have HRUN := Lib.hid hrun
        have HO := Lib.hid hlen
        have HG := Lib.hid hg'
        clear hM hW hor' hBr hrun hlen hg' hs hol
        go_wp2_with fail
        refine cS.mono ?_
        rintro e w3 ⟨sv3, kv3, iv3, ov3, rfl, hw3, hM3⟩
        clear cS
        have H3 := Lib.hid hM3
        clear hM3
        go_wp2_with fail
        have hlr := HBr.out.lt
        have hB3 := HBr.out.kept hw3.only (HOR.out.own hmr hwr)
        have hor3 : OffT rb ov3 := HOR.out.gone hw3 hlr
        go_roundg g'
        case measure => have := HG.out; omega
        case rel => exact ⟨n - 1, sStep code sx, sv3, kv3, iv3, ov3, by go_num, by have := HG.out; omega, by omega, by omega, ok2, by have := HO.out; have := HG.out; omega, HRUN.out, hfr2, H3.out, HW.out.trans hw3, hor3, hB3⟩
      · rw [show (sx.fin == 0) = false by rw [beq_eq_false_iff_ne]; exact hfin, sStep_fin _ _ hfin] at cS
        rw [sStep_fin _ _ hfin, sRun_fin _ _ _ hfin] at hrun
        subst hrun
        go_wp2_with fail
        refine cS.mono ?_
        rintro e w3 ⟨sv3, kv3, iv3, ov3, rfl, hw3, hM3⟩
        clear cS
        have hlr := hBr.lt
        have hB3 := hBr.kept hw3.only (hor'.own hmr hwr)
        have hor3 : OffT rb ov3 := hor'.gone hw3 hlr
        have hW3 := hW.trans hw3
        clear hM hW hor' hBr hw3
        have hM := hM3
        have hW := hW3
        have hor' := hor3
        have hBr := hB3
        clear hM3 hW3 hor3 hB3
        have cR := tresult_any db vb code sx cv sv3 kv3 iv3 ov3 w3 hM (by omega)
        have hrlt : rb < w3.heap.size := hBr.lt
        have hsz : w.heap.size ≤ w3.heap.size := Nat.le_trans HQ.out.size hW.only.size
        go_wp2_with fail
        refine cR.mono ?_
        rintro e w4 ⟨rv, rfl, hown4, ho4⟩
        clear cR
        obtain ⟨ao9, n9, cap9, rfl⟩ := ownsRow_slice hown4
        have hB4 := hBr.kept ho4 (fun h => h)
        have k0 := hB4.cell 0
        have k1 := hB4.cell 1
        have k2 := hB4.cell 2
        have z0 := hB4.free 0
        have z1 := hB4.free 1
        have z2 := hB4.free 2
        have hlt4 := hB4.lt
        have HM := Lib.hid hM
        have HWE := Lib.hid hW
        clear hM hW
        go_wp2_with fail
        have hB8 := ((hB4.setCell 0 (.slice ao9 n9 cap9)).setCell 1 (.int .i64 sx.fin)).setCell 2 (.int .i64 sx.trap)
        simp only [List.setIfInBounds_toArray, List.set_cons_zero, List.set_cons_succ] at hB8
        have hne := ownsRow_apart hown4 hrlt
        have hown8 := ownsRow_set_other (ownsRow_set_other (ownsRow_set_other (ownsRow_base hown4 hsz) ⟨rb, 0, none⟩ (.slice ao9 n9 cap9) hne) ⟨rb, 1, none⟩ (.int .i64 sx.fin) hne) ⟨rb, 2, none⟩ (.int .i64 sx.trap) hne
        (try simp only [Exit.inBlock, Exit.then])
        refine bodyPost_ret (results_cell_row rfl _ _ rb 34 _ (0, 0) _ rfl hB8 Try.underlying34 rfl (by kernel_rfl)) rfl ?_
        have hoS : Only (M.One rb) w3 _ := (Only.setOne (Only.setOne (Only.setOne (ho4.mono (fun _ h => h.elim)) 0 (.slice ao9 n9 cap9)) 1 (.int .i64 sx.fin)) 2 (.int .i64 sx.trap))
        have hM8 := HM.out.apart hoS (fun k hk => by rw [show k = rb from hk]; exact hor'.own hmr hwr) (fun k hk => Or.inr hk)
        have hq : ∀ S : Nat → Prop, rb < w.heap.size → S rb := fun _ h => absurd h (by rw [HR.out]; exact Nat.lt_irrefl _)
        have hoA : Only (OwnT db vb ov.ownBlock) w w3 := (HQ.out.mono (fun _ h => h.elim)).trans HWE.out.only (fun _ _ h => h)
        have hoB : Only (OwnT db vb ov.ownBlock) w _ := (((hoA.trans ho4 (fun _ _ h => h.elim)).setCell (p := ⟨rb, 0, none⟩) (hq _) (.slice ao9 n9 cap9)).setCell (p := ⟨rb, 1, none⟩) (hq _) (.int .i64 sx.fin)).setCell (p := ⟨rb, 2, none⟩) (hq _) (.int .i64 sx.trap)
        refine ⟨sv3, kv3, iv3, ov3, _, rfl, ⟨hoB, ?_⟩, ?_, hM8.less (fun k _ h => Or.inl h)⟩
        · exact HWE.out.o.imp id (fun ⟨k, h1, h2⟩ => ⟨k, h1, Nat.le_trans HQ.out.size h2⟩)
        · exact hown8
    · have hg0 : gk = 0 := by omega
      subst hg0
      have hrun' : sx = t := hrun
      subst hrun'
      have cR := tresult_any db vb code sx cv svx kvx ivx ovx wr hM (by omega)
      have hrlt : rb < wr.heap.size := hBr.lt
      have hsz : w.heap.size ≤ wr.heap.size := Nat.le_trans HQ.out.size hW.only.size
      go_wp2_with fail
      refine cR.mono ?_
      rintro e w4 ⟨rv, rfl, hown4, ho4⟩
      clear cR
      obtain ⟨ao9, n9, cap9, rfl⟩ := ownsRow_slice hown4
      have hB4 := hBr.kept ho4 (fun h => h)
      have k0 := hB4.cell 0
      have k1 := hB4.cell 1
      have k2 := hB4.cell 2
      have z0 := hB4.free 0
      have z1 := hB4.free 1
      have z2 := hB4.free 2
      have hlt4 := hB4.lt
      have HM := Lib.hid hM
      have HWE := Lib.hid hW
      clear hM hW
      go_wp2_with fail
      have hB8 := ((hB4.setCell 0 (.slice ao9 n9 cap9)).setCell 1 (.int .i64 sx.fin)).setCell 2 (.int .i64 sx.trap)
      simp only [List.setIfInBounds_toArray, List.set_cons_zero, List.set_cons_succ] at hB8
      have hne := ownsRow_apart hown4 hrlt
      have hown8 := ownsRow_set_other (ownsRow_set_other (ownsRow_set_other (ownsRow_base hown4 hsz) ⟨rb, 0, none⟩ (.slice ao9 n9 cap9) hne) ⟨rb, 1, none⟩ (.int .i64 sx.fin) hne) ⟨rb, 2, none⟩ (.int .i64 sx.trap) hne
      (try simp only [Exit.inBlock, Exit.then])
      refine bodyPost_ret (results_cell_row rfl _ _ rb 34 _ (0, 0) _ rfl hB8 Try.underlying34 rfl (by kernel_rfl)) rfl ?_
      have hoS : Only (M.One rb) wr _ := (Only.setOne (Only.setOne (Only.setOne (ho4.mono (fun _ h => h.elim)) 0 (.slice ao9 n9 cap9)) 1 (.int .i64 sx.fin)) 2 (.int .i64 sx.trap))
      have hM8 := HM.out.apart hoS (fun k hk => by rw [show k = rb from hk]; exact hor'.own hmr hwr) (fun k hk => Or.inr hk)
      have hq : ∀ S : Nat → Prop, rb < w.heap.size → S rb := fun _ h => absurd h (by rw [HR.out]; exact Nat.lt_irrefl _)
      have hoA : Only (OwnT db vb ov.ownBlock) w wr := (HQ.out.mono (fun _ h => h.elim)).trans HWE.out.only (fun _ _ h => h)
      have hoB : Only (OwnT db vb ov.ownBlock) w _ := (((hoA.trans ho4 (fun _ _ h => h.elim)).setCell (p := ⟨rb, 0, none⟩) (hq _) (.slice ao9 n9 cap9)).setCell (p := ⟨rb, 1, none⟩) (hq _) (.int .i64 sx.fin)).setCell (p := ⟨rb, 2, none⟩) (hq _) (.int .i64 sx.trap)
      refine ⟨svx, kvx, ivx, ovx, _, rfl, ⟨hoB, ?_⟩, ?_, hM8.less (fun k _ h => Or.inl h)⟩
      · exact HWE.out.o.imp id (fun ⟨k, h1, h2⟩ => ⟨k, h1, Nat.le_trans HQ.out.size h2⟩)
      · exact hown8
end Go.Proofs.Ytpnhjjihdcopnaa

