/- A record's fields, its bases' first: the program's Fields. -/
import Derived.Test.YtcbeibhmjokecaaDoorYRows
import Derived.Test.YtcbeibhmjokecaaDoorGWait
set_option linter.unusedSimpArgs false
set_option linter.unusedVariables false
namespace Go.Proofs.YtcbeibhmjokecaaDoor
open Go.RowKit M

section
variable {P : Program} {w : World}
/-- An append of elements that have just been laid into a block of their own. -/
theorem run_append_new (base : Nat) (t ty e : TypeId) (i : TypeInfo) (z : Value) (size bytes m : Nat) (ht : P.underlying t = some (.slice e)) (hi : P.info? e = some i) (hz : i.zero = some z)
    (hsize : i.size = size) (hby : i.bytes = bytes) (hzs : z.cells.size = size) (hsz : 0 < size) (hm : 0 < m)
    (v : Value) (n : Nat) (xs : List Value) (hown : w.ownsRow base e size v n xs) (cs : Array Value) (hl : cs.size = m * size) (h1 : ∀ u ∈ cs, u.oneCell' = true)
    (h63 : n + m ≤ maxLen) (hbytes : (n + m) * bytes ≤ 140737488355328) (hbase : base ≤ w.heap.size) :
    ∃ g cap w', (Builtin.append_ #[t, t] ty #[v, .slice (some ⟨w.heap.size, 0, none⟩) m m]).run P (w.alloc (.cells cs e)) = .ok (.slice (some ⟨g, 0, none⟩) (n + m) cap) w' ∧ w'.ownsRow base e size (.slice (some ⟨g, 0, none⟩) (n + m) cap) (n + m) (xs ++ cs.toList) ∧
      MovedTo w v (.slice (some ⟨g, 0, none⟩) (n + m) cap) ∧ Only (Own v.ownBlock) w w' := by
  obtain ⟨v', w', hr, h2, h3, h4⟩ := run_append_row (w := w.alloc (.cells cs e)) base t ty e i z size bytes ht hi hz hsize hby hzs hsz v n xs (hown.alloc _) ⟨w.heap.size, 0, none⟩ m m cs.toList (by simp [hl]) (by
    intro j u hj
    have := (Blk.new w cs e).cell j
    rw [Array.getElem?_toList] at hj
    have e0 : (Addr.add ⟨w.heap.size, 0, none⟩ j) = ⟨w.heap.size, j, none⟩ := by
      simp only [Addr.add, Nat.zero_add]
      split
      · rename_i h; subst h; rfl
      · rfl
    rw [e0, this]; exact hj) (fun u hu => h1 u (by simpa using hu)) h63 hbytes (by simp; omega)
  obtain ⟨g, cap, rfl, _, hc1, hc2, _⟩ := ownsRow_shape h2 (by omega)
  refine ⟨g, cap, w', hr, h2, ⟨g, rfl, ?_⟩, ((Only.refl (Own v.ownBlock) w).alloc _).trans (Only.of_grown h3) (fun _ _ h => h)⟩
  rcases h4 with h4 | ⟨k, h4, h5⟩
  · exact Or.inl h4.symm
  · right
    simp only [Value.ownBlock, Option.some.injEq] at h4
    simp at h5
    omega
theorem operWp_append {o : Oper} {a : Act} {K : Act → World → Prop} {Q : Exit → Act → World → Prop} {v u v' : Value} {w' : World} (s x : Operand) (t : TypeId)
    (ho : o.op = .call { callee := .builtin .append, args := #[s, x], argTypes := #[t, t] }) (hs : a.eval s = v) (hx : a.eval x = u) (hr : (Builtin.append_ #[t, t] o.type #[v, u]).run P w = .ok v' w') (hK : K (a.put o.dst v') w') : Oper.wp P o a w K Q := by
  unfold Oper.wp execOp
  simp only [ho, resolve, invoke, builtin, Sem.run_bind, Sem.run_pure, Result.andThen_ok, List.map_toArray, List.map_cons, List.map_nil, hs, hx, hr]
  exact hK
end
theorem chainM_len {R : Recs} : ∀ {k : Nat} {s : ByteArray} {c : List Rc}, chainM R k s = some c → c.length ≤ k ∧ ∀ r ∈ c, ∃ s, R s = some r
  | 0, _, _, e => by cases e
  | k + 1, s, c, e => by
    unfold chainM at e
    obtain ⟨r, hr, e2⟩ := Option.bind_eq_some_iff.1 e
    split at e2
    · injection e2 with e2
      subst e2
      exact ⟨by simp, fun r' h => by simp only [List.mem_singleton] at h; subst h; exact ⟨s, hr⟩⟩
    · obtain ⟨c', hc', e3⟩ := Option.map_eq_some_iff.1 e2
      subst e3
      have := chainM_len hc'
      exact ⟨by simp; omega, fun r' h => by
        rcases List.mem_cons.1 h with rfl | h
        · exact ⟨s, hr⟩
        · exact this.2 r' h⟩
theorem flatC_len {m : Nat} : ∀ {c : List Rc}, (∀ r ∈ c, r.fields.length ≤ m) → (flatC c).length ≤ c.length * m
  | [], _ => by simp [flatC]
  | r :: c, h => by
    have h1 := flatC_len (c := c) (fun r' hr => h r' (List.mem_cons_of_mem _ hr))
    have h2 := h r List.mem_cons_self
    simp only [flatC, List.length_append, List.length_cons]
    rw [Nat.add_mul]
    omega
theorem flatC_drop {c : List Rc} {k : Nat} {r : Rc} (h : c[k]? = some r) : flatC (c.drop k) = flatC (c.drop (k + 1)) ++ r.fields := by
  have hk := (List.getElem?_eq_some_iff.1 h).1
  rw [List.drop_eq_getElem_cons hk, (List.getElem?_eq_some_iff.1 h).2]
  rfl
/-- A step of the walk along the bases. -/
theorem chain_step {R : Recs} {n : Nat} {c : List Rc} {s0 s : ByteArray} {r : Rc} (hc : c.length < n) (hR : R s = some r) (h : chainM R n s0 = (chainM R (n - c.length) s).map (fun d => c ++ d)) :
    (r.base.toList == [] → chainM R n s0 = some (c ++ [r])) ∧ (¬ (r.base.toList == []) = true → chainM R n s0 = (chainM R (n - (c ++ [r]).length) r.base).map (fun d => c ++ [r] ++ d)) := by
  rw [h]
  obtain ⟨d, hd⟩ : ∃ d, n - c.length = d + 1 := ⟨n - c.length - 1, by omega⟩
  rw [hd]
  refine ⟨fun hb => ?_, fun hb => ?_⟩
  · unfold chainM
    rw [hR, Option.bind_some, if_pos hb]; rfl
  · conv => lhs; unfold chainM
    rw [hR, Option.bind_some, if_neg hb, List.length_append, List.length_singleton, show n - (c.length + 1) = d by omega, Option.map_map]
    congr 1
    funext x
    simp
theorem chain_none {R : Recs} {n : Nat} {c : List Rc} {s0 s : ByteArray} (hR : R s = none ∨ n ≤ c.length) (h : chainM R n s0 = (chainM R (n - c.length) s).map (fun d => c ++ d)) : chainM R n s0 = none := by
  rw [h]
  rcases hR with hR | hR
  · cases n - c.length with
    | zero => rfl
    | succ d => unfold chainM; rw [hR]; rfl
  · rw [Nat.sub_eq_zero_of_le hR]; rfl
/-- What Fields leaves: the fields, or none. -/
def FldPost (w : World) (o : Option (List Vr)) (e : Ending) (w' : World) : Prop :=
  ∃ v, e = .returned (.tuple #[v, .bool o.isSome]) ∧ VarS (fun k => k < w'.heap.size) w' v (o.getD []) ∧ Only Nil w w'

set_option maxRecDepth 20000 in
set_option maxHeartbeats 3200000 in
theorem fieldsP_any {U : Nat → Prop} {w0 : World} {mv : Value} {n : Nat} {R : Recs} {fv : ByteArray → Value} (hM : RMap U w0 mv n R fv) (hF : ∀ s r, R s = some r → r.fields.length ≤ 1000) (hn9 : n ≤ 20000) (s0 : ByteArray) (hs0 : s0.size ≤ maxLen) (w : World) (hw : Only Nil w0 w) :
    Calls Tryd.prog 11 #[.string s0, mv] w (FldPost w (fieldsM R n s0)) := by
  obtain ⟨i0, z0, hi, hz0, hz1, hz2, hz3⟩ := infoRc_parts
  obtain ⟨iV, zV, hiV, hV0, hV1, hV2, hV3⟩ := infoVr_parts
  have HM := Lib.hid hM
  have HW := Lib.hid hw
  have HF := Lib.hid hF
  have HN := Lib.hid hn9
  have HS0 := Lib.hid hs0
  clear hM hw hF hs0
  go_enter Tryd.func11, Tryd.ntmps11
  go_wp2_with fail
  go_loopg [0, 6] (n + 1) (fun g a v wr => ∃ (c : List Rc) (s : ByteArray) (vv : Value), a = .string s ∧ v = vv ∧ c.length ≤ n ∧ g = n + 1 - c.length ∧ Only Nil w wr ∧ RcRow w.heap.size wr vv R fv c ∧ s.size ≤ maxLen ∧ chainM R n s0 = (chainM R (n - c.length) s).map (fun d => c ++ d))
  case atStart => exact ⟨[], s0, _, rfl, rfl, Nat.zero_le _, rfl, Only.refl Nil w, RcRow.nil _ _ _ _, HS0.out, by simp⟩
  case round =>
    obtain ⟨c, s, vv, rfl, rfl, hcn, hg, ho, hrow, hs, hch⟩ := hrel
    have HO := Lib.hid ho
    have HG := Lib.hid hg
    have HCH := Lib.hid hch
    have HROW0 := Lib.hid hrow
    obtain ⟨xs, hown, hcs⟩ := hrow
    obtain ⟨aoC, capC, hvv⟩ := sl_of_own hown
    subst hvv
    obtain ⟨q, hq⟩ : ∃ q, c.length = q := ⟨_, rfl⟩
    have HQ := Lib.hid hq
    rw [hq] at hown hcn ⊢
    have HOWN := Lib.hid hown
    have HCS := Lib.hid hcs
    have hO : Only Nil w0 wr := Nil.trans HW.out ho
    have look := (HM.out.go hO).look2 s hs
    have len := fun (o : Obj) ty => ((HM.out.go hO).go ((Only.refl Nil wr).alloc o)).len ty
    have q0 : (0 : Int) ≤ (q : Int) := Int.natCast_nonneg _
    cases hR : R s with
    | none =>
      rw [hR] at look
      simp only [Option.map_none, Option.getD_none, Option.isSome_none] at look
      have HE : Hid (fieldsM R n s0 = none) := Lib.hid (by rw [fieldsM_chain, chain_none (Or.inl hR) hch]; rfl)
      clear hs hg ho hR hown hcs hch hq hO len
      go_wp2_with fail
      go_ret2
      exact ⟨_, by rw [HE.out]; rfl, by rw [HE.out]; exact VarS.nil _ _, HO.out.alloc _⟩
    | some r =>
      rw [hR] at look
      simp only [Option.map_some, Option.getD_some, Option.isSome_some, rcVal] at look
      have hsz := (HM.out.names s r hR).1
      have HR := Lib.hid hR
      obtain ⟨aoF, capF, hFs⟩ := (HM.out.fields s r hR).slice
      have HFS := Lib.hid hFs
      rw [hFs] at look
      obtain ⟨nF, hnF⟩ : ∃ x, r.fields.length = x := ⟨_, rfl⟩
      have HNF := Lib.hid hnF
      rw [hnF] at look
      obtain ⟨nm, hnm⟩ : ∃ x, r.name = x := ⟨_, rfl⟩
      obtain ⟨ex, hex⟩ : ∃ x, r.exp = x := ⟨_, rfl⟩
      obtain ⟨bs, hbs⟩ : ∃ x, r.base = x := ⟨_, rfl⟩
      rw [hnm, hex, hbs] at look
      have HNM := Lib.hid hnm
      have HEX := Lib.hid hex
      have HBS := Lib.hid hbs
      have HSZ := Lib.hid hsz
      by_cases hqn : q = n
      · have HE : Hid (fieldsM R n s0 = none) := Lib.hid (by rw [fieldsM_chain, chain_none (Or.inr (by omega)) hch]; rfl)
        subst hqn
        clear hs hg ho hR hown hcs hch hq hO hsz hnm hex hbs hnF hFs
        go_wp2_with fail
        go_ret2
        exact ⟨_, by rw [HE.out]; rfl, by rw [HE.out]; exact VarS.nil _ _, HO.out.alloc _⟩
      · have q1 : ((q : Int) == (n : Int)) = false := by simp; omega
        have hcl : c.length < n := by omega
        have HST := Lib.hid (chain_step hcl hR hch)
        have hlo : w.heap.size ≤ wr.heap.size := ho.size
        have hb1 : q + 1 ≤ maxLen := by unfold maxLen; omega
        have hb2 : (q + 1) * 64 ≤ 140737488355328 := by omega
        have HLO := Lib.hid hlo
        have HB1 := Lib.hid hb1
        have HB2 := Lib.hid hb2
        have HQN := Lib.hid hcl
        clear hs hg ho hR hcs hch hq hO hsz hnm hex hbs hnF hFs hlo hb1 hb2 hqn hcl hcn
        go_wp2_with (with_reducible refine wpList_append_cells rfl _ _ 55 rfl w.heap.size 49 i0 z0 4 64 Tryd.underlying55 hi hz0 hz1 hz2 hz3 (by decide) _ _ _ rfl (hown.alloc _) #[.string nm, .bool ex, .string bs, .slice aoF nF capF] rfl (by simp [Value.oneCell']) (wr.heap.size + 1) (by simp) rfl HB1.out HB2.out (by have := HLO.out; simp; omega) ?_)
        intro g2 cap2 w5 hown5 hc1 hc2 hg5 ho5
        have hB := Blk.new wr #[.string nm, .bool ex, .string bs, .slice aoF nF capF] 49
        have hne : ∀ b, (Value.slice aoC q capC).ownBlock = some b → w.heap.size ≤ b ∧ b < wr.heap.size := fun b hb => HOWN.out.lt b hb
        have hB5 := hB.kept ho5 (fun h => by have := (hne _ h.symm).2; omega)
        have hO5 : Only Nil w w5 := (HO.out.alloc _).trans ho5 (fun b hb h => by have := (hne b h.symm).1; omega)
        have hr5 : RcRow w.heap.size w5 (.slice (some ⟨g2, 0, none⟩) (q + 1) cap2) R fv (c ++ [r]) :=
          RcRow.push HQ.out HOWN.out HCS.out HR.out (by rw [HFS.out, HNF.out]; unfold rcCells; rw [HNM.out, HEX.out, HBS.out]; exact hown5)
        have HB5 := Lib.hid hB5
        have HO5 := Lib.hid hO5
        have HR5 := Lib.hid hr5
        have z2 : w5.cell? ⟨wr.heap.size, 2, none⟩ = some (.string bs) := hB5.cell 2
        clear hown5 hc1 hc2 hg5 ho5 hB hne hB5 hO5 hr5 hown
        by_cases hb : (bs.toList == []) = true
        · have hfin := HST.out.1 (by rw [HBS.out]; exact hb)
          have hlen : (c ++ [r]).length = q + 1 := by rw [List.length_append, HQ.out]; rfl
          obtain ⟨d, hd⟩ : ∃ d, c ++ [r] = d := ⟨_, rfl⟩
          rw [hd] at hfin hlen HR5
          have HE : Hid (fieldsM R n s0 = some (flatC d)) := Lib.hid (by rw [fieldsM_chain, hfin]; rfl)
          have hdm := chainM_len hfin
          have HDM := Lib.hid hdm
          have HLEN := Lib.hid hlen
          obtain ⟨e, he⟩ : ∃ e, q + 1 = e := ⟨_, rfl⟩
          rw [he] at HR5 HLEN ⊢
          have HEQ := Lib.hid he
          have we : IntKind.i64.wrap ((e : Int) - 1) = (e : Int) - 1 := by rw [IntKind.wrap]; have := HN.out; have := HQN.out; have := HQ.out; simp [IntKind.bits, IntKind.signed]; omega
          clear hfin hlen hd hdm look len he
          go_wp2_with fail
          clear z2 hb we
          go_loopg [9, 10] e (fun g v i w6 => ∃ (k : Nat) (vv : Value), i = .int .i64 ((k : Int) - 1) ∧ v = vv ∧ k ≤ e ∧ g = k ∧ Only Nil w5 w6 ∧ VrRow w5.heap.size w6 vv (flatC (d.drop k)))
          case atStart => exact ⟨e, _, rfl, rfl, Nat.le_refl _, rfl, Only.refl Nil w5, by rw [List.drop_of_length_le (by rw [HLEN.out]; exact Nat.le_refl _)]; exact VrRow.nil _ _⟩
          case round =>
            obtain ⟨k, lv, rfl, rfl, hke, hg2, ho6, hl6⟩ := hrel
            have HG2 := Lib.hid hg2
            have HO6 := Lib.hid ho6
            have HL6 := Lib.hid hl6
            by_cases hk0 : k = 0
            · subst hk0
              have hl8 : (flatC (d.drop 0)).length * 80 ≤ 140737488355328 := by
                rw [List.drop_zero]
                have h1 := flatC_len (m := 1000) (c := d) (fun r hr => by obtain ⟨s, hs⟩ := HDM.out.2 r hr; exact HF.out s r hs)
                have h2 := HDM.out.1
                have h3 := HN.out
                have h4 : d.length * 1000 ≤ 20000000 := by omega
                omega
              have hvs := hl6.varS hl8
              rw [List.drop_zero] at hvs
              obtain ⟨aoL, capL, hlv⟩ := hvs.slice
              subst hlv
              have HVS := Lib.hid hvs
              clear hg2 ho6 hl6 hl8 hvs
              obtain ⟨m9, hm9⟩ : ∃ x, (flatC d).length = x := ⟨_, rfl⟩
              rw [hm9] at HVS ⊢
              go_wp2_with fail
              go_ret2
              refine ⟨_, by rw [HE.out]; rfl, by rw [HE.out]; exact HVS.out, Nil.trans HO5.out HO6.out⟩
            · obtain ⟨j, rfl⟩ : ∃ j, k = j + 1 := ⟨k - 1, by omega⟩
              have ej : (((j + 1 : Nat) : Int) - 1) = (j : Int) := by omega
              rw [ej]
              clear ej
              have j0 : (0 : Int) ≤ (j : Int) := Int.natCast_nonneg _
              have j1 : (j : Int) < (e : Int) := by omega
              obtain ⟨rj, hrj⟩ : ∃ r, d[j]? = some r := ⟨_, List.getElem?_eq_getElem (by rw [HLEN.out]; omega)⟩
              obtain ⟨ys, hown5, hcells⟩ := HR5.out
              obtain ⟨sj, hsj, hcj⟩ := hcells j rj hrj
              rw [HLEN.out] at hown5
              have hj4 : j * 4 + 3 < e * 4 := by omega
              have c3 : w5.cell? ⟨g2, j * 4 + 3, none⟩ = some (fv sj) := by
                rw [World.ownsRow.cellAt hown5 (j * 4 + 3) hj4]
                exact hcj 3 _ rfl
              obtain ⟨aoJ, capJ, offJ, bJ, ovs, eJ, p0, p1, p2, p3, p4, p5⟩ := (HM.out.fields sj rj hsj).inv
              obtain ⟨fl, hfl⟩ : ∃ fl, rj.fields = fl := ⟨_, rfl⟩
              rw [hfl] at eJ p0 p1 p2 p3 p4 p5
              obtain ⟨m, hm⟩ : ∃ m, fl.length = m := ⟨_, rfl⟩
              rw [hm] at eJ p0 p1 p2
              rw [eJ] at c3
              have c3' := ho6.cell c3 (fun h => h)
              have hO6 : Only Nil w0 wr := Nil.trans (Nil.trans HW.out HO5.out) ho6
              have hfd := flatC_drop hrj
              rw [hfl] at hfd
              have hmj : m ≤ 1000 := by rw [← hm, ← hfl]; exact HF.out sj rj hsj
              obtain ⟨L0, hL0⟩ : ∃ L, flatC (d.drop (j + 1)) = L := ⟨_, rfl⟩
              have hlen0 : L0.length ≤ 20000000 := by
                have h1 := flatC_len (m := 1000) (c := d.drop (j + 1)) (fun r hr => by obtain ⟨s, hs⟩ := HDM.out.2 r (List.mem_of_mem_drop hr); exact HF.out s r hs)
                rw [hL0, List.length_drop] at h1
                have h2 := HDM.out.1
                have h3 := HN.out
                have h4 : (d.length - (j + 1)) * 1000 ≤ 20000000 := by omega
                omega
              rw [hL0] at hfd hl6 HL6
              have HFD := Lib.hid hfd
              have HP0 := Lib.hid p0
              have HP2 := Lib.hid p2
              have HP3 := Lib.hid p3
              have HMM := Lib.hid hm
              have HMJ := Lib.hid hmj
              have HL0 := Lib.hid hlen0
              have HO60 := Lib.hid hO6
              have HLV := Lib.hid hl6
              obtain ⟨xl, ol, hownl, _⟩ := hl6
              obtain ⟨aoL, capL, hlv⟩ := sl_of_own hownl
              subst hlv
              obtain ⟨n6, hn6⟩ : ∃ x, L0.length = x := ⟨_, rfl⟩
              rw [hn6] at HLV ⊢
              clear hownl hg2 ho6 hrj hown5 hcells hsj hcj p0 p1 p2 p3 eJ hfl hm c3 hO6 hfd hmj hL0 hlen0 hn6
              go_wp2_with fail
              clear c3'
              go_loopg [9, 50] m (fun g v i wr => ∃ (q : Nat) (vv : Value), i = .int .i64 (q : Int) ∧ v = vv ∧ q ≤ m ∧ g = m - q ∧ Only Nil w5 wr ∧ VrRow w5.heap.size wr vv (L0 ++ fl.take q))
              case atStart => exact ⟨0, _, rfl, rfl, Nat.zero_le _, rfl, HO6.out, by rw [List.take_zero, List.append_nil]; exact HLV.out⟩
              case round =>
                obtain ⟨q2, lv2, rfl, rfl, hq2, hg3, ho7, hl7⟩ := hrel
                have HG3 := Lib.hid hg3
                have HO7 := Lib.hid ho7
                have q20 : (0 : Int) ≤ (q2 : Int) := Int.natCast_nonneg _
                by_cases hqm : q2 < m
                · have q21 : (q2 : Int) < (m : Int) := by omega
                  obtain ⟨x, hx⟩ : ∃ x, fl[q2]? = some x := ⟨_, List.getElem?_eq_getElem (by rw [HMM.out]; exact hqm)⟩
                  have e1 := HP0.out (by omega)
                  subst e1
                  have hO : Only Nil w0 wr := Nil.trans (Nil.trans HW.out HO5.out) ho7
                  have HO70 := Lib.hid hO
                  have a1 := (p4 q2 x hx).kept hO (fun _ h => h)
                  unfold vrCells at a1
                  have b0 := a1.get0
                  have b1 := a1.get 1 rfl
                  have b2 := a1.get 2 rfl
                  have b3 := a1.get 3 rfl
                  have b4 := a1.get 4 rfl
                  have b5 := a1.get 5 rfl
                  have hT := (p5 q2 x hx)
                  have C := fun w' (h : Only Nil w0 w') => cloneType_any hT x.t.form x.t.n x.t.name w' h
                  obtain ⟨aoT, capT, eT⟩ := hT.slice
                  rw [eT] at b5 C
                  obtain ⟨m3, hm3⟩ : ∃ x', x.t.of.length = x' := ⟨_, rfl⟩
                  rw [hm3] at b5 C
                  have HC := Lib.hid C
                  have HX := Lib.hid hx
                  have hnx := HP3.out x (List.mem_of_getElem? hx)
                  have HNX := Lib.hid hnx
                  obtain ⟨xs7, ovs7, hown7, hnm7, hm7⟩ := hl7
                  obtain ⟨ao7, cap7, hlv7⟩ := sl_of_own hown7
                  subst hlv7
                  have hl7 : (L0 ++ fl.take q2).length ≤ 20001000 := by
                    rw [List.length_append, List.length_take]
                    have := HL0.out
                    have := HMJ.out
                    omega
                  obtain ⟨L7, hL7⟩ : ∃ L, L0 ++ fl.take q2 = L := ⟨_, rfl⟩
                  rw [hL7] at hown7 hnm7 hm7 hl7
                  have hnext : L0 ++ fl.take (q2 + 1) = L7 ++ [x] := by rw [List.take_add_one, hx, ← hL7]; simp
                  rw [hL7]
                  obtain ⟨n7, hn7⟩ : ∃ x, L7.length = x := ⟨_, rfl⟩
                  rw [hn7] at hown7 hl7 hm7 ⊢
                  have HOWN7 := Lib.hid hown7
                  have HNM7 := Lib.hid hnm7
                  have HM7 := Lib.hid hm7
                  have HL7 := Lib.hid hl7
                  have HN7 := Lib.hid hn7
                  have HNEXT := Lib.hid hnext
                  obtain ⟨nm, hnm⟩ : ∃ y, x.name = y := ⟨_, rfl⟩
                  obtain ⟨ex, hex⟩ : ∃ y, x.exp = y := ⟨_, rfl⟩
                  obtain ⟨tf, htf⟩ : ∃ y, x.t.form = y := ⟨_, rfl⟩
                  obtain ⟨tn, htn⟩ : ∃ y, x.t.n = y := ⟨_, rfl⟩
                  obtain ⟨ts, hts⟩ : ∃ y, x.t.name = y := ⟨_, rfl⟩
                  have HCE : Hid (∀ ov, vrCells x ov = [.string nm, .bool ex, .int .i64 tf, .int .i64 tn, .string ts, ov]) := Lib.hid (fun ov => by unfold vrCells; rw [hnm, hex, htf, htn, hts])
                  rw [hnm] at b0
                  rw [hex] at b1
                  rw [htf] at b2 HC
                  rw [htn] at b3 HC
                  rw [hts] at b4 HC
                  clear a1 hx hT C eT hm3 hnx hown7 hnm7 hm7 hl7 hL7 hnext hn7 hnm hex htf htn hts hg3 ho7 p4 p5 HLV HL6
                  go_wp2_with fail
                  obtain ⟨wq, hwq⟩ : ∃ z, wr.alloc (.cells #[.string nm, .bool ex, .int .i64 tf, .int .i64 tn, .string ts, .slice aoT m3 capT] 47) = z := ⟨_, rfl⟩
                  have hB := Blk.new wr #[.string nm, .bool ex, .int .i64 tf, .int .i64 tn, .string ts, .slice aoT m3 capT] 47
                  have hQ : Only Nil wr wq := by rw [← hwq]; exact (Only.refl Nil wr).alloc _
                  rw [hwq] at hB ⊢
                  have HQ' := Lib.hid hQ
                  have cl0 := hB.cell 0
                  have cl1 := hB.cell 1
                  have cl2 := hB.cell 2
                  have cl3 := hB.cell 3
                  have cl4 := hB.cell 4
                  have cl5 := hB.cell 5
                  simp only [List.getElem?_toArray, List.getElem?_cons_zero, List.getElem?_cons_succ] at cl0 cl1 cl2 cl3 cl4 cl5
                  obtain ⟨bk, hbk⟩ : ∃ z, wr.heap.size = z := ⟨_, rfl⟩
                  rw [hbk] at hB cl0 cl1 cl2 cl3 cl4 cl5 ⊢
                  have HB := Lib.hid hB
                  clear hwq hB hQ b0 b1 b2 b3 b4 b5 hbk hO
                  have hS : Only Nil wq wq.drew := (Only.refl Nil wq).drew
                  refine wp_region_T (fun w' => Only Nil wq w') [10, 11] (by kernel_rfl) ?_
                  obtain ⟨wd, hwd⟩ : ∃ z, wq.drew = z := ⟨_, rfl⟩
                  rw [hwd] at hS ⊢
                  clear hwd
                  refine wpAnyT_take 0 (v := ?_) rfl (by kernel_rfl) (by kernel_rfl) (by kernel_rfl) (fun _ _ _ h => h) (by kernel_rfl) (by kernel_rfl) (Or.inl ⟨by kernel_rfl, ?_⟩) hS ?_
                  rotate_left
                  · (intro w' hw'; have f0 := M.Only.cell hw' cl0 (fun h => h); have f1 := M.Only.cell hw' cl1 (fun h => h); have f2 := M.Only.cell hw' cl2 (fun h => h); have f3 := M.Only.cell hw' cl3 (fun h => h); have f4 := M.Only.cell hw' cl4 (fun h => h); have f5 := M.Only.cell hw' cl5 (fun h => h); go_simp; (try with_reducible rfl))
                  refine wpAnyT_take 1 (v := ?_) rfl (by kernel_rfl) (by kernel_rfl) (by kernel_rfl) (fun _ _ _ h => h) (by kernel_rfl) (by kernel_rfl) (Or.inl ⟨by kernel_rfl, ?_⟩) hS ?_
                  rotate_left
                  · (intro w' hw'; have f0 := M.Only.cell hw' cl0 (fun h => h); have f1 := M.Only.cell hw' cl1 (fun h => h); have f2 := M.Only.cell hw' cl2 (fun h => h); have f3 := M.Only.cell hw' cl3 (fun h => h); have f4 := M.Only.cell hw' cl4 (fun h => h); have f5 := M.Only.cell hw' cl5 (fun h => h); go_simp; (try with_reducible rfl))
                  refine wpAnyT_take 2 (v := ?_) rfl (by kernel_rfl) (by kernel_rfl) (by kernel_rfl) (fun _ _ _ h => h) (by kernel_rfl) (by kernel_rfl) (Or.inl ⟨by kernel_rfl, ?_⟩) hS ?_
                  rotate_left
                  · (intro w' hw'; have f0 := M.Only.cell hw' cl0 (fun h => h); have f1 := M.Only.cell hw' cl1 (fun h => h); have f2 := M.Only.cell hw' cl2 (fun h => h); have f3 := M.Only.cell hw' cl3 (fun h => h); have f4 := M.Only.cell hw' cl4 (fun h => h); have f5 := M.Only.cell hw' cl5 (fun h => h); go_simp; (try with_reducible rfl))
                  refine wpAnyT_take 3 (v := ?_) rfl (by kernel_rfl) (by kernel_rfl) (by kernel_rfl) (fun _ _ _ h => h) (by kernel_rfl) (by kernel_rfl) (Or.inl ⟨by kernel_rfl, ?_⟩) hS ?_
                  rotate_left
                  · (intro w' hw'; have f0 := M.Only.cell hw' cl0 (fun h => h); have f1 := M.Only.cell hw' cl1 (fun h => h); have f2 := M.Only.cell hw' cl2 (fun h => h); have f3 := M.Only.cell hw' cl3 (fun h => h); have f4 := M.Only.cell hw' cl4 (fun h => h); have f5 := M.Only.cell hw' cl5 (fun h => h); go_simp; (try with_reducible rfl))
                  refine wpAnyT_take 4 (v := ?_) rfl (by kernel_rfl) (by kernel_rfl) (by kernel_rfl) (fun _ _ _ h => h) (by kernel_rfl) (by kernel_rfl) (Or.inl ⟨by kernel_rfl, ?_⟩) hS ?_
                  rotate_left
                  · (intro w' hw'; have f0 := M.Only.cell hw' cl0 (fun h => h); have f1 := M.Only.cell hw' cl1 (fun h => h); have f2 := M.Only.cell hw' cl2 (fun h => h); have f3 := M.Only.cell hw' cl3 (fun h => h); have f4 := M.Only.cell hw' cl4 (fun h => h); have f5 := M.Only.cell hw' cl5 (fun h => h); go_simp; (try with_reducible rfl))
                  refine wpAnyT_take 5 (v := ?_) rfl (by kernel_rfl) (by kernel_rfl) (by kernel_rfl) (fun _ _ _ h => h) (by kernel_rfl) (by kernel_rfl) (Or.inl ⟨by kernel_rfl, ?_⟩) hS ?_
                  rotate_left
                  · (intro w' hw'; have f0 := M.Only.cell hw' cl0 (fun h => h); have f1 := M.Only.cell hw' cl1 (fun h => h); have f2 := M.Only.cell hw' cl2 (fun h => h); have f3 := M.Only.cell hw' cl3 (fun h => h); have f4 := M.Only.cell hw' cl4 (fun h => h); have f5 := M.Only.cell hw' cl5 (fun h => h); go_simp; (try with_reducible rfl))
                  refine wpAnyT_take 6 (v := ?_) rfl (by kernel_rfl) (by kernel_rfl) (by kernel_rfl) (fun _ _ _ h => h) (by kernel_rfl) (by kernel_rfl) (Or.inl ⟨by kernel_rfl, ?_⟩) hS ?_
                  rotate_left
                  · (intro w' hw'; have f0 := M.Only.cell hw' cl0 (fun h => h); have f1 := M.Only.cell hw' cl1 (fun h => h); have f2 := M.Only.cell hw' cl2 (fun h => h); have f3 := M.Only.cell hw' cl3 (fun h => h); have f4 := M.Only.cell hw' cl4 (fun h => h); have f5 := M.Only.cell hw' cl5 (fun h => h); go_simp; (try with_reducible rfl))
                  refine wpAnyT_one (i := 7) rfl (by kernel_rfl) (fun K hK => ?_)
                  go_simp
                  go_wp2_with (go_at_call 30; refine (HC.out _ (Nil.trans (Nil.trans HO70.out HQ'.out) hS)).mono ?_; rintro e w8 ⟨ov', rfl, hT8, ho8⟩; obtain ⟨aoN, capN, eN⟩ := hT8.slice; obtain ⟨m4, hm4⟩ : ∃ z, x.t.of.length = z := ⟨_, rfl⟩; rw [hm4] at eN; subst eN; have hS8 : Only Nil wq w8 := Nil.trans hS ho8)
                  refine hK.out _ _ (fun _ => hS8) ?_
                  clear hK K
                  have hd8 : wq.heap.size ≤ wd.heap.size := hS.size
                  clear hS
                  refine wpAnyT_take 8 (v := ?_) rfl (by kernel_rfl) (by kernel_rfl) (by kernel_rfl) (fun _ _ _ h => h) (by kernel_rfl) (by kernel_rfl) (Or.inl ⟨by kernel_rfl, ?_⟩) hS8 ?_
                  rotate_left
                  · (intro w' hw'; go_simp; (try with_reducible rfl))
                  refine wpAnyT_one (i := 9) rfl (by kernel_rfl) (fun K hK => ?_)
                  go_simp
                  refine hK.out _ _ (fun _ => hS8.alloc _) ?_
                  clear hK K
                  have h78 : Only Nil wr w8 := Nil.trans HQ'.out hS8
                  have hsz8 : w5.heap.size ≤ w8.heap.size := by
                    have h1 := HO7.out.size
                    have h2 := h78.size
                    omega
                  obtain ⟨g9, cap9, w9, hrun, hown9, hmv, ho9⟩ := run_append_new (P := Tryd.prog) (w := w8) w5.heap.size 33 33 47 iV zV 6 80 1 Tryd.underlying33 hiV hV0 hV1 hV2 hV3 (by decide) (by decide) (.slice ao7 n7 cap7) n7 xs7 (ownsRow_only HOWN7.out h78 (fun _ _ h => h)) #[.string nm, .bool ex, .int .i64 tf, .int .i64 tn, .string ts, .slice aoN m4 capN] rfl (by simp [Value.oneCell'])
                    (by unfold maxLen; have := HL7.out; omega) (by have := HL7.out; omega) hsz8
                  refine wpAnyT_one (i := 10) rfl (by kernel_rfl) (fun K hK => ?_)
                  rw [if_pos (by kernel_rfl)]
                  refine operWp_append _ _ _ rfl rfl rfl hrun ?_
                  refine hK.out _ _ (fun h => by cases h) ?_
                  clear hK K hrun
                  refine wpAnyT_one (i := 11) rfl (by kernel_rfl) (fun K hK => ?_)
                  go_simp
                  refine hK.out _ _ (fun h => by cases h) ?_
                  clear hK K
                  refine wpAnyT_done (by kernel_rfl) ?_
                  have hq8 := HQ'.out.size
                  have hrow9 : VrRow w5.heap.size w9 (.slice (some ⟨g9, 0, none⟩) (n7 + 1) cap9) (L7 ++ [x]) :=
                    VrRow.more HN7.out rfl HOWN7.out HNM7.out HM7.out h78 (VrNews.one (hT8.mono (fun k hk => ⟨hk.2, fun h => by
                      have h1 := (HOWN7.out.lt k h).2
                      have h2 := hk.1
                      omega⟩)) HNX.out) (by rw [HCE.out]; exact hown9) hmv ho9
                  have hO9 : Only Nil w5 w9 := (Nil.trans HO7.out h78).trans ho9 (fun b hb h => by have := (HOWN7.out.lt b h.symm).1; omega)
                  have HR9 := Lib.hid hrow9
                  have HO9 := Lib.hid hO9
                  clear hT8 hm4 hown9 hmv ho9 hrow9 hO9 cl0 cl1 cl2 cl3 cl4 cl5 HB hS8 h78 hsz8 ho8 hq8 hd8 HC
                  go_wp2_with fail
                  go_roundg (m - (q2 + 1))
                  case measure => have := HG3.out; omega
                  case rel => exact ⟨q2 + 1, _, next_int (m := 1) hqm (by have := HMJ.out; omega) (by decide), rfl, by omega, rfl, HO9.out, by rw [HNEXT.out]; exact HR9.out⟩
                · have hq8 : q2 = m := by omega
                  subst hq8
                  have q21 : (q2 : Int) ≤ (q2 : Int) := Int.le_refl _
                  rw [List.take_of_length_le (by rw [HMM.out]; exact Nat.le_refl _), ← HFD.out] at hl7
                  have HR9 := Lib.hid hl7
                  have HL9 : Hid (e ≤ 20000) := Lib.hid (by have h1 := HEQ.out; have h2 := HN.out; have h3 := HQN.out; have h4 := HQ.out; omega)
                  have wj : IntKind.i64.wrap ((j : Int) - 1) = (j : Int) - 1 := by rw [IntKind.wrap]; have := HL9.out; simp [IntKind.bits, IntKind.signed]; omega
                  clear hl7 p4 p5 hg3 ho7
                  go_wp2_with fail
                  go_roundg j
                  case measure => have := HG2.out; omega
                  case rel => exact ⟨j, _, rfl, rfl, by omega, rfl, HO7.out, HR9.out⟩
        · have hfin := HST.out.2 (by rw [HBS.out]; exact hb)
          have hb : (bs.toList == []) = false := by simpa using hb
          have HFIN := Lib.hid hfin
          clear hfin look len
          go_wp2_with fail
          go_roundg (n + 1 - (q + 1))
          case measure => have := HG.out; have := HQ.out; have := HQN.out; omega
          case rel =>
            refine ⟨c ++ [r], bs, _, rfl, rfl, ?_, ?_, HO5.out, ?_, ?_, ?_⟩
            · rw [List.length_append]; have := HQN.out; simp; omega
            · rw [List.length_append, HQ.out]; rfl
            · exact HR5.out
            · rw [← HBS.out]; exact HSZ.out
            · rw [← HBS.out]; exact HFIN.out
end Go.Proofs.YtcbeibhmjokecaaDoor
