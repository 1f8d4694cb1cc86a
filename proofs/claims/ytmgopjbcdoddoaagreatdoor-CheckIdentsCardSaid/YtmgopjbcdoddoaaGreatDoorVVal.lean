/- Values as an evaluation sees them: memory that it makes and may write has names; slices that nobody writes to are lists. No Go program is imported. -/
import Derived.Test.YtmgopjbcdoddoaaGreatDoorVTrie
import Derived.Orders
import Derived.Below
set_option linter.unusedSimpArgs false
set_option linter.unusedVariables false
namespace Go.VE

/-- May a list be appended to: its capacity is its length; a room of this name lies behind it; it is not known. -/
inductive Own where
  | full
  | tok (t : Nat)
  | unk

inductive AV where
  | bool (b : Bool)
  | int (k : IntKind) (n : Int)
  | sym (k : IntKind) (i : Nat)
  | str (s : List UInt8)
  | nilp
  | ptr (l o : Nat)
  | eptr (cs : List AV) (o : Nat)
  | nils
  | lst (s : Nat) (own : Own) (rows : List (List AV))
  | view (l o n c : Nat)
  | vec (l s n top : Nat)
  | sub (l o n : Nat)
  | nilm
  | map (l : Nat)
  | fn (f : FuncId) (first captured : List AV)
  | nilf
  | agg (cs : List AV)
  | tup (cs : List AV)
  | iface (t : TypeId) (v : AV)
  | nili

/-- What stands behind the names in a world. -/
structure Gh where
  rho : Nat → Option Nat
  fz : Nat → Nat → Option Value
  room : Nat → Option (Nat × Nat × Nat)
  dead : Nat → Prop
  val : Nat → Int
  wide : Nat → Nat

def OwnOk (g : Gh) (b e s len cap : Nat) : Own → Prop
  | .full => cap = len
  | .tok t => ∃ r, g.room t = some (b, e, r) ∧ cap * s = len * s + r
  | .unk => True

mutual
def Rv (g : Gh) : AV → Value → Prop
  | .bool b, v => v = .bool b
  | .int k n, v => v = .int k n
  | .sym k i, v => v = .int k (g.val i)
  | .str s, v => v = .string ⟨⟨s⟩⟩
  | .nilp, v => v = .pointer none
  | .ptr l o, v => ∃ b, g.rho l = some b ∧ v = .pointer (some ⟨b, o, none⟩)
  | .eptr cs o, v => ∃ b p, v = .pointer (some ⟨b, p + o, none⟩) ∧ Rc g b cs p
  | .nils, v => v = .slice none 0 0
  | .lst s own rows, v => ∃ b o cap, v = .slice (some ⟨b, o, none⟩) rows.length cap ∧ rows.length ≤ cap ∧ OwnOk g b (o + rows.length * s) s rows.length cap own ∧ Rr g s b rows o
  | .view l o n c, v => ∃ b, g.rho l = some b ∧ v = .slice (some ⟨b, o, none⟩) n c
  | .vec l s n top, v => ∃ b cap, g.rho l = some b ∧ v = .slice (some ⟨b, 0, none⟩) n cap ∧ n ≤ top ∧ top ≤ cap ∧ g.wide b = cap * s
  | .sub l o n, v => ∃ b c, g.rho l = some b ∧ v = .slice (some ⟨b, o, none⟩) n c ∧ n ≤ c
  | .iface t a, v => ∃ u, v = .iface t u ∧ Rv g a u
  | .nili, v => v = .nilIface
  | .nilm, v => v = .map none
  | .map l, v => ∃ b, g.rho l = some b ∧ v = .map (some b)
  | .fn f a c, v => ∃ va vc, v = .func (.func f) ⟨va⟩ ⟨vc⟩ ∧ Rl g a va ∧ Rl g c vc
  | .nilf, v => v = .nilFunc
  | .agg cs, v => ∃ vs, v = .agg ⟨vs⟩ ∧ Rl g cs vs
  | .tup cs, v => ∃ vs, v = .tuple ⟨vs⟩ ∧ Rl g cs vs
/-- Of values one behind another. -/
def Rl (g : Gh) : List AV → List Value → Prop
  | [], vs => vs = []
  | a :: as, vs => ∃ v rest, vs = v :: rest ∧ Rv g a v ∧ Rl g as rest
/-- Of cells that nobody writes, from a place on. -/
def Rc (g : Gh) (b : Nat) : List AV → Nat → Prop
  | [], _ => True
  | a :: as, p => (∃ v, g.fz b p = some v ∧ Rv g a v) ∧ Rc g b as (p + 1)
/-- Of rows of such cells. -/
def Rr (g : Gh) (s b : Nat) : List (List AV) → Nat → Prop
  | [], _ => True
  | r :: rs, o => r.length = s ∧ Rc g b r o ∧ Rr g s b rs (o + s)
end

/-- More is known. -/
structure Gh.le (g h : Gh) : Prop where
  rho : ∀ l b, g.rho l = some b → h.rho l = some b
  fz : ∀ b o v, g.fz b o = some v → h.fz b o = some v
  room : ∀ t x, g.room t = some x → h.room t = some x
  val : h.val = g.val
  wide : ∀ l b, g.rho l = some b → h.wide b = g.wide b

theorem Gh.le.refl (g : Gh) : g.le g := ⟨fun _ _ h => h, fun _ _ _ h => h, fun _ _ h => h, rfl, fun _ _ _ => rfl⟩
theorem Gh.le.trans {a b c : Gh} (h : a.le b) (k : b.le c) : a.le c :=
  ⟨fun l x q => k.rho l x (h.rho l x q), fun l o x q => k.fz l o x (h.fz l o x q), fun t x q => k.room t x (h.room t x q), k.val.trans h.val, fun l b q => (k.wide l b (h.rho l b q)).trans (h.wide l b q)⟩

theorem OwnOk.mono {g h : Gh} (le : g.le h) {b e s n c : Nat} : ∀ {own : Own}, OwnOk g b e s n c own → OwnOk h b e s n c own
  | .full, k => k
  | .tok t, ⟨r, a, b⟩ => ⟨r, le.room _ _ a, b⟩
  | .unk, k => k

mutual
theorem Rv.mono {g h : Gh} (le : g.le h) : ∀ (a : AV) (v : Value), Rv g a v → Rv h a v
  | .bool _, _, k => by simpa only [Rv] using k
  | .int _ _, _, k => by simpa only [Rv] using k
  | .sym _ _, _, k => by simp only [Rv] at k ⊢; rw [le.val]; exact k
  | .str _, _, k => by simpa only [Rv] using k
  | .nilp, _, k => by simpa only [Rv] using k
  | .ptr l o, v, k => by
    simp only [Rv] at k ⊢
    obtain ⟨b, k1, k2⟩ := k
    exact ⟨b, le.rho _ _ k1, k2⟩
  | .eptr cs o, v, k => by
    simp only [Rv] at k ⊢
    obtain ⟨b, p, k1, k2⟩ := k
    exact ⟨b, p, k1, Rc.mono le b cs p k2⟩
  | .nils, _, k => by simpa only [Rv] using k
  | .lst s own rows, v, k => by
    simp only [Rv] at k ⊢
    obtain ⟨b, o, cap, k1, k2, k3, k4⟩ := k
    exact ⟨b, o, cap, k1, k2, k3.mono le, Rr.mono le s b rows o k4⟩
  | .view l o n c, v, k => by
    simp only [Rv] at k ⊢
    obtain ⟨b, k1, k2⟩ := k
    exact ⟨b, le.rho _ _ k1, k2⟩
  | .nilm, _, k => by simpa only [Rv] using k
  | .nili, _, k => by simpa only [Rv] using k
  | .iface t a, v, k => by
    simp only [Rv] at k ⊢
    obtain ⟨u, k1, k2⟩ := k
    exact ⟨u, k1, Rv.mono le a u k2⟩
  | .vec l s n top, v, k => by
    simp only [Rv] at k ⊢
    obtain ⟨b, c, k1, k2, k3, k4, k5⟩ := k
    exact ⟨b, c, le.rho _ _ k1, k2, k3, k4, (le.wide _ _ k1).trans k5⟩
  | .sub l o n, v, k => by
    simp only [Rv] at k ⊢
    obtain ⟨b, c, k1, k2, k3⟩ := k
    exact ⟨b, c, le.rho _ _ k1, k2, k3⟩
  | .map l, v, k => by
    simp only [Rv] at k ⊢
    obtain ⟨b, k1, k2⟩ := k
    exact ⟨b, le.rho _ _ k1, k2⟩
  | .fn f a c, v, k => by
    simp only [Rv] at k ⊢
    obtain ⟨va, vc, k1, k2, k3⟩ := k
    exact ⟨va, vc, k1, Rl.mono le a va k2, Rl.mono le c vc k3⟩
  | .nilf, _, k => by simpa only [Rv] using k
  | .agg cs, v, k => by
    simp only [Rv] at k ⊢
    obtain ⟨vs, k1, k2⟩ := k
    exact ⟨vs, k1, Rl.mono le cs vs k2⟩
  | .tup cs, v, k => by
    simp only [Rv] at k ⊢
    obtain ⟨vs, k1, k2⟩ := k
    exact ⟨vs, k1, Rl.mono le cs vs k2⟩
theorem Rl.mono {g h : Gh} (le : g.le h) : ∀ (as : List AV) (vs : List Value), Rl g as vs → Rl h as vs
  | [], _, k => by simpa only [Rl] using k
  | a :: as, vs, k => by
    simp only [Rl] at k ⊢
    obtain ⟨v, rest, k1, k2, k3⟩ := k
    exact ⟨v, rest, k1, Rv.mono le a v k2, Rl.mono le as rest k3⟩
theorem Rc.mono {g h : Gh} (le : g.le h) (b : Nat) : ∀ (as : List AV) (p : Nat), Rc g b as p → Rc h b as p
  | [], _, k => by simp only [Rc]
  | a :: as, p, k => by
    simp only [Rc] at k ⊢
    obtain ⟨⟨v, k1, k2⟩, k3⟩ := k
    exact ⟨⟨v, le.fz _ _ _ k1, Rv.mono le a v k2⟩, Rc.mono le b as (p + 1) k3⟩
theorem Rr.mono {g h : Gh} (le : g.le h) (s b : Nat) : ∀ (rs : List (List AV)) (o : Nat), Rr g s b rs o → Rr h s b rs o
  | [], _, k => by simp only [Rr]
  | r :: rs, o, k => by
    simp only [Rr] at k ⊢
    exact ⟨k.1, Rc.mono le b r o k.2.1, Rr.mono le s b rs (o + s) k.2.2⟩
end

theorem Rl.length {g : Gh} : ∀ {as : List AV} {vs : List Value}, Rl g as vs → as.length = vs.length
  | [], _, k => by simp only [Rl] at k; subst k; rfl
  | a :: as, vs, k => by
    simp only [Rl] at k
    obtain ⟨v, rest, rfl, _, k3⟩ := k
    simp [Rl.length k3]
theorem Rl.get {g : Gh} : ∀ {as : List AV} {vs : List Value}, Rl g as vs → ∀ {i : Nat} {a : AV}, as[i]? = some a → ∃ v, vs[i]? = some v ∧ Rv g a v
  | [], _, _, _, _, h => by simp at h
  | a :: as, vs, k, i, x, h => by
    simp only [Rl] at k
    obtain ⟨v, rest, rfl, k2, k3⟩ := k
    cases i with
    | zero => simp at h; subst h; exact ⟨v, rfl, k2⟩
    | succ i => simp at h; simpa using Rl.get k3 h
theorem Rl.of {g : Gh} : ∀ {as : List AV} {vs : List Value}, as.length = vs.length → (∀ (i : Nat) (a : AV) (v : Value), as[i]? = some a → vs[i]? = some v → Rv g a v) → Rl g as vs
  | [], [], _, _ => by simp only [Rl]
  | a :: as, v :: vs, h, k => by
    simp only [Rl]
    exact ⟨v, vs, rfl, k 0 a v rfl rfl, Rl.of (by simpa using h) (fun i x y hx hy => k (i + 1) x y (by simpa using hx) (by simpa using hy))⟩
theorem Rl.append {g : Gh} : ∀ {as : List AV} {vs : List Value} {bs : List AV} {us : List Value}, Rl g as vs → Rl g bs us → Rl g (as ++ bs) (vs ++ us)
  | [], _, _, _, h, k => by simp only [Rl] at h; subst h; exact k
  | a :: as, vs, bs, us, h, k => by
    simp only [Rl] at h
    obtain ⟨v, rest, rfl, h2, h3⟩ := h
    simp only [List.cons_append, Rl]
    exact ⟨v, rest ++ us, rfl, h2, Rl.append h3 k⟩
theorem Rl.one {g : Gh} {a : AV} {v : Value} (h : Rv g a v) : Rl g [a] [v] := by
  simp only [Rl]; exact ⟨v, [], rfl, h, rfl⟩
theorem Rl.nil {g : Gh} : Rl g [] [] := by simp only [Rl]
theorem Rl.cons {g : Gh} {a : AV} {v : Value} {as : List AV} {vs : List Value} (h : Rv g a v) (k : Rl g as vs) : Rl g (a :: as) (v :: vs) := by
  simp only [Rl]; exact ⟨v, vs, rfl, h, k⟩
theorem Rl.take {g : Gh} {as : List AV} {vs : List Value} (h : Rl g as vs) (n : Nat) : Rl g (as.take n) (vs.take n) :=
  Rl.of (by simp [h.length]) (fun i a v ha hv => by
    rw [List.getElem?_take] at ha hv
    split at ha
    · rw [if_pos ‹_›] at hv
      obtain ⟨u, hu, r⟩ := h.get ha
      rw [hu] at hv; cases hv; exact r
    · simp at ha)
theorem Rl.drop {g : Gh} {as : List AV} {vs : List Value} (h : Rl g as vs) (n : Nat) : Rl g (as.drop n) (vs.drop n) :=
  Rl.of (by simp [h.length]) (fun i a v ha hv => by
    rw [List.getElem?_drop] at ha hv
    obtain ⟨u, hu, r⟩ := h.get ha
    rw [hu] at hv; cases hv; exact r)
theorem Rc.get {g : Gh} {b : Nat} : ∀ {as : List AV} {p : Nat}, Rc g b as p → ∀ {i : Nat} {a : AV}, as[i]? = some a → ∃ v, g.fz b (p + i) = some v ∧ Rv g a v
  | [], _, _, _, _, h => by simp at h
  | a :: as, p, k, i, x, h => by
    simp only [Rc] at k
    cases i with
    | zero => simp at h; subst h; exact k.1
    | succ i =>
      simp at h
      obtain ⟨v, hv, r⟩ := Rc.get k.2 h
      exact ⟨v, by rw [show p + (i + 1) = p + 1 + i by omega]; exact hv, r⟩
theorem Rc.of {g : Gh} {b : Nat} : ∀ {as : List AV} {p : Nat}, (∀ (i : Nat) (a : AV), as[i]? = some a → ∃ v, g.fz b (p + i) = some v ∧ Rv g a v) → Rc g b as p
  | [], _, _ => by simp only [Rc]
  | a :: as, p, k => by
    simp only [Rc]
    exact ⟨k 0 a rfl, Rc.of fun i x h => by
      obtain ⟨v, hv, r⟩ := k (i + 1) x (by simpa using h)
      exact ⟨v, by rw [show p + 1 + i = p + (i + 1) by omega]; exact hv, r⟩⟩
theorem Rr.get {g : Gh} {s b : Nat} : ∀ {rs : List (List AV)} {o : Nat}, Rr g s b rs o → ∀ {i : Nat} {r : List AV}, rs[i]? = some r → r.length = s ∧ Rc g b r (o + i * s)
  | [], _, _, _, _, h => by simp at h
  | r :: rs, o, k, i, x, h => by
    simp only [Rr] at k
    cases i with
    | zero => simp at h; subst h; simpa using ⟨k.1, k.2.1⟩
    | succ i =>
      simp at h
      have := Rr.get k.2.2 h
      rw [show o + (i + 1) * s = o + s + i * s by rw [Nat.add_mul]; omega]
      exact this
theorem Rr.of {g : Gh} {s b : Nat} : ∀ {rs : List (List AV)} {o : Nat}, (∀ (i : Nat) (r : List AV), rs[i]? = some r → r.length = s ∧ Rc g b r (o + i * s)) → Rr g s b rs o
  | [], _, _ => by simp only [Rr]
  | r :: rs, o, k => by
    simp only [Rr]
    have h0 := k 0 r rfl
    refine ⟨h0.1, by simpa using h0.2, Rr.of fun i x h => ?_⟩
    have := k (i + 1) x (by simpa using h)
    rw [show o + s + i * s = o + (i + 1) * s by rw [Nat.add_mul]; omega]
    exact this
theorem Rr.drop {g : Gh} {s b : Nat} {rs : List (List AV)} {o : Nat} (h : Rr g s b rs o) (n : Nat) : Rr g s b (rs.drop n) (o + n * s) :=
  Rr.of fun i r hr => by
    rw [List.getElem?_drop] at hr
    have := h.get hr
    rw [show o + n * s + i * s = o + (n + i) * s by rw [Nat.add_mul]; omega]
    exact this
theorem Rr.take {g : Gh} {s b : Nat} {rs : List (List AV)} {o : Nat} (h : Rr g s b rs o) (n : Nat) : Rr g s b (rs.take n) o :=
  Rr.of fun i r hr => by
    rw [List.getElem?_take] at hr
    split at hr
    · exact h.get hr
    · simp at hr
end Go.VE
