import PyProof.Rows.All
import Wide.All
import OpenK.AllK
import Wide.FinOn
import HandS.ForMost
import HandS.Exc
import HandS.TryOnly
import HandS.TryMany
import HandS.WordsExc
import HandS.CallSlots
import HandS.Property
import HandS.ExcInit
import HandS.ExcField
import HandS.ExcIs
import HandS.Wide
import HandS.Walk
import HandS.Style
import HandS.IsInst
import HandS.TupMul
import KE.KOpsOwn
import HandS.SlotsOwn
import HandS.Dict
import HandS.Text
import HandS.DeepEq
import HandS.Ends
import HandS.RaiseMore
import PyProof.ReprRoads
import HandS.SetTxt0
import HandS.Set
import HandS.SetBool
import HandS.Comp
import PyProof.Rows.SortShellAny
import HandS.CallLocal
import HandS.More
import HandS.ExcOwn
import HandS.OwnEq
import PyProof.InstNe
import PyProof.StrBlock2
import HandS.Deep
import HandS.Strs
import PyProof.Rows.SetFrom
import PyProof.EqKinds
import PyProof.NeKinds
import KE.GoesEnum
import PySem.Challenge.RW_elderruns_k04_values_built_unlike
set_option Elab.async false
set_option linter.all false
set_option maxRecDepth 100000
set_option maxHeartbeats 4000000
namespace ER
open PySem PySem.Spec PyProof.Rows L2

/-! ## data: trees of values, and handles to things that may change -/
inductive D where
  | v (x : V)
  | hd (k : Nat)
  | lst (xs : List D)
  | tup (xs : List D)
  | scr (ns : List Int)
  | dct (ks : List Key) (xs : List D)
  | obj (c : Nat) (ns : List Str) (xs : List D)

inductive Ct where
  | lst (xs : List D)
  | dct (ks : List Key) (xs : List D)
  | ins (c : Nat) (ns : List Str) (xs : List D)

abbrev Mu := Nat → Option Ct
/-- a state: where the handles lie, how many there were, what they hold, the heap -/
structure Sn where
  kap : Nat → Addr
  n : Nat
  al : Mu
  vis : Nat → Bool
  H : Hp
/-- what is in sight -/
def Sn.mu (s : Sn) : Mu := fun k => if s.vis k = true then s.al k else none
def Sn.M (s : Sn) (a : Addr) : Prop := ∃ k c, s.al k = some c ∧ s.kap k = a
theorem Sn.mu_al {s : Sn} {k : Nat} {c : Ct} (h : s.mu k = some c) : s.al k = some c ∧ s.vis k = true := by
  unfold Sn.mu at h
  split at h
  · exact ⟨h, by assumption⟩
  · cases h

section
variable (cl : Nat → Addr) (s : Sn)
mutual
inductive Rep : D → V → Prop
  | v (x : V) : Rep (.v x) x
  | hd {k : Nat} : k < s.n → Rep (.hd k) (.ref (s.kap k))
  | lst {a : Addr} {ds : List D} {vs : List V} : ¬ s.M a → s.H a = some (.lst vs) → Reps ds vs → Rep (.lst ds) (.ref a)
  | tup {a : Addr} {ds : List D} {vs : List V} : ¬ s.M a → s.H a = some (.tup vs) → Reps ds vs → Rep (.tup ds) (.ref a)
  | scr {a : Addr} {o : Obj} {ns : List Int} : ¬ s.M a → s.H a = some (.frz o (.lst (ns.map V.int))) → Rep (.scr ns) (.ref a)
  | dct {a : Addr} {ks : List Key} {ds : List D} {vs : List V} : ¬ s.M a → s.H a = some (.dK (ks.zip vs)) → ks.length = vs.length → Reps ds vs → Rep (.dct ks ds) (.ref a)
  | obj {a dx : Addr} {c : Nat} {ns : List Str} {ds : List D} {vs : List V} : ¬ s.M a → s.H a = some (.ins (cl c) dx (ns.zip vs)) → ns.length = vs.length → Reps ds vs → Rep (.obj c ns ds) (.ref a)
inductive Reps : List D → List V → Prop
  | nil : Reps [] []
  | cons {d : D} {v : V} {ds : List D} {vs : List V} : Rep d v → Reps ds vs → Reps (d :: ds) (v :: vs)
end
end

structure Le (s s' : Sn) : Prop where
  n : s.n ≤ s'.n
  kap : ∀ k, k < s.n → s'.kap k = s.kap k
  keep : ∀ a o, s.H a = some o → ¬ s.M a → s'.H a = some o ∧ ¬ s'.M a
  hid : ∀ k c, s.al k = some c → s.vis k = false → s'.al k = some c ∧ s'.vis k = false
theorem Le.refl (s : Sn) : Le s s := ⟨Nat.le_refl _, fun _ _ => rfl, fun _ _ h n => ⟨h, n⟩, fun _ _ h n => ⟨h, n⟩⟩
theorem Le.trans {s t u : Sn} (a : Le s t) (b : Le t u) : Le s u :=
  ⟨Nat.le_trans a.n b.n, fun k hk => (b.kap k (Nat.lt_of_lt_of_le hk a.n)).trans (a.kap k hk), fun x o h n => let ⟨h1, n1⟩ := a.keep x o h n; b.keep x o h1 n1, fun k c h n => let ⟨h1, n1⟩ := a.hid k c h n; b.hid k c h1 n1⟩

section
variable {cl : Nat → Addr} {s s' : Sn}
theorem Le.rd (l : Le s s') {a : Addr} {u : HO} (nm : ¬ s.M a) (h : Rd s.H a u) : Rd s'.H a u ∧ ¬ s'.M a := by
  rcases h with h | ⟨o, h⟩
  · exact ⟨.inl (l.keep a _ h nm).1, (l.keep a _ h nm).2⟩
  · exact ⟨.inr ⟨o, (l.keep a _ h nm).1⟩, (l.keep a _ h nm).2⟩
mutual
theorem Rep.mono (l : Le s s') : ∀ {d : D} {v : V}, Rep cl s d v → Rep cl s' d v
  | _, _, .v x => .v x
  | _, _, .hd (k := k) h => by
    have e := l.kap k h
    rw [← e]
    exact .hd (Nat.lt_of_lt_of_le h l.n)
  | _, _, .lst n h r => let ⟨h', n'⟩ := l.keep _ _ h n; .lst n' h' (Reps.mono l r)
  | _, _, .tup n h r => let ⟨h', n'⟩ := l.keep _ _ h n; .tup n' h' (Reps.mono l r)
  | _, _, .scr n h => let ⟨h', n'⟩ := l.keep _ _ h n; .scr n' h'
  | _, _, .dct n h z r => let ⟨h', n'⟩ := l.keep _ _ h n; .dct n' h' z (Reps.mono l r)
  | _, _, .obj n h z r => let ⟨h', n'⟩ := l.keep _ _ h n; .obj n' h' z (Reps.mono l r)
theorem Reps.mono (l : Le s s') : ∀ {ds : List D} {vs : List V}, Reps cl s ds vs → Reps cl s' ds vs
  | _, _, .nil => .nil
  | _, _, .cons h r => .cons (Rep.mono l h) (Reps.mono l r)
end
theorem Reps.length : ∀ {ds : List D} {vs : List V}, Reps cl s ds vs → ds.length = vs.length
  | _, _, .nil => rfl
  | _, _, .cons _ r => congrArg (· + 1) (Reps.length r)
theorem Reps.get : ∀ {ds : List D} {vs : List V} {i : Nat} {d : D}, Reps cl s ds vs → ds[i]? = some d → ∃ v, vs[i]? = some v ∧ Rep cl s d v
  | _, _, _, _, .nil, e => by simp at e
  | _, _, 0, _, .cons r _, e => by simp at e; subst e; exact ⟨_, rfl, r⟩
  | _, _, i + 1, d, .cons _ t, e => by
    obtain ⟨u, h1, h2⟩ := Reps.get (i := i) (d := d) t (by simpa using e)
    exact ⟨u, by simpa using h1, h2⟩
theorem Reps.set {d : D} {v : V} (r : Rep cl s d v) : ∀ {ds : List D} {vs : List V} (i : Nat), Reps cl s ds vs → Reps cl s (ds.set i d) (vs.set i v)
  | _, _, _, .nil => .nil
  | _, _, 0, .cons _ t => .cons r t
  | _, _, i + 1, .cons q t => .cons q (Reps.set r i t)
theorem Reps.append : ∀ {ds es : List D} {vs us : List V}, Reps cl s ds vs → Reps cl s es us → Reps cl s (ds ++ es) (vs ++ us)
  | _, _, _, _, .nil, q => q
  | _, _, _, _, .cons r t, q => .cons r (Reps.append t q)
theorem Reps.drop : ∀ {ds : List D} {vs : List V} (n : Nat), Reps cl s ds vs → Reps cl s (ds.drop n) (vs.drop n)
  | _, _, 0, r => r
  | _, _, _ + 1, .nil => .nil
  | _, _, n + 1, .cons _ t => Reps.drop n t
theorem Reps.take : ∀ {ds : List D} {vs : List V} (n : Nat), Reps cl s ds vs → Reps cl s (ds.take n) (vs.take n)
  | _, _, 0, _ => .nil
  | _, _, _ + 1, .nil => .nil
  | _, _, n + 1, .cons r t => .cons r (Reps.take n t)
theorem Reps.vals : ∀ {xs : List V}, Reps cl s (xs.map D.v) xs
  | [] => .nil
  | x :: xs => .cons (.v x) Reps.vals
theorem Reps.vals_eq : ∀ {xs : List V} {vs : List V}, Reps cl s (xs.map D.v) vs → vs = xs
  | [], _, .nil => rfl
  | x :: xs, _, .cons (.v _) r => by rw [Reps.vals_eq r]
theorem Reps.dropLast {ds : List D} {vs : List V} (r : Reps cl s ds vs) : Reps cl s ds.dropLast vs.dropLast := by
  rw [List.dropLast_eq_take, List.dropLast_eq_take, r.length]
  exact r.take _
theorem Reps.reverse : ∀ {ds : List D} {vs : List V}, Reps cl s ds vs → Reps cl s ds.reverse vs.reverse
  | _, _, .nil => .nil
  | _, _, .cons r t => by
    rw [List.reverse_cons, List.reverse_cons]
    exact (Reps.reverse t).append (.cons r .nil)
end

section
variable (cl : Nat → Addr)
def CtAt (s : Sn) (a : Addr) : Ct → Prop
  | .lst ds => ∃ vs, s.H a = some (.lst vs) ∧ Reps cl s ds vs
  | .dct ks ds => ∃ vs, s.H a = some (.dK (ks.zip vs)) ∧ ks.length = vs.length ∧ Reps cl s ds vs
  | .ins c ns ds => ∃ dx vs, s.H a = some (.ins (cl c) dx (ns.zip vs)) ∧ ns.length = vs.length ∧ Reps cl s ds vs
structure Good (s : Sn) : Prop where
  dom : ∀ k c, s.al k = some c → k < s.n
  inj : ∀ j k c e, s.al j = some c → s.al k = some e → s.kap j = s.kap k → j = k
  ct : ∀ k c, s.al k = some c → CtAt cl s (s.kap k) c
end

section
variable {cl : Nat → Addr} {s s' : Sn}
theorem CtAt.some {a : Addr} {c : Ct} (h : CtAt cl s a c) : ∃ o, s.H a = some o := by
  cases c with
  | lst ds => obtain ⟨vs, h, _⟩ := h; exact ⟨_, h⟩
  | dct ks ds => obtain ⟨vs, h, _⟩ := h; exact ⟨_, h⟩
  | ins c ns ds => obtain ⟨dx, vs, h, _⟩ := h; exact ⟨_, h⟩
theorem Good.fresh (g : Good cl s) {p : Addr} (h : s.H p = none) : ¬ s.M p := fun ⟨k, c, hk, e⟩ => by
  obtain ⟨o, q⟩ := (g.ct k c hk).some
  rw [e, h] at q
  cases q
/-- the heap grows by an object that stays as it is -/
def Sn.lay (s : Sn) (p : Addr) (o : HO) : Sn := { s with H := upd s.H p o }
theorem lay_M {p a : Addr} {o : HO} : (s.lay p o).M a ↔ s.M a := Iff.rfl
theorem Le.lay (g : Good cl s) {p : Addr} {o : HO} (h : s.H p = none) : Le s (s.lay p o) :=
  ⟨Nat.le_refl _, fun _ _ => rfl, fun a u e n => ⟨by
    show upd s.H p o a = some u
    rw [upd_ne (ne_of_none e h)]
    exact e, n⟩, fun _ _ h n => ⟨h, n⟩⟩
theorem CtAt.mono (l : Le s s') {a b : Addr} {c : Ct} (h : CtAt cl s a c) (e : s'.H b = s.H a) : CtAt cl s' b c := by
  cases c with
  | lst ds => obtain ⟨vs, h, r⟩ := h; exact ⟨vs, e.trans h, r.mono l⟩
  | dct ks ds => obtain ⟨vs, h, z, r⟩ := h; exact ⟨vs, e.trans h, z, r.mono l⟩
  | ins c ns ds => obtain ⟨dx, vs, h, z, r⟩ := h; exact ⟨dx, vs, e.trans h, z, r.mono l⟩
theorem Good.lay (g : Good cl s) {p : Addr} {o : HO} (h : s.H p = none) : Good cl (s.lay p o) :=
  ⟨g.dom, g.inj, fun k c hk => (g.ct k c hk).mono (Le.lay g h) (by
    obtain ⟨u, q⟩ := (g.ct k c hk).some
    show upd s.H p o (s.kap k) = s.H (s.kap k)
    rw [upd_ne (ne_of_none q h)])⟩
def setMu (m : Mu) (k : Nat) (c : Ct) : Mu := fun j => if j = k then some c else m j
def delMu (m : Mu) (k : Nat) : Mu := fun j => if j = k then none else m j
theorem setMu_same {m : Mu} {k : Nat} {c : Ct} : setMu m k c k = some c := if_pos rfl
theorem setMu_ne {m : Mu} {k j : Nat} {c : Ct} (h : j ≠ k) : setMu m k c j = m j := if_neg h
theorem setMu_set {m : Mu} {k : Nat} {c e : Ct} : setMu (setMu m k c) k e = setMu m k e := by
  funext j
  unfold setMu
  split <;> rfl
theorem delMu_set {m : Mu} {k : Nat} {c : Ct} (h : m k = none) : delMu (setMu m k c) k = m := by
  funext j
  unfold delMu setMu
  split
  · rename_i e; rw [e, h]
  · rfl
theorem setMu_id {m : Mu} {k : Nat} {c : Ct} (h : m k = some c) : setMu m k c = m := by
  funext j
  unfold setMu
  split
  · rename_i e; rw [e, h]
  · rfl
/-- a new thing that may change -/
def Sn.open_ (s : Sn) (p : Addr) (o : HO) (c : Ct) : Sn :=
  { kap := fun k => if k = s.n then p else s.kap k, n := s.n + 1, al := setMu s.al s.n c, vis := fun k => if k = s.n then true else s.vis k, H := upd s.H p o }
theorem open_mu {s : Sn} {p : Addr} {o : HO} {c : Ct} : (s.open_ p o c).mu = setMu s.mu s.n c := by
  funext k
  by_cases z : k = s.n
  · subst z
    show (if (if s.n = s.n then true else s.vis s.n) = true then setMu s.al s.n c s.n else none) = setMu s.mu s.n c s.n
    rw [if_pos rfl, if_pos rfl, setMu_same, setMu_same]
  · show (if (if k = s.n then true else s.vis k) = true then setMu s.al s.n c k else none) = setMu s.mu s.n c k
    rw [if_neg z, setMu_ne z, setMu_ne z]
    rfl
theorem open_M {p a : Addr} {o : HO} {c : Ct} (g : Good cl s) (h : (s.open_ p o c).M a) : a = p ∨ s.M a := by
  obtain ⟨k, e, hk, q⟩ := h
  by_cases z : k = s.n
  · left
    have : (s.open_ p o c).kap k = p := if_pos z
    rw [← q, this]
  · right
    have h1 : (s.open_ p o c).al k = s.al k := if_neg z
    have h2 : (s.open_ p o c).kap k = s.kap k := if_neg z
    exact ⟨k, e, h1 ▸ hk, h2 ▸ q⟩
theorem Le.open_ (g : Good cl s) {p : Addr} {o : HO} {c : Ct} (h : s.H p = none) : Le s (s.open_ p o c) :=
  ⟨Nat.le_succ _, fun k hk => if_neg (Nat.ne_of_lt hk), fun a u e n => ⟨by
    show upd s.H p o a = some u
    rw [upd_ne (ne_of_none e h)]
    exact e, fun m => by
      rcases open_M g m with z | z
      · exact ne_of_none e h z
      · exact n z⟩, fun k e hk hv => by
      have z : k ≠ s.n := Nat.ne_of_lt (g.dom k e hk)
      exact ⟨(setMu_ne z).trans hk, (if_neg z).trans hv⟩⟩
theorem Good.open_ (g : Good cl s) {p : Addr} {o : HO} {c : Ct} (h : s.H p = none) (hc : CtAt cl (s.open_ p o c) p c) : Good cl (s.open_ p o c) := by
  have el : ∀ k, k ≠ s.n → (s.open_ p o c).kap k = s.kap k := fun k z => if_neg z
  have em : ∀ k, k ≠ s.n → (s.open_ p o c).al k = s.al k := fun k z => if_neg z
  have e0 : (s.open_ p o c).kap s.n = p := if_pos rfl
  have m0 : (s.open_ p o c).al s.n = some c := if_pos rfl
  have np : ∀ k e, s.al k = some e → s.kap k ≠ p := fun k e hk z => by
    obtain ⟨u, q⟩ := (g.ct k e hk).some
    rw [z, h] at q
    cases q
  refine ⟨fun k e hk => ?_, fun j k e f hj hk z => ?_, fun k e hk => ?_⟩
  · by_cases z : k = s.n
    · rw [z]; exact Nat.lt_succ_self _
    · rw [em k z] at hk
      exact Nat.lt_succ_of_lt (g.dom k e hk)
  · by_cases zj : j = s.n
    · by_cases zk : k = s.n
      · rw [zj, zk]
      · rw [em k zk] at hk
        rw [zj, e0, el k zk] at z
        exact absurd z.symm (np k f hk)
    · rw [em j zj] at hj
      by_cases zk : k = s.n
      · rw [zk, e0, el j zj] at z
        exact absurd z (np j e hj)
      · rw [em k zk] at hk
        rw [el j zj, el k zk] at z
        exact g.inj j k e f hj hk z
  · by_cases z : k = s.n
    · subst z
      rw [m0] at hk
      cases hk
      rw [e0]
      exact hc
    · rw [em k z] at hk
      rw [el k z]
      refine (g.ct k e hk).mono (Le.open_ g h) ?_
      show upd s.H p o (s.kap k) = s.H (s.kap k)
      rw [upd_ne (np k e hk)]
/-- what a handle holds is written -/
def Sn.put (s : Sn) (k : Nat) (o : HO) (c : Ct) : Sn := { s with al := setMu s.al k c, H := upd s.H (s.kap k) o }
theorem put_mu {k : Nat} {o : HO} {c : Ct} (hv : s.vis k = true) : (s.put k o c).mu = setMu s.mu k c := by
  funext j
  by_cases z : j = k
  · subst z
    show (if s.vis j = true then setMu s.al j c j else none) = setMu s.mu j c j
    rw [if_pos hv, setMu_same, setMu_same]
  · show (if s.vis j = true then setMu s.al k c j else none) = setMu s.mu k c j
    rw [setMu_ne z, setMu_ne z]
    rfl
theorem put_M {k : Nat} {a : Addr} {o : HO} {c e : Ct} (hk : s.al k = some e) : (s.put k o c).M a ↔ s.M a := by
  constructor
  · intro ⟨j, f, hj, q⟩
    by_cases z : j = k
    · subst z; exact ⟨j, e, hk, q⟩
    · exact ⟨j, f, by rw [← hj]; exact (if_neg z).symm, q⟩
  · intro ⟨j, f, hj, q⟩
    by_cases z : j = k
    · subst z; exact ⟨j, c, if_pos rfl, q⟩
    · exact ⟨j, f, by rw [← hj]; exact if_neg z, q⟩
theorem Le.put {k : Nat} {o : HO} {c e : Ct} (hk : s.al k = some e) (hv : s.vis k = true) : Le s (s.put k o c) :=
  ⟨Nat.le_refl _, fun _ _ => rfl, fun a u h n => ⟨by
    show upd s.H (s.kap k) o a = some u
    rw [upd_ne (fun z => n ⟨k, e, hk, z.symm⟩)]
    exact h, fun m => n ((put_M hk).mp m)⟩, fun j f hj hvj => ⟨(setMu_ne (fun z => by subst z; rw [hv] at hvj; cases hvj)).trans hj, hvj⟩⟩
theorem Good.put (g : Good cl s) {k : Nat} {o : HO} {c e : Ct} (hk : s.al k = some e) (hv : s.vis k = true) (hc : CtAt cl (s.put k o c) (s.kap k) c) : Good cl (s.put k o c) := by
  have em : ∀ j, j ≠ k → (s.put k o c).al j = s.al j := fun j z => if_neg z
  refine ⟨fun j f hj => ?_, fun i j f f' hi hj z => ?_, fun j f hj => ?_⟩
  · by_cases z : j = k
    · rw [z]; exact g.dom k e hk
    · rw [em j z] at hj; exact g.dom j f hj
  · have at_ : ∀ j f, (s.put k o c).al j = some f → ∃ f', s.al j = some f' := fun j f hj => by
      by_cases z : j = k
      · rw [z]; exact ⟨e, hk⟩
      · rw [em j z] at hj; exact ⟨f, hj⟩
    obtain ⟨_, h1⟩ := at_ i f hi
    obtain ⟨_, h2⟩ := at_ j f' hj
    exact g.inj i j _ _ h1 h2 z
  · by_cases z : j = k
    · subst z
      have : (s.put j o c).al j = some c := if_pos rfl
      rw [this] at hj
      cases hj
      exact hc
    · rw [em j z] at hj
      refine (g.ct j f hj).mono (Le.put hk hv) ?_
      show upd s.H (s.kap k) o (s.kap j) = s.H (s.kap j)
      rw [upd_ne (fun q => z (g.inj j k _ _ hj hk q))]
/-- what may change no more -/
def Sn.close (s : Sn) (k : Nat) : Sn := { s with al := delMu s.al k }
theorem close_al {k j : Nat} {f : Ct} (h : (s.close k).al j = some f) : s.al j = some f := by
  by_cases z : j = k
  · have : (s.close k).al j = none := if_pos z
    rw [this] at h; cases h
  · have : (s.close k).al j = s.al j := if_neg z
    exact this ▸ h
theorem close_mu {k : Nat} : (s.close k).mu = delMu s.mu k := by
  funext j
  show (if s.vis j = true then delMu s.al k j else none) = (if j = k then none else if s.vis j = true then s.al j else none)
  unfold delMu
  by_cases z : j = k
  · rw [if_pos z, if_pos z]
    split <;> rfl
  · rw [if_neg z, if_neg z]
theorem close_M {k : Nat} {a : Addr} (h : (s.close k).M a) : s.M a := by
  obtain ⟨j, e, hj, q⟩ := h
  exact ⟨j, e, close_al hj, q⟩
theorem Le.close {k : Nat} (hv : s.vis k = true) : Le s (s.close k) := ⟨Nat.le_refl _, fun _ _ => rfl, fun a u h n => ⟨h, fun m => n (close_M m)⟩,
  fun j f hj hvj => ⟨(if_neg (fun z => by subst z; rw [hv] at hvj; cases hvj)).trans hj, hvj⟩⟩
theorem Good.close (g : Good cl s) {k : Nat} (hv : s.vis k = true) : Good cl (s.close k) :=
  ⟨fun j f hj => g.dom j f (close_al hj), fun i j f f' hi hj z => g.inj i j f f' (close_al hi) (close_al hj) z, fun j f hj => (g.ct j f (close_al hj)).mono (Le.close hv) rfl⟩
theorem close_not_M (g : Good cl s) {k : Nat} {c : Ct} (hk : s.al k = some c) : ¬ (s.close k).M (s.kap k) := fun ⟨j, e, hj, q⟩ => by
  have z : j = k := g.inj j k e c (close_al hj) hk q
  have : (s.close k).al j = none := if_pos z
  rw [this] at hj
  cases hj
/-- a handle goes out of sight, and comes back -/
def Sn.look (s : Sn) (k : Nat) (b : Bool) : Sn := { s with vis := fun j => if j = k then b else s.vis j }
theorem look_M {k : Nat} {b : Bool} {a : Addr} : (s.look k b).M a ↔ s.M a := Iff.rfl
theorem Le.hide {k : Nat} : Le s (s.look k false) := ⟨Nat.le_refl _, fun _ _ => rfl, fun a u h n => ⟨h, n⟩, fun j f hj hv => ⟨hj, by
  show (if j = k then false else s.vis j) = false
  split
  · rfl
  · exact hv⟩⟩
mutual
theorem Rep.looked {k : Nat} {b : Bool} : ∀ {d : D} {v : V}, Rep cl s d v → Rep cl (s.look k b) d v
  | _, _, .v x => .v x
  | _, _, .hd h => .hd (s := s.look k b) h
  | _, _, .lst n h r => .lst (s := s.look k b) n h (Reps.looked r)
  | _, _, .tup n h r => .tup (s := s.look k b) n h (Reps.looked r)
  | _, _, .scr n h => .scr (s := s.look k b) n h
  | _, _, .dct n h z r => .dct (s := s.look k b) n h z (Reps.looked r)
  | _, _, .obj n h z r => .obj (s := s.look k b) n h z (Reps.looked r)
theorem Reps.looked {k : Nat} {b : Bool} : ∀ {ds : List D} {vs : List V}, Reps cl s ds vs → Reps cl (s.look k b) ds vs
  | _, _, .nil => .nil
  | _, _, .cons h r => .cons (Rep.looked h) (Reps.looked r)
end
theorem Good.look (g : Good cl s) {k : Nat} {b : Bool} : Good cl (s.look k b) := by
  refine ⟨g.dom, g.inj, fun j f hj => ?_⟩
  have z := g.ct j f hj
  cases f with
  | lst ds => obtain ⟨vs, h, r⟩ := z; exact ⟨vs, h, r.looked⟩
  | dct ks ds => obtain ⟨vs, h, z, r⟩ := z; exact ⟨vs, h, z, r.looked⟩
  | ins c ns ds => obtain ⟨dx, vs, h, z, r⟩ := z; exact ⟨dx, vs, h, z, r.looked⟩
theorem hide_mu {k : Nat} : (s.look k false).mu = delMu s.mu k := by
  funext j
  show (if (if j = k then false else s.vis j) = true then s.al j else none) = (if j = k then none else if s.vis j = true then s.al j else none)
  by_cases z : j = k
  · rw [if_pos z, if_pos z, if_neg (by decide)]
  · rw [if_neg z, if_neg z]
theorem show_mu {k : Nat} {c : Ct} (h : s.al k = some c) : (s.look k true).mu = setMu s.mu k c := by
  funext j
  show (if (if j = k then true else s.vis j) = true then s.al j else none) = (if j = k then some c else if s.vis j = true then s.al j else none)
  by_cases z : j = k
  · rw [if_pos z, if_pos z, if_pos rfl, z, h]
  · rw [if_neg z, if_neg z]
/-- all but some handles are dropped -/
def Sn.only (s : Sn) (m : Mu) : Sn := { s with al := fun k => if s.vis k = true then (if (m k).isSome = true then s.al k else none) else s.al k }
theorem only_at {m : Mu} {j : Nat} {f : Ct} (h : (s.only m).al j = some f) : s.al j = some f := by
  have : (if s.vis j = true then (if (m j).isSome = true then s.al j else none) else s.al j) = some f := h
  split at this
  · split at this
    · exact this
    · cases this
  · exact this
theorem Le.only {m : Mu} : Le s (s.only m) := ⟨Nat.le_refl _, fun _ _ => rfl, fun a u h n => ⟨h, fun ⟨k, c, hk, q⟩ => n ⟨k, c, only_at hk, q⟩⟩, fun j f hj hv => ⟨by
  show (if s.vis j = true then (if (m j).isSome = true then s.al j else none) else s.al j) = some f
  rw [hv, if_neg (by decide)]
  exact hj, hv⟩⟩
theorem Good.only (g : Good cl s) {m : Mu} : Good cl (s.only m) :=
  ⟨fun j f hj => g.dom j f (only_at hj), fun i j f f' hi hj z => g.inj i j f f' (only_at hi) (only_at hj) z, fun j f hj => (g.ct j f (only_at hj)).mono Le.only rfl⟩
theorem only_mu {m : Mu} : (s.only m).mu = fun k => if (m k).isSome = true then s.mu k else none := by
  funext j
  show (if s.vis j = true then (if s.vis j = true then (if (m j).isSome = true then s.al j else none) else s.al j) else none) = (if (m j).isSome = true then (if s.vis j = true then s.al j else none) else none)
  by_cases v : s.vis j = true
  · rw [if_pos v, if_pos v, if_pos v]
  · rw [if_neg v, if_neg v]
    split <;> rfl
end

/-! ## environments, transformers -/
abbrev Env := List (Option D)
abbrev DK := D → Mu → Prop
abbrev DTE := Env → Mu → DK → Prop
abbrev DTA := Env → Mu → (List D → Mu → Prop) → Prop
abbrev DTT := Env → Mu → (Bool → Mu → Prop) → Prop
abbrev DX := Nat → D → Mu → Prop
structure DEnds where
  nx : Env → Mu → Prop
  rt : DK
  bk : Env → Mu → Prop := fun _ _ => False
  ct : Env → Mu → Prop := fun _ _ => False
abbrev DTS := DEnds → Env → Mu → Prop
/-- a def's meaning: arguments, store, what is wanted of its value, of an error -/
abbrev DFn := List D → Mu → DK → DX → Prop

/-- an answer, perhaps turned -/
def ngK (neg : Bool) (Φ : DK) (b : Bool) (m : Mu) : Prop := match neg with
  | true => Φ (.v (.bl (!b))) m
  | false => Φ (.v (.bl b)) m
theorem ngK_if {neg b : Bool} {Φ : DK} {m : Mu} (h : ngK neg Φ b m) : Φ (.v (.bl (if neg then !b else b))) m := by
  cases neg <;> exact h
theorem dec_int {i j : Int} : decide (V.int i = V.int j) = decide (i = j) := by
  by_cases e : i = j
  · rw [decide_eq_true e, decide_eq_true (congrArg V.int e)]
  · rw [decide_eq_false e, decide_eq_false (fun z => e (V.int.inj z))]
theorem dec_str {i j : Str} : decide (V.str i = V.str j) = decide (i = j) := by
  by_cases e : i = j
  · rw [decide_eq_true e, decide_eq_true (congrArg V.str e)]
  · rw [decide_eq_false e, decide_eq_false (fun z => e (V.str.inj z))]
/-- a branch -/
inductive Br (c : Bool) (A B : Prop) : Prop
  | t : c = true → A → Br c A B
  | f : c = false → B → Br c A B
theorem Br.tt {A B : Prop} (h : Br true A B) : A := by
  cases h with
  | t _ h => exact h
  | f e _ => cases e
theorem Br.ff {A B : Prop} (h : Br false A B) : B := by
  cases h with
  | t e _ => cases e
  | f _ h => exact h
theorem Br.of {c : Bool} {A B : Prop} (h : if c = true then A else B) : Br c A B := by
  cases c with
  | true => exact .t rfl (by rwa [if_pos rfl] at h)
  | false => exact .f rfl (by rwa [if_neg Bool.false_ne_true] at h)
theorem Br.to {c : Bool} {A B : Prop} (h : Br c A B) : if c = true then A else B := by
  cases c with
  | true => rw [if_pos rfl]; exact h.tt
  | false => rw [if_neg Bool.false_ne_true]; exact h.ff
/-- a call of a def that promises F -/
inductive Go (F : DFn) (ds : List D) (m : Mu) (Φ : DK) (X : DX) : Prop
  | mk : F ds m Φ X → Go F ds m Φ X
theorem Go.un {F : DFn} {ds : List D} {m : Mu} {Φ : DK} {X : DX} (h : Go F ds m Φ X) : F ds m Φ X := by
  cases h with
  | mk h => exact h
/-- an item that is there -/
inductive Sm {α : Type} (o : Option α) (k : α → Prop) : Prop
  | mk (a : α) : o = some a → k a → Sm o k
theorem Sm.to {α : Type} {o : Option α} {k : α → Prop} (h : Sm o k) : ∃ a, o = some a ∧ k a := by
  cases h with
  | mk a e h => exact ⟨a, e, h⟩

/-- a store into a place -/
inductive St (r : Env) (i : Nat) (d : Option D) (k : Env → Prop) : Prop
  | mk : k (r.set i d) → St r i d k
theorem St.to {r : Env} {i : Nat} {d : Option D} {k : Env → Prop} (h : St r i d k) : k (r.set i d) := by
  cases h with
  | mk h => exact h
/-- the same, to be done -/
inductive StD (r : Env) (i : Nat) (d : Option D) (k : Env → Prop) : Prop
  | mk : k (r.set i d) → StD r i d k
theorem St.do_ {r : Env} {i : Nat} {d : Option D} {k : Env → Prop} (h : StD r i d k) : St r i d k := by
  cases h with
  | mk h => exact .mk h
def wipeK : List Nat → Env → (Env → Prop) → Prop
  | [], r, k => k r
  | v :: vs, r, k => wipeK vs r fun r1 => St r1 v none k
/-- a list with a last item -/
inductive Lst (xs : List D) (k : List D → D → Prop) : Prop
  | mk (ys : List D) (d : D) : xs = ys ++ [d] → k ys d → Lst xs k
theorem Lst.one {d : D} {k : List D → D → Prop} (h : k [] d) : Lst [d] k := .mk [] d rfl h
theorem Lst.end_ {xs : List D} {d : D} {k : List D → D → Prop} (h : k xs d) : Lst (xs ++ [d]) k := .mk xs d rfl h
theorem Lst.map {α : Type} {f : α → D} {xs : List α} {a : α} {k : List D → D → Prop} (h : k (xs.map f) (f a)) : Lst ((xs ++ [a]).map f) k := .mk _ _ List.map_append h
theorem Lst.to {xs : List D} {k : List D → D → Prop} (h : Lst xs k) : ∃ ys d, xs = ys ++ [d] ∧ k ys d := by
  cases h with
  | mk ys d e h => exact ⟨ys, d, e, h⟩
def lstC (k : List D → Prop) : Ct → Prop
  | .lst xs => k xs
  | _ => False
def dctC (k : List Key → List D → Prop) : Ct → Prop
  | .dct ks xs => k ks xs
  | _ => False
def insC (c : Nat) (k : List Str → List D → Prop) : Ct → Prop
  | .ins c' ns xs => c' = c ∧ k ns xs
  | _ => False
theorem lst_to {o : Option Ct} {k : List D → Prop} (h : Sm o (lstC k)) : ∃ xs, o = some (.lst xs) ∧ k xs := by
  obtain ⟨a, e, h⟩ := h.to
  cases a with
  | lst xs => exact ⟨xs, e, h⟩
  | dct _ _ => exact h.elim
  | ins _ _ _ => exact h.elim
theorem dct_to {o : Option Ct} {k : List Key → List D → Prop} (h : Sm o (dctC k)) : ∃ ks xs, o = some (.dct ks xs) ∧ k ks xs := by
  obtain ⟨a, e, h⟩ := h.to
  cases a with
  | dct ks xs => exact ⟨ks, xs, e, h⟩
  | lst _ => exact h.elim
  | ins _ _ _ => exact h.elim
theorem ins_to {o : Option Ct} {c : Nat} {k : List Str → List D → Prop} (h0 : Sm o (insC c k)) : ∃ ns xs, o = some (.ins c ns xs) ∧ k ns xs := by
  obtain ⟨a, e, h⟩ := h0.to
  cases a with
  | ins c' ns xs =>
    obtain ⟨q, hh⟩ := h
    subst q
    exact ⟨ns, xs, e, hh⟩
  | lst _ => exact h.elim
  | dct _ _ => exact h.elim

structure EnvOk (cl : Nat → Addr) (s : Sn) (r : Env) (σ : L2.St) : Prop where
  len : r.length = σ.length
  get : ∀ (i : Nat) d, r[i]? = some (some d) → ∃ v, σ[i]? = some (some v) ∧ Rep cl s d v
theorem EnvOk.mono {cl : Nat → Addr} {s s' : Sn} {r : Env} {σ : L2.St} (l : Le s s') (e : EnvOk cl s r σ) : EnvOk cl s' r σ :=
  ⟨e.len, fun i d h => let ⟨v, h1, h2⟩ := e.get i d h; ⟨v, h1, h2.mono l⟩⟩
theorem EnvOk.set {cl : Nat → Addr} {s : Sn} {r : Env} {σ : L2.St} {d : D} {v : V} (e : EnvOk cl s r σ) (q : Rep cl s d v) (i : Nat) : EnvOk cl s (r.set i (some d)) (σ.set i (some v)) := by
  refine ⟨by rw [List.length_set, List.length_set]; exact e.len, fun j d' h => ?_⟩
  by_cases z : i = j
  · subst z
    by_cases l : i < r.length
    · rw [List.getElem?_set_self l] at h
      cases h
      exact ⟨v, List.getElem?_set_self (e.len ▸ l), q⟩
    · rw [List.getElem?_eq_none_iff.mpr (by rw [List.length_set]; omega)] at h
      cases h
  · rw [List.getElem?_set_ne z] at h
    obtain ⟨u, h1, h2⟩ := e.get j d' h
    exact ⟨u, by rw [List.getElem?_set_ne z]; exact h1, h2⟩
end ER

namespace ER
open PySem PySem.Spec PyProof.Rows L2

section
variable (cl : Nat → Addr) (s0 : Sn)
structure EvD (te : TE) (t : DTE) : Prop where
  run : ∀ (s : Sn) (σ : L2.St) (r : Env) (Φ : DK) (Q : VK), Good cl s → EnvOk cl s r σ → Le s0 s → t r s.mu Φ → (∀ d v s', Le s s' → Good cl s' → Rep cl s' d v → Φ d s'.mu → Q v s'.H) → te σ s.H Q
structure EvT (te : TT) (t : DTT) : Prop where
  run : ∀ (s : Sn) (σ : L2.St) (r : Env) (Φ : Bool → Mu → Prop) (Q : Bool → Hp → Prop), Good cl s → EnvOk cl s r σ → Le s0 s → t r s.mu Φ → (∀ b s', Le s s' → Good cl s' → Φ b s'.mu → Q b s'.H) → te σ s.H Q
structure EvA (te : TA) (t : DTA) : Prop where
  run : ∀ (s : Sn) (σ : L2.St) (r : Env) (Φ : List D → Mu → Prop) (Q : List V → Hp → Prop), Good cl s → EnvOk cl s r σ → Le s0 s → t r s.mu Φ → (∀ ds vs s', Le s s' → Good cl s' → Reps cl s' ds vs → Φ ds s'.mu → Q vs s'.H) → te σ s.H Q
structure EndsOk (s : Sn) (De : DEnds) (T : Ends) : Prop where
  nx : ∀ s' r σ, Le s s' → Good cl s' → EnvOk cl s' r σ → De.nx r s'.mu → T.nx σ s'.H
  bk : ∀ s' r σ, Le s s' → Good cl s' → EnvOk cl s' r σ → De.bk r s'.mu → T.bk σ s'.H
  ct : ∀ s' r σ, Le s s' → Good cl s' → EnvOk cl s' r σ → De.ct r s'.mu → T.ct σ s'.H
  rt : ∀ s' d v, Le s s' → Good cl s' → Rep cl s' d v → De.rt d s'.mu → T.rt v s'.H
structure EvS (ts : TS) (t : DTS) : Prop where
  run : ∀ (s : Sn) (σ : L2.St) (r : Env) (De : DEnds) (T : Ends), Good cl s → EnvOk cl s r σ → Le s0 s → t De r s.mu → EndsOk cl s De T → ts T σ s.H
abbrev DTG := D → Env → Mu → (Env → Mu → Prop) → Prop
structure EvG (g : TG) (t : DTG) : Prop where
  run : ∀ (s : Sn) (σ : L2.St) (r : Env) (d : D) (v : V) (Φ : Env → Mu → Prop) (Q : L2.St → Hp → Prop), Good cl s → EnvOk cl s r σ → Le s0 s → Rep cl s d v → t d r s.mu Φ → (∀ s' r' σ', Le s s' → Good cl s' → EnvOk cl s' r' σ' → Φ r' s'.mu → Q σ' s'.H) → g v σ s.H Q
abbrev DTGs := List D → Env → Mu → (Env → Mu → Prop) → Prop
structure EvGs (g : TGs) (t : DTGs) : Prop where
  run : ∀ (s : Sn) (σ : L2.St) (r : Env) (ds : List D) (vs : List V) (Φ : Env → Mu → Prop) (Q : L2.St → Hp → Prop), Good cl s → EnvOk cl s r σ → Le s0 s → Reps cl s ds vs → t ds r s.mu Φ → (∀ s' r' σ', Le s s' → Good cl s' → EnvOk cl s' r' σ' → Φ r' s'.mu → Q σ' s'.H) → g vs σ s.H Q
variable (X : Cx)
def DE (e : Expr) (t : DTE) : Prop := ∃ te, PE X e te ∧ EvD cl s0 te t
def DT (e : Expr) (t : DTT) : Prop := ∃ te, PT X e te ∧ EvT cl s0 te t
def DW (e : Expr) (t : DTT) : Prop := ∃ te, PW X e te ∧ EvT cl s0 te t
def DA (es : List Expr) (t : DTA) : Prop := ∃ te, PA X es te ∧ EvA cl s0 te t
def DS (st : Stmt) (t : DTS) : Prop := ∃ te, PS X st te ∧ EvS cl s0 te t
def DSs (st : List Stmt) (t : DTS) : Prop := ∃ te, PSs X st te ∧ EvS cl s0 te t
def DG (e : Expr) (t : DTG) : Prop := ∃ te, PG X e te ∧ EvG cl s0 te t
def DGs (e : List Expr) (t : DTGs) : Prop := ∃ te, PGs X e te ∧ EvGs cl s0 te t
end

section
variable {cl : Nat → Addr} {s0 : Sn} {X : Cx}
theorem EndsOk.mono {s s' : Sn} {De : DEnds} {T : Ends} (l : Le s s') (e : EndsOk cl s De T) : EndsOk cl s' De T :=
  ⟨fun u r σ l' => e.nx u r σ (l.trans l'), fun u r σ l' => e.bk u r σ (l.trans l'), fun u r σ l' => e.ct u r σ (l.trans l'), fun u d v l' => e.rt u d v (l.trans l')⟩

/-! ### names, constants -/
def dVar (i : Nat) : DTE := fun r m Φ => match r[i]? with
  | some (some d) => Φ d m
  | _ => False
theorem dVar.to {i : Nat} {r : Env} {m : Mu} {Φ : DK} (h : dVar i r m Φ) : ∃ d, r[i]? = some (some d) ∧ Φ d m := by
  unfold dVar at h
  split at h
  · exact ⟨_, by assumption, h⟩
  · exact h.elim
theorem dVar.of {i : Nat} {r : Env} {m : Mu} {Φ : DK} {d : D} (e : r[i]? = some (some d)) (h : Φ d m) : dVar i r m Φ := by
  unfold dVar
  rw [e]
  exact h
def dC (d : D) : DTE := fun _ m Φ => Φ d m
theorem ev_var {i : Nat} : EvD cl s0 (tVar i) (dVar i) := ⟨fun s σ r Φ Q g e _ hq k => by
  obtain ⟨d, h, q⟩ := hq.to
  obtain ⟨v, h1, h2⟩ := e.get i d h
  exact ⟨v, h1, k d v s (Le.refl s) g h2 q⟩⟩
theorem ev_c {v : V} : EvD cl s0 (tC v) (dC (.v v)) := ⟨fun s σ r Φ Q g _ _ q k => k (.v v) v s (Le.refl s) g (.v v) q⟩
theorem de_var (i : Nat) {x : Str} {pos : Pos} (hN : X.N[i]? = some x := by rfl) (hv : Vis X.env.scope x := by first | exact Or.inl rfl | exact Or.inr (Or.inl rfl) | exact Or.inr (Or.inr rfl)) (hd : (x == ("__debug__" : Str)) = false := by decide)
    (hcd : (x == ("__classdict__" : Str)) = false := by decide) : DE cl s0 X (.Name x pos) (dVar i) := ⟨_, pv i hN hv hd hcd, ev_var⟩
theorem de_int {i j pos} : DE cl s0 X (.Constant (.int i) j pos) (dC (.v (.int i))) := ⟨_, pe_int, ev_c⟩
theorem de_bl {b j pos} : DE cl s0 X (.Constant (.bool b) j pos) (dC (.v (.bl b))) := ⟨_, pe_bl, ev_c⟩
theorem de_non {j pos} : DE cl s0 X (.Constant .none j pos) (dC (.v .non)) := ⟨_, pe_non, ev_c⟩
theorem de_str {x j pos} : DE cl s0 X (.Constant (.str x) j pos) (dC (.v (.str x))) := ⟨_, pe_str, ev_c⟩
theorem de_glob {x : Str} {v : V} {u : Value} {pos : Pos} (hg : Gl X x) (hm : X.mg x = some u) (r : RelV v u) (hd : (x == ("__debug__" : Str)) = false := by decide) : DE cl s0 X (.Name x pos) (dC (.v v)) := ⟨_, pe_glob hg hm r hd, ev_c⟩

/-! ### operators -/
def OpD (cl : Nat → Addr) (r : R2) (f : D → D → Mu → DK → Prop) : Prop := ∀ (s : Sn) (x y : V) (dx dy : D) (Φ : DK) (Q : VK), Good cl s → Rep cl s dx x → Rep cl s dy y → f dx dy s.mu Φ →
  (∀ d v s', Le s s' → Good cl s' → Rep cl s' d v → Φ d s'.mu → Q v s'.H) → r x y s.H Q
def UnD (cl : Nat → Addr) (r : V → Hp → VK → Prop) (f : D → Mu → DK → Prop) : Prop := ∀ (s : Sn) (x : V) (dx : D) (Φ : DK) (Q : VK), Good cl s → Rep cl s dx x → f dx s.mu Φ →
  (∀ d v s', Le s s' → Good cl s' → Rep cl s' d v → Φ d s'.mu → Q v s'.H) → r x s.H Q
def CaD (cl : Nat → Addr) (r : List V → Hp → VK → Prop) (f : List D → Mu → DK → Prop) : Prop := ∀ (s : Sn) (xs : List V) (ds : List D) (Φ : DK) (Q : VK), Good cl s → Reps cl s ds xs → f ds s.mu Φ →
  (∀ d v s', Le s s' → Good cl s' → Rep cl s' d v → Φ d s'.mu → Q v s'.H) → r xs s.H Q
def dOp (f : D → D → Mu → DK → Prop) (ta tb : DTE) : DTE := fun r m Φ => ta r m fun x m1 => tb r m1 fun y m2 => f x y m2 Φ
def dUn (f : D → Mu → DK → Prop) (ta : DTE) : DTE := fun r m Φ => ta r m fun x m1 => f x m1 Φ
def dCa (f : List D → Mu → DK → Prop) (ta : DTA) : DTE := fun r m Φ => ta r m fun xs m1 => f xs m1 Φ
theorem ev_op {r : R2} {f : D → D → Mu → DK → Prop} {ta tb : TE} {da db : DTE} (h : OpD cl r f) (ha : EvD cl s0 ta da) (hb : EvD cl s0 tb db) : EvD cl s0 (tOp r ta tb) (dOp f da db) :=
  ⟨fun s σ ρ Φ Q g e l q k => ha.run s σ ρ _ _ g e l q fun dx x s1 l1 g1 rx q1 => hb.run s1 σ ρ _ _ g1 (e.mono l1) (l.trans l1) q1 fun dy y s2 l2 g2 ry q2 =>
    h s2 x y dx dy Φ Q g2 (rx.mono l2) ry q2 fun d v s3 l3 => k d v s3 ((l1.trans l2).trans l3)⟩
theorem ev_un {r : V → Hp → VK → Prop} {f : D → Mu → DK → Prop} {ta : TE} {da : DTE} (h : UnD cl r f) (ha : EvD cl s0 ta da) : EvD cl s0 (tUn r ta) (dUn f da) :=
  ⟨fun s σ ρ Φ Q g e l q k => ha.run s σ ρ _ _ g e l q fun dx x s1 l1 g1 rx q1 => h s1 x dx Φ Q g1 rx q1 fun d v s3 l3 => k d v s3 (l1.trans l3)⟩
theorem ev_ca {r : List V → Hp → VK → Prop} {f : List D → Mu → DK → Prop} {ta : TA} {da : DTA} (h : CaD cl r f) (ha : EvA cl s0 ta da) : EvD cl s0 (tCB r ta) (dCa f da) :=
  ⟨fun s σ ρ Φ Q g e l q k => ha.run s σ ρ _ _ g e l q fun dx x s1 l1 g1 rx q1 => h s1 x dx Φ Q g1 rx q1 fun d v s3 l3 => k d v s3 (l1.trans l3)⟩
theorem OpR.or {f : Value → Value → Sem Value} {r r' : R2} (h : OpR X f r) (h' : OpR X f r') : OpR X f (fun x y H Q => r x y H Q ∨ r' x y H Q) := fun pins s σ H x y v u Q I rx ry q =>
  q.elim (h pins s σ H x y v u Q I rx ry) (h' pins s σ H x y v u Q I rx ry)
theorem CallR.or {f : Value} {r r' : List V → Hp → VK → Prop} (h : CallR X f r) (h' : CallR X f r') : CallR X f (fun x H Q => r x H Q ∨ r' x H Q) := fun pins s σ H x v Q I rx q =>
  q.elim (h pins s σ H x v Q I rx) (h' pins s σ H x v Q I rx)
variable {a b : Expr} {ta tb : DTE} {pos : Pos}
theorem de_bin {op : Operator} {r : R2} {f : D → D → Mu → DK → Prop} (ho : OpR X (binaryOp op) r) (hd : OpD cl r f) (ha : DE cl s0 X a ta) (hb : DE cl s0 X b tb) : DE cl s0 X (.BinOp a op b pos) (dOp f ta tb) :=
  let ⟨_, pa, ea⟩ := ha; let ⟨_, pb, eb⟩ := hb; ⟨_, pe_op ho pa pb, ev_op hd ea eb⟩
theorem de_cmp {op : CmpOp} {r : R2} {f : D → D → Mu → DK → Prop} (ho : OpR X (compareOp op) r) (hd : OpD cl r f) (ha : DE cl s0 X a ta) (hb : DE cl s0 X b tb) (hm : behindInMarks op b = false) : DE cl s0 X (.Compare a [op] [b] pos) (dOp f ta tb) :=
  let ⟨_, pa, ea⟩ := ha; let ⟨_, pb, eb⟩ := hb; ⟨_, pe_cmpR ho pa pb hm, ev_op hd ea eb⟩
theorem de_un {op : UnaryOp} {r : V → Hp → VK → Prop} {f : D → Mu → DK → Prop} (ho : UnR X (unaryOp op) r) (hd : UnD cl r f) (ha : DE cl s0 X a ta) : DE cl s0 X (.UnaryOp op a pos) (dUn f ta) :=
  let ⟨_, pa, ea⟩ := ha; ⟨_, pe_un ho pa, ev_un hd ea⟩
/-- a new object that stays -/
theorem Rep.laid {s : Sn} (g : Good cl s) {p : Addr} {ds : List D} {vs : List V} (h : s.H p = none) (r : Reps cl s ds vs) : Rep cl (s.lay p (.lst vs)) (.lst ds) (.ref p) :=
  .lst (g.fresh h) upd_same (r.mono (Le.lay g h))
theorem Rep.laidT {s : Sn} (g : Good cl s) {p : Addr} {ds : List D} {vs : List V} (h : s.H p = none) (r : Reps cl s ds vs) : Rep cl (s.lay p (.tup vs)) (.tup ds) (.ref p) :=
  .tup (g.fresh h) upd_same (r.mono (Le.lay g h))

def addD : D → D → Mu → DK → Prop
  | .v (.int i), .v (.int j), m, Φ => Φ (.v (.int (i + j))) m
  | .v (.str x), .v (.str y), m, Φ => x.length + y.length ≤ sizeLine ∧ Φ (.v (.str (x ++ y))) m
  | .lst x, .lst y, m, Φ => x.length + y.length ≤ sizeLine ∧ Φ (.lst (x ++ y)) m
  | .tup x, .tup y, m, Φ => (x ≠ [] ∧ y ≠ [] ∧ x.length + y.length ≤ sizeLine) ∧ Φ (.tup (x ++ y)) m
  | _, _, _, _ => False
def rAddA (K : PySem.W.Frag) : R2 := fun x y H Q => (rI0 fun i j => .int (i + j)) x y H Q ∨ (fun x y H Q => ∃ i j, x = V.str i ∧ y = V.str j ∧ i.length + j.length ≤ sizeLine ∧ Q (V.str (i ++ j)) H) x y H Q ∨ rCat x y H Q ∨ rCatT K x y H Q
theorem opR_add : OpR X (binaryOp .Add) (rAddA X.K) := OpR.or op_add (OpR.or op_add_str (OpR.or op_cat op_catT))
theorem opd_add {K : PySem.W.Frag} : OpD cl (rAddA K) addD := fun s x y dx dy Φ Q g rx ry h k => by
  unfold addD at h
  split at h
  · cases rx; cases ry; exact .inl ⟨_, _, rfl, rfl, k _ _ s (Le.refl s) g (.v _) h⟩
  · cases rx; cases ry; exact .inr (.inl ⟨_, _, rfl, rfl, h.1, k _ _ s (Le.refl s) g (.v _) h.2⟩)
  · cases rx with
    | lst n1 h1 r1 => cases ry with
      | lst n2 h2 r2 =>
        refine .inr (.inr (.inl ⟨_, _, _, _, rfl, rfl, h1, h2, by rw [← r1.length, ← r2.length]; exact h.1, fun p hp => ?_⟩))
        exact k _ _ _ (Le.lay g hp) (g.lay hp) (Rep.laid g hp (r1.append r2)) h.2
  · cases rx with
    | tup n1 h1 r1 => cases ry with
      | tup n2 h2 r2 =>
        obtain ⟨⟨hx, hy, hz⟩, q⟩ := h
        refine .inr (.inr (.inr ⟨_, _, _, _, rfl, rfl, SqT.of h1, SqT.of h2, ?_, by rw [← r1.length, ← r2.length]; exact hz, ?_, fun _ p hp => ?_⟩))
        · intro e
          rw [e] at r1
          cases r1
          exact hx rfl
        · intro e
          rw [e] at r2
          cases r2
          exact absurd rfl hy
        · exact k _ _ _ (Le.lay g hp) (g.lay hp) (Rep.laidT g hp (r1.append r2)) q
  · exact h.elim
theorem de_add (ha : DE cl s0 X a ta) (hb : DE cl s0 X b tb) : DE cl s0 X (.BinOp a .Add b pos) (dOp addD ta tb) := de_bin opR_add opd_add ha hb

/-- operators on ints: the condition, the result -/
def intD (C : Int → Int → Prop) (g : Int → Int → V) : D → D → Mu → DK → Prop
  | .v (.int i), .v (.int j), m, Φ => C i j ∧ Φ (.v (g i j)) m
  | _, _, _, _ => False
theorem opd_int {C : Int → Int → Prop} {f : Int → Int → V} : OpD cl (rI C f) (intD C f) := fun s x y dx dy Φ Q g rx ry h k => by
  unfold intD at h
  split at h
  · cases rx; cases ry; exact ⟨_, _, rfl, rfl, h.1, k _ _ s (Le.refl s) g (.v _) h.2⟩
  · exact h.elim
def intD0 (g : Int → Int → V) : D → D → Mu → DK → Prop
  | .v (.int i), .v (.int j), m, Φ => Φ (.v (g i j)) m
  | _, _, _, _ => False
theorem opd_int0 {f : Int → Int → V} : OpD cl (rI0 f) (intD0 f) := fun s x y dx dy Φ Q g rx ry h k => by
  unfold intD0 at h
  split at h
  · cases rx; cases ry; exact ⟨_, _, rfl, rfl, k _ _ s (Le.refl s) g (.v _) h⟩
  · exact h.elim
abbrev subD := intD0 fun i j => .int (i - j)
abbrev modD := intD (fun _ j => 0 < j) fun i j => .int (i % j)
abbrev fdivD := intD CDivW fun i j => .int (i / j)
abbrev powD := intD CPow fun i j => .int (i ^ j.toNat)
def CMulA (i j : Int) : Prop := CMul i j ∨ CMulW i j
abbrev mulD := intD CMulA fun i j => .int (i * j)
theorem opR_mul : OpR X (binaryOp .Mult) (rI CMulA fun i j => .int (i * j)) := fun pins s σ H x y v u Q I rx ry h => by
  obtain ⟨i, j, e1, e2, c, q⟩ := h
  rcases c with c | c
  · exact op_mul pins s σ H x y v u Q I rx ry ⟨i, j, e1, e2, c, q⟩
  · exact op_mulW pins s σ H x y v u Q I rx ry ⟨i, j, e1, e2, c, q⟩
theorem de_sub (ha : DE cl s0 X a ta) (hb : DE cl s0 X b tb) : DE cl s0 X (.BinOp a .Sub b pos) (dOp subD ta tb) := de_bin op_sub opd_int0 ha hb
theorem de_mul (ha : DE cl s0 X a ta) (hb : DE cl s0 X b tb) : DE cl s0 X (.BinOp a .Mult b pos) (dOp mulD ta tb) := de_bin opR_mul opd_int ha hb
theorem de_mod (ha : DE cl s0 X a ta) (hb : DE cl s0 X b tb) : DE cl s0 X (.BinOp a .Mod b pos) (dOp modD ta tb) := de_bin op_mod opd_int ha hb
theorem de_fdiv (ha : DE cl s0 X a ta) (hb : DE cl s0 X b tb) : DE cl s0 X (.BinOp a .FloorDiv b pos) (dOp fdivD ta tb) := de_bin op_fdivW opd_int ha hb
theorem de_pow (ha : DE cl s0 X a ta) (hb : DE cl s0 X b tb) : DE cl s0 X (.BinOp a .Pow b pos) (dOp powD ta tb) := de_bin op_pow opd_int ha hb
def negD : D → Mu → DK → Prop
  | .v (.int i), m, Φ => Φ (.v (.int (-i))) m
  | _, _, _ => False
theorem und_neg : UnD cl (rU fun i => .int (-i)) negD := fun s x dx Φ Q g rx h k => by
  unfold negD at h
  split at h
  · cases rx; exact ⟨_, rfl, k _ _ s (Le.refl s) g (.v _) h⟩
  · exact h.elim
theorem de_neg (ha : DE cl s0 X a ta) : DE cl s0 X (.UnaryOp .USub a pos) (dUn negD ta) := de_un un_neg und_neg ha

/-! ### comparisons -/
/-- ordering: ints, texts -/
def ordD (p : Int → Int → Bool) (q : Str → Str → Bool) : D → D → Mu → DK → Prop
  | .v (.int i), .v (.int j), m, Φ => Φ (.v (.bl (p i j))) m
  | .v (.str i), .v (.str j), m, Φ => Φ (.v (.bl (q i j))) m
  | _, _, _, _ => False
def rOrd (p : Int → Int → Bool) (q : Str → Str → Bool) : R2 := fun x y H Q => (rI0 fun i j => .bl (p i j)) x y H Q ∨ (fun x y H Q => ∃ i j, x = V.str i ∧ y = V.str j ∧ Q (V.bl (q i j)) H) x y H Q
theorem opd_ord {p : Int → Int → Bool} {q : Str → Str → Bool} : OpD cl (rOrd p q) (ordD p q) := fun s x y dx dy Φ Q g rx ry h k => by
  unfold ordD at h
  split at h
  · cases rx; cases ry; exact .inl ⟨_, _, rfl, rfl, k _ _ s (Le.refl s) g (.v _) h⟩
  · cases rx; cases ry; exact .inr ⟨_, _, rfl, rfl, k _ _ s (Le.refl s) g (.v _) h⟩
  · exact h.elim
abbrev sLt (i j : Str) : Bool := decide (i.cps.toList < j.cps.toList)
abbrev ltD := ordD (fun i j => decide (i < j)) sLt
abbrev leD := ordD (fun i j => decide (i ≤ j)) fun i j => !sLt j i
abbrev gtD := ordD (fun i j => decide (j < i)) fun i j => sLt j i
abbrev geD := ordD (fun i j => decide (j ≤ i)) fun i j => !sLt i j
theorem opR_lt : OpR X (compareOp .Lt) (rOrd (fun i j => decide (i < j)) sLt) := OpR.or op_lt op_lt_str
theorem opR_le : OpR X (compareOp .LtE) (rOrd (fun i j => decide (i ≤ j)) fun i j => !sLt j i) := OpR.or op_le op_le_str
theorem opR_gt : OpR X (compareOp .Gt) (rOrd (fun i j => decide (j < i)) fun i j => sLt j i) := OpR.or op_gt op_gt_str
theorem opR_ge : OpR X (compareOp .GtE) (rOrd (fun i j => decide (j ≤ i)) fun i j => !sLt i j) := OpR.or op_ge op_ge_str
theorem de_lt (ha : DE cl s0 X a ta) (hb : DE cl s0 X b tb) : DE cl s0 X (.Compare a [.Lt] [b] pos) (dOp ltD ta tb) := de_cmp opR_lt opd_ord ha hb (nomark _)
theorem de_le (ha : DE cl s0 X a ta) (hb : DE cl s0 X b tb) : DE cl s0 X (.Compare a [.LtE] [b] pos) (dOp leD ta tb) := de_cmp opR_le opd_ord ha hb (nomark _)
theorem de_gt (ha : DE cl s0 X a ta) (hb : DE cl s0 X b tb) : DE cl s0 X (.Compare a [.Gt] [b] pos) (dOp gtD ta tb) := de_cmp opR_gt opd_ord ha hb (nomark _)
theorem de_ge (ha : DE cl s0 X a ta) (hb : DE cl s0 X b tb) : DE cl s0 X (.Compare a [.GtE] [b] pos) (dOp geD ta tb) := de_cmp opR_ge opd_ord ha hb (nomark _)
/-- == of scalars, of data -/
def toPyV : V → Option PyData
  | .non => some .none
  | .bl b => some (.bool b)
  | .int i => some (.int i)
  | .str x => some (.str x)
  | _ => none
theorem dp_v {K : PySem.W.Frag} {H : Hp} {x : V} {p : PyData} (h : toPyV x = some p) : Dp K H x p := by
  unfold toPyV at h
  split at h
  · cases h; exact .non
  · cases h; exact .bl _
  · cases h; exact .int _
  · cases h; exact .str _
  · cases h
mutual
inductive PyOf : D → PyData → Prop
  | v {x : V} {p : PyData} : toPyV x = some p → PyOf (.v x) p
  | lst {xs : List D} {ps : List PyData} : PyOfs xs ps → PyOf (.lst xs) (.list ps)
  | tup {xs : List D} {ps : List PyData} : PyOfs xs ps → PyOf (.tup xs) (.tuple ps)
inductive PyOfs : List D → List PyData → Prop
  | nil : PyOfs [] []
  | cons {x : D} {xs : List D} {p : PyData} {ps : List PyData} : PyOf x p → PyOfs xs ps → PyOfs (x :: xs) (p :: ps)
end
mutual
theorem PyOf.dp {K : PySem.W.Frag} {s : Sn} : ∀ {d : D} {v : V} {p : PyData}, PyOf d p → Rep cl s d v → Dp K s.H v p
  | _, _, _, .v h, .v _ => dp_v h
  | _, _, _, .lst h, .lst _ h1 r => .lst (SqL.of h1) (PyOfs.dp h r)
  | _, _, _, .tup h, .tup _ h1 r => .tup (SqT.of h1) (PyOfs.dp h r)
theorem PyOfs.dp {K : PySem.W.Frag} {s : Sn} : ∀ {ds : List D} {vs : List V} {ps : List PyData}, PyOfs ds ps → Reps cl s ds vs → DpAll K s.H vs ps
  | _, _, _, .nil, .nil => .nil
  | _, _, _, .cons h t, .cons h1 r => .cons (PyOf.dp h h1) (PyOfs.dp t r)
end
/-- x == y of data (neg: x != y) -/
def eqD (neg : Bool) : D → D → Mu → DK → Prop
  | .v (.int i), .v (.int j), m, Φ => ngK neg Φ (decide (i = j)) m
  | .v (.str i), .v (.str j), m, Φ => ngK neg Φ (decide (i = j)) m
  | .v x, .v y, m, Φ => scal x y = true ∧ ngK neg Φ (decide (x = y)) m
  | x, y, m, Φ => ∃ p q, PyOf x p ∧ PyOf y q ∧ SeqAt.shaped p = true ∧ SeqAt.shaped q = true ∧ ngK neg Φ (PyData.eqv p q) m
def rEqA (K : PySem.W.Frag) : R2 := fun x y H Q => rEq x y H Q ∨ rEqD K x y H Q
def rNeA (K : PySem.W.Frag) : R2 := fun x y H Q => rNe x y H Q ∨ rNeD K x y H Q
theorem opd_eq {K : PySem.W.Frag} : OpD cl (rEqA K) (eqD false) := fun s x y dx dy Φ Q g rx ry h k => by
  unfold eqD at h
  split at h
  · cases rx; cases ry; exact .inl ⟨rfl, k _ _ s (Le.refl s) g (.v _) (by rw [dec_int]; exact h)⟩
  · cases rx; cases ry; exact .inl ⟨rfl, k _ _ s (Le.refl s) g (.v _) (by rw [dec_str]; exact h)⟩
  · cases rx; cases ry; exact .inl ⟨h.1, k _ _ s (Le.refl s) g (.v _) h.2⟩
  · obtain ⟨p, q, h1, h2, h3, h4, h5⟩ := h
    exact .inr ⟨p, q, h1.dp rx, h2.dp ry, h3, h4, k _ _ s (Le.refl s) g (.v _) h5⟩
theorem opd_ne {K : PySem.W.Frag} : OpD cl (rNeA K) (eqD true) := fun s x y dx dy Φ Q g rx ry h k => by
  unfold eqD at h
  split at h
  · cases rx; cases ry; exact .inl ⟨rfl, k _ _ s (Le.refl s) g (.v _) (by rw [dec_int]; exact h)⟩
  · cases rx; cases ry; exact .inl ⟨rfl, k _ _ s (Le.refl s) g (.v _) (by rw [dec_str]; exact h)⟩
  · cases rx; cases ry; exact .inl ⟨h.1, k _ _ s (Le.refl s) g (.v _) h.2⟩
  · obtain ⟨p, q, h1, h2, h3, h4, h5⟩ := h
    exact .inr ⟨p, q, h1.dp rx, h2.dp ry, h3, h4, k _ _ s (Le.refl s) g (.v _) h5⟩
theorem de_eq (hu : X.A.units + 64 < cLine) (ha : DE cl s0 X a ta) (hb : DE cl s0 X b tb) : DE cl s0 X (.Compare a [.Eq] [b] pos) (dOp (eqD false) ta tb) := de_cmp (OpR.or op_eq (op_eqD hu)) (opd_eq (K := X.K)) ha hb (nomark _)
theorem de_ne (hu : X.A.units + 64 < cLine) (ha : DE cl s0 X a ta) (hb : DE cl s0 X b tb) : DE cl s0 X (.Compare a [.NotEq] [b] pos) (dOp (eqD true) ta tb) := de_cmp (OpR.or op_ne (op_neD hu)) (opd_ne (K := X.K)) ha hb (nomark _)
/-- is None -/
def isND (neg : Bool) : D → D → Mu → DK → Prop
  | .v x, .v .non, m, Φ => ngK neg Φ (decide (x = .non)) m
  | _, .v .non, m, Φ => Φ (.v (.bl neg)) m
  | _, _, _, _ => False
theorem rep_non {s : Sn} {d : D} (h : Rep cl s d .non) : d = .v .non := by cases h; rfl
theorem opd_isN : OpD cl (fun x y H Q => y = .non ∧ Q (.bl (decide (x = .non))) H) (isND false) := fun s x y dx dy Φ Q g rx ry h k => by
  unfold isND at h
  split at h
  · cases rx; cases ry; exact ⟨rfl, k _ _ s (Le.refl s) g (.v _) h⟩
  · rename_i hne
    cases ry
    refine ⟨rfl, ?_⟩
    have e : decide (x = V.non) = false := decide_eq_false fun z => by subst z; exact hne _ (rep_non rx)
    rw [e]
    exact k _ _ s (Le.refl s) g (.v _) h
  · exact h.elim
theorem opd_notN : OpD cl (fun x y H Q => y = .non ∧ Q (.bl (!decide (x = .non))) H) (isND true) := fun s x y dx dy Φ Q g rx ry h k => by
  unfold isND at h
  split at h
  · cases rx; cases ry; exact ⟨rfl, k _ _ s (Le.refl s) g (.v _) h⟩
  · rename_i hne
    cases ry
    refine ⟨rfl, ?_⟩
    have e : decide (x = V.non) = false := decide_eq_false fun z => by subst z; exact hne _ (rep_non rx)
    rw [e]
    exact k _ _ s (Le.refl s) g (.v _) h
  · exact h.elim
theorem de_isN (ha : DE cl s0 X a ta) (hb : DE cl s0 X b tb) : DE cl s0 X (.Compare a [.Is] [b] pos) (dOp (isND false) ta tb) := de_cmp op_isN opd_isN ha hb (nomark _)
theorem de_notN (ha : DE cl s0 X a ta) (hb : DE cl s0 X b tb) : DE cl s0 X (.Compare a [.IsNot] [b] pos) (dOp (isND true) ta tb) := de_cmp op_notN opd_notN ha hb (nomark _)

/-! ### tests -/
def boolD (x : D) (m : Mu) (Φ : Bool → Mu → Prop) : Prop := match x with
  | .v (.bl c) => Φ c m
  | _ => False
def dB (t : DTE) : DTT := fun r m Φ => t r m fun x m1 => boolD x m1 Φ
theorem ev_b {te : TE} {t : DTE} (h : EvD cl s0 te t) : EvT cl s0 (tB te) (dB t) := ⟨fun s σ r Φ Q g e l q k => h.run s σ r _ _ g e l q fun d v s1 l1 g1 rv q1 => by
  unfold boolD at q1
  split at q1
  · cases rv; exact ⟨_, rfl, k _ _ l1 g1 q1⟩
  · exact q1.elim⟩
theorem dt_val (ha : DE cl s0 X a ta) (he : ∀ whole, isTrue a X.env whole = (do let v ← whole; standAt a.pos; holding [v] (truthy v)) := by intro _; rfl) : DT cl s0 X a (dB ta) :=
  let ⟨_, pa, ea⟩ := ha; ⟨_, pt_val pa he, ev_b ea⟩
theorem dt_cmp {op : CmpOp} {r : R2} {f : D → D → Mu → DK → Prop} (ho : OpR X (compareOp op) r) (hd : OpD cl r f) (ha : DE cl s0 X a ta) (hb : DE cl s0 X b tb) (hm : behindInMarks op b = false) : DT cl s0 X (.Compare a [op] [b] pos) (dB (dOp f ta tb)) :=
  let ⟨_, pa, ea⟩ := ha; let ⟨_, pb, eb⟩ := hb; ⟨_, pt_cmpR ho pa pb hm, ev_b (ev_op hd ea eb)⟩
theorem dt_lt (ha : DE cl s0 X a ta) (hb : DE cl s0 X b tb) : DT cl s0 X (.Compare a [.Lt] [b] pos) (dB (dOp ltD ta tb)) := dt_cmp opR_lt opd_ord ha hb (nomark _)
theorem dt_le (ha : DE cl s0 X a ta) (hb : DE cl s0 X b tb) : DT cl s0 X (.Compare a [.LtE] [b] pos) (dB (dOp leD ta tb)) := dt_cmp opR_le opd_ord ha hb (nomark _)
theorem dt_gt (ha : DE cl s0 X a ta) (hb : DE cl s0 X b tb) : DT cl s0 X (.Compare a [.Gt] [b] pos) (dB (dOp gtD ta tb)) := dt_cmp opR_gt opd_ord ha hb (nomark _)
theorem dt_ge (ha : DE cl s0 X a ta) (hb : DE cl s0 X b tb) : DT cl s0 X (.Compare a [.GtE] [b] pos) (dB (dOp geD ta tb)) := dt_cmp opR_ge opd_ord ha hb (nomark _)
theorem dt_eq (hu : X.A.units + 64 < cLine) (ha : DE cl s0 X a ta) (hb : DE cl s0 X b tb) : DT cl s0 X (.Compare a [.Eq] [b] pos) (dB (dOp (eqD false) ta tb)) := dt_cmp (OpR.or op_eq (op_eqD hu)) (opd_eq (K := X.K)) ha hb (nomark _)
theorem dt_ne (hu : X.A.units + 64 < cLine) (ha : DE cl s0 X a ta) (hb : DE cl s0 X b tb) : DT cl s0 X (.Compare a [.NotEq] [b] pos) (dB (dOp (eqD true) ta tb)) := dt_cmp (OpR.or op_ne (op_neD hu)) (opd_ne (K := X.K)) ha hb (nomark _)
theorem dt_isN (ha : DE cl s0 X a ta) (hb : DE cl s0 X b tb) : DT cl s0 X (.Compare a [.Is] [b] pos) (dB (dOp (isND false) ta tb)) := dt_cmp op_isN opd_isN ha hb (nomark _)
theorem dt_notN (ha : DE cl s0 X a ta) (hb : DE cl s0 X b tb) : DT cl s0 X (.Compare a [.IsNot] [b] pos) (dB (dOp (isND true) ta tb)) := dt_cmp op_notN opd_notN ha hb (nomark _)
def dAnd (t u : DTT) : DTT := fun r m Φ => t r m fun c m1 => Br c (u r m1 Φ) (Φ false m1)
def dOr (t u : DTT) : DTT := fun r m Φ => t r m fun c m1 => Br c (Φ true m1) (u r m1 Φ)
def dNot (t : DTT) : DTT := fun r m Φ => t r m fun c m1 => Φ (!c) m1
theorem ev_and {tt uu : TT} {t u : DTT} (h : EvT cl s0 tt t) (h' : EvT cl s0 uu u) : EvT cl s0 (tAnd tt uu) (dAnd t u) := ⟨fun s σ r Φ Q g e l q k => h.run s σ r _ _ g e l q fun c s1 l1 g1 q1 => by
  cases c with
  | true => exact h'.run s1 σ r Φ Q g1 (e.mono l1) (l.trans l1) q1.tt fun b s2 l2 => k b s2 (l1.trans l2)
  | false => exact k false s1 l1 g1 q1.ff⟩
theorem ev_or {tt uu : TT} {t u : DTT} (h : EvT cl s0 tt t) (h' : EvT cl s0 uu u) : EvT cl s0 (tOr tt uu) (dOr t u) := ⟨fun s σ r Φ Q g e l q k => h.run s σ r _ _ g e l q fun c s1 l1 g1 q1 => by
  cases c with
  | false => exact h'.run s1 σ r Φ Q g1 (e.mono l1) (l.trans l1) q1.ff fun b s2 l2 => k b s2 (l1.trans l2)
  | true => exact k true s1 l1 g1 q1.tt⟩
variable {tA tB' : DTT} {rest : List Expr}
theorem dw_and1 (ha : DT cl s0 X a tA) : DW cl s0 X (.BoolOp .And [a] pos) tA := let ⟨_, p, e⟩ := ha; ⟨_, pw_and1 p, e⟩
theorem dw_or1 (ha : DT cl s0 X a tA) : DW cl s0 X (.BoolOp .Or [a] pos) tA := let ⟨_, p, e⟩ := ha; ⟨_, pw_or1 p, e⟩
theorem dw_and (ha : DT cl s0 X a tA) (hb : DW cl s0 X (.BoolOp .And (b :: rest) pos) tB') : DW cl s0 X (.BoolOp .And (a :: b :: rest) pos) (dAnd tA tB') :=
  let ⟨_, p, e⟩ := ha; let ⟨_, p', e'⟩ := hb; ⟨_, pw_and p p', ev_and e e'⟩
theorem dw_or (ha : DT cl s0 X a tA) (hb : DW cl s0 X (.BoolOp .Or (b :: rest) pos) tB') : DW cl s0 X (.BoolOp .Or (a :: b :: rest) pos) (dOr tA tB') :=
  let ⟨_, p, e⟩ := ha; let ⟨_, p', e'⟩ := hb; ⟨_, pw_or p p', ev_or e e'⟩
theorem DW.dt {e : Expr} {t : DTT} (h : DW cl s0 X e t) : DT cl s0 X e t := let ⟨_, p, v⟩ := h; ⟨_, p.pt, v⟩
theorem dt_not (ha : DT cl s0 X a tA) : DT cl s0 X (.UnaryOp .Not a pos) (dNot tA) := let ⟨_, p, e⟩ := ha; ⟨_, pt_not p, ⟨fun s σ r Φ Q g v l q k => e.run s σ r _ _ g v l q fun c s1 l1 g1 q1 => k _ s1 l1 g1 q1⟩⟩
/-- and, or, not as values: bools -/
def dAndV (t u : DTE) : DTE := fun r m Φ => t r m fun x m1 => boolD x m1 fun c m1 => Br c (u r m1 Φ) (Φ (.v (.bl false)) m1)
def dOrV (t u : DTE) : DTE := fun r m Φ => t r m fun x m1 => boolD x m1 fun c m1 => Br c (Φ (.v (.bl true)) m1) (u r m1 Φ)
def dNotV (t : DTE) : DTE := fun r m Φ => t r m fun x m1 => boolD x m1 fun c m1 => Φ (.v (.bl (!c))) m1
theorem de_one {op} (h : DE cl s0 X a ta) : DE cl s0 X (.BoolOp op [a] pos) ta := let ⟨_, p, e⟩ := h; ⟨_, pe_one p, e⟩
theorem de_and (ha : DE cl s0 X a ta) (hb : DE cl s0 X (.BoolOp .And (b :: rest) pos) tb) : DE cl s0 X (.BoolOp .And (a :: b :: rest) pos) (dAndV ta tb) :=
  let ⟨_, p, e⟩ := ha; let ⟨_, p', e'⟩ := hb; ⟨_, pe_and p p', ⟨fun s σ r Φ Q g v l q k => e.run s σ r _ _ g v l q fun d w s1 l1 g1 rw1 q1 => by
    unfold boolD at q1
    split at q1
    · rename_i c
      cases rw1
      refine ⟨c, rfl, ?_⟩
      cases c with
      | true => exact e'.run s1 σ r Φ Q g1 (v.mono l1) (l.trans l1) q1.tt fun d w s2 l2 => k d w s2 (l1.trans l2)
      | false => exact k _ _ s1 l1 g1 (.v _) q1.ff
    · exact q1.elim⟩⟩
theorem de_or (ha : DE cl s0 X a ta) (hb : DE cl s0 X (.BoolOp .Or (b :: rest) pos) tb) : DE cl s0 X (.BoolOp .Or (a :: b :: rest) pos) (dOrV ta tb) :=
  let ⟨_, p, e⟩ := ha; let ⟨_, p', e'⟩ := hb; ⟨_, pe_or p p', ⟨fun s σ r Φ Q g v l q k => e.run s σ r _ _ g v l q fun d w s1 l1 g1 rw1 q1 => by
    unfold boolD at q1
    split at q1
    · rename_i c
      cases rw1
      refine ⟨c, rfl, ?_⟩
      cases c with
      | false => exact e'.run s1 σ r Φ Q g1 (v.mono l1) (l.trans l1) q1.ff fun d w s2 l2 => k d w s2 (l1.trans l2)
      | true => exact k _ _ s1 l1 g1 (.v _) q1.tt
    · exact q1.elim⟩⟩
theorem de_not (ha : DE cl s0 X a ta) : DE cl s0 X (.UnaryOp .Not a pos) (dNotV ta) :=
  let ⟨_, p, e⟩ := ha; ⟨_, pe_not p, ⟨fun s σ r Φ Q g v l q k => e.run s σ r _ _ g v l q fun d w s1 l1 g1 rw1 q1 => by
    unfold boolD at q1
    split at q1
    · cases rw1
      exact ⟨_, rfl, k _ _ s1 l1 g1 (.v _) q1⟩
    · exact q1.elim⟩⟩
def dIfE (t : DTT) (u w : DTE) : DTE := fun r m Φ => t r m fun c m1 => Br c (u r m1 Φ) (w r m1 Φ)
theorem de_if {c : Expr} (hc : DT cl s0 X c tA) (ha : DE cl s0 X a ta) (hb : DE cl s0 X b tb) : DE cl s0 X (.IfExp c a b pos) (dIfE tA ta tb) :=
  let ⟨_, p, e⟩ := hc; let ⟨_, p1, e1⟩ := ha; let ⟨_, p2, e2⟩ := hb; ⟨_, pe_ifExp p p1 p2, ⟨fun s σ r Φ Q g v l q k => e.run s σ r _ _ g v l q fun c s1 l1 g1 q1 => by
    cases c with
    | true => exact e1.run s1 σ r Φ Q g1 (v.mono l1) (l.trans l1) q1.tt fun d w s2 l2 => k d w s2 (l1.trans l2)
    | false => exact e2.run s1 σ r Φ Q g1 (v.mono l1) (l.trans l1) q1.ff fun d w s2 l2 => k d w s2 (l1.trans l2)⟩⟩
/-- a chain of two comparisons -/
def dChain (f f' : D → D → Mu → DK → Prop) (ta tb tc : DTE) : DTE := fun r m Φ => ta r m fun x m1 => tb r m1 fun y m2 => f x y m2 fun z m3 => boolD z m3 fun k m3 => Br k (tc r m3 fun w m4 => f' y w m4 Φ) (Φ (.v (.bl false)) m3)

/-! ### arguments, displays -/
def dNil : DTA := fun _ m Φ => Φ [] m
def dCons (t : DTE) (u : DTA) : DTA := fun r m Φ => t r m fun x m1 => u r m1 fun xs m2 => Φ (x :: xs) m2
variable {e : Expr} {es : List Expr} {td : DTE} {tds : DTA}
theorem da_nil : DA cl s0 X [] dNil := ⟨_, pa_nil, ⟨fun s σ r Φ Q g v l q k => k [] [] s (Le.refl s) g .nil q⟩⟩
theorem da_cons (ha : DE cl s0 X e td) (hr : DA cl s0 X es tds) (hs : starEach (e :: es) X.env = (false, eval e X.env) :: starEach es X.env := by rfl) : DA cl s0 X (e :: es) (dCons td tds) :=
  let ⟨_, p, v⟩ := ha; let ⟨_, p', v'⟩ := hr; ⟨_, pa_cons p p' hs, ⟨fun s σ r Φ Q g w l q k => v.run s σ r _ _ g w l q fun d x s1 l1 g1 rx q1 =>
    v'.run s1 σ r _ _ g1 (w.mono l1) (l.trans l1) q1 fun ds xs s2 l2 g2 rs q2 => k _ _ s2 (l1.trans l2) g2 (.cons (rx.mono l2) rs) q2⟩⟩
def dTup (t : DTA) : DTE := fun r m Φ => t r m fun ds m1 => ds.length ≤ sizeLine ∧ Φ (.tup ds) m1
def dLst (t : DTA) : DTE := fun r m Φ => t r m fun ds m1 => ds.length ≤ sizeLine ∧ Φ (.lst ds) m1
theorem de_tup {x1} (h : DA cl s0 X es tds) : DE cl s0 X (.Tuple es x1 pos) (dTup tds) := let ⟨_, p, v⟩ := h; ⟨_, pe_tup p, ⟨fun s σ r Φ Q g w l q k => v.run s σ r _ _ g w l q fun ds xs s1 l1 g1 rs q1 =>
  ⟨by rw [← rs.length]; exact q1.1, fun p hp => k _ _ _ (l1.trans (Le.lay g1 hp)) (g1.lay hp) (Rep.laidT g1 hp rs) q1.2⟩⟩⟩
theorem de_lst (h : DA cl s0 X es tds) : DE cl s0 X (.List es pos) (dLst tds) := let ⟨_, p, v⟩ := h; ⟨_, pe_lst p, ⟨fun s σ r Φ Q g w l q k => v.run s σ r _ _ g w l q fun ds xs s1 l1 g1 rs q1 =>
  ⟨by rw [← rs.length]; exact q1.1, fun p hp => k _ _ _ (l1.trans (Le.lay g1 hp)) (g1.lay hp) (Rep.laid g1 hp rs) q1.2⟩⟩⟩
/-- a list that may change: a new handle -/
def dNew (t : DTA) : DTE := fun r m Φ => t r m fun ds m1 => ds.length ≤ sizeLine ∧ ∀ k, m1 k = none → Φ (.hd k) (setMu m1 k (.lst ds))
theorem mu_n {s : Sn} (g : Good cl s) : s.mu s.n = none := by
  cases e : s.mu s.n with
  | none => rfl
  | some c => exact absurd (g.dom _ _ (Sn.mu_al e).1) (Nat.lt_irrefl _)
theorem Rep.open_ {s : Sn} {p : Addr} {o : HO} {c : Ct} : Rep cl (s.open_ p o c) (.hd s.n) (.ref p) := by
  have e : (s.open_ p o c).kap s.n = p := if_pos rfl
  have h : Rep cl (s.open_ p o c) (.hd s.n) (.ref ((s.open_ p o c).kap s.n)) := .hd (Nat.lt_succ_self _)
  rw [e] at h
  exact h
theorem de_new (h : DA cl s0 X es tds) : DE cl s0 X (.List es pos) (dNew tds) := let ⟨_, p, v⟩ := h; ⟨_, pe_lst p, ⟨fun s σ r Φ Q g w l q k => v.run s σ r _ _ g w l q fun ds xs s1 l1 g1 rs q1 =>
  ⟨by rw [← rs.length]; exact q1.1, fun p hp => by
    have l2 : Le s1 (s1.open_ p (.lst xs) (.lst ds)) := Le.open_ g1 hp
    have q2 := q1.2 s1.n (mu_n g1)
    rw [← open_mu (p := p) (o := .lst xs)] at q2
    exact k _ _ _ (l1.trans l2) (g1.open_ hp ⟨xs, upd_same, rs.mono l2⟩) Rep.open_ q2⟩⟩⟩

/-! ### items -/
/-- x[i] -/
def ixD : D → D → Mu → DK → Prop
  | .lst xs, .v (.int i), m, Φ => Sm (atI xs i) fun d => Φ d m
  | .tup xs, .v (.int i), m, Φ => Sm (atI xs i) fun d => Φ d m
  | .scr ns, .v (.int i), m, Φ => Sm (atI ns i) fun z => Φ (.v (.int z)) m
  | .hd k, .v (.int i), m, Φ => Sm (m k) (lstC fun xs => Sm (atI xs i) fun d => Φ d m)
  | .v (.str z), .v (.int i), m, Φ => z.length ≤ sizeLine ∧ ∃ c, atI z.cps.toList i = some c ∧ Φ (.v (.str ⟨#[c]⟩)) m
  | _, _, _, _ => False
theorem Reps.atI {s : Sn} {ds : List D} {vs : List V} {i : Int} {d : D} (r : Reps cl s ds vs) (h : L2.atI ds i = some d) : ∃ v, L2.atI vs i = some v ∧ Rep cl s d v := by
  unfold L2.atI at h ⊢
  rw [← r.length]
  cases e : ixN ds.length i with
  | none => rw [e] at h; cases h
  | some j =>
    rw [e] at h
    exact r.get h
theorem atI_map {α β : Type} {f : α → β} {xs : List α} {i : Int} : L2.atI (xs.map f) i = (L2.atI xs i).map f := by
  unfold L2.atI
  rw [List.length_map]
  cases ixN xs.length i with
  | none => rfl
  | some j => simp
theorem opd_ix {K : PySem.W.Frag} : OpD cl (rIx K) ixD := fun s x y dx dy Φ Q g rx ry h k => by
  unfold ixD at h
  split at h
  · obtain ⟨d, h1, q⟩ := h.to
    cases rx with
    | lst n1 h2 r1 =>
      cases ry
      obtain ⟨v, e, rv⟩ := r1.atI h1
      exact .inl ⟨_, _, _, v, rfl, rfl, SqL.of h2, e, k d v s (Le.refl s) g rv q⟩
  · obtain ⟨d, h1, q⟩ := h.to
    cases rx with
    | tup n1 h2 r1 =>
      cases ry
      obtain ⟨v, e, rv⟩ := r1.atI h1
      exact .inr (.inl ⟨_, _, _, v, rfl, rfl, SqT.of h2, e, k d v s (Le.refl s) g rv q⟩)
  · obtain ⟨z, h1, q⟩ := h.to
    cases rx with
    | scr n1 h2 =>
      cases ry
      exact .inl ⟨_, _, _, .int z, rfl, rfl, .inl (.inr ⟨_, h2⟩), by rw [atI_map, h1]; rfl, k _ _ s (Le.refl s) g (.v _) q⟩
  · obtain ⟨xs, h1, q⟩ := lst_to h
    obtain ⟨d, h2, q⟩ := q.to
    cases rx with
    | hd hk =>
      cases ry
      obtain ⟨vs, e1, r1⟩ := g.ct _ _ (Sn.mu_al h1).1
      obtain ⟨v, e, rv⟩ := r1.atI h2
      exact .inl ⟨_, _, _, v, rfl, rfl, SqL.of e1, e, k d v s (Le.refl s) g rv q⟩
  · obtain ⟨hz, c, h1, q⟩ := h
    cases rx
    cases ry
    exact .inr (.inr ⟨_, _, c, rfl, rfl, hz, h1, k _ _ s (Le.refl s) g (.v _) q⟩)
  · exact h.elim
theorem de_ix (ha : DE cl s0 X a ta) (hb : DE cl s0 X b tb) (hs : PlainIx b := by exact fun _ _ => rfl) : DE cl s0 X (.Subscript a b pos) (dOp ixD ta tb) :=
  let ⟨_, pa, ea⟩ := ha; let ⟨_, pb, eb⟩ := hb; ⟨_, pe_ix ix_seq pa pb hs, ev_op opd_ix ea eb⟩
end
end ER

namespace ER
open PySem PySem.Spec PyProof.Rows L2

/-! ## statements -/
section
variable {cl : Nat → Addr} {s0 : Sn} {X : Cx} {st : Stmt} {rest : List Stmt} {t u : DTS} {e : Expr} {te : DTE} {pos : Pos}
def dNext : DTS := fun De r m => De.nx r m
def dSeq (t u : DTS) : DTS := fun De r m => t { De with nx := u De } r m
theorem dss_nil : DSs cl s0 X [] dNext := ⟨_, pss_nil, ⟨fun s σ r De T g v l q k => k.nx s r σ (Le.refl s) g v q⟩⟩
theorem dss_cons (h1 : DS cl s0 X st t) (h2 : DSs cl s0 X rest u) : DSs cl s0 X (st :: rest) (dSeq t u) :=
  let ⟨_, p, v⟩ := h1; let ⟨_, p', v'⟩ := h2; ⟨_, pss_cons p p', ⟨fun s σ r De T g w l q k => v.run s σ r _ _ g w l q
    ⟨fun s1 r1 σ1 l1 g1 w1 q1 => v'.run s1 σ1 r1 De T g1 w1 (l.trans l1) q1 (k.mono l1), k.bk, k.ct, k.rt⟩⟩⟩
def dBreak : DTS := fun De r m => De.bk r m
def dCont : DTS := fun De r m => De.ct r m
theorem ds_pass : DS cl s0 X (.Pass pos) dNext := ⟨_, ps_pass, ⟨fun s σ r De T g v l q k => k.nx s r σ (Le.refl s) g v q⟩⟩
theorem ds_break : DS cl s0 X (.Break pos) dBreak := ⟨_, ps_break, ⟨fun s σ r De T g v l q k => k.bk s r σ (Le.refl s) g v q⟩⟩
theorem ds_cont : DS cl s0 X (.Continue pos) dCont := ⟨_, ps_continue, ⟨fun s σ r De T g v l q k => k.ct s r σ (Le.refl s) g v q⟩⟩
theorem ds_doc {x j pos pos'} : DS cl s0 X (.Expr (.Constant (.str x) j pos) pos') dNext := ⟨_, ps_doc, ⟨fun s σ r De T g v l q k => k.nx s r σ (Le.refl s) g v q⟩⟩
def dDrop (t : DTE) : DTS := fun De r m => t r m fun _ m1 => De.nx r m1
theorem ds_expr (h : DE cl s0 X e te) (hs : swapsWith e none pos.line X.env = pure false := by rfl) : DS cl s0 X (.Expr e pos) (dDrop te) :=
  let ⟨_, p, v⟩ := h; ⟨_, ps_expr p hs, ⟨fun s σ r De T g w l q k => v.run s σ r _ _ g w l q fun d x s1 l1 g1 rx q1 => k.nx s1 r σ l1 g1 (w.mono l1) q1⟩⟩
def dRet (t : DTE) : DTS := fun De r m => t r m De.rt
theorem ds_ret (h : DE cl s0 X e te) : DS cl s0 X (.Return (some e) pos) (dRet te) :=
  let ⟨_, p, v⟩ := h; ⟨_, ps_ret p, ⟨fun s σ r De T g w l q k => v.run s σ r _ _ g w l q fun d x s1 l1 g1 rx q1 => k.rt s1 d x l1 g1 rx q1⟩⟩
def dRetN : DTS := fun De _ m => De.rt (.v .non) m
theorem ds_retN : DS cl s0 X (.Return none pos) dRetN := ⟨_, ps_retN, ⟨fun s σ r De T g w l q k => k.rt s _ _ (Le.refl s) g (.v _) q⟩⟩
def dIf (c : DTT) (t u : DTS) : DTS := fun De r m => c r m fun b m1 => Br b (t De r m1) (u De r m1)
theorem ds_if {c : Expr} {a b : List Stmt} {tc : DTT} (hc : DT cl s0 X c tc) (ha : DSs cl s0 X a t) (hb : DSs cl s0 X b u) : DS cl s0 X (.If c a b pos) (dIf tc t u) :=
  let ⟨_, p, v⟩ := hc; let ⟨_, p1, v1⟩ := ha; let ⟨_, p2, v2⟩ := hb; ⟨_, ps_if p p1 p2, ⟨fun s σ r De T g w l q k => v.run s σ r _ _ g w l q fun b s1 l1 g1 q1 => by
    cases b with
    | true => exact v1.run s1 σ r De T g1 (w.mono l1) (l.trans l1) q1.tt (k.mono l1)
    | false => exact v2.run s1 σ r De T g1 (w.mono l1) (l.trans l1) q1.ff (k.mono l1)⟩⟩
def dNever : DTS := fun _ _ _ => False
theorem ds_never : DS cl s0 X st dNever := ⟨_, ps_never, ⟨fun _ _ _ _ _ _ _ _ h => h.elim⟩⟩
theorem dss_never {sts : List Stmt} : DSs cl s0 X sts dNever := ⟨_, pss_never, ⟨fun _ _ _ _ _ _ _ _ h => h.elim⟩⟩

/-! ### targets -/
def dName (i : Nat) : DTG := fun d r m Φ => St r i (some d) fun r' => Φ r' m
theorem ev_name {i : Nat} : EvG cl s0 (gName i) (dName i) := ⟨fun s σ r d v Φ Q g w l rv q k => k s _ _ (Le.refl s) g (w.set rv i) q.to⟩
theorem dg_name {i : Nat} {x : Str} (hN : X.N.Nodup) (hi : X.N[i]? = some x) (hx : Loc X.env.scope x) (hf : X.fn x = true ∨ X.env.scope.names.lookup x = some .local := by first | exact .inl rfl | exact .inr rfl | assumption) : DG cl s0 X (.Name x pos) (dName i) :=
  ⟨_, pg_name hN hi hx hf, ev_name⟩
def dgNil : DTGs := fun ds r m Φ => ds = [] ∧ Φ r m
def dgCons (t : DTG) (u : DTGs) : DTGs := fun ds r m Φ => match ds with
  | d :: ds => t d r m fun r1 m1 => u ds r1 m1 Φ
  | [] => False
theorem dgs_nil : DGs cl s0 X [] dgNil := ⟨_, pgs_nil, ⟨fun s σ r ds vs Φ Q g w l rv q k => by
  obtain ⟨e, q⟩ := q
  subst e
  cases rv
  exact ⟨rfl, k s r σ (Le.refl s) g w q⟩⟩⟩
theorem ev_gcons {g1 : TG} {g2 : TGs} {t : DTG} {u : DTGs} (h1 : EvG cl s0 g1 t) (h2 : EvGs cl s0 g2 u) : EvGs cl s0 (gCons g1 g2) (dgCons t u) := ⟨fun s σ r ds vs Φ Q g w l rv q k => by
  cases rv with
  | nil => exact q.elim
  | cons rv1 rvs =>
    exact ⟨_, _, rfl, h1.run s σ r _ _ _ _ g w l rv1 q fun s1 r1 σ1 l1 g1 w1 q1 => h2.run s1 σ1 r1 _ _ Φ Q g1 w1 (l.trans l1) (rvs.mono l1) q1 fun s2 r2 σ2 l2 => k s2 r2 σ2 (l1.trans l2)⟩⟩
theorem dgs_cons {es : List Expr} {t : DTG} {u : DTGs} (h1 : DG cl s0 X e t) (h2 : DGs cl s0 X es u)
    (hs : (assignEach (e :: es) X.env).map (·.2) = assign e X.env :: (assignEach es X.env).map (·.2) := by rfl) : DGs cl s0 X (e :: es) (dgCons t u) :=
  let ⟨_, p, v⟩ := h1; let ⟨_, p', v'⟩ := h2; ⟨_, pgs_cons p p' hs, ev_gcons v v'⟩
def dgTup (n : Nat) (t : DTGs) : DTG := fun d r m Φ => match d with
  | .tup ds => ds.length = n ∧ t ds r m Φ
  | _ => False
theorem i_gtup {n : Nat} {t : DTGs} {ds : List D} {r : Env} {m : Mu} {Φ : Env → Mu → Prop} (e : ds.length = n) (h : t ds r m Φ) : dgTup n t (.tup ds) r m Φ := ⟨e, h⟩
theorem i_gcons {t : DTG} {u : DTGs} {d : D} {ds : List D} {r : Env} {m : Mu} {Φ : Env → Mu → Prop} (h : t d r m fun r1 m1 => u ds r1 m1 Φ) : dgCons t u (d :: ds) r m Φ := h
theorem i_gnil {r : Env} {m : Mu} {Φ : Env → Mu → Prop} (h : Φ r m) : dgNil [] r m Φ := ⟨rfl, h⟩
theorem ev_gtup {K : PySem.W.Frag} {n : Nat} {g2 : TGs} {u : DTGs} (h : EvGs cl s0 g2 u) : EvG cl s0 (gTup K n g2) (dgTup n u) := ⟨fun s σ r d v Φ Q g w l rv q k => by
  unfold dgTup at q
  split at q
  · cases rv with
    | tup n1 h1 r1 => exact ⟨_, _, rfl, SqT.of h1, by rw [← r1.length]; exact q.1, h.run s σ r _ _ Φ Q g w l r1 q.2 k⟩
  · exact q.elim⟩
theorem dg_tup {es : List Expr} {k : Nat} {t : DTGs} {n : Nat} (hc : X.calm = true) (h : DGs cl s0 X es t)
    (hn : (assignEach es X.env).length = n := by rfl) (hst : (assignEach es X.env).findIdx? (·.1) = none := by rfl) : DG cl s0 X (.Tuple es k pos) (dgTup n t) :=
  let ⟨_, p, v⟩ := h; ⟨_, pg_tup hc p hn hst, ev_gtup v⟩
def dAsg (t : DTE) (g : DTG) : DTS := fun De r m => t r m fun d m1 => g d r m1 De.nx
theorem ev_asg {tt : TE} {gg : TG} {g : DTG} (h : EvD cl s0 tt te) (h' : EvG cl s0 gg g) : EvS cl s0 (tAsg tt gg) (dAsg te g) :=
  ⟨fun s σ r De T gd w l q k => h.run s σ r _ _ gd w l q fun d x s1 l1 g1 rx q1 => h'.run s1 σ r d x _ _ g1 (w.mono l1) (l.trans l1) rx q1 fun s2 r2 σ2 l2 g2 w2 q2 => k.nx s2 r2 σ2 (l1.trans l2) g2 w2 q2⟩
theorem ds_asg {tg : Expr} {g : DTG} (he : DE cl s0 X e te) (hg : DG cl s0 X tg g) (hs : swapsWithSole [tg] e pos.line X.env = pure false := by rfl) (hw : swappedStores [tg] e X.env = pure none := by rfl)
    (h1 : (assignEach [tg] X.env).map (·.2) = [assign tg X.env] := by rfl) : DS cl s0 X (.Assign [tg] e pos) (dAsg te g) :=
  let ⟨_, p, v⟩ := he; let ⟨_, p', v'⟩ := hg; ⟨_, ps_asg p p' hs hw h1, ev_asg v v'⟩
theorem ds_set {i : Nat} {x : Str} {pos' : Pos} (hN : X.N.Nodup) (hi : X.N[i]? = some x) (hx : Loc X.env.scope x) (he : DE cl s0 X e te) (hs : swapsWith e (some (.Name x pos')) pos.line X.env = pure false := by rfl) (hf : X.fn x = true ∨ X.env.scope.names.lookup x = some .local := by first | exact .inl rfl | exact .inr rfl | assumption) :
    DS cl s0 X (.Assign [.Name x pos'] e pos) (dAsg te (dName i)) := let ⟨_, p, v⟩ := he; ⟨_, ps_set hN hi hx p hs hf, ev_asg v ev_name⟩

/-! ### for -/
structure ItOk (cl : Nat → Addr) (J : It) (xs : List D) (s : Sn) : Prop where
  w : ∃ (n : Nat) (G : Hp → Prop) (Y : Nat → Hp → V → Hp → Prop), n = xs.length ∧ Walk J n G Y ∧ (∀ s', Le s s' → G s'.H) ∧
    ∀ (i : Nat) s' v H', i < n → Le s s' → Good cl s' → Y i s'.H v H' → ∃ d s'', xs[i]? = some d ∧ s''.H = H' ∧ Le s' s'' ∧ Good cl s'' ∧ s''.mu = s'.mu ∧ Rep cl s'' d v
abbrev DTI := Env → Mu → (List D → Mu → Prop) → Prop
structure EvI (cl : Nat → Addr) (s0 : Sn) (wi : TI) (t : DTI) : Prop where
  run : ∀ (s : Sn) (σ : L2.St) (r : Env) (Φ : List D → Mu → Prop) (R : It → Hp → Prop), Good cl s → EnvOk cl s r σ → Le s0 s → t r s.mu Φ → (∀ J xs s', Le s s' → Good cl s' → ItOk cl J xs s' → Φ xs s'.mu → R J s'.H) → wi σ s.H R
def DI (cl : Nat → Addr) (s0 : Sn) (X : Cx) (tg e : Expr) (t : DTI) : Prop := ∃ wi, PI X tg e wi ∧ EvI cl s0 wi t
def dForL (g : DTG) (tb : DTS) (De : DEnds) : List D → Env → Mu → Prop
  | [], r, m => De.nx r m
  | x :: xs, r, m => g x r m fun r' m' => tb { De with nx := dForL g tb De xs, ct := dForL g tb De xs, bk := De.nx } r' m'
def dFor (it : DTI) (g : DTG) (tb : DTS) : DTS := fun De r m => it r m fun xs m1 => dForL g tb De xs r m1
theorem ev_for {wi : TI} {gg : TG} {tb : TS} {it : DTI} {g : DTG} {db : DTS} (hi : EvI cl s0 wi it) (hg : EvG cl s0 gg g) (hb : EvS cl s0 tb db) : EvS cl s0 (tFor wi gg tb) (dFor it g db) := by
  refine ⟨fun s σ r De T gd w l q k => hi.run s σ r _ _ gd w l q fun J xs s1 l1 g1 ok q1 => ?_⟩
  obtain ⟨n, G, Y, hn, wk, hG, hY⟩ := ok.w
  refine for_it wk (fun i σ' H' => ∃ s' r', H' = s'.H ∧ Le s1 s' ∧ Good cl s' ∧ EnvOk cl s' r' σ' ∧ dForL g db De (xs.drop i) r' s'.mu) ⟨s1, r, rfl, Le.refl s1, g1, w.mono l1, q1⟩ ?_ ?_ ?_
  · rintro i σ' H' _ ⟨s', r', rfl, l', _⟩
    exact hG s' l'
  · rintro i x σ' H' H2 hin ⟨s', r', rfl, l', g', w', q'⟩ hy
    obtain ⟨d, s2, hd, rfl, l2, g2, hm, rd⟩ := hY i s' x H2 hin l' g' hy
    have hdrop : xs.drop i = d :: xs.drop (i + 1) := by
      have hlt : i < xs.length := hn ▸ hin
      rw [List.drop_eq_getElem_cons hlt]
      have : xs[i] = d := by
        have := hd
        rw [List.getElem?_eq_getElem hlt] at this
        exact Option.some.inj this
      rw [this]
    rw [hdrop, ← hm] at q'
    refine hg.run s2 σ' r' d x _ _ g2 (w'.mono l2) ((l.trans l1).trans (l'.trans l2)) rd q' fun s3 r3 σ3 l3 g3 w3 q3 => ?_
    refine hb.run s3 σ3 r3 _ _ g3 w3 ((l.trans l1).trans ((l'.trans l2).trans l3)) q3 ⟨fun s4 r4 σ4 l4 g4 w4 q4 => ?_, fun s4 r4 σ4 l4 g4 w4 q4 => ?_, fun s4 r4 σ4 l4 g4 w4 q4 => ?_, fun s4 d4 v4 l4 g4 r4 q4 => ?_⟩
    · exact ⟨s4, r4, rfl, ((l'.trans l2).trans l3).trans l4, g4, w4, q4⟩
    · exact k.nx s4 r4 σ4 (((l1.trans (l'.trans l2)).trans l3).trans l4) g4 w4 q4
    · exact ⟨s4, r4, rfl, ((l'.trans l2).trans l3).trans l4, g4, w4, q4⟩
    · exact k.rt s4 d4 v4 (((l1.trans (l'.trans l2)).trans l3).trans l4) g4 r4 q4
  · rintro σ' H' ⟨s', r', rfl, l', g', w', q'⟩
    rw [hn, List.drop_length] at q'
    exact k.nx s' r' σ' (l1.trans l') g' w' q'
theorem ds_for {tg iter : Expr} {body : List Stmt} {it : DTI} {g : DTG} {db : DTS} (hp : PassesOwn (model X.prog X.w) X.A X.env X.xe) (hc : X.calm = true) (hi : DI cl s0 X tg iter it) (hg : DG cl s0 X tg g) (hb : DSs cl s0 X body db)
    (hs : ∀ x, foldedSetIterable iter X.env x = pure x := by intro _; rfl) : DS cl s0 X (.For tg iter body [] pos) (dFor it g db) :=
  let ⟨_, p, v⟩ := hi; let ⟨_, p1, v1⟩ := hg; let ⟨_, p2, v2⟩ := hb; ⟨_, ps_for hp hc p p1 p2 hs, ev_for v v1 v2⟩

/-! ### what is walked -/
theorem itok_at {J : It} {n : Nat} {G : Hp → Prop} {vs : List V} {xs : List D} {s : Sn} (w : Walk J n G (YAt vs)) (hn : n = vs.length) (hG : ∀ s', Le s s' → G s'.H) (r : Reps cl s xs vs) : ItOk cl J xs s :=
  ⟨n, G, YAt vs, by rw [hn, r.length], w, hG, fun i s' v H' hi l g y => by
    obtain ⟨e, hv⟩ := y
    subst e
    have hlt : i < xs.length := by rw [r.length, ← hn]; exact hi
    obtain ⟨v', e1, rv⟩ := r.get (List.getElem?_eq_getElem hlt)
    rw [hv] at e1
    cases e1
    exact ⟨xs[i], s', List.getElem?_eq_getElem hlt, rfl, Le.refl s', g, rfl, rv.mono l⟩⟩

/-- a list, a tuple, a text -/
def iSeq (K : PySem.W.Frag) (tl : TE) : TI := fun σ H R => tl σ H fun x H1 => (∃ a, x = .ref a ∧ (∃ xs, SqL K H1 a xs) ∧ R (Itl K a) H1) ∨ (∃ a, x = .ref a ∧ (∃ xs, SqT K H1 a xs) ∧ R (Itt K a) H1) ∨ (∃ z, x = .str z ∧ R (Its z) H1)
theorem pi_seq {tg l : Expr} {tl : TE} (hl : PE X l tl) : PI X tg l (iSeq X.K tl) := by
  refine ⟨fun pins s σ H R I h => ?_⟩
  refine thn (hl.run pins s σ H _ I h) fun v s1 ⟨x, H1, I1, r1, q1⟩ => ?_
  rcases q1 with ⟨a, e, ⟨xs, hq⟩, q⟩ | ⟨a, e, ⟨xs, hq⟩, q⟩ | ⟨z, e, q⟩
  · subst e
    cases r1
    obtain ⟨its, rv, p, hz⟩ := I1.list hq
    refine wpAny_pyIter_list p.isList ?_
    refine ⟨s1.heap.objs.size, [s1.heap.objs.size], _, _, H1, rfl, I1.kept (t' := s1.toks) fun b o e => Heap.get?_push_of_some _ e, turn_list a _, ⟨_, Heap.get?_push_size _ rfl, rfl, rfl⟩, fun b hb => ?_, q⟩
    have e : b = s1.heap.objs.size := by simpa using hb
    subst e
    exact I1.fpOk (Nat.le_refl _) (I1.hok.fresh (Nat.le_refl _))
  · subst e
    cases r1
    obtain ⟨its, rv, p, hz⟩ := I1.tuple hq
    refine wpAny_pyIter_tuple (show s1.heap.IsTuple a its.toArray from p) ?_
    refine ⟨s1.heap.objs.size, [s1.heap.objs.size], _, _, H1, rfl, I1.kept (t' := s1.toks) fun b o e => Heap.get?_push_of_some _ e, turn_tuple a _, ⟨_, Heap.get?_push_size _ rfl, rfl, rfl⟩, fun b hb => ?_, q⟩
    have e : b = s1.heap.objs.size := by simpa using hb
    subst e
    exact I1.fpOk (Nat.le_refl _) (I1.hok.fresh (Nat.le_refl _))
  · subst e
    obtain ⟨t, rfl⟩ := r1
    cases ha : z.cps.all (· < 128)
    · exact wpAny_pyIter_wide ha (pi_one (tk := s1.toks) I1 _ (turn_str _ z t "str_iterator" (.inr rfl)) ⟨_, Heap.get?_push_size _ rfl, rfl, rfl⟩ q)
    · exact wpAny_pyIter_ascii ha (pi_one (tk := s1.toks) I1 _ (turn_str _ z t "str_ascii_iterator" (.inl rfl)) ⟨_, Heap.get?_push_size _ rfl, rfl, rfl⟩ q)
/-- a list, a tuple, the script, a text: what is walked -/
def seqD : D → Mu → (List D → Mu → Prop) → Prop
  | .lst xs, m, Φ => Φ xs m
  | .tup xs, m, Φ => Φ xs m
  | .scr ns, m, Φ => Φ (ns.map fun i => .v (.int i)) m
  | .v (.str z), m, Φ => Φ (z.cps.toList.map fun c => .v (.str ⟨#[c]⟩)) m
  | _, _, _ => False
def dSq (t : DTE) : DTI := fun r m Φ => t r m fun d m1 => seqD d m1 Φ
theorem di_seq {tg : Expr} (h : DE cl s0 X e te) : DI cl s0 X tg e (dSq te) := by
  obtain ⟨tt, p, v⟩ := h
  refine ⟨_, pi_seq p, ⟨fun s σ r Φ R g w l q k => v.run s σ r _ _ g w l q fun d x s1 l1 g1 rx q1 => ?_⟩⟩
  unfold seqD at q1
  split at q1
  · cases rx with
    | lst n1 h1 r1 => exact .inl ⟨_, rfl, ⟨_, SqL.of h1⟩, k _ _ s1 l1 g1 (itok_at walk_list rfl (fun s' l' => SqL.of (l'.keep _ _ h1 n1).1) r1) q1⟩
  · cases rx with
    | tup n1 h1 r1 => exact .inr (.inl ⟨_, rfl, ⟨_, SqT.of h1⟩, k _ _ s1 l1 g1 (itok_at walk_tup rfl (fun s' l' => SqT.of (l'.keep _ _ h1 n1).1) r1) q1⟩)
  · rename_i ns
    cases rx with
    | scr n1 h1 =>
      have r1 : Reps cl s1 (ns.map fun i => D.v (.int i)) (ns.map V.int) := by
        have := Reps.vals (cl := cl) (s := s1) (xs := ns.map V.int)
        rw [List.map_map] at this
        exact this
      exact .inl ⟨_, rfl, ⟨_, .inl (.inr ⟨_, h1⟩)⟩, k _ _ s1 l1 g1 (itok_at walk_list rfl (fun s' l' => .inl (.inr ⟨_, (l'.keep _ _ h1 n1).1⟩)) r1) q1⟩
  · rename_i z
    cases rx
    refine .inr (.inr ⟨_, rfl, k _ _ s1 l1 g1 ⟨_, _, _, ?_, walk_str, fun _ _ => trivial, fun i s' v H' hi l' g' y => ?_⟩ q1⟩)
    · rw [List.length_map]; exact (Array.length_toList).symm
    · obtain ⟨e, c, hc, ev⟩ := y
      subst e
      subst ev
      refine ⟨_, s', ?_, rfl, Le.refl s', g', rfl, .v _⟩
      rw [List.getElem?_map, Array.getElem?_toList, hc]
      rfl
  · exact q1.elim
/-- range(n), range(a, b) -/
def rngs (lo : Int) (n : Nat) : List D := (List.range n).map fun i => .v (.int (lo + (i : Nat)))
def rng1D (ds : List D) (m : Mu) (Φ : List D → Mu → Prop) : Prop := match ds with
  | [.v (.int n)] => (-(2 ^ 62) ≤ n ∧ n < 2 ^ 62) ∧ Φ (rngs 0 n.toNat) m
  | _ => False
def rng2D (ds : List D) (m : Mu) (Φ : List D → Mu → Prop) : Prop := match ds with
  | [.v (.int a), .v (.int b)] => (-(2 ^ 62) ≤ a ∧ a < 2 ^ 62 ∧ -(2 ^ 62) ≤ b ∧ b < 2 ^ 62) ∧ Φ (rngs a (b - a).toNat) m
  | _ => False
def dRng1 (t : DTA) : DTI := fun r m Φ => t r m fun ds m1 => rng1D ds m1 Φ
def dRng2 (t : DTA) : DTI := fun r m Φ => t r m fun ds m1 => rng2D ds m1 Φ
theorem itok_rng {lo : Int} {n : Nat} {s : Sn} : ItOk cl (Itr lo n) (rngs lo n) s :=
  ⟨n, _, _, by unfold rngs; rw [List.length_map, List.length_range], walk_range, fun _ _ => trivial, fun i s' v H' hi l g y => by
    obtain ⟨e, hv⟩ := y
    subst e
    subst hv
    refine ⟨_, s', ?_, rfl, Le.refl s', g, rfl, .v _⟩
    unfold rngs
    rw [List.getElem?_map, List.getElem?_range hi]
    rfl⟩
theorem di_rng1 {tg a : Expr} {ta : DTA} {p : Pos} (hg : Gl X "range") (hm : X.mg "range" = none) (ha : DA cl s0 X [a] ta) (hs : starEach [a] X.env = [(false, eval a X.env)] := by rfl) : DI cl s0 X tg (.Call (.Name "range" p) [a] [] pos) (dRng1 ta) := by
  obtain ⟨tt, pp, v⟩ := ha
  refine ⟨_, pi_range1 hg hm pp hs, ⟨fun s σ r Φ R g w l q k => v.run s σ r _ _ g w l q fun ds xs s1 l1 g1 rx q1 => ?_⟩⟩
  unfold rng1D at q1
  split at q1
  · cases rx with
    | cons r1 r2 =>
      cases r1
      cases r2
      exact ⟨_, rfl, q1.1.1, q1.1.2, k _ _ s1 l1 g1 itok_rng q1.2⟩
  · exact q1.elim
theorem di_rng2 {tg a b : Expr} {ta : DTA} {p : Pos} (hg : Gl X "range") (hm : X.mg "range" = none) (ha : DA cl s0 X [a, b] ta) (hs : starEach [a, b] X.env = [(false, eval a X.env), (false, eval b X.env)] := by rfl) (hs2 : starEach [b] X.env = [(false, eval b X.env)] := by rfl) :
    DI cl s0 X tg (.Call (.Name "range" p) [a, b] [] pos) (dRng2 ta) := by
  obtain ⟨tt, pp, v⟩ := ha
  refine ⟨_, pi_range2 hg hm pp hs hs2, ⟨fun s σ r Φ R g w l q k => v.run s σ r _ _ g w l q fun ds xs s1 l1 g1 rx q1 => ?_⟩⟩
  unfold rng2D at q1
  split at q1
  · cases rx with
    | cons r1 r2 =>
      cases r2 with
      | cons r3 r4 =>
        cases r1
        cases r3
        cases r4
        exact ⟨_, _, rfl, q1.1, k _ _ s1 l1 g1 itok_rng q1.2⟩
  · exact q1.elim

/-! ### parallel assignments -/
def two_ (ds : List D) (k : D → D → Prop) : Prop := match ds with
  | [d, e] => k d e
  | _ => False
def three_ (ds : List D) (k : D → D → D → Prop) : Prop := match ds with
  | [d, e, f] => k d e f
  | _ => False
def dPar (i j : Nat) (t : DTA) : DTS := fun De r m => t r m fun ds m1 => two_ ds fun d e => St r i (some d) fun r1 => St r1 j (some e) fun r2 => De.nx r2 m1
theorem ev_par {i j : Nat} {ta : TA} {t : DTA} (h : EvA cl s0 ta t) : EvS cl s0 (tPar i j ta) (dPar i j t) := ⟨fun s σ r De T g w l q k => h.run s σ r _ _ g w l q fun ds xs s1 l1 g1 rx q1 => by
  unfold two_ at q1
  split at q1
  · cases rx with
    | cons r1 r2 => cases r2 with
      | cons r3 r4 =>
        cases r4
        exact ⟨_, _, rfl, k.nx s1 _ _ l1 g1 (((w.mono l1).set r1 i).set r3 j) q1.to.to⟩
  · exact q1.elim⟩
def dPar3 (i j l : Nat) (t : DTA) : DTS := fun De r m => t r m fun ds m1 => three_ ds fun d e f => St r i (some d) fun r1 => St r1 j (some e) fun r2 => St r2 l (some f) fun r3 => De.nx r3 m1
theorem ev_par3 {i j l : Nat} {ta : TA} {t : DTA} (h : EvA cl s0 ta t) : EvS cl s0 (tPar3 i j l ta) (dPar3 i j l t) := ⟨fun s σ r De T g w l q k => h.run s σ r _ _ g w l q fun ds xs s1 l1 g1 rx q1 => by
  unfold three_ at q1
  split at q1
  · cases rx with
    | cons r1 r2 => cases r2 with
      | cons r3 r4 => cases r4 with
        | cons r5 r6 =>
          cases r6
          exact ⟨_, _, _, rfl, k.nx s1 _ _ l1 g1 ((((w.mono l1).set r1 _).set r3 _).set r5 _) q1.to.to.to⟩
  · exact q1.elim⟩

/-! ### comprehensions -/
def dwipe (r : Env) : List Nat → Env
  | [] => r
  | v :: vs => (dwipe r vs).set v none
theorem wipeK.to {k : Env → Prop} : ∀ {vs : List Nat} {r : Env}, wipeK vs r k → k (dwipe r vs)
  | [], _, h => h
  | _ :: vs, r, h => (wipeK.to (vs := vs) h).to
theorem EnvOk.unset {s : Sn} {r : Env} {σ : L2.St} (e : EnvOk cl s r σ) (i : Nat) : EnvOk cl s (r.set i none) (σ.set i none) := by
  refine ⟨by rw [List.length_set, List.length_set]; exact e.len, fun j d' h => ?_⟩
  by_cases z : i = j
  · subst z
    by_cases l : i < r.length
    · rw [List.getElem?_set_self l] at h
      cases h
    · rw [List.getElem?_eq_none_iff.mpr (by rw [List.length_set]; omega)] at h
      cases h
  · rw [List.getElem?_set_ne z] at h
    obtain ⟨u, h1, h2⟩ := e.get j d' h
    exact ⟨u, by rw [List.getElem?_set_ne z]; exact h1, h2⟩
theorem EnvOk.wipe {s : Sn} {r : Env} {σ : L2.St} (e : EnvOk cl s r σ) : ∀ vs : List Nat, EnvOk cl s (dwipe r vs) (L2.wipe σ vs)
  | [] => e
  | v :: vs => (EnvOk.wipe e vs).unset v
/-- the target stores into the block's own slots alone -/
def OwnG (vs : List Nat) (g : TG) : Prop := ∀ (v : V) (σ : L2.St) (H : Hp) (Q : L2.St → Hp → Prop), g v σ H Q → g v σ H fun σ2 H2 => L2.wipe σ2 vs = L2.wipe σ vs ∧ Q σ2 H2
def OwnGs (vs : List Nat) (g : TGs) : Prop := ∀ (v : List V) (σ : L2.St) (H : Hp) (Q : L2.St → Hp → Prop), g v σ H Q → g v σ H fun σ2 H2 => L2.wipe σ2 vs = L2.wipe σ vs ∧ Q σ2 H2
theorem wipe_set {σ : L2.St} {i : Nat} {x : Option V} : ∀ {vs : List Nat}, i ∈ vs → L2.wipe (σ.set i x) vs = L2.wipe σ vs
  | [], h => nomatch h
  | v :: vs, h => by
    unfold L2.wipe
    by_cases hv : i ∈ vs
    · rw [wipe_set hv]
    · have e : i = v := by simpa [hv] using h
      subst e
      have : ∀ (us : List Nat), i ∉ us → (L2.wipe (σ.set i x) us) = (L2.wipe σ us).set i x := by
        intro us
        induction us with
        | nil => intro _; rfl
        | cons u us ih =>
          intro hu
          have h1 : i ≠ u := fun e => hu (by rw [e]; exact List.mem_cons_self)
          unfold L2.wipe
          rw [ih fun h => hu (List.mem_cons_of_mem _ h), List.set_comm _ _ h1]
      rw [this vs hv, List.set_set]
theorem wipe_wipe {σ : L2.St} : ∀ {vs : List Nat}, L2.wipe (L2.wipe σ vs) vs = L2.wipe σ vs := fun {vs} => by
  have key : ∀ us : List Nat, (∀ u ∈ us, u ∈ vs) → L2.wipe (L2.wipe σ us) vs = L2.wipe σ vs := fun us => by
    induction us with
    | nil => intro _; rfl
    | cons u us ih =>
      intro h
      show L2.wipe ((L2.wipe σ us).set u none) vs = L2.wipe σ vs
      rw [wipe_set (h u List.mem_cons_self)]
      exact ih fun v hv => h v (List.mem_cons_of_mem _ hv)
  exact key vs fun _ h => h
theorem own_name {vs : List Nat} {i : Nat} (h : i ∈ vs) : OwnG vs (gName i) := fun _ _ _ _ q => ⟨wipe_set h, q⟩
theorem own_nil {vs : List Nat} : OwnGs vs gNil := fun _ _ _ _ q => ⟨q.1, rfl, q.2⟩
theorem gs_mono {vs : List Nat} {g : TG} {gs : TGs} (hm : ∀ (v : V) σ H (Q Q' : L2.St → Hp → Prop), (∀ σ H, Q σ H → Q' σ H) → g v σ H Q → g v σ H Q') (h1 : OwnG vs g) (h2 : OwnGs vs gs) : OwnGs vs (gCons g gs) := fun v σ H Q q => by
  obtain ⟨x, r, e, q⟩ := q
  refine ⟨x, r, e, hm _ _ _ _ _ (fun σ1 H1 z => ?_) (h1 x σ H _ q)⟩
  obtain ⟨z1, z2⟩ := z
  have := h2 r σ1 H1 Q z2
  rw [← z1]
  exact this
theorem own_cons {vs : List Nat} {i : Nat} {gs : TGs} (h : i ∈ vs) (h2 : OwnGs vs gs) : OwnGs vs (gCons (gName i) gs) := gs_mono (fun _ _ _ _ _ hq h => hq _ _ h) (own_name h) h2
theorem own_tup {K : PySem.W.Frag} {vs : List Nat} {n : Nat} {gs : TGs} (h : OwnGs vs gs) : OwnG vs (gTup K n gs) := fun v σ H Q q => by
  obtain ⟨a, xs, e1, e2, e3, q⟩ := q
  exact ⟨a, xs, e1, e2, e3, h xs σ H Q q⟩
/-- a target of a comprehension: PG, its meaning, and that it keeps to the block -/
def DGo (cl : Nat → Addr) (s0 : Sn) (X : Cx) (vs : List Nat) (e : Expr) (g : TG) (t : DTG) : Prop := PG X e g ∧ EvG cl s0 g t ∧ OwnG vs g
def dYes : DTT := fun _ m Φ => Φ true m
/-- the turns: what is made so far -/
def dLcL (g : DTG) (tt : DTT) (te : DTE) (r : Env) : List D → List D → Mu → (List D → Mu → Prop) → Prop
  | [], acc, m, Φ => Φ acc m
  | x :: xs, acc, m, Φ => g x r m fun r1 m1 => tt r1 m1 fun b m2 => Br b (te r1 m2 fun y m3 => acc.length < sizeLine ∧ dLcL g tt te r xs (acc ++ [y]) m3 Φ) (dLcL g tt te r xs acc m2 Φ)
def dLc (it : DTI) (g : DTG) (tt : DTT) (te : DTE) (vs : List Nat) : DTE := fun r m Φ => wipeK vs r fun r' => it r m fun xs m1 => dLcL g tt te r' xs [] m1 fun ys m2 => Φ (.lst ys) m2
/-- writing to a thing out of sight -/
theorem put_hid {s : Sn} {k : Nat} {o : HO} {c : Ct} (hv : s.vis k = false) : (s.put k o c).mu = s.mu := by
  funext j
  show (if s.vis j = true then setMu s.al k c j else none) = (if s.vis j = true then s.al j else none)
  by_cases z : j = k
  · subst z; rw [hv]; rfl
  · rw [setMu_ne z]
theorem Le.putH {s t : Sn} {k : Nat} {o : HO} {c e : Ct} (l : Le s t) (hs : s.al k = none) (hk : t.al k = some e) : Le s (t.put k o c) :=
  ⟨l.n, l.kap, fun a u h n => by
    obtain ⟨h1, n1⟩ := l.keep a u h n
    refine ⟨?_, fun m => n1 ((put_M hk).mp m)⟩
    show upd t.H (t.kap k) o a = some u
    rw [upd_ne (fun z => n1 ⟨k, e, hk, z.symm⟩)]
    exact h1, fun j f hj hv => by
    obtain ⟨h1, n1⟩ := l.hid j f hj hv
    exact ⟨(setMu_ne (fun z => by subst z; rw [hs] at hj; cases hj)).trans h1, n1⟩⟩
theorem Rep.putH {s t : Sn} {k : Nat} {o : HO} {c e : Ct} (hk : t.al k = some e) : Le { t with vis := fun j => if j = k then true else t.vis j } ((t.look k true).put k o c) := Le.put (s := t.look k true) hk (if_pos rfl)
theorem Good.putH {t : Sn} {k : Nat} {acc : List D} {vs : List V} {y : D} {yv : V} (g : Good cl t) (hk : t.al k = some (.lst acc)) (hv : t.vis k = false) (h : t.H (t.kap k) = some (.lst vs)) (r : Reps cl t acc vs) (ry : Rep cl t y yv) :
    Good cl (t.put k (.lst (vs ++ [yv])) (.lst (acc ++ [y]))) := by
  have g1 : Good cl (t.look k true) := g.look
  have l1 : Le (t.look k true) ((t.look k true).put k (.lst (vs ++ [yv])) (.lst (acc ++ [y]))) := Le.put (s := t.look k true) (e := .lst acc) hk (if_pos rfl)
  have g2 : Good cl ((t.look k true).put k (.lst (vs ++ [yv])) (.lst (acc ++ [y]))) := g1.put (e := .lst acc) hk (if_pos rfl) ⟨_, upd_same, ((r.looked (b := true)).append (.cons (ry.looked (b := true)) .nil)).mono l1⟩
  have g3 := g2.look (k := k) (b := false)
  have e : ((t.look k true).put k (.lst (vs ++ [yv])) (.lst (acc ++ [y]))).look k false = t.put k (.lst (vs ++ [yv])) (.lst (acc ++ [y])) := by
    show (⟨t.kap, t.n, _, fun j => if j = k then false else (if j = k then true else t.vis j), _⟩ : Sn) = ⟨t.kap, t.n, _, t.vis, _⟩
    congr 1
    funext j
    by_cases z : j = k
    · rw [if_pos z, z, hv]
    · rw [if_neg z, if_neg z]
  rw [e] at g3
  exact g3
theorem Le.closeH {s t : Sn} {k : Nat} (l : Le s t) (hs : s.al k = none) : Le s (t.close k) :=
  ⟨l.n, l.kap, fun a u h n => let ⟨h1, n1⟩ := l.keep a u h n; ⟨h1, fun m => n1 (close_M m)⟩, fun j f hj hv => by
    obtain ⟨h1, n1⟩ := l.hid j f hj hv
    exact ⟨(if_neg (fun z => by subst z; rw [hs] at hj; cases hj)).trans h1, n1⟩⟩
theorem close_hid {t : Sn} {k : Nat} (hv : t.vis k = false) : (t.close k).mu = t.mu := by
  rw [close_mu]
  funext j
  unfold delMu
  split
  · rename_i z
    subst z
    unfold Sn.mu
    rw [hv]; rfl
  · rfl
theorem Good.closeH {t : Sn} {k : Nat} (g : Good cl t) (hv : t.vis k = false) : Good cl (t.close k) := by
  have g2 := ((g.look (k := k) (b := true)).close (k := k) (if_pos rfl)).look (k := k) (b := false)
  have e : ((t.look k true).close k).look k false = t.close k := by
    show (⟨t.kap, t.n, _, fun j => if j = k then false else (if j = k then true else t.vis j), _⟩ : Sn) = ⟨t.kap, t.n, _, t.vis, _⟩
    congr 1
    funext j
    by_cases z : j = k
    · rw [if_pos z, z, hv]
    · rw [if_neg z, if_neg z]
  rw [e] at g2
  exact g2
theorem Rep.closeH {t : Sn} {k : Nat} {d : D} {v : V} (h : Rep cl t d v) : Rep cl (t.close k) d v := by
  have h2 := ((h.looked (k := k) (b := true)).mono (Le.close (s := t.look k true) (k := k) (if_pos rfl))).looked (k := k) (b := t.vis k)
  have e : ((t.look k true).close k).look k (t.vis k) = t.close k := by
    show (⟨t.kap, t.n, _, fun j => if j = k then t.vis k else (if j = k then true else t.vis j), _⟩ : Sn) = ⟨t.kap, t.n, _, t.vis, _⟩
    congr 1
    funext j
    by_cases z : j = k
    · rw [if_pos z, z]
    · rw [if_neg z, if_neg z]
  rw [e] at h2
  exact h2
theorem Reps.closeH {t : Sn} {k : Nat} : ∀ {d : List D} {v : List V}, Reps cl t d v → Reps cl (t.close k) d v
  | _, _, .nil => .nil
  | _, _, .cons h r => .cons h.closeH (Reps.closeH r)
theorem ev_lc {wi : TI} {gg : TG} {tt : TT} {tb : TE} {it : DTI} {g : DTG} {dt : DTT} {db : DTE} {vs : List Nat} (hi : EvI cl s0 wi it) (hg : EvG cl s0 gg g) (ho : OwnG vs gg) (ht : EvT cl s0 tt dt) (hb : EvD cl s0 tb db) :
    EvD cl s0 (tLc wi gg tt tb vs) (dLc it g dt db vs) := by
  refine ⟨fun s σ r Φ Q gd w l q k => hi.run s σ r _ _ gd w l (wipeK.to q) fun J xs s1 l1 g1 ok q1 p hp => ?_⟩
  obtain ⟨n, G, Y, hn, wk, hG, hY⟩ := ok.w
  -- the new list, out of sight
  have lo : Le s1 (s1.open_ p (.lst []) (.lst [])) := Le.open_ g1 hp
  have go : Good cl (s1.open_ p (.lst []) (.lst [])) := g1.open_ hp ⟨[], upd_same, .nil⟩
  have l2 : Le s1 ((s1.open_ p (.lst []) (.lst [])).look s1.n false) := lo.trans Le.hide
  have hs1 : s1.al s1.n = none := by
    cases e : s1.al s1.n with
    | none => rfl
    | some c => exact absurd (g1.dom _ _ e) (Nat.lt_irrefl _)
  have m2 : ((s1.open_ p (.lst []) (.lst [])).look s1.n false).mu = s1.mu := by
    rw [hide_mu, open_mu, delMu_set (mu_n g1)]
  have n2 : s1.n < ((s1.open_ p (.lst []) (.lst [])).look s1.n false).n := Nat.lt_succ_self _
  have k2 : ((s1.open_ p (.lst []) (.lst [])).look s1.n false).kap s1.n = p := if_pos rfl
  have w1 : EnvOk cl s1 (dwipe r vs) (wipe σ vs) := (w.mono l1).wipe vs
  refine lc_it wk (fun i H' => ∃ s' acc, H' = s'.H ∧ Le s1 s' ∧ Good cl s' ∧ s'.al s1.n = some (.lst acc) ∧ s'.vis s1.n = false ∧ s'.kap s1.n = p ∧ s1.n < s'.n ∧ dLcL g dt db (dwipe r vs) (xs.drop i) acc s'.mu fun ys m2 => Φ (.lst ys) m2)
    ⟨_, [], rfl, l2, go.look, setMu_same, if_pos rfl, k2, n2, by rw [m2]; exact q1⟩ ?_ ?_ ?_
  · rintro i H' _ ⟨s', acc, rfl, l', _⟩
    exact hG s' l'
  · rintro i x H' H2 hin ⟨s', acc, rfl, l', g', ha, hv, hk, hlt, q'⟩ hy
    obtain ⟨d, s2, hd, rfl, l3, g3, hm, rd⟩ := hY i s' x H2 hin l' g' hy
    have hdrop : xs.drop i = d :: xs.drop (i + 1) := by
      have hlt : i < xs.length := hn ▸ hin
      rw [List.drop_eq_getElem_cons hlt]
      have : xs[i] = d := by
        have := hd
        rw [List.getElem?_eq_getElem hlt] at this
        exact Option.some.inj this
      rw [this]
    rw [hdrop, ← hm] at q'
    have L : Le s0 s2 := (l.trans l1).trans (l'.trans l3)
    -- what stays of the list
    have at_ : ∀ {t : Sn}, Le s' t → Good cl t → t.al s1.n = some (.lst acc) ∧ t.vis s1.n = false ∧ t.kap s1.n = p ∧ s1.n < t.n ∧ ∃ us, t.H p = some (.lst us) ∧ Reps cl t acc us := fun {t} lt gt => by
      obtain ⟨h1, h2⟩ := lt.hid _ _ ha hv
      have h3 : t.kap s1.n = p := (lt.kap _ hlt).trans hk
      obtain ⟨us, h4, h5⟩ := gt.ct _ _ h1
      rw [h3] at h4
      exact ⟨h1, h2, h3, Nat.lt_of_lt_of_le hlt lt.n, us, h4, h5⟩
    have body := ho x (wipe σ vs) s2.H _ (hg.run s2 (wipe σ vs) (dwipe r vs) d x _ (fun σ2 H2 => tt σ2 H2 fun b H3 => if b = true then tb σ2 H3 fun y H4 => ∃ acc, H4 p = some (.lst acc) ∧ acc.length < sizeLine ∧
        (fun i H' => ∃ s' acc, H' = s'.H ∧ Le s1 s' ∧ Good cl s' ∧ s'.al s1.n = some (.lst acc) ∧ s'.vis s1.n = false ∧ s'.kap s1.n = p ∧ s1.n < s'.n ∧ dLcL g dt db (dwipe r vs) (xs.drop i) acc s'.mu fun ys m2 => Φ (.lst ys) m2) (i + 1) (upd H4 p (.lst (acc ++ [y])))
      else (fun i H' => ∃ s' acc, H' = s'.H ∧ Le s1 s' ∧ Good cl s' ∧ s'.al s1.n = some (.lst acc) ∧ s'.vis s1.n = false ∧ s'.kap s1.n = p ∧ s1.n < s'.n ∧ dLcL g dt db (dwipe r vs) (xs.drop i) acc s'.mu fun ys m2 => Φ (.lst ys) m2) (i + 1) H3)
      g3 (w1.mono (l'.trans l3)) L rd q' fun s3 r3 σ3 l4 g4 w4 q4 => ht.run s3 σ3 r3 _ _ g4 w4 (L.trans l4) q4 fun b s4 l5 g5 q5 => ?_)
    · rw [wipe_wipe] at body
      exact body
    · cases b with
      | false =>
        obtain ⟨a1, a2, a3, a4, us, a5, a6⟩ := at_ ((l3.trans l4).trans l5) g5
        exact ⟨s4, acc, rfl, l'.trans ((l3.trans l4).trans l5), g5, a1, a2, a3, a4, q5.ff⟩
      | true =>
        refine hb.run s4 σ3 r3 _ _ g5 (w4.mono l5) ((L.trans l4).trans l5) q5.tt fun y yv s5 l6 g6 ry q6 => ?_
        obtain ⟨hz, q6⟩ := q6
        have ls : Le s' s5 := ((l3.trans l4).trans l5).trans l6
        obtain ⟨a1, a2, a3, a4, us, a5, a6⟩ := at_ ls g6
        refine ⟨us, a5, by rw [← a6.length]; exact hz, s5.put s1.n (.lst (us ++ [yv])) (.lst (acc ++ [y])), acc ++ [y], ?_, (l'.trans ls).putH hs1 a1, Good.putH g6 a1 a2 (by rw [a3]; exact a5) a6 ry, setMu_same, a2, a3, a4, by rw [put_hid a2]; exact q6⟩
        show upd s5.H p (.lst (us ++ [yv])) = upd s5.H (s5.kap s1.n) (.lst (us ++ [yv]))
        rw [a3]
  · rintro H' ⟨s', acc, rfl, l', g', ha, hv, hk, hlt, q'⟩
    rw [hn, List.drop_length] at q'
    obtain ⟨us, h4, h5⟩ := g'.ct _ _ ha
    rw [hk] at h4
    have q2 : Φ (.lst acc) (s'.close s1.n).mu := by rw [close_hid hv]; exact q'
    refine k (.lst acc) (.ref p) (s'.close s1.n) (l1.trans (l'.closeH hs1)) (g'.closeH hv) ?_ q2
    exact .lst (by rw [← hk]; exact close_not_M g' ha) h4 h5.closeH
end
end ER

namespace ER
open PySem PySem.Spec PyProof.Rows L2

section
variable {cl : Nat → Addr} {s0 : Sn} {X : Cx} {e : Expr} {es : List Expr} {te : DTE} {tds : DTA} {pos : Pos}
/-! ### comprehensions: the rules -/
def DTs (cl : Nat → Addr) (s0 : Sn) (X : Cx) (ifs : List Expr) (t : DTT) : Prop := ∃ tt, PTs X ifs tt ∧ EvT cl s0 tt t
theorem dts_nil : DTs cl s0 X [] dYes := ⟨_, pts_nil, ⟨fun s σ r Φ Q g w l q k => k true s (Le.refl s) g q⟩⟩
theorem dts_one {c : Expr} {t : DTT} (h : DT cl s0 X c t) : DTs cl s0 X [c] t := let ⟨_, p, v⟩ := h; ⟨_, pts_one p, v⟩
section
variable {elt tg iter : Expr} {ifs : List Expr} {scope : Scope} {own : List (Str × Nat)} {it : DTI} {gg : TG} {g : DTG} {dt : DTT} {db : DTE}
abbrev BCx (X : Cx) (scope : Scope) (s : Shared) (H : Hp) (C : Addr) (c : List (Str × Addr)) (fp : List Addr) : Cx := X.blk s H scope (compEnvC scope c C X.env) fp
def anyE (cl : Nat → Addr) (s0 : Sn) (X : Cx) (scope : Scope) (e : Expr) (t : DTE) : TE := fun σ H Q => ∀ s H' C c fp te, PE (BCx X scope s H' C c fp) e te → EvD cl s0 te t → te σ H Q
def anyT (cl : Nat → Addr) (s0 : Sn) (X : Cx) (scope : Scope) (ifs : List Expr) (t : DTT) : TT := fun σ H Q => ∀ s H' C c fp tt, PTs (BCx X scope s H' C c fp) ifs tt → EvT cl s0 tt t → tt σ H Q
theorem pe_any (h : ∀ s H C c fp, DE cl s0 (BCx X scope s H C c fp) e te) (s : Shared) (H : Hp) (C : Addr) (c : List (Str × Addr)) (fp : List Addr) : PE (BCx X scope s H C c fp) e (anyE cl s0 X scope e te) :=
  let ⟨_, p, v⟩ := h s H C c fp; ⟨fun pins s' σ H' Q I q => p.run pins s' σ H' Q I (q s H C c fp _ p v)⟩
theorem ev_any : EvD cl s0 (anyE cl s0 X scope e te) te := ⟨fun s σ r Φ Q g w l q k _ _ _ _ _ _ _ v => v.run s σ r Φ Q g w l q k⟩
theorem pt_any (h : ∀ s H C c fp, DTs cl s0 (BCx X scope s H C c fp) ifs dt) (s : Shared) (H : Hp) (C : Addr) (c : List (Str × Addr)) (fp : List Addr) : PTs (BCx X scope s H C c fp) ifs (anyT cl s0 X scope ifs dt) :=
  let ⟨_, p, v⟩ := h s H C c fp; ⟨fun pins s' σ H' Q I q => p.run pins s' σ H' Q I (q s H C c fp _ p v)⟩
theorem evt_any : EvT cl s0 (anyT cl s0 X scope ifs dt) dt := ⟨fun s σ r Φ Q g w l q k _ _ _ _ _ _ _ v => v.run s σ r Φ Q g w l q k⟩
theorem de_lc (hc : X.calm = true) (hN : X.N.Nodup) (hi : DI cl s0 X tg iter it) (ok : BlkOk X.N X.env.scope scope own)
    (hg : ∀ s H C c fp, PG (BCx X scope s H C c fp) tg gg) (hge : EvG cl s0 gg g) (hgo : OwnG (own.map (·.2)) gg)
    (ht : ∀ s H C c fp, DTs cl s0 (BCx X scope s H C c fp) ifs dt) (he : ∀ s H C c fp, DE cl s0 (BCx X scope s H C c fp) elt db) (hs : ∀ x, foldedSetIterable iter X.env x = pure x := by intro _; rfl) :
    DE cl s0 X (.ListComp elt [⟨tg, iter, ifs, 0⟩] scope pos) (dLc it g dt db (own.map (·.2))) :=
  let ⟨_, p, v⟩ := hi; ⟨_, pe_lc hc hN p ok hg (pt_any ht) (pe_any he) hs, ev_lc v hge hgo evt_any ev_any⟩
theorem ds_setLc {i : Nat} {y : Str} {py spos : Pos} (hc : X.calm = true) (hN : X.N.Nodup) (hy : X.N[i]? = some y) (hyl : X.env.scope.names.lookup y = some .local)
    (hsw : swapsWith (.ListComp elt [⟨tg, iter, ifs, 0⟩] scope pos) (some (.Name y py)) spos.line X.env = pure true) (hi : DI cl s0 X tg iter it) (ok : BlkOk X.N X.env.scope scope own)
    (hg : ∀ s H C c fp, PG (BCx X scope s H C c fp) tg gg) (hge : EvG cl s0 gg g) (hgo : OwnG (own.map (·.2)) gg)
    (ht : ∀ s H C c fp, DTs cl s0 (BCx X scope s H C c fp) ifs dt) (he : ∀ s H C c fp, DE cl s0 (BCx X scope s H C c fp) elt db) (hs : ∀ x, foldedSetIterable iter X.env x = pure x := by intro _; rfl) :
    DS cl s0 X (.Assign [.Name y py] (.ListComp elt [⟨tg, iter, ifs, 0⟩] scope pos) spos) (dAsg (dLc it g dt db (own.map (·.2))) (dName i)) :=
  let ⟨_, p, v⟩ := hi; ⟨_, ps_setLc hc hN hy hyl hsw p ok hg (pt_any ht) (pe_any he) hs, ev_asg (ev_lc v hge hgo evt_any ev_any) ev_name⟩
end

/-! ### what a def promises -/
/-- an error in flight: its class, its dict with the value -/
def ExAt (cl : Nat → Addr) (s : Sn) (c : Nat) (d : D) (cls : Value) (a : Option Addr) : Prop :=
  cls = .ref (cl c) ∧ ∃ x v, a = some x ∧ s.H x = some (.xd [(("value" : Str), v)]) ∧ ¬ s.M x ∧ Rep cl s d v
theorem ExAt.mono {s s' : Sn} {c : Nat} {d : D} {cls : Value} {a : Option Addr} (l : Le s s') (h : ExAt cl s c d cls a) : ExAt cl s' c d cls a := by
  obtain ⟨e, x, v, e2, h1, n, r⟩ := h
  obtain ⟨h2, n2⟩ := l.keep _ _ h1 n
  exact ⟨e, x, v, e2, h2, n2, r.mono l⟩
def spD (cl : Nat → Addr) (n : Nat) (F : DFn) : Sp := fun vs H Q E => ∃ (s : Sn) (ds : List D) (Φ : DK) (Ξ : DX), s.H = H ∧ Good cl s ∧ Reps cl s ds vs ∧ ds.length = n ∧ F ds s.mu Φ Ξ ∧
  (∀ d v s', Le s s' → Good cl s' → Rep cl s' d v → Φ d s'.mu → Q v s'.H) ∧ ∀ c d s' cls a, Le s s' → Good cl s' → ExAt cl s' c d cls a → Ξ c d s'.mu → E cls a s'.H
theorem spD_len {n : Nat} {F : DFn} {vs : List V} {H : Hp} {Q : VK} {E : XK} (h : spD cl n F vs H Q E) : vs.length = n := by
  obtain ⟨s, ds, Φ, Ξ, _, _, r, e, _⟩ := h
  rw [← r.length]
  exact e
/-- a def's promise at work -/
abbrev FnD (P : Program) (w : World) (K : PySem.W.Frag) (mg : Str → Option Value) (base : Heap) (cl : Nat → Addr) (k : Nat) (f : Addr) (fd : FuncData) (ps : List Str) (F : DFn) : Prop :=
  FnOk P w K mg base (L2.CX P w) k f fd ps (spD cl ps.length F)
def noX : DX := fun _ _ _ => False
/-- what the body wants of errors: an environment is there, too -/
abbrev DXE := Env → DX
def WX_ (cl : Nat → Addr) (s0 : Sn) (Ξ : DXE) : WX := fun cls a σ H => ∃ s c d r, Le s0 s ∧ Good cl s ∧ EnvOk cl s r σ ∧ s.H = H ∧ ExAt cl s c d cls a ∧ Ξ r c d s.mu
abbrev TakesD (cl : Nat → Addr) (s0 : Sn) (X : Cx) (Ξ : DXE) : Prop := Takes X (WX_ cl s0 Ξ)
variable {k : Nat} {f : Addr} {fd : FuncData} {ps : List Str} {F : DFn} {x : Str} {p : Pos}
def dCall (n : Nat) (F : DFn) (t : DTA) : DTE := fun r m Φ => t r m fun ds m1 => ds.length = n ∧ Go F ds m1 Φ noX
def dCallX (Ξ : DXE) (n : Nat) (F : DFn) (t : DTA) : DTE := fun r m Φ => t r m fun ds m1 => ds.length = n ∧ Go F ds m1 Φ (Ξ r)
theorem ev_call {ta : TA} (h : EvA cl s0 ta tds) : EvD cl s0 (tCall (spD cl ps.length F) [] E0 ta) (dCall ps.length F tds) :=
  ⟨fun s σ r Φ Q g w l q k => h.run s σ r _ _ g w l q fun ds vs s1 l1 g1 r1 q1 => by
    show spD cl ps.length F (vs ++ []) s1.H Q E0
    rw [List.append_nil]
    exact ⟨s1, ds, Φ, noX, rfl, g1, r1, q1.1, q1.2.un, fun d v s2 l2 g2 r2 q2 => k d v s2 (l1.trans l2) g2 r2 q2, fun _ _ _ _ _ _ _ _ z => z.elim⟩⟩
theorem ev_callX {ta : TA} {Ξ : DXE} (h : EvA cl s0 ta tds) : EvD cl s0 (tCallSD (spD cl ps.length F) [] (WE (WX_ cl s0 Ξ)) ta) (dCallX Ξ ps.length F tds) :=
  ⟨fun s σ r Φ Q g w l q k => h.run s σ r _ _ g w l q fun ds vs s1 l1 g1 r1 q1 => by
    show spD cl ps.length F (vs ++ []) s1.H Q _
    rw [List.append_nil]
    exact ⟨s1, ds, Φ, Ξ r, rfl, g1, r1, q1.1, q1.2.un, fun d v s2 l2 g2 r2 q2 => k d v s2 (l1.trans l2) g2 r2 q2, fun c d s2 cls a l2 g2 x2 z => ⟨s2, c, d, r, (l.trans l1).trans l2, g2, (w.mono l1).mono l2, rfl, x2, z⟩⟩⟩
theorem de_call (G : FnD X.prog X.w X.K X.mg X.base cl k f fd ps F) (hr : Room k X.A) (hg : Gl X x) (hm : X.mg x = some (.ref f)) (hk : PySem.W.keepIn X.K (.ref f) = true) (hb : Binds X.K fd ps [])
    (ha : DA cl s0 X (e :: es) tds) (hdb : (x == ("__debug__" : Str)) = false := by decide) (he : starEach (e :: es) X.env = (false, eval e X.env) :: starEach es X.env := by rfl) (hpl : (backTo pos (starEach es X.env)).any (·.1) = false := by rfl) :
    DE cl s0 X (.Call (.Name x p) (e :: es) [] pos) (dCall ps.length F tds) := let ⟨_, pa, v⟩ := ha; ⟨_, pe_call G hr hg hm hk hb .nil passL pa hdb he hpl, ev_call v⟩
theorem de_call0 (G : FnD X.prog X.w X.K X.mg X.base cl k f fd ps F) (hr : Room k X.A) (hg : Gl X x) (hm : X.mg x = some (.ref f)) (hk : PySem.W.keepIn X.K (.ref f) = true) (hb : Binds X.K fd ps [])
    (hdb : (x == ("__debug__" : Str)) = false := by decide) :
    DE cl s0 X (.Call (.Name x p) [] [] pos) (dCall ps.length F dNil) := ⟨_, pe_call0 G hr hg hm hk hb .nil passL hdb, ev_call ⟨fun s σ r Φ Q g v l q k => k [] [] s (Le.refl s) g .nil q⟩⟩
theorem de_callX {Ξ : DXE} (tk : TakesD cl s0 X Ξ) (G : FnD X.prog X.w X.K X.mg X.base cl k f fd ps F) (hr : Room k X.A) (hg : Gl X x) (hm : X.mg x = some (.ref f)) (hk : PySem.W.keepIn X.K (.ref f) = true) (hb : Binds X.K fd ps [])
    (ha : DA cl s0 X (e :: es) tds) (hdb : (x == ("__debug__" : Str)) = false := by decide) (he : starEach (e :: es) X.env = (false, eval e X.env) :: starEach es X.env := by rfl) (hpl : (backTo pos (starEach es X.env)).any (·.1) = false := by rfl) :
    DE cl s0 X (.Call (.Name x p) (e :: es) [] pos) (dCallX Ξ ps.length F tds) := let ⟨_, pa, v⟩ := ha; ⟨_, pe_callSD G hr hg hm hk hb .nil (passAt tk) pa hdb he hpl, ev_callX v⟩

/-! ### a def's body -/
def startD (N : List Str) (ds : List D) : Env := ds.map some ++ List.replicate (N.length - ds.length) none
theorem env_start {s : Sn} {N : List Str} {ds : List D} {vs : List V} (r : Reps cl s ds vs) : EnvOk cl s (startD N ds) (L2.start N vs) := by
  refine ⟨?_, fun i d h => ?_⟩
  · unfold startD L2.start
    rw [List.length_append, List.length_append, List.length_map, List.length_map, List.length_replicate, List.length_replicate, r.length]
  · unfold startD at h
    by_cases hi : i < ds.length
    · rw [List.getElem?_append_left (by rw [List.length_map]; exact hi), List.getElem?_map] at h
      have e : ds[i]? = some d := by
        cases q : ds[i]? with
        | none => rw [q] at h; cases h
        | some d' => rw [q] at h; cases h; rfl
      obtain ⟨v, h1, h2⟩ := r.get e
      refine ⟨v, ?_, h2⟩
      unfold L2.start
      rw [List.getElem?_append_left (by rw [List.length_map, ← r.length]; exact hi), List.getElem?_map, h1]
      rfl
    · rw [List.getElem?_append_right (by rw [List.length_map]; omega), List.getElem?_replicate] at h
      split at h <;> cases h
variable {P : Program} {w : World} {K : PySem.W.Frag} {mg : Str → Option Value} {base : Heap}
/-- a context of a def's body -/
structure BodyCx (P : Program) (w : World) (K : PySem.W.Frag) (mg : Str → Option Value) (base : Heap) (N : List Str) (qual : Str) (st : Stmt) (f : Addr) (k : Nat) (X : Cx) : Prop where
  is : ∃ cdv A outer s H E, X = cxOf (L2.CX P w) P w K mg base N qual (defScope st) f cdv A outer s H E ∧ Room k (A.deeper (envOfC qual (defScope st) s.heap.objs.size f cdv))
theorem okD {x qual : Str} {st : Stmt} {N : List Str} {k : Nat} (Fu : Fun K x qual st f fd) (S : FnScope N ps (defScope st))
    (hbody : ∀ (cdv : Value) (A : Around) (outer : List PySem.Env) (s : Shared) (H : Hp) (E : XK) (s0 : Sn) (Ξ : DX), Room k (A.deeper (envOfC qual (defScope st) s.heap.objs.size f cdv)) →
      TakesD cl s0 (cxOf (L2.CX P w) P w K mg base N qual (defScope st) f cdv A outer s H E) (fun _ => Ξ) →
      ∃ t, DSs cl s0 (cxOf (L2.CX P w) P w K mg base N qual (defScope st) f cdv A outer s H E) (defBody st) t ∧ ∀ ds m Φ, ds.length = ps.length → F ds m Φ Ξ → t { nx := fun _ m => Φ (.v .non) m, rt := Φ } (startD N ds) m) :
    FnD P w K mg base cl (k + 1) f fd ps F := by
  refine Fu.okX S (fun vs H Q E h => spD_len h) fun cdv A outer s H vs Q E hr h => ?_
  obtain ⟨s1, ds, Φ, Ξ, e1, g, r, hl, hF, hQ, hE⟩ := h
  subst e1
  obtain ⟨t, ⟨tt, pp, v⟩, ht⟩ := hbody cdv A outer s s1.H E s1 Ξ hr ((takes_of rfl rfl rfl rfl).imp fun cls a σ H' ⟨s2, c, d, r2, l2, g2, _, e2, x2, z⟩ => by
    subst e2
    exact hE c d s2 cls a l2 g2 x2 z)
  refine ⟨tt, pp, v.run s1 (L2.start N vs) (startD N ds) _ _ g (env_start r) (Le.refl s1) (ht ds s1.mu Φ hl hF) ⟨fun s2 r2 σ l2 g2 w2 q2 => ?_, fun _ _ _ _ _ _ z => z.elim, fun _ _ _ _ _ _ z => z.elim, fun s2 d v2 l2 g2 r2 q2 => ?_⟩⟩
  · exact hQ (.v .non) .non s2 l2 g2 (.v _) q2
  · exact hQ d v2 s2 l2 g2 r2 q2

/-! ### built-in calls -/
theorem de_callB {id : String} {r : List V → Hp → VK → Prop} {fD : List D → Mu → DK → Prop} (hc : CallR X (.builtin id) r) (hd : CaD cl r fD) (hg : Gl X x) (hm : X.mg x = none) (hv : bootBuiltins x = some (.builtin id)) (ha : DA cl s0 X (e :: es) tds) (hn : x ≠ "__name__" := by decide) (hdb : (x == ("__debug__" : Str)) = false := by decide)
    (he : starEach (e :: es) X.env = (false, eval e X.env) :: starEach es X.env := by rfl) (hpl : (backTo pos (starEach es X.env)).any (·.1) = false := by rfl) : DE cl s0 X (.Call (.Name x p) (e :: es) [] pos) (dCa fD tds) :=
  let ⟨_, pa, v⟩ := ha; ⟨_, pe_callB hc hg hm hv pa hn hdb he hpl, ev_ca hd v⟩
theorem de_callTy {T : String} {r : List V → Hp → VK → Prop} {fD : List D → Mu → DK → Prop} (hc : CallR X (.type T) r) (hd : CaD cl r fD) (hg : Gl X x) (hm : X.mg x = none) (hv : bootBuiltins x = some (.type T)) (ha : DA cl s0 X (e :: es) tds) (hn : x ≠ "__name__" := by decide) (hdb : (x == ("__debug__" : Str)) = false := by decide)
    (he : starEach (e :: es) X.env = (false, eval e X.env) :: starEach es X.env := by rfl) (hpl : (backTo pos (starEach es X.env)).any (·.1) = false := by rfl) : DE cl s0 X (.Call (.Name x p) (e :: es) [] pos) (dCa fD tds) :=
  let ⟨_, pa, v⟩ := ha; ⟨_, pe_callTy hc hg hm hv pa hn hdb he hpl, ev_ca hd v⟩
/-- len -/
def lenD : List D → Mu → DK → Prop
  | [.lst xs], m, Φ => Φ (.v (.int xs.length)) m
  | [.tup xs], m, Φ => Φ (.v (.int xs.length)) m
  | [.scr xs], m, Φ => Φ (.v (.int xs.length)) m
  | [.hd k], m, Φ => Sm (m k) (lstC fun xs => Φ (.v (.int xs.length)) m)
  | [.v (.str z)], m, Φ => z.length ≤ sizeLine ∧ Φ (.v (.int z.length)) m
  | _, _, _ => False
def rLenA (K : PySem.W.Frag) : List V → Hp → VK → Prop := fun xs H Q => (∃ p ys, xs = [V.ref p] ∧ (SqL K H p ys ∨ SqT K H p ys) ∧ Q (.int (List.length ys)) H) ∨ ∃ z : Str, xs = [V.str z] ∧ z.length ≤ sizeLine ∧ Q (.int z.length) H
theorem cad_len {K : PySem.W.Frag} : CaD cl (rLenA K) lenD := fun s xs ds Φ Q g r h k => by
  unfold lenD at h
  split at h
  · cases r with
    | cons r1 r2 => cases r2; cases r1 with
      | lst n1 h1 r1 => exact .inl ⟨_, _, rfl, .inl (SqL.of h1), k _ _ s (Le.refl s) g (by rw [← r1.length]; exact .v _) h⟩
  · cases r with
    | cons r1 r2 => cases r2; cases r1 with
      | tup n1 h1 r1 => exact .inl ⟨_, _, rfl, .inr (SqT.of h1), k _ _ s (Le.refl s) g (by rw [← r1.length]; exact .v _) h⟩
  · cases r with
    | cons r1 r2 => cases r2; cases r1 with
      | scr n1 h1 => exact .inl ⟨_, _, rfl, .inl (.inl (.inr ⟨_, h1⟩)), k _ _ s (Le.refl s) g (by rw [List.length_map]; exact .v _) h⟩
  · obtain ⟨ys, hk, h⟩ := lst_to h
    cases r with
    | cons r1 r2 => cases r2; cases r1 with
      | hd hlt =>
        obtain ⟨vs, h1, r1⟩ := g.ct _ _ (Sn.mu_al hk).1
        exact .inl ⟨_, _, rfl, .inl (SqL.of h1), k _ _ s (Le.refl s) g (by rw [← r1.length]; exact .v _) h⟩
  · cases r with
    | cons r1 r2 => cases r2; cases r1; exact .inr ⟨_, rfl, h.1, k _ _ s (Le.refl s) g (.v _) h.2⟩
  · exact h.elim
theorem callR_len : CallR X (.builtin "len") (rLenA X.K) := CallR.or call_len_seq call_len_str
theorem de_len (hg : Gl X "len") (hm : X.mg "len" = none) (ha : DA cl s0 X [e] tds) (he : starEach [e] X.env = (false, eval e X.env) :: starEach [] X.env := by rfl) (hpl : (backTo pos (starEach [] X.env)).any (·.1) = false := by rfl) :
    DE cl s0 X (.Call (.Name "len" p) [e] [] pos) (dCa lenD tds) := de_callB callR_len cad_len hg hm PySem.boot_len ha (by decide) (by decide) he hpl
/-- int(int), int(bool) -/
def intOfD : List D → Mu → DK → Prop
  | [.v (.int i)], m, Φ => Φ (.v (.int i)) m
  | [.v (.bl b)], m, Φ => Φ (.v (.int (if b then 1 else 0))) m
  | _, _, _ => False
theorem cad_int : CaD cl (fun xs H Q => (∃ i, xs = [V.int i] ∧ Q (.int i) H) ∨ ∃ k, xs = [V.bl k] ∧ Q (.int (if k then 1 else 0)) H) intOfD := fun s xs ds Φ Q g r h k => by
  unfold intOfD at h
  split at h
  · cases r with
    | cons r1 r2 => cases r2; cases r1; exact .inl ⟨_, rfl, k _ _ s (Le.refl s) g (.v _) h⟩
  · cases r with
    | cons r1 r2 => cases r2; cases r1; exact .inr ⟨_, rfl, k _ _ s (Le.refl s) g (.v _) h⟩
  · exact h.elim
theorem de_int1 (hg : Gl X "int") (hm : X.mg "int" = none) (ha : DA cl s0 X [e] tds) (he : starEach [e] X.env = (false, eval e X.env) :: starEach [] X.env := by rfl) (hpl : (backTo pos (starEach [] X.env)).any (·.1) = false := by rfl) :
    DE cl s0 X (.Call (.Name "int" p) [e] [] pos) (dCa intOfD tds) := de_callTy call_int1 cad_int hg hm (by decide +kernel) ha (by decide) (by decide) he hpl
def absD : List D → Mu → DK → Prop
  | [.v (.int i)], m, Φ => Φ (.v (.int (if i < 0 then -i else i))) m
  | _, _, _ => False
theorem cad_abs : CaD cl (fun xs H Q => ∃ i, xs = [V.int i] ∧ Q (.int (if i < 0 then -i else i)) H) absD := fun s xs ds Φ Q g r h k => by
  unfold absD at h
  split at h
  · cases r with
    | cons r1 r2 => cases r2; cases r1; exact ⟨_, rfl, k _ _ s (Le.refl s) g (.v _) h⟩
  · exact h.elim
theorem de_abs (hg : Gl X "abs") (hm : X.mg "abs" = none) (ha : DA cl s0 X [e] tds) (he : starEach [e] X.env = (false, eval e X.env) :: starEach [] X.env := by rfl) (hpl : (backTo pos (starEach [] X.env)).any (·.1) = false := by rfl) :
    DE cl s0 X (.Call (.Name "abs" p) [e] [] pos) (dCa absD tds) := de_callB call_abs cad_abs hg hm (by decide +kernel) ha (by decide) (by decide) he hpl
def twoD (f : Int → Int → Int) : List D → Mu → DK → Prop
  | [.v (.int i), .v (.int j)], m, Φ => Φ (.v (.int (f i j))) m
  | _, _, _ => False
theorem cad_two {f : Int → Int → Int} : CaD cl (fun xs H Q => ∃ i j, xs = [V.int i, V.int j] ∧ Q (.int (f i j)) H) (twoD f) := fun s xs ds Φ Q g r h k => by
  unfold twoD at h
  split at h
  · cases r with
    | cons r1 r2 => cases r2 with
      | cons r3 r4 => cases r4; cases r1; cases r3; exact ⟨_, _, rfl, k _ _ s (Le.refl s) g (.v _) h⟩
  · exact h.elim
abbrev maxD := twoD fun i j => if j > i then j else i
abbrev minD := twoD fun i j => if j < i then j else i
theorem de_max {e2 : Expr} (hc : X.calm = true) (hg : Gl X "max") (hm : X.mg "max" = none) (ha : DA cl s0 X [e, e2] tds) (he : starEach [e, e2] X.env = (false, eval e X.env) :: starEach [e2] X.env := by rfl) (hpl : (backTo pos (starEach [e2] X.env)).any (·.1) = false := by rfl) :
    DE cl s0 X (.Call (.Name "max" p) [e, e2] [] pos) (dCa maxD tds) := de_callB (call_max2 hc) cad_two hg hm (by decide +kernel) ha (by decide) (by decide) he hpl
theorem de_min {e2 : Expr} (hc : X.calm = true) (hg : Gl X "min") (hm : X.mg "min" = none) (ha : DA cl s0 X [e, e2] tds) (he : starEach [e, e2] X.env = (false, eval e X.env) :: starEach [e2] X.env := by rfl) (hpl : (backTo pos (starEach [e2] X.env)).any (·.1) = false := by rfl) :
    DE cl s0 X (.Call (.Name "min" p) [e, e2] [] pos) (dCa minD tds) := de_callB (call_min2 hc) cad_two hg hm (by decide +kernel) ha (by decide) (by decide) he hpl

/-! ### stores into things that may change -/
/-- xs[i] = e, xs a handle -/
def setIx (o i d : D) (m : Mu) (Φ : Mu → Prop) : Prop := match o, i with
  | .hd k, .v (.int i) => Sm (m k) (lstC fun xs => Sm (ixN xs.length i) fun j => Φ (setMu m k (.lst (xs.set j d))))
  | _, _ => False
def dgSub (to ti : DTE) : DTG := fun d r m Φ => to r m fun o m1 => ti r m1 fun i m2 => setIx o i d m2 fun m3 => Φ r m3
theorem ev_sub {to ti : TE} {do_ di : DTE} (ho : EvD cl s0 to do_) (hi : EvD cl s0 ti di) : EvG cl s0 (gSub to ti rSetL) (dgSub do_ di) :=
  ⟨fun s σ r d v Φ Q g w l rv q k => ho.run s σ r _ _ g w l q fun od ov s1 l1 g1 r1 q1 => hi.run s1 σ r _ _ g1 (w.mono l1) (l.trans l1) q1 fun xd xv s2 l2 g2 r2 q2 => by
    unfold setIx at q2
    split at q2
    · rename_i k' i'
      obtain ⟨xs, hk, q3⟩ := lst_to q2
      obtain ⟨j, hj, q3⟩ := q3.to
      obtain ⟨hal, hvis⟩ := Sn.mu_al hk
      obtain ⟨vs, h1, rs⟩ := g2.ct _ _ hal
      cases r1 with
      | hd hlt =>
        cases r2
        have ek : s2.kap k' = s1.kap k' := l2.kap _ hlt
        rw [ek] at h1
        refine ⟨_, vs, _, j, rfl, rfl, h1, by rw [← rs.length]; exact hj, ?_⟩
        have lp : Le s2 (s2.put k' (.lst (vs.set j v)) (.lst (xs.set j d))) := Le.put hal hvis
        have gp : Good cl (s2.put k' (.lst (vs.set j v)) (.lst (xs.set j d))) := g2.put hal hvis ⟨_, upd_same, (Reps.set ((rv.mono l1).mono l2) j rs).mono lp⟩
        have := k (s2.put k' (.lst (vs.set j v)) (.lst (xs.set j d))) r σ ((l1.trans l2).trans lp) gp (((w.mono l1).mono l2).mono lp) (by rw [put_mu hvis]; exact q3)
        rw [← ek]
        exact this
    · exact q2.elim⟩
theorem dg_sub {o i : Expr} {to ti : DTE} (ho : DE cl s0 X o to) (hi : DE cl s0 X i ti)
    (ha : ∀ v, assign (.Subscript o i pos) X.env v = (do
      let ov ← holding [v] (eval o X.env)
      let iv ← holding [v, ov] (eval i X.env)
      standAt pos
      holding [v, ov, iv] (setItem ov iv v)
      release [v, ov, iv] []) := by intro _; rfl) : DG cl s0 X (.Subscript o i pos) (dgSub to ti) :=
  let ⟨_, p1, v1⟩ := ho; let ⟨_, p2, v2⟩ := hi; ⟨_, pg_sub p1 p2 set_list ha, ev_sub v1 v2⟩
end
end ER
namespace ER
open PySem PySem.Spec PyProof.Rows L2
/-! ## a def that is there to be called -/
structure Callee (P : Program) (w : World) (K : PySem.W.Frag) (mg : Str → Option Value) (base : Heap) (cl : Nat → Addr) (x : Str) (k : Nat) (ps : List Str) (F : DFn) : Prop where
  is : ∃ f fd, FnD P w K mg base cl k f fd ps F ∧ mg x = some (.ref f) ∧ PySem.W.keepIn K (.ref f) = true ∧ Binds K fd ps []
section
variable {cl : Nat → Addr} {s0 : Sn} {X : Cx} {e : Expr} {es : List Expr} {tds : DTA} {pos p : Pos} {x : Str} {k : Nat} {ps : List Str} {F : DFn}
theorem de_callee (C : Callee X.prog X.w X.K X.mg X.base cl x k ps F) (hr : Room k X.A) (hg : Gl X x) (ha : DA cl s0 X (e :: es) tds) (hdb : (x == ("__debug__" : Str)) = false := by decide)
    (he : starEach (e :: es) X.env = (false, eval e X.env) :: starEach es X.env := by rfl) (hpl : (backTo pos (starEach es X.env)).any (·.1) = false := by rfl) :
    DE cl s0 X (.Call (.Name x p) (e :: es) [] pos) (dCall ps.length F tds) := let ⟨_, _, G, hm, hk, hb⟩ := C.is; de_call G hr hg hm hk hb ha hdb he hpl
theorem de_callee0 (C : Callee X.prog X.w X.K X.mg X.base cl x k ps F) (hr : Room k X.A) (hg : Gl X x) (hdb : (x == ("__debug__" : Str)) = false := by decide) :
    DE cl s0 X (.Call (.Name x p) [] [] pos) (dCall ps.length F dNil) := let ⟨_, _, G, hm, hk, hb⟩ := C.is; de_call0 G hr hg hm hk hb hdb
theorem de_calleeX {Ξ : DXE} (tk : TakesD cl s0 X Ξ) (C : Callee X.prog X.w X.K X.mg X.base cl x k ps F) (hr : Room k X.A) (hg : Gl X x) (ha : DA cl s0 X (e :: es) tds) (hdb : (x == ("__debug__" : Str)) = false := by decide)
    (he : starEach (e :: es) X.env = (false, eval e X.env) :: starEach es X.env := by rfl) (hpl : (backTo pos (starEach es X.env)).any (·.1) = false := by rfl) :
    DE cl s0 X (.Call (.Name x p) (e :: es) [] pos) (dCallX Ξ ps.length F tds) := let ⟨_, _, G, hm, hk, hb⟩ := C.is; de_callX tk G hr hg hm hk hb ha hdb he hpl
theorem ds_par {i j : Nat} {x y : Str} {a b : Expr} {ta : DTA} {px py pt : Pos} {kt k2 pt2} (hc : X.calm = true) (hN : X.N.Nodup) (hi : X.N[i]? = some x) (hj : X.N[j]? = some y) (hij : i ≠ j)
    (hx : X.env.scope.names.lookup x = some .local) (hy : X.env.scope.names.lookup y = some .local) (ha : DA cl s0 X [a, b] ta)
    (hw : swappedStores [.Tuple [.Name x px, .Name y py] kt pt] (.Tuple [a, b] k2 pt2) X.env = pure (some [x, y]))
    (hs : swapsWithSole [.Tuple [.Name x px, .Name y py] kt pt] (.Tuple [a, b] k2 pt2) pos.line X.env = pure false := by rfl) :
    DS cl s0 X (.Assign [.Tuple [.Name x px, .Name y py] kt pt] (.Tuple [a, b] k2 pt2) pos) (dPar i j ta) := let ⟨_, p, v⟩ := ha; ⟨_, ps_par hc hN hi hj hij hx hy p hw hs, ev_par v⟩
theorem ds_par3 {i j l : Nat} {x y z : Str} {a b c : Expr} {ta : DTA} {px py pz pt : Pos} {kt k2 pt2} (hc : X.calm = true) (hN : X.N.Nodup) (hi : X.N[i]? = some x) (hj : X.N[j]? = some y) (hl : X.N[l]? = some z) (hij : i ≠ j) (hil : i ≠ l) (hjl : j ≠ l)
    (hx : X.env.scope.names.lookup x = some .local) (hy : X.env.scope.names.lookup y = some .local) (hz : X.env.scope.names.lookup z = some .local) (ha : DA cl s0 X [a, b, c] ta)
    (hw : swappedStores [.Tuple [.Name x px, .Name y py, .Name z pz] kt pt] (.Tuple [a, b, c] k2 pt2) X.env = pure (some [x, y, z]))
    (hs : swapsWithSole [.Tuple [.Name x px, .Name y py, .Name z pz] kt pt] (.Tuple [a, b, c] k2 pt2) pos.line X.env = pure false := by rfl) :
    DS cl s0 X (.Assign [.Tuple [.Name x px, .Name y py, .Name z pz] kt pt] (.Tuple [a, b, c] k2 pt2) pos) (dPar3 i j l ta) := let ⟨_, p, v⟩ := ha; ⟨_, ps_par3 hc hN hi hj hl hij hil hjl hx hy hz p hw hs, ev_par3 v⟩
end
end ER

namespace ER
open PySem PySem.Spec PyProof.Rows L2
/-! ## reading: one lemma a construct -/
section
variable {r : Env} {m : Mu} {Φ : DK} {De : DEnds}
theorem i_seq {t u : DTS} (h : t { De with nx := u De } r m) : dSeq t u De r m := h
theorem i_next (h : De.nx r m) : dNext De r m := h
theorem i_op {f : D → D → Mu → DK → Prop} {ta tb : DTE} (h : ta r m fun x m1 => tb r m1 fun y m2 => f x y m2 Φ) : dOp f ta tb r m Φ := h
theorem i_un {f : D → Mu → DK → Prop} {ta : DTE} (h : ta r m fun x m1 => f x m1 Φ) : dUn f ta r m Φ := h
theorem i_ca {f : List D → Mu → DK → Prop} {ta : DTA} (h : ta r m fun x m1 => f x m1 Φ) : dCa f ta r m Φ := h
theorem i_var {i : Nat} {d : D} (e : r[i]? = some (some d)) (h : Φ d m) : dVar i r m Φ := .of e h
theorem i_c {d : D} (h : Φ d m) : dC d r m Φ := h
theorem i_nil {Φ : List D → Mu → Prop} (h : Φ [] m) : dNil r m Φ := h
theorem i_cons {Φ : List D → Mu → Prop} {t : DTE} {u : DTA} (h : t r m fun x m1 => u r m1 fun xs m2 => Φ (x :: xs) m2) : dCons t u r m Φ := h
theorem i_tup {t : DTA} (h : t r m fun ds m1 => ds.length ≤ sizeLine ∧ Φ (.tup ds) m1) : dTup t r m Φ := h
theorem i_lst {t : DTA} (h : t r m fun ds m1 => ds.length ≤ sizeLine ∧ Φ (.lst ds) m1) : dLst t r m Φ := h
theorem i_new {t : DTA} (h : t r m fun ds m1 => ds.length ≤ sizeLine ∧ ∀ k, m1 k = none → Φ (.hd k) (setMu m1 k (.lst ds))) : dNew t r m Φ := h
theorem i_asg {t : DTE} {g : DTG} (h : t r m fun d m1 => g d r m1 De.nx) : dAsg t g De r m := h
theorem i_gsub {to ti : DTE} {d : D} {Φ : Env → Mu → Prop} (h : to r m fun o m1 => ti r m1 fun i m2 => setIx o i d m2 fun m3 => Φ r m3) : dgSub to ti d r m Φ := h
theorem i_ret {t : DTE} (h : t r m De.rt) : dRet t De r m := h
theorem i_drop {t : DTE} (h : t r m fun _ m1 => De.nx r m1) : dDrop t De r m := h
theorem i_ifS {c : DTT} {t u : DTS} (h : c r m fun b m1 => Br b (t De r m1) (u De r m1)) : dIf c t u De r m := h
theorem i_ifE {c : DTT} {t u : DTE} (h : c r m fun b m1 => Br b (t r m1 Φ) (u r m1 Φ)) : dIfE c t u r m Φ := h
theorem i_b {t : DTE} {Φ : Bool → Mu → Prop} (h : t r m fun x m1 => boolD x m1 Φ) : dB t r m Φ := h
theorem i_boolD {c : Bool} {Φ : Bool → Mu → Prop} (h : Φ c m) : boolD (.v (.bl c)) m Φ := h
theorem i_andV {t u : DTE} (h : t r m fun x m1 => boolD x m1 fun c m1 => Br c (u r m1 Φ) (Φ (.v (.bl false)) m1)) : dAndV t u r m Φ := h
theorem i_orV {t u : DTE} (h : t r m fun x m1 => boolD x m1 fun c m1 => Br c (Φ (.v (.bl true)) m1) (u r m1 Φ)) : dOrV t u r m Φ := h
theorem i_notV {t : DTE} (h : t r m fun x m1 => boolD x m1 fun c m1 => Φ (.v (.bl (!c))) m1) : dNotV t r m Φ := h
theorem i_and {t u : DTT} {Φ : Bool → Mu → Prop} (h : t r m fun c m1 => Br c (u r m1 Φ) (Φ false m1)) : dAnd t u r m Φ := h
theorem i_or {t u : DTT} {Φ : Bool → Mu → Prop} (h : t r m fun c m1 => Br c (Φ true m1) (u r m1 Φ)) : dOr t u r m Φ := h
theorem i_not {t : DTT} {Φ : Bool → Mu → Prop} (h : t r m fun c m1 => Φ (!c) m1) : dNot t r m Φ := h
theorem i_call {n : Nat} {F : DFn} {t : DTA} (h : t r m fun ds m1 => ds.length = n ∧ Go F ds m1 Φ noX) : dCall n F t r m Φ := h
-- branches
theorem i_true {A B : Prop} (h : A) : Br true A B := .t rfl h
theorem i_false {A B : Prop} (h : B) : Br false A B := .f rfl h
theorem i_dec {p A B : Prop} [Decidable p] (h1 : p → A) (h2 : ¬ p → B) : Br (decide p) A B := by
  by_cases h : p
  · exact .t (decide_eq_true h) (h1 h)
  · exact .f (decide_eq_false h) (h2 h)
theorem i_decT {p A B : Prop} [Decidable p] (h : p) (h1 : A) : Br (decide p) A B := .t (decide_eq_true h) h1
theorem i_decF {p A B : Prop} [Decidable p] (h : ¬ p) (h1 : B) : Br (decide p) A B := .f (decide_eq_false h) h1
theorem i_bool {b : Bool} {A B : Prop} (h1 : b = true → A) (h2 : b = false → B) : Br b A B := by
  cases b with
  | true => exact .t rfl (h1 rfl)
  | false => exact .f rfl (h2 rfl)
-- values
theorem i_addI {i j : Int} (h : Φ (.v (.int (i + j))) m) : addD (.v (.int i)) (.v (.int j)) m Φ := h
theorem i_addS {i j : Str} (z : i.length + j.length ≤ sizeLine) (h : Φ (.v (.str (i ++ j))) m) : addD (.v (.str i)) (.v (.str j)) m Φ := ⟨z, h⟩
theorem i_addL {i j : List D} (z : i.length + j.length ≤ sizeLine) (h : Φ (.lst (i ++ j)) m) : addD (.lst i) (.lst j) m Φ := ⟨z, h⟩
theorem i_addT {i j : List D} (z : i ≠ [] ∧ j ≠ [] ∧ i.length + j.length ≤ sizeLine) (h : Φ (.tup (i ++ j)) m) : addD (.tup i) (.tup j) m Φ := ⟨z, h⟩
theorem i_int {C : Int → Int → Prop} {g : Int → Int → V} {i j : Int} (c : C i j) (h : Φ (.v (g i j)) m) : intD C g (.v (.int i)) (.v (.int j)) m Φ := ⟨c, h⟩
theorem i_int0 {g : Int → Int → V} {i j : Int} (h : Φ (.v (g i j)) m) : intD0 g (.v (.int i)) (.v (.int j)) m Φ := h
theorem i_neg {i : Int} (h : Φ (.v (.int (-i))) m) : negD (.v (.int i)) m Φ := h
theorem i_ordI {p : Int → Int → Bool} {q : Str → Str → Bool} {i j : Int} (h : Φ (.v (.bl (p i j))) m) : ordD p q (.v (.int i)) (.v (.int j)) m Φ := h
theorem i_ordS {p : Int → Int → Bool} {q : Str → Str → Bool} {i j : Str} (h : Φ (.v (.bl (q i j))) m) : ordD p q (.v (.str i)) (.v (.str j)) m Φ := h
theorem i_eqI {i j : Int} (h : Φ (.v (.bl (decide (i = j)))) m) : eqD false (.v (.int i)) (.v (.int j)) m Φ := h
theorem i_neI {i j : Int} (h : Φ (.v (.bl (!decide (i = j)))) m) : eqD true (.v (.int i)) (.v (.int j)) m Φ := h
theorem i_eqS {i j : Str} (h : Φ (.v (.bl (decide (i = j)))) m) : eqD false (.v (.str i)) (.v (.str j)) m Φ := h
theorem i_neS {i j : Str} (h : Φ (.v (.bl (!decide (i = j)))) m) : eqD true (.v (.str i)) (.v (.str j)) m Φ := h
theorem i_eqB {i j : Bool} (h : Φ (.v (.bl (decide (V.bl i = V.bl j)))) m) : eqD false (.v (.bl i)) (.v (.bl j)) m Φ := ⟨rfl, h⟩
theorem i_neB {i j : Bool} (h : Φ (.v (.bl (!decide (V.bl i = V.bl j)))) m) : eqD true (.v (.bl i)) (.v (.bl j)) m Φ := ⟨rfl, h⟩
theorem i_ixL {xs : List D} {i : Int} {d : D} (e : atI xs i = some d) (h : Φ d m) : ixD (.lst xs) (.v (.int i)) m Φ := .mk d e h
theorem i_ixT {xs : List D} {i : Int} {d : D} (e : atI xs i = some d) (h : Φ d m) : ixD (.tup xs) (.v (.int i)) m Φ := .mk d e h
theorem i_ixH {xs : List D} {i : Int} {d : D} {k : Nat} (hk : m k = some (.lst xs)) (e : atI xs i = some d) (h : Φ d m) : ixD (.hd k) (.v (.int i)) m Φ := .mk _ hk (.mk d e h)
theorem i_setH {xs : List D} {i : Int} {d : D} {k j : Nat} {Φ : Mu → Prop} (hk : m k = some (.lst xs)) (e : ixN xs.length i = some j) (h : Φ (setMu m k (.lst (xs.set j d)))) : setIx (.hd k) (.v (.int i)) d m Φ := .mk _ hk (.mk j e h)
theorem i_intI {i : Int} (h : Φ (.v (.int i)) m) : intOfD [.v (.int i)] m Φ := h
theorem i_intB {b : Bool} (h : Φ (.v (.int (if b then 1 else 0))) m) : intOfD [.v (.bl b)] m Φ := h
theorem i_abs {i : Int} (h : Φ (.v (.int (if i < 0 then -i else i))) m) : absD [.v (.int i)] m Φ := h
theorem i_two {f : Int → Int → Int} {i j : Int} (h : Φ (.v (.int (f i j))) m) : twoD f [.v (.int i), .v (.int j)] m Φ := h
theorem i_lenL {xs : List D} (h : Φ (.v (.int xs.length)) m) : lenD [.lst xs] m Φ := h
theorem i_lenT {xs : List D} (h : Φ (.v (.int xs.length)) m) : lenD [.tup xs] m Φ := h
theorem i_lenR {xs : List Int} (h : Φ (.v (.int xs.length)) m) : lenD [.scr xs] m Φ := h
theorem i_lenS {z : Str} (hz : z.length ≤ sizeLine) (h : Φ (.v (.int z.length)) m) : lenD [.v (.str z)] m Φ := ⟨hz, h⟩
theorem i_two_ {d e : D} {k : D → D → Prop} (h : k d e) : two_ [d, e] k := h
theorem i_three_ {d e f : D} {k : D → D → D → Prop} (h : k d e f) : three_ [d, e, f] k := h
theorem i_rng1 {n : Int} {Φ : List D → Mu → Prop} (z : -(2 ^ 62) ≤ n ∧ n < 2 ^ 62) (h : Φ (rngs 0 n.toNat) m) : rng1D [.v (.int n)] m Φ := ⟨z, h⟩
theorem i_drng1 {t : DTA} {Φ : List D → Mu → Prop} (h : t r m fun ds m1 => rng1D ds m1 Φ) : dRng1 t r m Φ := h
theorem i_for {it : DTI} {g : DTG} {tb : DTS} (h : it r m fun xs m1 => dForL g tb De xs r m1) : dFor it g tb De r m := h
theorem i_sq {t : DTE} {Φ : List D → Mu → Prop} (h : t r m fun d m1 => seqD d m1 Φ) : dSq t r m Φ := h
theorem i_seqL {xs : List D} {Φ : List D → Mu → Prop} (h : Φ xs m) : seqD (.lst xs) m Φ := h
theorem i_seqT {xs : List D} {Φ : List D → Mu → Prop} (h : Φ xs m) : seqD (.tup xs) m Φ := h
theorem i_seqS {z : Str} {Φ : List D → Mu → Prop} (h : Φ (z.cps.toList.map fun c => .v (.str ⟨#[c]⟩)) m) : seqD (.v (.str z)) m Φ := h
theorem mulA_r {i j : Int} (h : -(2 ^ 64) < j ∧ j < 2 ^ 64) : CMulA i j := .inl (.inr h)
theorem mulA_l {i j : Int} (h : -(2 ^ 64) < i ∧ i < 2 ^ 64) : CMulA i j := .inl (.inl h)
end
end ER

namespace ER
open PySem PySem.Spec PyProof.Rows L2

/-! ## fields by name -/
def lk (f : Str) : List Str → List D → Option D
  | n :: ns, x :: xs => if n = f then some x else lk f ns xs
  | _, _ => none
section
variable {cl : Nat → Addr} {s : Sn}
theorem lk_zip {f : Str} {d : D} : ∀ {ns : List Str} {ds : List D} {vs : List V}, Reps cl s ds vs → lk f ns ds = some d → ∃ v, (ns.zip vs).lookup f = some v ∧ Rep cl s d v
  | [], ds, _, _, h => by cases ds <;> cases h
  | n :: ns, _, _, .nil, h => by cases h
  | n :: ns, _, _, .cons (d := x) (v := u) h1 r, h => by
    unfold lk at h
    by_cases e : n = f
    · rw [if_pos e] at h
      cases h
      refine ⟨u, ?_, h1⟩
      subst e
      show List.lookup n ((n, u) :: _) = some u
      simp only [List.lookup, beq_self_eq_true]
    · rw [if_neg e] at h
      obtain ⟨v, h2, h3⟩ := lk_zip r h
      refine ⟨v, ?_, h3⟩
      have : (f == n) = false := beq_eq_false_iff_ne.mpr (Ne.symm e)
      show List.lookup f ((n, u) :: _) = some v
      simp only [List.lookup, this]
      exact h2
theorem zip_none {f : Str} : ∀ {ns : List Str} {vs : List V}, f ∉ ns → (ns.zip vs).lookup f = none
  | [], _, _ => rfl
  | _ :: _, [], _ => rfl
  | n :: ns, v :: vs, h => by
    have e : (f == n) = false := beq_eq_false_iff_ne.mpr fun z => h (by rw [z]; exact List.mem_cons_self)
    show List.lookup f ((n, v) :: ns.zip vs) = none
    simp only [List.lookup, e]
    exact zip_none fun z => h (List.mem_cons_of_mem _ z)
theorem putF_zip {f : Str} {y : V} : ∀ {ns : List Str} {vs : List V}, f ∉ ns → ns.length = vs.length → putF f y (ns.zip vs) = (ns ++ [f]).zip (vs ++ [y])
  | [], [], _, _ => rfl
  | [], _ :: _, _, h => by cases h
  | _ :: _, [], _, h => by cases h
  | n :: ns, v :: vs, h, hl => by
    have e : ¬ n = f := fun z => h (by rw [z]; exact List.mem_cons_self)
    show (if n = f then (n, y) :: ns.zip vs else (n, v) :: putF f y (ns.zip vs)) = (n, v) :: (ns ++ [f]).zip (vs ++ [y])
    rw [if_neg e, putF_zip (fun z => h (List.mem_cons_of_mem _ z)) (Nat.succ.inj hl)]
end

section
variable {cl : Nat → Addr} {s0 : Sn} {X : Cx} {e o : Expr} {es : List Expr} {te to : DTE} {tds : DTA} {pos p apos : Pos} {c : Nat} {f x m : Str}
/-! ### reading and storing fields -/
def fldD (c : Nat) (f : Str) (d : D) (m : Mu) (Φ : DK) : Prop := match d with
  | .obj c' ns xs => c' = c ∧ Sm (lk f ns xs) fun y => Φ y m
  | .hd k => Sm (m k) (insC c fun ns xs => Sm (lk f ns xs) fun y => Φ y m)
  | _ => False
def dFld (c : Nat) (f : Str) (t : DTE) : DTE := fun r m Φ => t r m fun d m1 => fldD c f d m1 Φ
/-- what a class's field asks of the text -/
structure FldOk (K : PySem.W.Frag) (C : Addr) (f : Str) : Prop where
  c : Cls K C
  n : NoAttr K C f
theorem de_fld (T : FldOk X.K (cl c) f) (he : DE cl s0 X e te) (hb : attributeBase e f X.env (eval e X.env) = eval e X.env := by rfl) : DE cl s0 X (.Attribute e f pos) (dFld c f te) :=
  let ⟨_, pp, v⟩ := he; ⟨_, pe_fld pp hb, ⟨fun s σ r Φ Q g w l q k => v.run s σ r _ _ g w l q fun d x s1 l1 g1 rx q1 => by
    unfold fldD at q1
    split at q1
    · obtain ⟨rfl, q1⟩ := q1
      obtain ⟨y, hy, q1⟩ := q1.to
      cases rx with
      | obj n1 h1 z1 r1 =>
        obtain ⟨v1, h2, h3⟩ := lk_zip r1 hy
        exact ⟨_, _, _, _, v1, rfl, h1, T.c, T.n, h2, k _ _ s1 l1 g1 h3 q1⟩
    · obtain ⟨ns, xs, hk, q1⟩ := ins_to q1
      obtain ⟨y, hy, q1⟩ := q1.to
      cases rx with
      | hd hlt =>
        obtain ⟨dx, vs, h1, z1, r1⟩ := g1.ct _ _ (Sn.mu_al hk).1
        obtain ⟨v1, h2, h3⟩ := lk_zip r1 hy
        exact ⟨_, _, _, _, v1, rfl, h1, T.c, T.n, h2, k _ _ s1 l1 g1 h3 q1⟩
    · exact q1.elim⟩⟩
def setFD (c : Nat) (f : Str) (d y : D) (m : Mu) (Φ : Mu → Prop) : Prop := match d with
  | .hd k => Sm (m k) (insC c fun ns xs => f ∉ ns ∧ ns.length < 900 ∧ Φ (setMu m k (.ins c (ns ++ [f]) (xs ++ [y]))))
  | _ => False
def dSetF (c : Nat) (f : Str) (to te : DTE) : DTS := fun De r m => te r m fun y m1 => to r m1 fun d m2 => setFD c f d y m2 fun m3 => De.nx r m3
theorem ds_setF {pos' : Pos} (ho : DE cl s0 X o to) (he : DE cl s0 X e te) (T : FldOk X.K (cl c) f) (hs : swapsWith e (some (.Attribute o f pos')) pos.line X.env = pure false := by rfl) :
    DS cl s0 X (.Assign [.Attribute o f pos'] e pos) (dSetF c f to te) :=
  let ⟨_, p1, v1⟩ := ho; let ⟨_, p2, v2⟩ := he; ⟨_, ps_fld p1 p2 hs, ⟨fun s σ r De E g w l q k => v2.run s σ r _ _ g w l q fun y yv s1 l1 g1 ry q1 => v1.run s1 σ r _ _ g1 (w.mono l1) (l.trans l1) q1 fun d x s2 l2 g2 rx q2 => by
    unfold setFD at q2
    split at q2
    · rename_i k'
      obtain ⟨ns, xs, hk, hf, hz, q2⟩ := ins_to q2
      obtain ⟨hal, hvis⟩ := Sn.mu_al hk
      cases rx with
      | hd hlt =>
        obtain ⟨dx, vs, h1, z1, r1⟩ := g2.ct _ _ hal
        refine ⟨_, _, dx, _, rfl, h1, T.c, T.n, by rw [List.length_zip]; omega, ?_⟩
        rw [putF_zip hf z1]
        have lp : Le s2 (s2.put k' (.ins (cl c) dx ((ns ++ [f]).zip (vs ++ [yv]))) (.ins c (ns ++ [f]) (xs ++ [y]))) := Le.put hal hvis
        have gp : Good cl (s2.put k' (.ins (cl c) dx ((ns ++ [f]).zip (vs ++ [yv]))) (.ins c (ns ++ [f]) (xs ++ [y]))) := g2.put hal hvis ⟨dx, _, upd_same, by rw [List.length_append, List.length_append, z1]; rfl, (r1.append (.cons (ry.mono l2) .nil)).mono lp⟩
        exact k.nx (s2.put k' (.ins (cl c) dx ((ns ++ [f]).zip (vs ++ [yv]))) (.ins c (ns ++ [f]) (xs ++ [y]))) r σ ((l1.trans l2).trans lp) gp (((w.mono l1).mono l2).mono lp) (by rw [put_mu hvis]; exact q2)
    · exact q2.elim⟩⟩

/-! ### making an object -/
structure Maker (P : Program) (w : World) (K : PySem.W.Frag) (mg : Str → Option Value) (base : Heap) (cl : Nat → Addr) (x : Str) (c : Nat) (k : Nat) (ps : List Str) (F : DFn) : Prop where
  is : ∃ f fd, FnD P w K mg base cl k f fd ps F ∧ Mk K (cl c) f ∧ mg x = some (.ref (cl c)) ∧ Binds K fd ps []
def dMake (c n : Nat) (F : DFn) (t : DTA) : DTE := fun r m Φ => t r m fun ds m1 => ds.length + 1 = n ∧ ∀ k, m1 k = none →
  Go F (.hd k :: ds) (setMu m1 k (.ins c [] [])) (fun v m2 => v = .v .non ∧ Sm (m2 k) (insC c fun ns xs => Φ (.obj c ns xs) (delMu m2 k))) noX
variable {k : Nat} {ps : List Str} {F : DFn}
theorem ev_make {ta : TA} (h : EvA cl s0 ta tds) : EvD cl s0 (tMake (cl c) (spD cl ps.length F) [] E0 ta) (dMake c ps.length F tds) :=
  ⟨fun s σ r Φ Q g w l q kk => h.run s σ r _ _ g w l q fun ds vs s1 l1 g1 r1 q1 a dx ha hdx hne => by
    have g2 : Good cl (s1.lay dx (.own a)) := g1.lay hdx
    have l2 : Le s1 (s1.lay dx (.own a)) := Le.lay g1 hdx
    have ha2 : (s1.lay dx (.own a)).H a = none := by
      show upd s1.H dx (.own a) a = none
      rw [upd_ne hne.symm]
      exact ha
    have l3 : Le (s1.lay dx (.own a)) ((s1.lay dx (.own a)).open_ a (.ins (cl c) dx []) (.ins c [] [])) := Le.open_ g2 ha2
    have g3 : Good cl ((s1.lay dx (.own a)).open_ a (.ins (cl c) dx []) (.ins c [] [])) := g2.open_ ha2 ⟨dx, [], upd_same, rfl, .nil⟩
    have hm : s1.mu s1.n = none := mu_n g1
    have q2 := (q1.2 s1.n hm).un
    have em : ((s1.lay dx (.own a)).open_ a (.ins (cl c) dx []) (.ins c [] [])).mu = setMu s1.mu s1.n (.ins c [] []) := open_mu
    show spD cl ps.length F (.ref a :: (vs ++ [])) (upd (upd s1.H dx (.own a)) a (.ins (cl c) dx [])) _ E0
    rw [List.append_nil]
    refine ⟨(s1.lay dx (.own a)).open_ a (.ins (cl c) dx []) (.ins c [] []), .hd s1.n :: ds, _, noX, rfl, g3, .cons Rep.open_ (r1.mono (l2.trans l3)), q1.1, by rw [em]; exact q2, fun d v s4 l4 g4 r4 q4 => ?_, fun _ _ _ _ _ _ _ _ z => z.elim⟩
    obtain ⟨rfl, q4⟩ := q4
    obtain ⟨ns, xs, hk, q5⟩ := ins_to q4
    cases r4
    refine ⟨rfl, ?_⟩
    obtain ⟨hal, hvis⟩ := Sn.mu_al hk
    obtain ⟨dx', us, h5, z5, r5⟩ := g4.ct _ _ hal
    have ka : s4.kap s1.n = a := (l4.kap s1.n (Nat.lt_succ_self _)).trans (if_pos rfl)
    rw [ka] at h5
    refine kk (.obj c ns xs) (.ref a) (s4.close s1.n) (((l1.trans (l2.trans l3)).trans l4).trans (Le.close hvis)) (g4.close hvis) (.obj ?_ h5 z5 (r5.mono (Le.close hvis))) (by rw [close_mu]; exact q5)
    rw [← ka]
    exact close_not_M g4 hal⟩
theorem de_make (C : Maker X.prog X.w X.K X.mg X.base cl x c k ps F) (hr : Room (k + 1) X.A) (hg : Gl X x) (ha : DA cl s0 X (e :: es) tds) (hdb : (x == ("__debug__" : Str)) = false := by decide)
    (he : starEach (e :: es) X.env = (false, eval e X.env) :: starEach es X.env := by rfl) (hpl : (backTo pos (starEach es X.env)).any (·.1) = false := by rfl) :
    DE cl s0 X (.Call (.Name x p) (e :: es) [] pos) (dMake c ps.length F tds) := let ⟨_, _, G, M, hm, hb⟩ := C.is; let ⟨_, pa, v⟩ := ha; ⟨_, pe_make M G hr hg hm hb .nil passL pa hdb he hpl, ev_make v⟩

/-! ### methods and properties -/
structure MethOk (P : Program) (w : World) (K : PySem.W.Frag) (mg : Str → Option Value) (base : Heap) (cl : Nat → Addr) (m : Str) (c : Nat) (k : Nat) (ps : List Str) (F : DFn) : Prop where
  is : ∃ f fd, FnD P w K mg base cl k f fd ps F ∧ Cls K (cl c) ∧ Meth K (cl c) m f ∧ Binds K fd ps []
def selfD (c : Nat) (m : Str) (d : D) (K : Prop) : Prop := match d with
  | .obj c' ns _ => c' = c ∧ m ∉ ns ∧ K
  | _ => False
def dMeth (c : Nat) (m : Str) (n : Nat) (F : DFn) (to : DTE) (t : DTA) : DTE := fun r mu Φ => to r mu fun d m1 => selfD c m d (t r m1 fun ds m2 => ds.length + 1 = n ∧ Go F (d :: ds) m2 Φ noX)
def dMethX (Ξ : DXE) (c : Nat) (m : Str) (n : Nat) (F : DFn) (to : DTE) (t : DTA) : DTE := fun r mu Φ => to r mu fun d m1 => selfD c m d (t r m1 fun ds m2 => ds.length + 1 = n ∧ Go F (d :: ds) m2 Φ (Ξ r))
theorem ev_meth {tt : TE} {ta : TA} (ho : EvD cl s0 tt to) (h : EvA cl s0 ta tds) : EvD cl s0 (tMeth (cl c) m (spD cl ps.length F) [] E0 tt ta) (dMeth c m ps.length F to tds) :=
  ⟨fun s σ r Φ Q g w l q k => ho.run s σ r _ _ g w l q fun d x s1 l1 g1 rx q1 => by
    unfold selfD at q1
    split at q1
    · obtain ⟨rfl, hn, q1⟩ := q1
      have rx0 := rx
      cases rx with
      | obj n1 h1 z1 r1 =>
        refine ⟨_, _, _, rfl, h1, zip_none hn, h.run s1 σ r _ _ g1 (w.mono l1) (l.trans l1) q1 fun ds vs s2 l2 g2 r2 q2 => ?_⟩
        show spD cl ps.length F (_ :: (vs ++ [])) s2.H Q E0
        rw [List.append_nil]
        exact ⟨s2, _ :: ds, Φ, noX, rfl, g2, .cons (rx0.mono l2) r2, q2.1, q2.2.un, fun d v s3 l3 g3 r3 q3 => k d v s3 ((l1.trans l2).trans l3) g3 r3 q3, fun _ _ _ _ _ _ _ _ z => z.elim⟩
    · exact q1.elim⟩
theorem de_meth {pl : Sem Bool} (C : MethOk X.prog X.w X.K X.mg X.base cl m c k ps F) (hr : Room k X.A) (ho : DE cl s0 X o to) (ha : DA cl s0 X (e :: es) tds)
    (hst : starEach (e :: es) X.env = (false, eval e X.env) :: starEach es X.env := by rfl) (hpl : (backTo pos (starEach es X.env)).any (·.1) = false := by rfl)
    (ht : eval (.Call (.Attribute o m apos) (e :: es) [] pos) X.env = (do
      let ov ← eval o X.env
      standAt apos.atName
      let (f, first) ← holding [ov] (getMethod ov m pl)
      callWith pos f first (backTo pos (starEach (e :: es) X.env)) (backToKw pos (keywordEach [] X.env))) := by rfl) :
    DE cl s0 X (.Call (.Attribute o m apos) (e :: es) [] pos) (dMeth c m ps.length F to tds) :=
  let ⟨_, _, G, hc, hm, hb⟩ := C.is; let ⟨_, p1, v1⟩ := ho; let ⟨_, p2, v2⟩ := ha; ⟨_, pe_meth p1 hc hm G hr hb .nil passL p2 hst hpl ht, ev_meth v1 v2⟩
theorem de_meth0 {pl : Sem Bool} (C : MethOk X.prog X.w X.K X.mg X.base cl m c k ps F) (hr : Room k X.A) (ho : DE cl s0 X o to)
    (ht : eval (.Call (.Attribute o m apos) [] [] pos) X.env = (do
      let ov ← eval o X.env
      standAt apos.atName
      let (f, first) ← holding [ov] (getMethod ov m pl)
      callWith pos f first (backTo pos (starEach [] X.env)) (backToKw pos (keywordEach [] X.env))) := by rfl) :
    DE cl s0 X (.Call (.Attribute o m apos) [] [] pos) (dMeth c m ps.length F to dNil) :=
  let ⟨_, _, G, hc, hm, hb⟩ := C.is; let ⟨_, p1, v1⟩ := ho; ⟨_, pe_meth0 p1 hc hm G hr hb .nil passL ht, ev_meth v1 ⟨fun s σ r Φ Q g v l q k => k [] [] s (Le.refl s) g .nil q⟩⟩
structure PropOk (P : Program) (w : World) (K : PySem.W.Frag) (mg : Str → Option Value) (base : Heap) (cl : Nat → Addr) (m : Str) (c : Nat) (k : Nat) (F : DFn) : Prop where
  is : ∃ q f fd, FnD P w K mg base cl k f fd ["self"] F ∧ Cls K (cl c) ∧ PropOf K (cl c) m q f ∧ Binds K fd ["self"] []
def dProp (c : Nat) (F : DFn) (to : DTE) : DTE := fun r mu Φ => to r mu fun d m1 => selfD c "" d (Go F [d] m1 Φ noX)
theorem ev_prop {tt : TE} (ho : EvD cl s0 tt to) : EvD cl s0 (tProp (cl c) (spD cl 1 F) [] E0 tt) (dProp c F to) :=
  ⟨fun s σ r Φ Q g w l q k => ho.run s σ r _ _ g w l q fun d x s1 l1 g1 rx q1 => by
    unfold selfD at q1
    split at q1
    · obtain ⟨rfl, hn, q1⟩ := q1
      have rx0 := rx
      cases rx with
      | obj n1 h1 z1 r1 =>
        exact ⟨_, _, _, rfl, h1, s1, [_], Φ, noX, rfl, g1, .cons rx0 .nil, rfl, q1.un, fun d v s3 l3 g3 r3 q3 => k d v s3 (l1.trans l3) g3 r3 q3, fun _ _ _ _ _ _ _ _ z => z.elim⟩
    · exact q1.elim⟩
theorem de_prop (C : PropOk X.prog X.w X.K X.mg X.base cl m c k F) (hr : Room (k + 1) X.A) (ho : DE cl s0 X e te) (hab : attributeBase e m X.env (eval e X.env) = eval e X.env := by rfl) : DE cl s0 X (.Attribute e m pos) (dProp c F te) :=
  let ⟨_, _, _, G, hc, hm, hb⟩ := C.is; let ⟨_, p1, v1⟩ := ho; ⟨_, pe_prop p1 hc hm G hr hb .nil (passL (X := X.nox)) hab, ev_prop v1⟩

/-! ### methods of lists and texts -/
def okList (o : D) (m : Mu) : Prop := match o with
  | .hd k => Sm (m k) (lstC fun _ => True)
  | .lst _ => True
  | _ => False
def appD (o : D) (ds : List D) (m : Mu) (Φ : DK) : Prop := match o, ds with
  | .hd k, [d] => Sm (m k) (lstC fun xs => xs.length < sizeLine ∧ Φ (.v .non) (setMu m k (.lst (xs ++ [d]))))
  | _, _ => False
def popD (o : D) (m : Mu) (Φ : DK) : Prop := match o with
  | .hd k => Sm (m k) (lstC fun xs => Lst xs fun ys d => Φ d (setMu m k (.lst ys)))
  | _ => False
def dApp (to : DTE) (t : DTA) : DTE := fun r m Φ => to r m fun o m1 => okList o m1 ∧ t r m1 fun ds m2 => appD o ds m2 Φ
def dPop (to : DTE) : DTE := fun r m Φ => to r m fun o m1 => popD o m1 Φ
theorem okList_ty {K : PySem.W.Frag} {s : Sn} {d : D} {v : V} (g : Good cl s) (h : okList d s.mu) (r : Rep cl s d v) : tyV K "list" v s.H := by
  unfold okList at h
  split at h
  · obtain ⟨xs, hk, _⟩ := lst_to h
    cases r with
    | hd hlt =>
      obtain ⟨vs, h1, _⟩ := g.ct _ _ (Sn.mu_al hk).1
      exact .inl ⟨rfl, _, SqL.of h1⟩
  · cases r with
    | lst n1 h1 r1 => exact .inl ⟨rfl, _, SqL.of h1⟩
  · exact h.elim
theorem ev_app {K : PySem.W.Frag} {tt : TE} {ta : TA} (ho : EvD cl s0 tt to) (h : EvA cl s0 ta tds) : EvD cl s0 (tBM K "list" rAppend tt ta) (dApp to tds) :=
  ⟨fun s σ r Φ Q g w l q k => ho.run s σ r _ _ g w l q fun d x s1 l1 g1 rx q1 => ⟨okList_ty g1 q1.1 rx, h.run s1 σ r _ _ g1 (w.mono l1) (l.trans l1) q1.2 fun ds vs s2 l2 g2 r2 q2 => by
    unfold appD at q2
    split at q2
    · rename_i kk d'
      obtain ⟨xs, hk, hz, q2⟩ := lst_to q2
      obtain ⟨hal, hvis⟩ := Sn.mu_al hk
      have rx2 := rx.mono l2
      cases rx2 with
      | hd hlt =>
        obtain ⟨us, h1, r1⟩ := g2.ct _ _ hal
        cases r2 with
        | cons ry rn =>
          cases rn
          refine ⟨_, us, _, rfl, rfl, h1, by rw [← r1.length]; exact hz, ?_⟩
          rename_i yv
          have lp : Le s2 (s2.put kk (.lst (us ++ [yv])) (.lst (xs ++ [d']))) := Le.put hal hvis
          exact k _ _ (s2.put kk (.lst (us ++ [yv])) (.lst (xs ++ [d']))) ((l1.trans l2).trans lp) (g2.put hal hvis ⟨_, upd_same, (r1.append (.cons ry .nil)).mono lp⟩) (.v _) (by rw [put_mu hvis]; exact q2)
    · exact q2.elim⟩⟩
theorem ev_pop {K : PySem.W.Frag} {tt : TE} (ho : EvD cl s0 tt to) : EvD cl s0 (tBM0 K "list" rPop tt) (dPop to) :=
  ⟨fun s σ r Φ Q g w l q k => ho.run s σ r _ _ g w l q fun d x s1 l1 g1 rx q1 => by
    unfold popD at q1
    split at q1
    · rename_i kk
      obtain ⟨xs, hk, q1⟩ := lst_to q1
      obtain ⟨ys, y, e, q1⟩ := q1.to
      have hy : xs[xs.length - 1]? = some y := by
        rw [e, List.length_append, List.length_singleton, Nat.add_sub_cancel, List.getElem?_append_right (Nat.le_refl _), Nat.sub_self]
        rfl
      have q1 : Φ y (setMu s1.mu kk (.lst xs.dropLast)) := by rw [e, List.dropLast_concat]; exact q1
      obtain ⟨hal, hvis⟩ := Sn.mu_al hk
      cases rx with
      | hd hlt =>
        obtain ⟨us, h1, r1⟩ := g1.ct _ _ hal
        obtain ⟨yv, h2, ry⟩ := r1.get hy
        refine ⟨.inl ⟨rfl, _, SqL.of h1⟩, _, us, yv, rfl, rfl, h1, by rw [← r1.length]; exact h2, ?_⟩
        have lp : Le s1 (s1.put kk (.lst us.dropLast) (.lst xs.dropLast)) := Le.put hal hvis
        exact k _ _ (s1.put kk (.lst us.dropLast) (.lst xs.dropLast)) (l1.trans lp) (g1.put hal hvis ⟨_, upd_same, r1.dropLast.mono lp⟩) (ry.mono lp) (by rw [put_mu hvis]; exact q1)
    · exact q1.elim⟩
theorem de_append (ho : DE cl s0 X o to) (ha : DA cl s0 X (e :: es) tds)
    (hbase : attributeBase o "append" X.env (eval o X.env) = eval o X.env := by rfl)
    (hfew : ((backTo pos (starEach (e :: es) X.env)).all (fun x => !x.1) && (backToKw pos (keywordEach [] X.env)).all (fun x => x.1.isSome)
      && decide ((e :: es).length + ([] : List Keyword).length + (if ([] : List Keyword).isEmpty then 0 else 1) < 30)) = true := by rfl)
    (hline : (apos.endLine == pos.line) = true := by rfl) (hs : starEach (e :: es) X.env = (false, eval e X.env) :: starEach es X.env := by rfl) (hplain : (backTo pos (starEach es X.env)).any (·.1) = false := by rfl) :
    DE cl s0 X (.Call (.Attribute o "append" apos) (e :: es) [] pos) (dApp to tds) :=
  let ⟨_, p1, v1⟩ := ho; let ⟨_, p2, v2⟩ := ha; ⟨_, pe_bm PySem.F.plainAttrs_list PySem.F.slot_list_append PySem.F.type_list_append mt_append p1 p2 hbase hfew hline hs hplain, ev_app v1 v2⟩
theorem de_pop (ho : DE cl s0 X o to) (hbase : attributeBase o "pop" X.env (eval o X.env) = eval o X.env := by rfl) (hline : (apos.endLine == pos.line) = true := by rfl) :
    DE cl s0 X (.Call (.Attribute o "pop" apos) [] [] pos) (dPop to) :=
  let ⟨_, p1, v1⟩ := ho; ⟨_, pe_bm0 PySem.F.plainAttrs_list PySem.F.slot_list_pop PySem.F.type_list_pop mt_pop p1 hbase hline, ev_pop v1⟩
end
end ER

namespace ER
open PySem PySem.Spec PyProof.Rows L2
open AutoSeq1 (wpAny_loadPart')
abbrev Decl (B : Builtin) : Prop := ∀ (a : Int) (t : Tok) (l C dx : Addr), Meets (B ⟨[.int a t, .ref l], []⟩) (fun _ R s => s.heap.get? l = some (PySem.W.instObj C dx) ∧ R (.ok (.ret Value.notImplemented)) s)
theorem no_add : Decl Builtin.«int.__add__» := fun a t l C dx => .of_wp fun prog w A R s h => by obtain ⟨hp, g, d, tk, os⟩ := s; obtain ⟨hl, h⟩ := h; unfold PySem.W.instObj at hl; wp_walk using wpAny_loadPart' hl; exact ⟨_, rfl, h⟩
theorem no_sub : Decl Builtin.«int.__sub__» := fun a t l C dx => .of_wp fun prog w A R s h => by obtain ⟨hp, g, d, tk, os⟩ := s; obtain ⟨hl, h⟩ := h; unfold PySem.W.instObj at hl; wp_walk using wpAny_loadPart' hl; exact ⟨_, rfl, h⟩
theorem no_mul : Decl Builtin.«int.__mul__» := fun a t l C dx => .of_wp fun prog w A R s h => by obtain ⟨hp, g, d, tk, os⟩ := s; obtain ⟨hl, h⟩ := h; unfold PySem.W.instObj at hl; wp_walk using wpAny_loadPart' hl; exact ⟨_, rfl, h⟩
theorem no_and : Decl Builtin.«int.__and__» := fun a t l C dx => .of_wp fun prog w A R s h => by obtain ⟨hp, g, d, tk, os⟩ := s; obtain ⟨hl, h⟩ := h; unfold PySem.W.instObj at hl; wp_walk using wpAny_loadPart' hl; exact ⟨_, rfl, h⟩
theorem no_or : Decl Builtin.«int.__or__» := fun a t l C dx => .of_wp fun prog w A R s h => by obtain ⟨hp, g, d, tk, os⟩ := s; obtain ⟨hl, h⟩ := h; unfold PySem.W.instObj at hl; wp_walk using wpAny_loadPart' hl; exact ⟨_, rfl, h⟩

/-- an int's own sign, beside an object: it declines -/
structure IntOp (op : Operator) where
  id : String
  B : Builtin
  slot : Slot "int" (PySem.dunder op.info.2) id
  fills : fillsNumberSlot (.type "int") op.info.2 = pure true
  entry : entryFor table id = some B
  args : ∀ a b : Value, argsOk id ⟨[a, b], []⟩
  no : Decl B
def ioAdd : IntOp .Add := ⟨_, _, F.slot_int_add, F.fills_int_add, F.entry_int_add, F.args_int_add_2, no_add⟩
def ioSub : IntOp .Sub := ⟨_, _, F.slot_int_sub, F.fills_int_sub, F.entry_int_sub, F.args_int_sub_2, no_sub⟩
def ioMul : IntOp .Mult := ⟨_, _, F.slot_int_mul, F.fills_int_mul, F.entry_int_mul, F.args_int_mul_2, no_mul⟩
def ioAnd : IntOp .BitAnd := ⟨_, _, F.slot_int_and, F.fills_int_and, F.entry_int_and, F.args_int_and_2, no_and⟩
def ioOr : IntOp .BitOr := ⟨_, _, F.slot_int_or, F.fills_int_or, F.entry_int_or, F.args_int_or_2, no_or⟩
section
variable {prog : Program} {w : World} {A : Around} {E : Value → Shared → Prop} {s : Shared} {K : PySem.W.Frag} {x C dx L f g : Addr} {h₀ : Heap} {m : Str → Option Value} {od : Option Obj}
open PySem.W in
theorem bin_refl {op : Operator} {i : Int} {t : Tok} {Q : Value → Shared → Prop} (F : Fr h₀ L s.heap m) (X₀ : K.In h₀) (I : InstAt s.heap x (instObj C dx) C od) (hc : selfFirst K C = true) (io : IntOp op)
    (hs : findIn K (.ref C) (PySem.dunder op.info.2) = some (some (.ref f))) (hr : findIn K (.ref C) (dunderR op.info.2) = some (some (.ref g))) (hg : isFn K (.ref g) = true) (hsub : subIn K (.ref C) (.type "int") = some false)
    (h : wpAny (model prog w) A (call (.ref g) [.ref x, .int i t]) (PySem.W.CmpBack Q) E s) : wpAny (model prog w) A (binaryOp op (.int i t) (.ref x)) Q E s := by
  have X := X₀.keeps F.keep
  obtain ⟨cd, rest, hcd, hm⟩ := ksp_first hc
  have io1 := io
  obtain ⟨id, B, slot, fills, entry, args, no⟩ := io
  rcases hi : op.info with ⟨sym, nm'⟩
  rw [hi] at hs hr fills slot
  dsimp only at hs hr fills slot
  have one := ksp_try X I hr hg h
  have L3 : Looks (model prog w) s.heap (fillsNumberSlot (.ref C) nm') true := fills_K X hcd hm hs
  have L5 : Looks (model prog w) s.heap (isSubtype (.ref C) (.type "int")) false := looks_subIn X hsub
  have hne : (Value.type "int" == Value.ref C) = false := Bool.eq_false_iff.mpr fun q => by cases beq_iff_eq.mp q
  simp only [binaryOp, hi]
  refine wpAny_holding (wpAny_bind ?_)
  unfold binaryOp1
  refine wpAny_bind (wpAny_typeOf (typeIs_int s i t) (wpAny_bind (I.type.here (wpAny_bind (wpAny_of_eq fills ?_)))))
  simp only [hne, Bool.false_eq_true, if_false]
  refine wpAny_bind (L3.here ?_)
  simp only [Bool.and_self, if_true]
  refine wpAny_bind (L5.here ?_)
  have hpy : numberSlotInPython (.type "int") nm' = pure false := rfl
  simp only [Bool.false_eq_true, if_false, pure_bind, Bool.not_false, Bool.and_self, if_true, hpy]
  refine wpAny_bind (wpAny_tryMethod_declines (typeIs_int s i t) slot (call_meets slot (typeIs_int s i t) entry (args _ _) (no i t x C dx) ⟨I.at_, rfl, ?_⟩))
  dsimp only
  refine wpAny_bind (wpAny_mono one (fun r s' hr' => ?_) fun _ _ e => e)
  obtain ⟨v, rfl, hq⟩ := hr'
  exact wpAny_bind (wpAny_rule (wpAny_pure (wpAny_pure hq)))
end

/-! ### an own sign at work -/
/-- what a class's sign asks of the text: the def at f for x op y, at g for y op x -/
structure OwnOp (K : PySem.W.Frag) (C : Addr) (op : Operator) (f : Addr) : Prop where
  sf : PySem.W.selfFirst K C = true
  s : PySem.W.findIn K (.ref C) (PySem.dunder op.info.2) = some (some (.ref f))
  fn : PySem.W.isFn K (.ref f) = true
structure OwnOpI (K : PySem.W.Frag) (C : Addr) (op : Operator) : Prop where
  r : ∃ rc, PySem.W.findIn K (.ref C) (dunderR op.info.2) = some rc ∧ (rc = none ∨ ∃ g : Addr, rc = some (.ref g))
  t : ∃ fo ro, PySem.W.findIn K (.type "int") (PySem.dunder op.info.2) = some fo ∧ PySem.W.findIn K (.type "int") (dunderR op.info.2) = some ro
  sub : PySem.W.subIn K (.type "int") (.ref C) = some false
structure OwnOpR (K : PySem.W.Frag) (C : Addr) (op : Operator) (g : Addr) : Prop where
  r : PySem.W.findIn K (.ref C) (dunderR op.info.2) = some (some (.ref g))
  fn : PySem.W.isFn K (.ref g) = true
  sub : PySem.W.subIn K (.ref C) (.type "int") = some false
section
variable {X : Cx} {C f g : Addr} {op : Operator} {k : Nat} {fd : FuncData} {ps : List Str} {sp : Sp} {E : XK}
theorem inst_of {pins : List (Addr × Obj)} {s : Shared} {σ : L2.St} {H : Hp} {a dx : Addr} {fs : List (Str × V)} (I : Inv X pins σ H s) (e : H a = some (.ins C dx fs)) : ∃ od, PySem.W.InstAt s.heap a (PySem.W.instObj C dx) C (some od) := by
  obtain ⟨mA, O, _⟩ := ins_get I.hok e
  obtain ⟨od, J, _⟩ := O.look
  exact ⟨od, J⟩
def rOwnL (C : Addr) (sp : Sp) (E : XK) : R2 := fun x y H Q => ∃ a dx fs b dy gs, x = .ref a ∧ H a = some (.ins C dx fs) ∧ y = .ref b ∧ H b = some (.ins C dy gs) ∧ sp [x, y] H Q E
def rOwnI (C : Addr) (sp : Sp) (E : XK) : R2 := fun x y H Q => ∃ a dx fs i, x = .ref a ∧ H a = some (.ins C dx fs) ∧ y = .int i ∧ sp [x, y] H Q E
def rOwnR (C : Addr) (sp : Sp) (E : XK) : R2 := fun x y H Q => ∃ a dx fs i, y = .ref a ∧ H a = some (.ins C dx fs) ∧ x = .int i ∧ sp [y, x] H Q E
theorem op_ownL (O : OwnOp X.K C op f) (F : FnOk X.prog X.w X.K X.mg X.base (L2.CX X.prog X.w) k f fd ps sp) (hr : Room k X.A) (hb : Binds X.K fd ps []) (hx : Passes (L2.CX X.prog X.w) X E) : OpR X (binaryOp op) (rOwnL C sp E) := by
  intro pins s σ H x y v u Q I rx ry h
  obtain ⟨a, dx, fs, b, dy, gs, rfl, ea, rfl, eb, q⟩ := h
  cases (show v = Value.ref a from rx)
  cases (show u = Value.ref b from ry)
  obtain ⟨od, J⟩ := inst_of I ea
  obtain ⟨od', J'⟩ := inst_of I eb
  obtain ⟨m, hF⟩ := I.fr
  refine PySem.W.binop_K hF I.ok.mod.kin J J'.type O.sf O.s O.fn ?_
  refine wpAny_mono (run_fn (us := [.ref a, .ref b]) (vs := [.ref a, .ref b]) F hr hb .nil hx I (.cons rfl (.cons rfl .nil)) q) (fun w s' z => ?_) fun _ _ x => x
  obtain ⟨z', H', I', rz, qz⟩ := z
  exact SlX.cmpback rz ⟨z', H', I', rz, qz⟩
theorem op_ownI (O : OwnOp X.K C op f) (O' : OwnOpI X.K C op) (F : FnOk X.prog X.w X.K X.mg X.base (L2.CX X.prog X.w) k f fd ps sp) (hr : Room k X.A) (hb : Binds X.K fd ps []) (hx : Passes (L2.CX X.prog X.w) X E) : OpR X (binaryOp op) (rOwnI C sp E) := by
  intro pins s σ H x y v u Q I rx ry h
  obtain ⟨a, dx, fs, i, rfl, ea, rfl, q⟩ := h
  cases (show v = Value.ref a from rx)
  obtain ⟨t, rfl⟩ := (show ∃ t, u = Value.int i t from ry)
  obtain ⟨od, J⟩ := inst_of I ea
  obtain ⟨m, hF⟩ := I.fr
  obtain ⟨rc, hrc, hp⟩ := O'.r
  obtain ⟨fo, ro, h1, h2⟩ := O'.t
  refine PySem.W.ksp_binT (T := "int") hF I.ok.mod.kin J rfl O.sf O.s O.fn hrc hp h1 h2 O'.sub ?_
  refine wpAny_mono (run_fn (us := [.ref a, .int i t]) (vs := [.ref a, .int i]) F hr hb .nil hx I (.cons rfl (.cons ⟨t, rfl⟩ .nil)) q) (fun w s' z => ?_) fun _ _ x => x
  obtain ⟨z', H', I', rz, qz⟩ := z
  exact SlX.cmpback rz ⟨z', H', I', rz, qz⟩
theorem op_ownR {f0 : Addr} (O : OwnOp X.K C op f0) (O' : OwnOpR X.K C op f) (io : IntOp op) (F : FnOk X.prog X.w X.K X.mg X.base (L2.CX X.prog X.w) k f fd ps sp) (hr : Room k X.A) (hb : Binds X.K fd ps []) (hx : Passes (L2.CX X.prog X.w) X E) : OpR X (binaryOp op) (rOwnR C sp E) := by
  intro pins s σ H x y v u Q I rx ry h
  obtain ⟨a, dx, fs, i, rfl, ea, rfl, q⟩ := h
  cases (show u = Value.ref a from ry)
  obtain ⟨t, rfl⟩ := (show ∃ t, v = Value.int i t from rx)
  obtain ⟨od, J⟩ := inst_of I ea
  obtain ⟨m, hF⟩ := I.fr
  refine bin_refl hF I.ok.mod.kin J O.sf io O.s O'.r O'.fn O'.sub ?_
  refine wpAny_mono (run_fn (us := [.ref a, .int i t]) (vs := [.ref a, .int i]) F hr hb .nil hx I (.cons rfl (.cons ⟨t, rfl⟩ .nil)) q) (fun w s' z => ?_) fun _ _ x => x
  obtain ⟨z', H', I', rz, qz⟩ := z
  exact SlX.cmpback rz ⟨z', H', I', rz, qz⟩
/-- ~x -/
structure OwnUn (K : PySem.W.Frag) (C : Addr) (f : Addr) : Prop where
  s : PySem.W.findIn K (.ref C) "__invert__" = some (some (.ref f))
  fn : PySem.W.isFn K (.ref f) = true
def rOwnU (C : Addr) (sp : Sp) (E : XK) : V → Hp → VK → Prop := fun x H Q => ∃ a dx fs, x = .ref a ∧ H a = some (.ins C dx fs) ∧ sp [x] H Q E
theorem un_own (O : OwnUn X.K C f) (F : FnOk X.prog X.w X.K X.mg X.base (L2.CX X.prog X.w) k f fd ps sp) (hr : Room k X.A) (hb : Binds X.K fd ps []) (hx : Passes (L2.CX X.prog X.w) X E) : UnR X (unaryOp .Invert) (rOwnU C sp E) := by
  intro pins s σ H x v Q I rx h
  obtain ⟨a, dx, fs, rfl, ea, q⟩ := h
  cases (show v = Value.ref a from rx)
  obtain ⟨od, J⟩ := inst_of I ea
  obtain ⟨m, hF⟩ := I.fr
  refine PySem.W.ksp_inv hF I.ok.mod.kin J O.s O.fn ?_
  exact run_fn (us := [.ref a]) (vs := [.ref a]) F hr hb .nil hx I (.cons rfl .nil) q
end

/-! ### the same over data -/
/-- x op y, one of them an object of class c: its def answers -/
def ownD (c : Nat) (F FR : DFn) (f : D → D → Mu → DK → Prop) : D → D → Mu → DK → Prop := fun x y m Φ => match x, y with
  | .obj c1 ns xs, .obj c2 ns2 xs2 => (c1 = c ∧ c2 = c) ∧ Go F [.obj c1 ns xs, .obj c2 ns2 xs2] m Φ noX
  | .obj c1 ns xs, .v (.int i) => c1 = c ∧ Go F [.obj c1 ns xs, .v (.int i)] m Φ noX
  | .v (.int i), .obj c1 ns xs => c1 = c ∧ Go FR [.obj c1 ns xs, .v (.int i)] m Φ noX
  | x, y => f x y m Φ
section
variable {cl : Nat → Addr} {s0 : Sn} {X : Cx} {a b : Expr} {ta tb : DTE} {pos : Pos} {c k : Nat} {F FR : DFn} {op : Operator}
/-- a class has the sign op, its defs keep F (x op y) and FR (y op x) -/
structure SignOk (P : Program) (w : World) (K : PySem.W.Frag) (mg : Str → Option Value) (base : Heap) (cl : Nat → Addr) (op : Operator) (c : Nat) (k : Nat) (F FR : DFn) : Prop where
  l : ∃ f fd, OwnOp K (cl c) op f ∧ FnD P w K mg base cl k f fd ["self", "other"] F ∧ Binds K fd ["self", "other"] []
  i : OwnOpI K (cl c) op
  r : ∃ f fd, OwnOpR K (cl c) op f ∧ FnD P w K mg base cl k f fd ["self", "other"] FR ∧ Binds K fd ["self", "other"] []
def rOwnA (C : Addr) (sp spR : Sp) (r : R2) : R2 := fun x y H Q => rOwnL C sp E0 x y H Q ∨ rOwnI C sp E0 x y H Q ∨ rOwnR C spR E0 x y H Q ∨ r x y H Q
theorem opd_own {r : R2} {f : D → D → Mu → DK → Prop} (h : OpD cl r f) : OpD cl (rOwnA (cl c) (spD cl 2 F) (spD cl 2 FR) r) (ownD c F FR f) := fun s x y dx dy Φ Q g rx ry q k => by
  unfold ownD at q
  split at q
  · obtain ⟨⟨rfl, rfl⟩, q⟩ := q
    have rx0 := rx
    have ry0 := ry
    cases rx with
    | obj n1 h1 z1 r1 => cases ry with
      | obj n2 h2 z2 r2 => exact .inl ⟨_, _, _, _, _, _, rfl, h1, rfl, h2, s, _, Φ, noX, rfl, g, .cons rx0 (.cons ry0 .nil), rfl, q.un, k, fun _ _ _ _ _ _ _ _ z => z.elim⟩
  · obtain ⟨rfl, q⟩ := q
    have rx0 := rx
    cases ry
    cases rx with
    | obj n1 h1 z1 r1 => exact .inr (.inl ⟨_, _, _, _, rfl, h1, rfl, s, _, Φ, noX, rfl, g, .cons rx0 (.cons (.v _) .nil), rfl, q.un, k, fun _ _ _ _ _ _ _ _ z => z.elim⟩)
  · obtain ⟨rfl, q⟩ := q
    have ry0 := ry
    cases rx
    cases ry with
    | obj n1 h1 z1 r1 => exact .inr (.inr (.inl ⟨_, _, _, _, rfl, h1, rfl, s, _, Φ, noX, rfl, g, .cons ry0 (.cons (.v _) .nil), rfl, q.un, k, fun _ _ _ _ _ _ _ _ z => z.elim⟩))
  · exact .inr (.inr (.inr (h s x y dx dy Φ Q g rx ry q k)))
theorem de_own {r : R2} {f : D → D → Mu → DK → Prop} (S : SignOk X.prog X.w X.K X.mg X.base cl op c k F FR) (io : IntOp op) (hr : Room k X.A) (ho : OpR X (binaryOp op) r) (hd : OpD cl r f) (ha : DE cl s0 X a ta) (hb : DE cl s0 X b tb) : DE cl s0 X (.BinOp a op b pos) (dOp (ownD c F FR f) ta tb) :=
  let ⟨_, _, O, G, hbl⟩ := S.l; let ⟨_, _, O', G', hbr⟩ := S.r
  de_bin (OpR.or (op_ownL O G hr hbl passL) (OpR.or (op_ownI O S.i G hr hbl passL) (OpR.or (op_ownR O O' io G' hr hbr passL) ho))) (opd_own hd) ha hb
theorem de_addO (S : SignOk X.prog X.w X.K X.mg X.base cl .Add c k F FR) (hr : Room k X.A) (ha : DE cl s0 X a ta) (hb : DE cl s0 X b tb) : DE cl s0 X (.BinOp a .Add b pos) (dOp (ownD c F FR addD) ta tb) := de_own S ioAdd hr opR_add opd_add ha hb
theorem de_subO (S : SignOk X.prog X.w X.K X.mg X.base cl .Sub c k F FR) (hr : Room k X.A) (ha : DE cl s0 X a ta) (hb : DE cl s0 X b tb) : DE cl s0 X (.BinOp a .Sub b pos) (dOp (ownD c F FR subD) ta tb) := de_own S ioSub hr op_sub opd_int0 ha hb
theorem de_mulO (S : SignOk X.prog X.w X.K X.mg X.base cl .Mult c k F FR) (hr : Room k X.A) (ha : DE cl s0 X a ta) (hb : DE cl s0 X b tb) : DE cl s0 X (.BinOp a .Mult b pos) (dOp (ownD c F FR mulD) ta tb) := de_own S ioMul hr opR_mul opd_int ha hb
end
end ER

namespace ER
open PySem PySem.Spec PyProof.Rows L2

section
variable {cl : Nat → Addr} {s0 : Sn} {X : Cx} {a b c : Expr} {ta tb tc : DTE} {pos : Pos}
/-! ### a chain of two comparisons -/
theorem ev_chain {r r' : R2} {f f' : D → D → Mu → DK → Prop} {ra rb rc : TE} (h : OpD cl r f) (h' : OpD cl r' f') (ha : EvD cl s0 ra ta) (hb : EvD cl s0 rb tb) (hc : EvD cl s0 rc tc) : EvD cl s0 (tChain r r' ra rb rc) (dChain f f' ta tb tc) := by
  refine ⟨fun s σ ρ Φ Q g e l q k => ha.run s σ ρ _ _ g e l q fun dx x s1 l1 g1 rx q1 => hb.run s1 σ ρ _ _ g1 (e.mono l1) (l.trans l1) q1 fun dy y s2 l2 g2 ry q2 =>
    h s2 x y dx dy _ _ g2 (rx.mono l2) ry q2 fun d v s3 l3 g3 rv q3 => ?_⟩
  unfold boolD at q3
  split at q3
  · rename_i u
    cases rv
    refine ⟨u, rfl, ?_⟩
    cases u with
    | true =>
      refine hc.run s3 σ ρ _ _ g3 (((e.mono l1).mono l2).mono l3) (((l.trans l1).trans l2).trans l3) q3.tt fun dz z s4 l4 g4 rz q4 => ?_
      exact h' s4 y z dy dz Φ Q g4 ((ry.mono l3).mono l4) rz q4 fun d v s5 l5 => k d v s5 ((((l1.trans l2).trans l3).trans l4).trans l5)
    | false => exact k _ _ s3 ((l1.trans l2).trans l3) g3 (.v _) q3.ff
  · exact q3.elim
theorem de_chain {op op' : CmpOp} {r r' : R2} {f f' : D → D → Mu → DK → Prop} (ho : OpR X (compareOp op) r) (hd : OpD cl r f) (ho' : OpR X (compareOp op') r') (hd' : OpD cl r' f') (ha : DE cl s0 X a ta) (hb : DE cl s0 X b tb) (hc : DE cl s0 X c tc)
    (hm : lastMarks [op, op'] [b, c] = false := by with_unfolding_all rfl) : DE cl s0 X (.Compare a [op, op'] [b, c] pos) (dChain f f' ta tb tc) :=
  let ⟨_, pa, ea⟩ := ha; let ⟨_, pb, eb⟩ := hb; let ⟨_, pc, ec⟩ := hc; ⟨_, pe_chain ho ho' pa pb pc hm, ev_chain hd hd' ea eb ec⟩
theorem de_lele (ha : DE cl s0 X a ta) (hb : DE cl s0 X b tb) (hc : DE cl s0 X c tc) (hm : lastMarks [.LtE, .LtE] [b, c] = false := by with_unfolding_all rfl) : DE cl s0 X (.Compare a [.LtE, .LtE] [b, c] pos) (dChain leD leD ta tb tc) := de_chain opR_le opd_ord opR_le opd_ord ha hb hc hm
theorem de_lelt (ha : DE cl s0 X a ta) (hb : DE cl s0 X b tb) (hc : DE cl s0 X c tc) (hm : lastMarks [.LtE, .Lt] [b, c] = false := by with_unfolding_all rfl) : DE cl s0 X (.Compare a [.LtE, .Lt] [b, c] pos) (dChain leD ltD ta tb tc) := de_chain opR_le opd_ord opR_lt opd_ord ha hb hc hm

/-! ### isinstance of an own class -/
structure IsC (K : PySem.W.Frag) (C : Addr) : Prop where
  cls : Cls K C
  ha : PySem.W.findIn K (.ref C) "__class__" = some (some (.builtin "object.__class__"))
  hn : PySem.W.specialIn K (.builtin "object.__class__") "__get__" = some (some (.builtin "getset_descriptor.__get__"))
  ht : PySem.W.takesIn K (.builtin "object.__class__") = some true
  hm : PySem.W.mroIn K C (.type "object") = some true
  no : ∀ T ∈ (["NoneType", "bool", "int", "str", "list", "tuple", "dict"] : List String), PySem.W.kitOne K (.type T) (.ref C) = some false
/-- whether it is an object of class c: yes and no for the data that is named here -/
def isCD (c : Nat) : D → Option Bool
  | .obj c' _ _ => if c' = c then some true else none
  | .v .non => some false
  | .v (.bl _) => some false
  | .v (.int _) => some false
  | .v (.str _) => some false
  | .lst _ => some false
  | .tup _ => some false
  | .scr _ => some false
  | .dct _ _ => some false
  | _ => none
def isiD (cl : Nat → Addr) (c : Nat) (ds : List D) (m : Mu) (Φ : DK) : Prop := match ds with
  | [x, .v (.ref a)] => a = cl c ∧ Sm (isCD c x) fun b => Φ (.v (.bl b)) m
  | _ => False
theorem cad_isi {K : PySem.W.Frag} {c : Nat} (T : IsC K (cl c)) : CaD cl (rIsi K) (isiD cl c) := fun s xs ds Φ Q g r h k => by
  unfold isiD at h
  split at h
  · obtain ⟨rfl, h⟩ := h
    obtain ⟨b, hb, h⟩ := h.to
    cases r with
    | cons r1 r2 => cases r2 with
      | cons r3 r4 =>
        cases r4
        cases r3
        have no := fun T' hT' => T.no T' hT'
        have fin : ∀ (x : V) (t : Value) (u : Bool), b = u → TyX K s.H x t → PySem.W.kitOne K t (.ref (cl c)) = some u → rIsi K [x, .ref (cl c)] s.H Q := fun x t u e ty hk => by
          subst e
          exact ⟨x, _, t, _, b, rfl, .own _, ty, hk, k _ _ s (Le.refl s) g (.v _) h⟩
        unfold isCD at hb
        split at hb
        · split at hb
          · rename_i e
            subst e
            cases hb
            cases r1 with
            | obj n1 h1 z1 r5 => exact fin _ _ true rfl (.base (.ins h1 T.cls T.ha T.hn T.ht T.hm)) (by unfold PySem.W.kitOne; rw [if_pos (beq_self_eq_true _)])
          · cases hb
        · cases hb; cases r1; exact fin _ _ false rfl (.base .non) (no _ (by decide))
        · cases hb; cases r1; exact fin _ _ false rfl (.base (.bl _)) (no _ (by decide))
        · cases hb; cases r1; exact fin _ _ false rfl (.base (.int _)) (no _ (by decide))
        · cases hb; cases r1; exact fin _ _ false rfl (.base (.str _)) (no _ (by decide))
        · cases hb
          cases r1 with
          | lst n1 h1 r5 => exact fin _ _ false rfl (.base (.lst h1)) (no _ (by decide))
        · cases hb
          cases r1 with
          | tup n1 h1 r5 => exact fin _ _ false rfl (.base (.tup h1)) (no _ (by decide))
        · cases hb
          cases r1 with
          | scr n1 h1 => exact fin _ _ false rfl (.base (.frz h1)) (no _ (by decide))
        · cases hb
          cases r1 with
          | dct n1 h1 z1 r5 => exact fin _ _ false rfl (.base (.dK h1)) (no _ (by decide))
        · cases hb
  · exact h.elim
variable {c' : Nat} {e : Expr} {es : List Expr} {tds : DTA} {p : Pos}
theorem de_isi (T : IsC X.K (cl c')) (hg : Gl X "isinstance") (hm : X.mg "isinstance" = none) (ha : DA cl s0 X (e :: es) tds) (he : starEach (e :: es) X.env = (false, eval e X.env) :: starEach es X.env := by rfl) (hpl : (backTo pos (starEach es X.env)).any (·.1) = false := by rfl) :
    DE cl s0 X (.Call (.Name "isinstance" p) (e :: es) [] pos) (dCa (isiD cl c') tds) := de_callB call_isi (cad_isi T) hg hm (by decide +kernel) ha (by decide) (by decide) he hpl
end

/-! ### dicts: items, in -/
def getK : List Key → List D → Key → Option D
  | k :: ks, d :: ds, j => if k = j then some d else getK ks ds j
  | _, _, _ => none
section
variable {cl : Nat → Addr} {s : Sn}
theorem valV_zip {j : Key} : ∀ {ks : List Key} {ds : List D} {vs : List V}, Reps cl s ds vs → (∀ d, getK ks ds j = some d → ∃ v, valV (ks.zip vs) j = some v ∧ Rep cl s d v) ∧ (getK ks ds j = none → valV (ks.zip vs) j = none)
  | [], _, _, r => ⟨fun d h => (nomatch h), fun _ => rfl⟩
  | k :: ks, _, _, .nil => ⟨fun d h => (nomatch h), fun _ => rfl⟩
  | k :: ks, _, _, .cons (d := x) (v := u) (vs := vs) h1 r => by
    have ih := valV_zip (j := j) (ks := ks) r
    by_cases e : k = j
    · refine ⟨fun d h => ?_, fun h => ?_⟩
      · unfold getK at h
        rw [if_pos e] at h
        cases h
        exact ⟨u, valV_pos (p := (k, u)) e, h1⟩
      · unfold getK at h
        rw [if_pos e] at h
        cases h
    · have e2 : valV ((k :: ks).zip (u :: vs)) j = valV (ks.zip vs) j := valV_neg (p := (k, u)) e
      refine ⟨fun d h => ?_, fun h => ?_⟩
      · unfold getK at h
        rw [if_neg e] at h
        rw [e2]
        exact ih.1 d h
      · unfold getK at h
        rw [if_neg e] at h
        rw [e2]
        exact ih.2 h
theorem valV_some {j : Key} {ks : List Key} {ds : List D} {vs : List V} (r : Reps cl s ds vs) : (valV (ks.zip vs) j).isSome = (getK ks ds j).isSome := by
  have h := valV_zip (j := j) (ks := ks) r
  cases e : getK ks ds j with
  | none =>
    rw [h.2 e]
    rfl
  | some d =>
    obtain ⟨v, e2, _⟩ := h.1 d e
    rw [e2]
    rfl
end
def keyD : D → Option Key
  | .v (.int i) => some (.inl i)
  | .v (.str z) => some (.inr z)
  | _ => none
theorem keyD_eq {d : D} {k : Key} (h : keyD d = some k) : d = .v (kV k) := by
  unfold keyD at h
  split at h
  · cases h; rfl
  · cases h; rfl
  · cases h
/-- a dict, frozen or in a handle -/
def asDct (d : D) (m : Mu) (Φ : List Key → List D → Prop) : Prop := match d with
  | .dct ks ds => Φ ks ds
  | .hd k => Sm (m k) (dctC Φ)
  | _ => False
theorem asDct_at {cl : Nat → Addr} {s : Sn} {d : D} {v : V} {Φ : List Key → List D → Prop} (g : Good cl s) (r : Rep cl s d v) (h : asDct d s.mu Φ) : ∃ a ks ds vs, v = .ref a ∧ s.H a = some (.dK (ks.zip vs)) ∧ ks.length = vs.length ∧ Reps cl s ds vs ∧ Φ ks ds := by
  unfold asDct at h
  split at h
  · cases r with
    | dct n h1 z r1 => exact ⟨_, _, _, _, rfl, h1, z, r1, h⟩
  · obtain ⟨ks, ds, hk, h⟩ := dct_to h
    cases r with
    | hd hlt =>
      obtain ⟨vs, h1, z, r1⟩ := g.ct _ _ (Sn.mu_al hk).1
      exact ⟨_, _, _, _, rfl, h1, z, r1, h⟩
  · exact h.elim
section
variable {cl : Nat → Addr} {s0 : Sn} {X : Cx} {o i a b : Expr} {to ti ta tb : DTE} {pos : Pos}
def dGet (to ti : DTE) : DTE := fun r m Φ => to r m fun x m1 => ti r m1 fun y m2 => asDct x m2 fun ks ds => Sm (keyD y) fun k => Sm (getK ks ds k) fun d => Φ d m2
theorem de_dget (hu : X.A.units + 1 < cLine) (ho : DE cl s0 X o to) (hi : DE cl s0 X i ti) (hs : NoSl i := by intro _ _; rfl) : DE cl s0 X (.Subscript o i pos) (dGet to ti) :=
  let ⟨_, p1, v1⟩ := ho; let ⟨_, p2, v2⟩ := hi; ⟨_, pe_dget hu p1 p2 hs, ⟨fun s σ r Φ Q g w l q k => v1.run s σ r _ _ g w l q fun x xv s1 l1 g1 rx q1 => v2.run s1 σ r _ _ g1 (w.mono l1) (l.trans l1) q1 fun y yv s2 l2 g2 ry q2 => by
    obtain ⟨a, ks, ds, vs, e, h1, z, r1, q3⟩ := asDct_at g2 (rx.mono l2) q2
    obtain ⟨kk, e1, q3⟩ := q3.to
    obtain ⟨d, e2, q3⟩ := q3.to
    subst e
    rw [keyD_eq e1] at ry
    cases ry
    obtain ⟨u, e3, ru⟩ := (valV_zip r1).1 _ e2
    refine ⟨a, u, rfl, ?_, k d u s2 (l1.trans l2) g2 ru q3⟩
    rw [← e3]
    exact DGet.k h1⟩⟩
/-- in: a sequence of flat things, a dict's keys, a sign in a text -/
def inD (neg : Bool) : D → D → Mu → DK → Prop := fun x y m Φ => match x, y with
  | .v x, .tup ys => ∃ zs : List V, ys = zs.map D.v ∧ flatV x = true ∧ zs.all flatV = true ∧ ngK neg Φ (inV x zs) m
  | .v x, .lst ys => ∃ zs : List V, ys = zs.map D.v ∧ flatV x = true ∧ zs.all flatV = true ∧ ngK neg Φ (inV x zs) m
  | .v x, .dct ks ds => Sm (keyD (.v x)) fun k => ngK neg Φ (getK ks ds k).isSome m
  | .v x, .hd h => (∃ ks ds k, m h = some (.dct ks ds) ∧ keyD (.v x) = some k ∧ ngK neg Φ (getK ks ds k).isSome m) ∨
    ∃ zs : List V, m h = some (.lst (zs.map D.v)) ∧ flatV x = true ∧ zs.all flatV = true ∧ ngK neg Φ (inV x zs) m
  | _, _ => False
def rDIn (neg : Bool) : R2 := fun y x H Q => ∃ a o, x = V.ref a ∧ DGet H a y o ∧ Q (.bl (if neg then !o.isSome else o.isSome)) H
theorem op_din (hu : X.A.units + 1 < cLine) : OpR X (compareOp .In) (rDIn false) := by
  intro pins s σ H x y v u Q I rx ry h
  obtain ⟨a, o, rfl, g, q⟩ := h
  cases ry
  exact d_in hu I g rx fun s3 I3 => ⟨.bl o.isSome, H, I3, rfl, q⟩
theorem op_dnotin (hu : X.A.units + 1 < cLine) : OpR X (compareOp .NotIn) (rDIn true) := by
  intro pins s σ H x y v u Q I rx ry h
  obtain ⟨a, o, rfl, g, q⟩ := h
  cases ry
  exact d_notIn hu I g rx fun s3 I3 => ⟨.bl (!o.isSome), H, I3, rfl, q⟩
theorem opd_in {K : PySem.W.Frag} {neg : Bool} : OpD cl (fun x y H Q => rIn K neg x y H Q ∨ rDIn neg x y H Q) (inD neg) := fun s x y dx dy Φ Q g rx ry q k => by
  unfold inD at q
  split at q
  · obtain ⟨zs, rfl, f1, f2, q⟩ := q
    have q := ngK_if q
    cases rx
    cases ry with
    | tup n h1 r1 =>
      have e := Reps.vals_eq r1
      subst e
      exact .inl ⟨_, _, rfl, .inr (SqT.of h1), f1, f2, k _ _ s (Le.refl s) g (.v _) q⟩
  · obtain ⟨zs, rfl, f1, f2, q⟩ := q
    have q := ngK_if q
    cases rx
    cases ry with
    | lst n h1 r1 =>
      have e := Reps.vals_eq r1
      subst e
      exact .inl ⟨_, _, rfl, .inl (SqL.of h1), f1, f2, k _ _ s (Le.refl s) g (.v _) q⟩
  · obtain ⟨kk, e1, q2⟩ := q.to
    clear q
    have q := q2
    clear q2
    have q := ngK_if q
    cases rx
    cases ry with
    | dct n h1 z r1 =>
      rw [← valV_some r1] at q
      refine .inr ⟨_, _, rfl, ?_, k _ _ s (Le.refl s) g (.v _) q⟩
      cases keyD_eq e1
      exact DGet.k h1
  · rcases q with ⟨ks, ds, kk, hk, e1, q⟩ | ⟨zs, hk, f1, f2, q⟩
    · have q := ngK_if q
      cases rx
      cases ry with
      | hd hlt =>
        obtain ⟨vs, h1, z, r1⟩ := g.ct _ _ (Sn.mu_al hk).1
        rw [← valV_some r1] at q
        refine .inr ⟨_, _, rfl, ?_, k _ _ s (Le.refl s) g (.v _) q⟩
        cases keyD_eq e1
        exact DGet.k h1
    · have q := ngK_if q
      cases rx
      cases ry with
      | hd hlt =>
        obtain ⟨vs, h1, r1⟩ := g.ct _ _ (Sn.mu_al hk).1
        have e := Reps.vals_eq r1
        subst e
        exact .inl ⟨_, _, rfl, .inl (SqL.of h1), f1, f2, k _ _ s (Le.refl s) g (.v _) q⟩
  · exact q.elim
theorem de_in (hu : X.A.units + 1 < cLine) (ha : DE cl s0 X a ta) (hb : DE cl s0 X b tb) (hm : behindInMarks .In b = false := by first | exact nomark _ | rfl | (with_unfolding_all rfl)) : DE cl s0 X (.Compare a [.In] [b] pos) (dOp (inD false) ta tb) := de_cmp (OpR.or op_in_seq (op_din hu)) (opd_in (K := X.K)) ha hb hm
theorem de_notIn (hu : X.A.units + 1 < cLine) (ha : DE cl s0 X a ta) (hb : DE cl s0 X b tb) (hm : behindInMarks .NotIn b = false := by first | exact nomark _ | rfl | (with_unfolding_all rfl)) : DE cl s0 X (.Compare a [.NotIn] [b] pos) (dOp (inD true) ta tb) := de_cmp (OpR.or op_notIn_seq (op_dnotin hu)) (opd_in (K := X.K)) ha hb hm
theorem dt_in (hu : X.A.units + 1 < cLine) (ha : DE cl s0 X a ta) (hb : DE cl s0 X b tb) (hm : behindInMarks .In b = false := by first | exact nomark _ | rfl | (with_unfolding_all rfl)) : DT cl s0 X (.Compare a [.In] [b] pos) (dB (dOp (inD false) ta tb)) := dt_cmp (OpR.or op_in_seq (op_din hu)) (opd_in (K := X.K)) ha hb hm
theorem dt_notIn (hu : X.A.units + 1 < cLine) (ha : DE cl s0 X a ta) (hb : DE cl s0 X b tb) (hm : behindInMarks .NotIn b = false := by first | exact nomark _ | rfl | (with_unfolding_all rfl)) : DT cl s0 X (.Compare a [.NotIn] [b] pos) (dB (dOp (inD true) ta tb)) := dt_cmp (OpR.or op_notIn_seq (op_dnotin hu)) (opd_in (K := X.K)) ha hb hm
end
end ER

namespace ER
open PySem PySem.Spec PyProof.Rows L2

/-! ## defs that show things: no text of a thing is being made around them -/
structure FnG (P : Program) (w : World) (K : PySem.W.Frag) (mg : Str → Option Value) (base : Heap) (k : Nat) (f : Addr) (fd : FuncData) (ps : List Str) (sp : Sp) : Prop where
  len : ∀ vs H Q E, sp vs H Q E → vs.length = ps.length
  go : ∀ (A : Around) (outer : List PySem.Env) (s : Shared) (H : Hp) (args : Args) (us : List Value) (vs : List V) (Q : VK) (E : XK), A.guards = some [] → Room k A → Env0 P w K mg base A outer s H → BindsTo s fd args (ps.zip us) → Vals vs us → sp vs H Q E →
    codeAny (model P w) A (.call (.ref f) args) (CR (L2.CX P w) outer P w H s Q E) s
theorem FnG.of {P : Program} {w : World} {K : PySem.W.Frag} {mg : Str → Option Value} {base : Heap} {k : Nat} {f : Addr} {fd : FuncData} {ps : List Str} {sp : Sp} (F : FnOk P w K mg base (L2.CX P w) k f fd ps sp) : FnG P w K mg base k f fd ps sp :=
  ⟨F.len, fun A outer s H args us vs Q E _ => F.run A outer s H args us vs Q E⟩
section
variable {X : Cx} {k : Nat} {f : Addr} {fd : FuncData} {ps : List Str} {sp : Sp} {E : XK}
theorem FnG.at_ {pins : List (Addr × Obj)} {σ : L2.St} {H : Hp} {s : Shared} {Q : VK} {us : List Value} {vs : List V} (F : FnG X.prog X.w X.K X.mg X.base k f fd ps sp) (hgd : X.A.guards = some []) (hr : Room k X.A) (hb : Binds X.K fd ps [])
    (hx : Passes (L2.CX X.prog X.w) X E) (I : Inv X pins σ H s) (r : Vals vs us) (h : sp vs H Q E) : wpAny (model X.prog X.w) X.A (call (.ref f) us) (EP X pins σ Q) X.xe s := by
  have lu : (us ++ []).length = ps.length := by rw [List.append_nil, ← r.length]; exact F.len _ _ _ _ h
  have bd := hb s us I.kIn lu
  rw [List.append_nil] at bd
  refine wpAny_call (codeAny_mono (F.go X.A X.stack s H ⟨us, []⟩ us vs Q E hgd hr I.env0 bd r h) fun out t ho => ?_)
  rcases out with err | fl
  · exact hx pins σ H s err t I ho
  · rcases fl with u | _ | _ | _
    all_goals first | exact I.after ho | exact False.elim ho
end
/-- such a def, by name -/
structure CalleeG (P : Program) (w : World) (K : PySem.W.Frag) (mg : Str → Option Value) (base : Heap) (cl : Nat → Addr) (x : Str) (k : Nat) (ps : List Str) (F : DFn) : Prop where
  is : ∃ f fd, FnG P w K mg base k f fd ps (spD cl ps.length F) ∧ mg x = some (.ref f) ∧ PySem.W.keepIn K (.ref f) = true ∧ Binds K fd ps []
section
variable {cl : Nat → Addr} {s0 : Sn} {X : Cx} {e : Expr} {es : List Expr} {tds : DTA} {pos p : Pos} {x : Str} {k : Nat} {ps : List Str} {F : DFn}
theorem de_calleeG (C : CalleeG X.prog X.w X.K X.mg X.base cl x k ps F) (hgd : X.A.guards = some []) (hr : Room k X.A) (hg : Gl X x) (ha : DA cl s0 X (e :: es) tds) (hdb : (x == ("__debug__" : Str)) = false := by decide)
    (he : starEach (e :: es) X.env = (false, eval e X.env) :: starEach es X.env := by rfl) (hpl : (backTo pos (starEach es X.env)).any (·.1) = false := by rfl) :
    DE cl s0 X (.Call (.Name x p) (e :: es) [] pos) (dCall ps.length F tds) := by
  obtain ⟨f, fd, G, hm, hk, hb⟩ := C.is
  obtain ⟨ta, pa, v⟩ := ha
  refine ⟨tCall (spD cl ps.length F) [] E0 ta, ⟨fun pins s σ H Q I h => wpAny_Call_Name_kw (ld_glob I hg hm ?_ hdb)⟩, ev_call v⟩
  refine PySem.W.callWith_K (h₀ := X.base) I.ok.mod.kin hk (thn (pa.run pos pins s σ H _ I h) fun us t z => ?_) he hpl
  obtain ⟨vs, H1, J, r, q⟩ := z
  rw [List.append_nil] at q
  exact ⟨J.kIn, G.at_ hgd hr hb passL J r q⟩
end
section
variable {P : Program} {w : World} {K : PySem.W.Frag} {mg : Str → Option Value} {base : Heap} {cl : Nat → Addr} {f : Addr} {fd : FuncData} {ps : List Str} {F : DFn}
theorem bodyG {x qual : Str} {st : Stmt} {N : List Str} {k : Nat} {sp : Sp} (Fu : Fun K x qual st f fd) (S : FnScope N ps (defScope st)) (len : ∀ vs H Q E, sp vs H Q E → vs.length = ps.length)
    (hbody : ∀ (cdv : Value) (A : Around) (outer : List PySem.Env) (s : Shared) (H : Hp) (vs : List V) (Q : VK) (E : XK), A.guards = some [] → Room k (A.deeper (envOfC qual (defScope st) s.heap.objs.size f cdv)) → sp vs H Q E →
      ∃ t, PSs (cxOf (L2.CX P w) P w K mg base N qual (defScope st) f cdv A outer s H E) (defBody st) t ∧ t { nx := fun _ H' => Q .non H', rt := Q } (L2.start N vs) H) : FnG P w K mg base (k + 1) f fd ps sp := by
  obtain ⟨oc, od, kV, doc, pm, an, cdv, ct, osl, e, lk, hcd⟩ := Fu.ex
  subst e
  refine ⟨len, fun A outer s H args us vs Q E hgd hr e0 hb r hsp => ?_⟩
  have nvs := len vs H Q E hsp
  have kin := e0.mod.kin.keeps (fun b u q => And.left (e0.bs b u q))
  have nol := e0.mod.nolimit.keeps (fun b u q => And.left (e0.bs b u q))
  refine codeAny_call_function hr.depth (kin _ _ lk) rfl S.co S.gen rfl (PySem.W.codeRec_of kin hcd) (hb _ _ _ _ (wpAny_newFunctionEnv_cells S.kind ?_ ?_))
  · rintro ⟨n, v⟩ hy
    have q := S.par n (List.of_mem_zip hy).1
    rcases q with q | q
    · exact Or.inl q
    · exact Or.inr ⟨q, PySem.W.cellsFrom_some _ _ _ (Or.inl q)⟩
  · rintro env rfl t hin
    refine ⟨nol.keeps hin.toInCall.keep, codeAny_func ?_⟩
    obtain ⟨tt, pp, hq⟩ := hbody cdv A outer s H vs Q E hgd (hr.deeper _) hsp
    have J := inv_start (CX := L2.CX P w) (E := E) S hr.hd e0 nvs r hin
    refine wpAny_mono (pp.run [] t (L2.start N vs) H _ J hq) (fun out t' ho => ?_) fun _ _ z => z
    rcases out with u | _ | _ | _
    all_goals first
      | (obtain ⟨v, σ', H', L, rv, q⟩ := ho; exact ⟨v, H', L.os, L.bare, L.base, L.hok, rv, q⟩)
      | (obtain ⟨σ', H', L, q⟩ := ho; exact ⟨V.non, H', L.os, L.bare, L.base, L.hok, rfl, q⟩)
      | (obtain ⟨_, _, _, q⟩ := ho; exact False.elim q)
theorem okG {x qual : Str} {st : Stmt} {N : List Str} {k : Nat} (Fu : Fun K x qual st f fd) (S : FnScope N ps (defScope st))
    (hbody : ∀ (cdv : Value) (A : Around) (outer : List PySem.Env) (s : Shared) (H : Hp) (E : XK) (s0 : Sn) (Ξ : DX), A.guards = some [] → Room k (A.deeper (envOfC qual (defScope st) s.heap.objs.size f cdv)) →
      TakesD cl s0 (cxOf (L2.CX P w) P w K mg base N qual (defScope st) f cdv A outer s H E) (fun _ => Ξ) →
      ∃ t, DSs cl s0 (cxOf (L2.CX P w) P w K mg base N qual (defScope st) f cdv A outer s H E) (defBody st) t ∧ ∀ ds m Φ, ds.length = ps.length → F ds m Φ Ξ → t { nx := fun _ m => Φ (.v .non) m, rt := Φ } (startD N ds) m) :
    FnG P w K mg base (k + 1) f fd ps (spD cl ps.length F) := by
  refine bodyG Fu S (fun vs H Q E h => spD_len h) fun cdv A outer s H vs Q E hgd hr h => ?_
  obtain ⟨s1, ds, Φ, Ξ, e1, g, r, hl, hF, hQ, hE⟩ := h
  subst e1
  obtain ⟨t, ⟨tt, pp, v⟩, ht⟩ := hbody cdv A outer s s1.H E s1 Ξ hgd hr ((takes_of rfl rfl rfl rfl).imp fun cls a σ H' ⟨s2, c, d, r2, l2, g2, _, e2, x2, z⟩ => by
    subst e2
    exact hE c d s2 cls a l2 g2 x2 z)
  refine ⟨tt, pp, v.run s1 (L2.start N vs) (startD N ds) _ _ g (env_start r) (Le.refl s1) (ht ds s1.mu Φ hl hF) ⟨fun s2 r2 σ l2 g2 w2 q2 => ?_, fun _ _ _ _ _ _ z => z.elim, fun _ _ _ _ _ _ z => z.elim, fun s2 d v2 l2 g2 r2 q2 => ?_⟩⟩
  · exact hQ (.v .non) .non s2 l2 g2 (.v _) q2
  · exact hQ d v2 s2 l2 g2 r2 q2
end
end ER
namespace ER
open PySem PySem.Spec PyProof.Rows L2
section
variable {P : Program} {w : World} {K : PySem.W.Frag} {mg mb : Str → Option Value} {k : Nat} {fa a : Addr} {fd : FuncData} {x : Str} {sp : Sp} {t : Shared} {vs : List Value} {ns : List Int}
/-- the law's def, called with the script -/
theorem enterG (KX : K.In t.heap) (hns : t.heap.Ns mainGlobals mg) (hb : t.heap.Ns builtinsNs mb) (hbb : ∀ x : Str, x ≠ "__name__" → mb x = bootBuiltins x) (hlim : t.heap.NoLimit) (hg : t.gens = #[])
    (ha : t.heap.get? a = some { cls := .type "list", data := .seq vs.toArray }) (hi : IntsAre vs ns) (hl : ns.length ≤ sizeLine) (hr : Room k callerA)
    (F : ∀ base : Heap, K.In base → base.Ns mainGlobals mg → FnG P w K mg base k fa fd [x] sp) (hbind : ∀ (s : Shared) (u : Value), BindsTo s fd ⟨[u], []⟩ [(x, u)])
    (hsp : ∀ H : Hp, Only H → SqL K H a (ns.map V.int) → sp [.ref a] H (fun v _ => v = .bl true) E0) :
    codeAny (model P w) callerA (.call (.ref fa) ⟨[.ref a], []⟩) (fun r s' => r = .ok (.ret (.bool true)) ∧ OldK t.heap s'.heap ∧ s'.os = t.os ∧ AllBare s'.gens) t := by
  have rv := vals_ints hi
  have main : ∀ H : Hp, Only H → SqL K H a (ns.map V.int) → HOk P w H t.heap → (∀ b, b ≠ a → H b = none) → (K.lookup a = none ∨ H a = none) →
      codeAny (model P w) callerA (.call (.ref fa) ⟨[.ref a], []⟩) (fun r s' => r = .ok (.ret (.bool true)) ∧ OldK t.heap s'.heap ∧ s'.os = t.os ∧ AllBare s'.gens) t := by
    intro H only seq ok other own
    have keepK : ∀ b o, K.lookup b = some o → H b = none := fun b o q => by
      by_cases z : b = a
      · rcases own with y | y
        · rw [z, y] at q; cases q
        · rw [z]; exact y
      · exact other b z
    have keepD : ∀ {b : Addr} {o : Obj} {es : Array DictEntry} {ep : Nat}, t.heap.get? b = some o → o.data = .dict es ep → H b = none := fun {b o es ep} q d => by
      refine other b fun z => ?_
      rw [z, ha] at q
      cases q
      exact absurd d (by intro y; cases y)
    have nsOf : ∀ {b : Addr} {m : Str → Option Value}, t.heap.Ns b m → (hidT t.heap H).Ns b m := fun {b m} z => by
      obtain ⟨o, es, ep, q, d, r⟩ := z
      exact ⟨o, es, ep, hidT_get q (keepD q d), d, r⟩
    have kin : K.In (hidT t.heap H) := fun b o q => hidT_get (KX b o q) (keepK b o q)
    have md : Mod K mg (hidT t.heap H) := by
      obtain ⟨mc, h1, h2⟩ := hlim
      exact ⟨kin, nsOf hns, ⟨mb, nsOf hb, hbb⟩, mc, nsOf h1, h2⟩
    have env : Env0 P w K mg (hidT t.heap H) callerA [] t H :=
      { frames := rfl, mod := md, bs := fun b o q => of_hidT q, bsz := Nat.le_of_eq (hidT_size _ _), funs := trivial, frf := fun b z => (nomatch z), hok := ok, bare := .of_eq hg }
    have run := (F _ kin (nsOf hns)).go callerA [] t H ⟨[.ref a], []⟩ [.ref a] [.ref a] _ _ rfl hr env (hbind t (.ref a)) (.cons rfl .nil) (hsp H only seq)
    refine codeAny_mono run fun r t' z => ?_
    rcases r with err | fl
    · obtain ⟨_, _, _, _, _, _, _, _, _, _, _, _, no⟩ := z
      exact no.elim
    · cases fl with
      | next => exact False.elim z
      | brk => exact False.elim z
      | cont => exact False.elim z
      | ret u =>
        obtain ⟨v, H', os, bare, un, hok', rel, q⟩ := z
        cases (show v = V.bl true from q)
        cases (show u = Value.bool true from rel)
        refine ⟨rfl, OldK.of_keep fun b o q => ?_, os, bare⟩
        cases hb' : H b with
        | none => exact un.keep b o q hb' (fun z => nomatch z) (fun z => nomatch z)
        | some d =>
          rcases only b with z | ⟨ob, xs, z⟩
          · rw [hb'] at z; cases z
          · obtain ⟨q1, _⟩ := ok b _ z
            obtain ⟨q2, _⟩ := hok' b _ (un.frzs b ob _ z)
            rw [q] at q1; cases q1
            exact q2
  cases hk : K.lookup a with
  | some o =>
    have q := KX a o hk
    rw [ha] at q
    cases q
    exact main (fun _ => none) (fun _ => .inl rfl) (.inr ⟨_, vs.toArray, _, hk, rfl, rfl, rfl, by rw [List.size_toArray, hi.length]; exact hl, by simpa using rv⟩) (fun b u z => by cases (show (none : Option HO) = some u from z)) (fun b _ => rfl) (.inr rfl)
  | none =>
    have hit : (fun b : Addr => if b = a then some (HO.frz { cls := .type "list", data := .seq vs.toArray } (.lst (ns.map V.int))) else none) a = some (HO.frz { cls := .type "list", data := .seq vs.toArray } (.lst (ns.map V.int))) := if_pos rfl
    refine main (fun b => if b = a then some (.frz { cls := .type "list", data := .seq vs.toArray } (.lst (ns.map V.int))) else none) (fun b => ?_) (.inl (.inr ⟨_, hit⟩)) (fun b u z => ?_) (fun b z => if_neg z) (.inl hk)
    · by_cases z : b = a
      · exact .inr ⟨_, _, if_pos z⟩
      · exact .inl (if_neg z)
    · by_cases y : b = a
      · cases (if_pos y).symm.trans z
        cases y
        exact ⟨ha, by rw [List.length_map]; exact hl, vs, _, rv, ha⟩
      · cases (if_neg y).symm.trans z
end
theorem walkG {l : PySem.W.OpenLaw} {n k : Nat} {q : Program} {loose : List Str} {XP : (Str → Option Value) → Heap → Prop} {YP : World → Heap → Prop} {d : DefRec} {K : Params → PySem.W.Frag} {sp : World → Sp} {x : Str}
    (hn : l.most = some n) (hn2 : n ≤ sizeLine) (hdf : d.params.defaults = []) (hr : Room k callerA) (hY : ∀ (w : World) (h : Heap), YP w h → (K w.params).In h)
    (F : ∀ (w : World) (mg : Str → Option Value) (fa : Addr) (h : Heap), (K w.params).In h → h.Ns mainGlobals mg → mg d.name = some (.ref fa) →
      ∃ fd : FuncData, (∀ (s : Shared) (u : Value), BindsTo s fd ⟨[u], []⟩ [(x, u)]) ∧ ∀ base : Heap, (K w.params).In base → base.Ns mainGlobals mg → FnG l.prog w (K w.params) mg base k fa fd [x] (sp w))
    (hsp : ∀ (w : World) (H : Hp) (a : Addr) (ns : List Int), ns.length ≤ n → Only H → SqL (K w.params) H a (ns.map V.int) → sp w [.ref a] H (fun v _ => v = .bl true) E0) :
    PySem.W.WalkO q loose XP YP l.row.toRowW d [] (fun f vs => PySem.call f vs) := by
  refine Att.attach_call hn hdf fun w s₀ s₁ mg mb fa o pm cd doc a vs ns G Y ho hd hcd hmg hobj hints hlen hg => ?_
  obtain ⟨fd, hb, hF⟩ := F w mg fa _ (hY w _ Y) G.T.g hmg
  exact enterG (hY w _ Y) G.T.g G.T.b G.T.builtins G.T.nolimit hg hobj hints (Nat.le_trans hlen hn2) hr hF hb fun H hO hS => hsp w H a ns hlen hO hS
end ER

namespace ER
open PySem PySem.Spec PyProof.Rows L2
/-- what may be shown -/
structure Showable (p : PyData) : Prop where
  s : p.showable = true
  d : p.hasDict = false
  h : p.depth ≤ 60
  z : p.shown.length ≤ sizeLine
def rShow (K : PySem.W.Frag) : List V → Hp → VK → Prop := fun xs H Q => (∃ i, xs = [V.int i] ∧ i.natAbs.log2 < 1920 ∧ Q (.str (toString i)) H) ∨ (∃ a p, xs = [V.ref a] ∧ Dp K H (.ref a) p ∧ Showable p ∧ Q (.str p.shown) H) ∨ (xs = [V.non] ∧ Q (.str "None") H) ∨ (∃ b, xs = [V.bl b] ∧ Q (.str (if b then "True" else "False")) H) ∨ ∃ z, xs = [V.str z] ∧ (reprText z).length ≤ sizeLine ∧ Q (.str (reprText z)) H
theorem call_show {X : Cx} (hgd : X.A.guards = some []) (hr : Room 0 X.A) : CallR X (.builtin "repr") (rShow X.K) := by
  intro pins s σ H xs us Q I r h
  rcases h with h | ⟨a, p, rfl, hd, sh, q⟩ | ⟨rfl, q⟩ | ⟨b, rfl, q⟩ | ⟨z, rfl, hz, q⟩
  · exact SkE.call_repr_int pins s σ H xs us Q I r h
  · obtain ⟨u, rfl, ru⟩ := r.one
    cases (show u = Value.ref a from ru)
    obtain ⟨as, rd⟩ := Dp.reads I p _ _ hd ru
    refine repr_of_reads' rd sh.s (PyData.noDict_hsm sh.d) hgd ?_ (fun _ _ e => e) (fun h' t tk hk => ⟨.str p.shown, H, I.kept hk, ⟨t, rfl⟩, q⟩) sh.z
    have := hr.un
    have := sh.h
    omega
  · obtain ⟨u, rfl, ru⟩ := r.one
    obtain rfl : u = Value.none := ru
    exact PySem.P.repr_of_none ⟨.str _, H, I.tok _, ⟨_, rfl⟩, q⟩
  · obtain ⟨u, rfl, ru⟩ := r.one
    obtain rfl : u = Value.bool b := ru
    exact PySem.P.repr_of_bool ⟨.str _, H, I.tok _, ⟨_, rfl⟩, q⟩
  · obtain ⟨u, rfl, ru⟩ := r.one
    obtain ⟨t, rfl⟩ := (show ∃ t, u = Value.str z t from ru)
    exact PySem.P.repr_of_str ⟨.str _, H, I.tok _, ⟨_, rfl⟩, q⟩ hz
/-- the text of data -/
inductive Shw (d : D) (k : Str → Prop) : Prop
  | mk (p : PyData) : PyOf d p → Showable p → k p.shown → Shw d k
theorem Shw.to {d : D} {k : Str → Prop} (h : Shw d k) : ∃ p, PyOf d p ∧ Showable p ∧ k p.shown := by
  cases h with
  | mk p a b c => exact ⟨p, a, b, c⟩
def showD (ds : List D) (m : Mu) (Φ : DK) : Prop := match ds with
  | [.v (.int i)] => i.natAbs.log2 < 1920 ∧ Φ (.v (.str (toString i))) m
  | [.lst xs] => Shw (.lst xs) fun z => Φ (.v (.str z)) m
  | [.tup xs] => Shw (.tup xs) fun z => Φ (.v (.str z)) m
  | [.v .non] => Φ (.v (.str "None")) m
  | [.v (.bl b)] => Φ (.v (.str (if b then "True" else "False"))) m
  | [.v (.str y)] => (reprText y).length ≤ sizeLine ∧ Φ (.v (.str (reprText y))) m
  | _ => False
theorem cad_show {cl : Nat → Addr} {K : PySem.W.Frag} : CaD cl (rShow K) showD := fun s xs ds Φ Q g r h k => by
  unfold showD at h
  split at h
  · cases r with
    | cons r1 r2 => cases r2; cases r1; exact .inl ⟨_, rfl, h.1, k _ _ s (Le.refl s) g (.v _) h.2⟩
  · obtain ⟨p, h1, h2, h3⟩ := h.to
    cases r with
    | cons r1 r2 =>
      cases r2
      have dp := PyOf.dp (K := K) h1 r1
      cases r1 with
      | lst n1 e1 rr => exact .inr (.inl ⟨_, p, rfl, dp, h2, k _ _ s (Le.refl s) g (.v _) h3⟩)
  · obtain ⟨p, h1, h2, h3⟩ := h.to
    cases r with
    | cons r1 r2 =>
      cases r2
      have dp := PyOf.dp (K := K) h1 r1
      cases r1 with
      | tup n1 e1 rr => exact .inr (.inl ⟨_, p, rfl, dp, h2, k _ _ s (Le.refl s) g (.v _) h3⟩)
  · cases r with
    | cons r1 r2 => cases r2; cases r1; exact .inr (.inr (.inl ⟨rfl, k _ _ s (Le.refl s) g (.v _) h⟩))
  · cases r with
    | cons r1 r2 => cases r2; cases r1; exact .inr (.inr (.inr (.inl ⟨_, rfl, k _ _ s (Le.refl s) g (.v _) h⟩)))
  · cases r with
    | cons r1 r2 => cases r2; cases r1; exact .inr (.inr (.inr (.inr ⟨_, rfl, h.1, k _ _ s (Le.refl s) g (.v _) h.2⟩)))
  · exact h.elim
section
variable {cl : Nat → Addr} {s0 : Sn} {X : Cx} {e : Expr} {es : List Expr} {tds : DTA} {pos p : Pos}
theorem de_repr (hgd : X.A.guards = some []) (hr : Room 0 X.A) (hg : Gl X "repr") (hm : X.mg "repr" = none) (ha : DA cl s0 X (e :: es) tds) (he : starEach (e :: es) X.env = (false, eval e X.env) :: starEach es X.env := by rfl) (hpl : (backTo pos (starEach es X.env)).any (·.1) = false := by rfl) :
    DE cl s0 X (.Call (.Name "repr" p) (e :: es) [] pos) (dCa showD tds) := de_callB (call_show hgd hr) cad_show hg hm (by decide +kernel) ha (by decide) (by decide) he hpl
end
end ER

namespace ER
open PySem PySem.Spec PyProof.Rows L2 PySem.Froz

/-! ## sets of texts that can be walked -/
def SetTx (P : Program) (w : World) (h : Heap) (a : Addr) (l : List Str) : Prop :=
  ∃ D : SD, h.get? a = some (sObj "set" D) ∧ TxOk P w D l ∧ Ris D.2.2.place.toList ∧ (w.params.followText "set-order" = true ∨ D.2.2.led = true)
theorem SetTx.keep {P : Program} {w : World} {h h' : Heap} {a : Addr} {l : List Str} (R : SetTx P w h a l) (k : ∀ o, h.get? a = some o → h'.get? a = some o) : SetTx P w h' a l :=
  let ⟨D, ho, r⟩ := R; ⟨D, k _ ho, r⟩
def SetTO (P : Program) (w : World) (a : Addr) (l : List Str) : HO := .ext fun h => SetTx P w h a l
theorem setTO_new {P : Program} {w : World} {H : Hp} {h : Heap} {a : Addr} {l : List Str} (R : SetTx P w h a l) : ObjOk P w H h a (SetTO P w a l) :=
  ⟨R, ⟨_, R.choose_spec.1⟩, fun h1 h2 p k => p.keep k⟩
section
variable {P : Program} {w : World} {A : Around} {E : Value → Shared → Prop} {s : Shared} {a : Addr} {l : List Str}
theorem tail_ris {ep : Nat} {es : Array (Int × Value)} {t : SetTable} {wd : Bool} (r : Ris t.place.toList) : Ris (tailTx ep es t wd).2.2.place.toList := by
  unfold tailTx
  split
  · exact relayAll_ris t es _
  · exact r
theorem tail_led {ep : Nat} {es : Array (Int × Value)} {t : SetTable} {wd : Bool} : (tailTx ep es t wd).2.2.led = t.led := by
  unfold tailTx
  split
  · exact relayAll_led t es _
  · rfl
theorem add_ris {D : SD} {h : Int} {v : Value} (r : Ris D.2.2.place.toList) : Ris (addTx h v D).2.2.place.toList := by
  unfold addTx
  refine tail_ris ?_
  have q := layNew_ris D.2.2 D.1 h v r
  split
  · exact q
  · exact q
theorem add_led {D : SD} {h : Int} {v : Value} : (addTx h v D).2.2.led = D.2.2.led := by
  unfold addTx
  rw [tail_led]
  have q := layNew_led D.2.2 D.1 h v
  split
  · exact q
  · exact q
/-- a text that is there -/
theorem add_same {D : SD} {k : Str} {u : Tok} {Q : Bool → Shared → Prop} (ho : s.heap.get? a = some (sObj "set" D)) (F : TxOk P w D l) (hk : k ∈ l) (hb : l.length < scanBound) (h : Q false s) : wpAny (model P w) A (setAddHashed a (.str k u) (hashStr w k)) Q E s := by
  obtain ⟨es, ep, t⟩ := D
  have hd : (sObj "set" (es, ep, t)).data = .set es ep t := rfl
  have sz : es.size < scanBound := by rw [show es.size = l.length from F.sz]; exact hb
  obtain ⟨e, he, hp⟩ := (F.mem k).mp hk
  unfold setAddHashed setAddHashedIn
  refine wpAny_holding (wpAny_bind (wpAny_setState_of ho hd F.fit ?_))
  dsimp only
  rw [byScan_of rfl sz F.el]
  simp only [↓reduceIte]
  unfold setAddByScan
  refine wpAny_bind (wpAny_bind (wpAny_rule (wpAny_bind (wpAny_setScan_of (knd := strKind P w) (k := k) (is_str k u) ho hd F.fit F.el ?_))))
  cases hf : List.findIdx? (fun e => (strKind P w).is k e.2) es.toList with
  | none => exact absurd hp (by rw [List.findIdx?_eq_none_iff.mp hf e he]; exact Bool.false_ne_true)
  | some j =>
    dsimp only
    exact wpAny_pure (wpAny_pure h)
/-- the members behind an add -/
def addL (l : List Str) (k : Str) : List Str := if k ∈ l then l else k :: l
theorem addL_nodup {k : Str} (h : l.Nodup) : (addL l k).Nodup := by
  unfold addL
  split
  · exact h
  · exact List.nodup_cons.mpr ⟨by assumption, h⟩
theorem setTx_add {k : Str} {u : Tok} {Q : Value → Shared → Prop} (R : SetTx P w s.heap a l) (room : l.length + 1 < scanBound)
    (hQ : ∀ h' tk, (∀ b o, b ≠ a → s.heap.get? b = some o → h'.get? b = some o) → SetTx P w h' a (addL l k) → Q .none { s with heap := h', toks := tk }) : wpAny (model P w) A (call (.builtin "set.add") [.ref a, .str k u]) Q E s := by
  obtain ⟨D, ho, ok, rs, led⟩ := R
  refine wpAny_call_entry F.slot_set_add ⟨_, ho, rfl⟩ F.entry_set_add ?_ (F.args_set_add_2 _ _)
  unfold Builtin.«set.add» Builtin.Frozenset.oneOther
  simp only [List.isEmpty_nil, bind_assoc]
  unfold Builtin.Frozenset.addrOf setAdd
  refine wpAny_bind (wpAny_pure ?_)
  try dsimp only
  refine wpAny_bind (wpAny_pure ?_)
  try dsimp only
  refine wpAny_bind (wpAny_holding (wpAny_bind ((strKind P w).pyHash (is_str k u) ?_)))
  by_cases hk : k ∈ l
  · refine add_same (s := { s with toks := s.toks + 1 }) ho ok hk (by omega) ?_
    exact wpAny_pure ⟨_, rfl, hQ s.heap _ (fun _ _ _ e => e) (by unfold addL; rw [if_pos hk]; exact ⟨D, ho, ok, rs, led⟩)⟩
  · refine add_x (s := { s with toks := s.toks + 1 }) ho ok hk room ?_
    refine wpAny_pure ⟨_, rfl, hQ _ _ (fun b o hb e => (Heap.get?_update_ne _ _ _ _ hb).trans e) ?_⟩
    unfold addL
    rw [if_neg hk]
    exact ⟨_, get_upd _ ho rfl, add_ok u ok, add_ris rs, by rw [add_led]; exact led⟩
theorem setTx_fresh {h : Heap} : SetTx P w (h.push { cls := .type "set", dict := none, data := .set #[] 0 (.fresh 0 0 (!w.params.followText "set-order")) }) h.objs.size [] := by
  refine ⟨(#[], 0, .fresh 0 0 (!w.params.followText "set-order")), Heap.get?_push_size _ rfl, TxOk.nil rfl, List.Pairwise.nil, ?_⟩
  show _ ∨ (!w.params.followText "set-order") = true
  cases w.params.followText "set-order" with
  | true => exact .inl rfl
  | false => exact .inr rfl
theorem isStr_shape {k : Str} {v : Value} (h : (strKind P w).is k v = true) : ∃ x t, v = .str x t := by
  have h : Value.isStrOf k v = true := h
  cases v with
  | str x t => exact ⟨x, t, rfl⟩
  | _ => exact absurd h (by simp [Value.isStrOf])
theorem isStr_of {k : Str} {v : Value} (h : ∃ x t, v = .str x t) : (strKind P w).is k v = true ↔ strOf v = k := by
  obtain ⟨x, t, rfl⟩ := h
  show Value.isStrOf k (.str x t) = true ↔ x = k
  simp [Value.isStrOf]
theorem pigeon {α : Type} : ∀ {l ys : List α}, l.Nodup → (∀ k ∈ l, k ∈ ys) → l.length ≤ ys.length
  | [], _, _, _ => Nat.zero_le _
  | x :: l, ys, hn, hs => by
    obtain ⟨y1, y2, e⟩ := List.append_of_mem (hs x List.mem_cons_self)
    have hn2 := List.nodup_cons.mp hn
    have ih := pigeon (ys := y1 ++ y2) hn2.2 fun k hk => by
      have q := hs k (List.mem_cons_of_mem _ hk)
      rw [e] at q
      rcases List.mem_append.mp q with z | z
      · exact List.mem_append_left _ z
      · rcases List.mem_cons.mp z with z | z
        · exact absurd (z ▸ hk) hn2.1
        · exact List.mem_append_right _ z
    rw [e, List.length_append, List.length_cons]
    rw [List.length_append] at ih
    rw [List.length_cons]
    omega
theorem nodup_of_len {α : Type} : ∀ {l ys : List α}, l.Nodup → (∀ k ∈ l, k ∈ ys) → ys.length ≤ l.length → ys.Nodup
  | [], ys, _, _, h => by rw [List.eq_nil_of_length_eq_zero (Nat.le_zero.mp h)]; exact List.nodup_nil
  | x :: l, ys, hn, hs, hl => by
    obtain ⟨y1, y2, e⟩ := List.append_of_mem (hs x List.mem_cons_self)
    have hn2 := List.nodup_cons.mp hn
    have sub : ∀ k ∈ l, k ∈ y1 ++ y2 := fun k hk => by
      have q := hs k (List.mem_cons_of_mem _ hk)
      rw [e] at q
      rcases List.mem_append.mp q with z | z
      · exact List.mem_append_left _ z
      · rcases List.mem_cons.mp z with z | z
        · exact absurd (z ▸ hk) hn2.1
        · exact List.mem_append_right _ z
    have l1 : (y1 ++ y2).length ≤ l.length := by
      rw [e, List.length_append, List.length_cons, List.length_cons] at hl
      rw [List.length_append]
      omega
    have ih := nodup_of_len hn2.2 sub l1
    have nx : x ∉ y1 ++ y2 := fun z => by
      have q := pigeon (l := x :: l) (ys := y1 ++ y2) hn fun k hk => by
        rcases List.mem_cons.mp hk with y | y
        · rw [y]; exact z
        · exact sub k y
      rw [List.length_cons] at q
      omega
    rw [e]
    exact (List.perm_middle.nodup_iff).mpr (List.nodup_cons.mpr ⟨nx, ih⟩)
theorem strsAre_out {es : List (Int × Value)} (h : ElemsOf (strKind P w) es) {out : List Value} (p : out.Perm (es.map (·.2))) : StrsAre out (out.map strOf) := by
  refine strsAre_map out fun v hv => ?_
  obtain ⟨e, he, q⟩ := List.mem_map.mp (p.mem_iff.mp hv)
  obtain ⟨⟨k, hk, _⟩, _⟩ := h e he
  rw [← q]
  exact isStr_shape hk
/-- sorted of it -/
theorem setTx_sorted {Q : Value → Shared → Prop} (R : SetTx P w s.heap a l) (hn : l.Nodup) (hh : A.handled = none) (hz : l.length + 1 < scanBound)
    (hQ : ∀ s' p (out : Array Value) (c : Nat) (ys : List Str), (∀ b o, s.heap.get? b = some o → s'.heap.get? b = some o) → s'.gens = s.gens → s'.os = s.os → s.heap.objs.size ≤ p →
      s'.heap.get? p = some (seqObj "list" out c) → StrsAre out.toList ys → ys.length = l.length → (∀ k, k ∈ ys ↔ k ∈ l) → ys.Nodup → sortedS ys = true → Q (.ref p) s') :
    wpAny (model P w) A (call (.builtin "sorted") [.ref a]) Q E s := by
  obtain ⟨⟨es, ep, t⟩, ho, ok, rs, led⟩ := R
  have hel : ElemsOf (strKind P w) es.toList := ok.el
  have hsz : es.size = l.length := ok.sz
  refine Calls.call_function_entry kind_sorted plain_sorted entry_sorted (args_sorted1 _) ?_
  unfold Builtin.«sorted»
  refine wpAny_bind (m := checkCount "sorted" 1 1 _) (wpAny_pure ?_)
  refine wpAny_bind (collect_set (A := A.in1) hh ⟨_, ho, rfl, rfl⟩ ok.fit (show es.size < scanBound by omega) rs led fun t1 vs k1 z1 g1 o1 pm => ?_)
  have hlen : vs.length = l.length := by rw [pm.length_eq, List.length_map, Array.length_toList]; exact hsz
  have big : vs.length ≤ sizeLine := by
    have e1 : scanBound = 4096 := rfl
    have e2 := sizeLine_eq
    omega
  have hS := strsAre_out hel pm
  refine wpAny_bind (wpAny_newList ?_ big)
  have hoL : (t1.heap.push (seqObj "list" vs.toArray 0)).get? t1.heap.objs.size = some (seqObj "list" vs.toArray 0) := Heap.get?_push_size _ rfl
  refine wpAny_bind (wpAny_holding (wpAny_call_entry slot_list_sort ⟨_, hoL, rfl⟩ entry_list_sort (list_sort_treeKAny strKind_oneLt hoL hS.keysOf (fun v₁ v₂ rest e => keyKind_strs (by rw [← e]; exact hS)) big fun st' a1 a2 => ⟨_, rfl, ?_⟩) (args_list_sort _)))
  obtain ⟨ys, b1, b2, b3⟩ := sorted_out_str hS a1 a2
  obtain ⟨c, hc⟩ := sortedHeap_at (vs := vs) (out := (arrOf st').map (·.2)) hoL
  have hys : ys.length = l.length := by rw [b2.length_eq, List.length_map, hlen]
  have mem : ∀ k, k ∈ ys ↔ k ∈ l := fun k => by
    rw [b2.mem_iff, List.mem_map, show k ∈ l ↔ ∃ e ∈ es.toList, (strKind P w).is k e.2 = true from ok.mem k]
    constructor
    · rintro ⟨v, hv, q⟩
      obtain ⟨e, he, z⟩ := List.mem_map.mp (pm.mem_iff.mp hv)
      obtain ⟨⟨j, hj, _⟩, _⟩ := hel e he
      exact ⟨e, he, (isStr_of (isStr_shape hj)).mpr (by rw [z]; exact q)⟩
    · rintro ⟨e, he, q⟩
      exact ⟨e.2, pm.mem_iff.mpr (List.mem_map.mpr ⟨e, he, rfl⟩), (isStr_of (isStr_shape q)).mp q⟩
  have nd : ys.Nodup := nodup_of_len hn (fun k hk => (mem k).mpr hk) (Nat.le_of_eq hys)
  refine wpAny_pure ⟨_, rfl, hQ _ t1.heap.objs.size _ c ys (fun b u e => ?_) g1 o1 z1 hc b1 hys mem nd b3⟩
  have q := k1 b u e
  have hlt := Heap.lt_size q
  show (sortedHeap (t1.heap.push (seqObj "list" vs.toArray 0)) t1.heap.objs.size vs _).get? b = some u
  rw [sortedHeap_old (Nat.ne_of_lt hlt) (by rw [size_push']; exact Nat.lt_succ_of_lt hlt)]
  exact Heap.get?_push_of_some _ q
end
end ER

namespace ER
open PySem PySem.Spec PyProof.Rows L2 PpSet
/-! ## {elt for target in iter if ..}, texts -/
def tSetT (P : Program) (w : World) (wi : TI) (g : TG) (tt : TT) (te : TE) (vs : List Nat) : TE := fun σ H Q => wi σ H fun J H1 => ∀ D, H1 D = none → ∃ (n : Nat) (G : Hp → Prop) (Y : Nat → Hp → V → Hp → Prop) (Pv : Nat → Hp → Prop),
  Walk J n G Y ∧ Pv 0 (upd H1 D (SetTO P w D [])) ∧ (∀ i H, i ≤ n → Pv i H → G H) ∧
  (∀ i x H H2, i < n → Pv i H → Y i H x H2 → g x (wipe σ vs) H2 fun σ2 H3 => wipe σ2 vs = wipe σ vs ∧ tt σ2 H3 fun b H4 => if b = true then te σ2 H4 fun y H5 => ∃ z l, y = .str z ∧ H5 D = some (SetTO P w D l) ∧ l.length + 1 < scanBound ∧ Pv (i + 1) (upd H5 D (SetTO P w D (addL l z))) else Pv (i + 1) H4) ∧
  ∀ H, Pv n H → Q (.ref D) H
theorem addT_ok {X : Cx} {pins : List (Addr × Obj)} {σ : L2.St} {H : Hp} {s : Shared} {E : Value → Shared → Prop} {D : Addr} {l : List Str} {y : Str} {u : Tok} {Q : Value → Shared → Prop} (I : Inv X pins σ H s) (hD : H D = some (SetTO X.prog X.w D l)) (room : l.length + 1 < scanBound)
    (h : ∀ s', Inv X pins σ (upd H D (SetTO X.prog X.w D (addL l y))) s' → Q .none s') : wpAny (model X.prog X.w) X.A (call (.builtin "set.add") [.ref D, .str y u]) Q E s := by
  have R : SetTx X.prog X.w s.heap D l := (I.hok D _ hD).1
  refine setTx_add R room fun h' tk keep new => h _ (I.write (e := D) (t' := tk) (by rw [hD]; trivial) (.inl rfl) keep ⟨_, new.choose_spec.1⟩ (setTO_new new))
section
variable {X : Cx} {elt tg iter : Expr} {ifs : List Expr} {scope : Scope} {own : List (Str × Nat)} {pos : Pos} {wi : TI} {g : TG} {tt : TT} {te : TE}
theorem pe_setT (hc : X.calm = true) (hN : X.N.Nodup) (hi : PI X tg iter wi) (ok : BlkOk X.N X.env.scope scope own)
    (hg : ∀ (s : Shared) (H : Hp) (C : Addr) (c : List (Str × Addr)) (fp : List Addr), PG (X.blk s H scope (compEnvC scope c C X.env) fp) tg g) (ht : ∀ (s : Shared) (H : Hp) (C : Addr) (c : List (Str × Addr)) (fp : List Addr), PTs (X.blk s H scope (compEnvC scope c C X.env) fp) ifs tt)
    (he : ∀ (s : Shared) (H : Hp) (C : Addr) (c : List (Str × Addr)) (fp : List Addr), PE (X.blk s H scope (compEnvC scope c C X.env) fp) elt te) (hs : ∀ x, foldedSetIterable iter X.env x = pure x := by intro _; rfl) :
    PE X (.SetComp elt [⟨tg, iter, ifs, 0⟩] scope pos) (tSetT X.prog X.w wi g tt te (own.map (·.2))) := by
  refine ⟨fun pins s σ H Q I h => ?_⟩
  rw [eval_SetComp]
  have free : ∀ y ∈ scope.names, y.2 = .free → ∃ c, X.env.cells.lookup y.1 = some c := fun y hy e =>
    (ok.free y hy e).elim (fun z => I.ok.has _ (.inl z)) fun z => I.ok.has _ (.inr z)
  refine wpAny_comprehension_free (use := none) rfl hs (closure_ok free) ok.kind (fun y hy e => (ok.uniq y hy).trans (congrArg some e)) (thn (hi.run pins s σ H _ I h) fun xv s1 hx => thn hx fun itv s2 got => ?_)
  obtain ⟨it, fp, tn, J, H2, rfl, I2, T, st2, f2, q⟩ := got
  refine newSet_ok (newEnv_comp ?_)
  have dn : H2 s2.heap.objs.size = none := I2.hok.fresh (Nat.le_refl _)
  obtain ⟨n, G, Y, Pv, wk, p0, pG, step, fin⟩ := q _ dn
  generalize hD : s2.heap.objs.size = D at dn p0 pG step fin ⊢
  -- the set is there
  generalize e3 : ({ s2 with heap := s2.heap.push { cls := .type "set", dict := none, data := .set #[] 0 (.fresh 0 0 (!X.w.params.followText "set-order")) } } : Shared) = s3
  have h3 : s3.heap = s2.heap.push { cls := .type "set", dict := none, data := .set #[] 0 (.fresh 0 0 (!X.w.params.followText "set-order")) } := by rw [← e3]
  have grow : ∀ b o, s2.heap.get? b = some o → s3.heap.get? b = some o := fun b o e => by rw [h3]; exact Heap.get?_push_of_some _ e
  have I3 : Inv X pins σ (upd H2 D (SetTO X.prog X.w D [])) s3 := by
    rw [← e3]
    exact I2.laid (t' := s2.toks) (fun b o e => Heap.get?_push_of_some _ e) (Nat.le_of_eq hD) (by rw [← hD]; exact setTO_new setTx_fresh)
  have low : ∀ b ∈ fp, b < s2.heap.objs.size := fun b hb => let ⟨_, e, _⟩ := T.obj _ _ st2 b hb; Heap.lt_size e
  have f3 : ∀ b ∈ fp, FpOk X pins (upd H2 D (SetTO X.prog X.w D [])) b ∧ b < s3.heap.objs.size := fun b hb =>
    ⟨⟨(upd_ne (by rw [← hD]; exact Nat.ne_of_lt (low b hb))).trans (f2 b hb).1, (f2 b hb).2⟩, by rw [h3, Heap.size_push]; exact Nat.lt_succ_of_lt (low b hb)⟩
  have st3 : tn 0 s3.heap := T.keep _ _ _ st2 fun b _ o e => grow b o e
  generalize eH : upd H2 D (SetTO X.prog X.w D []) = H3 at I3 f3 p0
  have I4 := block_start I3 ok hN f3
  have pg := hg s3 H3 s3.heap.objs.size (cellsFrom (s3.heap.objs.size + 1) scope.names (cloFrom X.env.cells scope.names [])) fp
  have pt := ht s3 H3 s3.heap.objs.size (cellsFrom (s3.heap.objs.size + 1) scope.names (cloFrom X.env.cells scope.names [])) fp
  have pe := he s3 H3 s3.heap.objs.size (cellsFrom (s3.heap.objs.size + 1) scope.names (cloFrom X.env.cells scope.names [])) fp
  show codeAny _ _ (.compStart (.SetComp elt [⟨tg, iter, ifs, 0⟩] scope pos) 0 (.ref it) (.ref D) (compEnvC scope (cellsFrom (s3.heap.objs.size + 1) scope.names (cloFrom X.env.cells scope.names [])) s3.heap.objs.size X.env)) (compPost (model X.prog X.w) X.A X.xe none (EP X pins σ Q) (.ref D) s3.heap.objs.size)
    { s3 with heap := pushCells (s3.heap.push { cls := .type "dict", data := .dict #[] }) scope.names }
  generalize eC : compEnvC scope (cellsFrom (s3.heap.objs.size + 1) scope.names (cloFrom X.env.cells scope.names [])) s3.heap.objs.size X.env = ce at I4 pg pt pe ⊢
  have locs : ce.locals = s3.heap.objs.size := by rw [← eC] <;> rfl
  generalize e4 : ({ s3 with heap := pushCells (s3.heap.push { cls := .type "dict", data := .dict #[] }) scope.names } : Shared) = s4 at I4 ⊢
  have st4 : tn 0 s4.heap := T.keep _ _ _ st3 fun b _ o e => by rw [← e4]; exact pushCells_keeps _ _ _ _ (Heap.get?_push_of_some _ e)
  have away : ∀ {τ : L2.St} {H' : Hp} {t : Shared}, Inv (X.blk s3 H3 scope ce fp) [] τ H' t → (∀ b ∈ fp, H' b = none) → ∀ b ∈ fp, FpOk (X.blk s3 H3 scope ce fp) [] H' b := fun {τ H' t} L nn b hb =>
    ⟨nn b hb, (L.ok.exf b hb).1, L.ok.exfs b hb, .inl hb, fun x c e => (L.ok.exf b hb).2 x c e, fun p hp => absurd (show p ∈ ([] : List (Addr × Obj)) ++ [] from hp) (by simp)⟩
  have loop : codeAny (model X.prog X.w) X.A (.compLoop (.SetComp elt [⟨tg, iter, ifs, 0⟩] scope pos) 0 (.ref it) (.ref D) ce) (compPost (model X.prog X.w) X.A X.xe none (EP X pins σ Q) (.ref D) s3.heap.objs.size) s4 := by
    refine compLoopS_any (fun m t => ∃ i H', m = n - i ∧ i ≤ n ∧ Inv (X.blk s3 H3 scope ce fp) [] (wipe σ (own.map (·.2))) H' t ∧ tn i t.heap ∧ (∀ b ∈ fp, H' b = none) ∧ Pv i H') ?_ n
      ⟨0, H3, rfl, Nat.zero_le _, I4, st4, fun b hb => (f3 b hb).1.1, p0⟩
    rintro m s5 ⟨i, H5, rfl, hle, I5, st5, n5, p5⟩
    have g5 := pG i H5 hle p5
    rcases Nat.lt_or_eq_of_le hle with hlt | heq
    · have ti := T.item (X.blk s3 H3 scope ce fp) rfl rfl rfl hc i [] s5 _ H5 (fun _ _ => False) I5 (away I5 n5) st5 (wk.goes i H5 hlt g5)
      refine thnF ti fun r s6 ⟨u, hr, got⟩ => ?_
      subst hr
      refine thnF got fun _ s7 ⟨x, H7, I7, r7, y7, st7, n7⟩ => ?_
      have J7 := I7.pinned (away I7 n7) (T.obj _ _ st7)
      refine thnF (pg.run _ s7 _ H7 x u _ J7 r7 (step i x H5 H7 hlt p5 (wk.yields i H5 x H7 hlt g5 y7))) fun _ s8 ⟨σ8, H8, I8, hw, q8⟩ => ?_
      refine thnF (pt.run _ s8 σ8 H8 _ I8 q8) fun b s9 ⟨H9, I9, q9⟩ => ?_
      have turn : ∀ {t : Shared} {H' : Hp}, Inv (X.blk s3 H3 scope ce fp) ([] ++ pinsAt fp s7.heap) σ8 H' t → Pv (i + 1) H' →
          ∃ m, m < n - i ∧ ∃ j H'', m = n - j ∧ j ≤ n ∧ Inv (X.blk s3 H3 scope ce fp) [] (wipe σ (own.map (·.2))) H'' t ∧ tn j t.heap ∧ (∀ b ∈ fp, H'' b = none) ∧ Pv j H'' := fun {t H'} L pv => by
        have stays : ∀ b ∈ fp, ∀ o, s7.heap.get? b = some o → t.heap.get? b = some o ∧ H' b = none := fun b hb o e => by
          have z := L.pin (b, o) (List.mem_append_right _ (List.mem_append_right _ (mem_pinsAt hb e)))
          exact ⟨z.1, z.2.1⟩
        refine ⟨n - (i + 1), by omega, i + 1, H', rfl, hlt, (L.unpinned (pins := [])).weak (by rw [← hw, wipe_length]) (fun j v e => ?_), T.keep _ _ _ st7 fun b hb o e => (stays b hb o e).1, fun b hb => ?_, pv⟩
        · rw [← hw] at e
          exact (wipe_some e).1
        · obtain ⟨o, e, _⟩ := T.obj _ _ st7 b hb
          exact (stays b hb o e).2
      cases b with
      | false =>
        simp only [Bool.false_eq_true, if_false] at q9 ⊢
        exact turn I9 q9
      | true =>
        simp only [if_true] at q9 ⊢
        refine thnF (pe.run _ s9 σ8 H9 _ I9 q9) fun v s10 ⟨yv, H10, I10, r10, z, l, ey, hD10, room, nx⟩ => ?_
        subst ey
        obtain ⟨tok, rfl⟩ := (show ∃ t, v = Value.str z t from r10)
        exact addT_ok (X := X.blk s3 H3 scope ce fp) I10 hD10 room fun s11 I11 => turn I11 nx
    · subst heq
      have td := T.done (X.blk s3 H3 scope ce fp) rfl rfl rfl hc i [] s5 _ H5 (fun _ _ => False) I5 (away I5 n5) st5 (wk.stops H5 g5)
      refine thnF td fun r s6 ⟨hr, I6⟩ => ?_
      subst hr
      have I7 : Inv X pins σ H5 s6 := I3.call' (ch := fp) I6.os I6.base I6.hok I6.bare fun b hb => ⟨(f3 b hb).1.2.2.2.1, (f3 b hb).1.2.1, (f3 b hb).1.2.2.2.2.1, (f3 b hb).1.2.2.2.2.2⟩
      have nC : H5 s3.heap.objs.size = none := locs ▸ (show H5 ce.locals = none from I6.free)
      obtain ⟨mm, hn, _⟩ := I6.loc
      have hn : s6.heap.Ns ce.locals mm := hn
      rw [locs] at hn
      refine ⟨mm, hn, fun h'' sb => ?_⟩
      obtain ⟨f0, f1, f2', f3', f4, f5⟩ := I3.fpOk (Nat.le_refl _) nC
      exact ⟨.ref D, H5, I7.turned (t' := s6.toks) (fun b o hb e => (sb.2 b hb).trans e) f0 f1 f3' f4 f5, rfl, fin H5 p5⟩
  exact codeAny_compStart_set loop (T.self X.A 0 _ _ _ st4 loop)
end
end ER
namespace ER
open PySem PySem.Spec PyProof.Rows L2
/-! ## sorted({..}) of texts -/
def rSortT (P : Program) (w : World) : List V → Hp → VK → Prop := fun vs H Q => ∃ (a : Addr) (l : List Str), vs = [V.ref a] ∧ H a = some (SetTO P w a l) ∧ l.Nodup ∧ l.length + 1 < scanBound ∧
  ∀ (ys : List Str) (p : Addr), ys.length = l.length → (∀ k, k ∈ ys ↔ k ∈ l) → ys.Nodup → sortedS ys = true → H p = none → Q (.ref p) (upd H p (.lst (ys.map V.str)))
theorem cr_sortT {X : Cx} (hc : X.calm = true) : CallR X (.builtin "sorted") (rSortT X.prog X.w) := by
  intro pins s σ H vs us Q I r h
  obtain ⟨a, l, rfl, ha, nd, hz, q⟩ := h
  rw [Vals.ref1 r]
  have R : SetTx X.prog X.w s.heap a l := (I.hok a _ ha).1
  refine setTx_sorted R nd (I.ok.hd hc) hz fun t p out c ys k g o hp hg hS hl hm hn hs => ?_
  have big : (ys.map V.str).length ≤ sizeLine := by
    have e1 : scanBound = 4096 := rfl
    rw [List.length_map, hl, sizeLine_eq]; omega
  have hn0 : H p = none := I.hok.fresh hp
  have J : Inv X pins σ (upd H p (.lst (ys.map V.str))) { s with heap := t.heap, gens := t.gens, drawn := t.drawn, toks := t.toks } :=
    I.call (ch := []) (Un.laid k hp hn0) (I.hok.laid k hp ⟨big, out.toList, c, vals_of_strs hS, hg⟩) (by rw [g]; exact I.bare) (fun _ z => nomatch z)
  have e : t = { s with heap := t.heap, gens := t.gens, drawn := t.drawn, toks := t.toks } := by
    obtain ⟨_, _, _, _, _⟩ := t
    obtain ⟨_, _, _, _, _⟩ := s
    cases o
    rfl
  rw [e]
  exact ⟨.ref p, _, J, rfl, q ys p hl hm hn hs hn0⟩
section
variable {cl : Nat → Addr}
mutual
theorem Rep.past {s : Sn} {p : Addr} {o : HO} (hp : ∀ u, s.H p = some u → ∃ f, u = .ext f) : ∀ {d : D} {v : V}, Rep cl s d v → Rep cl (s.lay p o) d v
  | _, _, .v x => .v x
  | _, _, .hd h => .hd (s := s.lay p o) h
  | _, _, .lst n h r => .lst (s := s.lay p o) n ((upd_ne fun z => by rw [z] at h; obtain ⟨f, e⟩ := hp _ h; cases e).trans h) (Reps.past hp r)
  | _, _, .tup n h r => .tup (s := s.lay p o) n ((upd_ne fun z => by rw [z] at h; obtain ⟨f, e⟩ := hp _ h; cases e).trans h) (Reps.past hp r)
  | _, _, .scr n h => .scr (s := s.lay p o) n ((upd_ne fun z => by rw [z] at h; obtain ⟨f, e⟩ := hp _ h; cases e).trans h)
  | _, _, .dct n h z r => .dct (s := s.lay p o) n ((upd_ne fun z => by rw [z] at h; obtain ⟨f, e⟩ := hp _ h; cases e).trans h) z (Reps.past hp r)
  | _, _, .obj n h z r => .obj (s := s.lay p o) n ((upd_ne fun z => by rw [z] at h; obtain ⟨f, e⟩ := hp _ h; cases e).trans h) z (Reps.past hp r)
theorem Reps.past {s : Sn} {p : Addr} {o : HO} (hp : ∀ u, s.H p = some u → ∃ f, u = .ext f) : ∀ {ds : List D} {vs : List V}, Reps cl s ds vs → Reps cl (s.lay p o) ds vs
  | _, _, .nil => .nil
  | _, _, .cons h r => .cons (Rep.past hp h) (Reps.past hp r)
end
theorem Good.past {s : Sn} {p : Addr} {o : HO} (g : Good cl s) (hp : ∀ u, s.H p = some u → ∃ f, u = .ext f) : Good cl (s.lay p o) := by
  refine ⟨g.dom, g.inj, fun j f hj => ?_⟩
  have z := g.ct j f hj
  cases f with
  | lst ds =>
    obtain ⟨vs, h, r⟩ := z
    exact ⟨vs, (upd_ne fun y => by rw [show s.kap j = p from y] at h; obtain ⟨f, e⟩ := hp _ h; cases e).trans h, r.past hp⟩
  | dct ks ds =>
    obtain ⟨vs, h, z, r⟩ := z
    exact ⟨vs, (upd_ne fun y => by rw [show s.kap j = p from y] at h; obtain ⟨f, e⟩ := hp _ h; cases e).trans h, z, r.past hp⟩
  | ins c ns ds =>
    obtain ⟨dx, vs, h, z, r⟩ := z
    exact ⟨dx, vs, (upd_ne fun y => by rw [show s.kap j = p from y] at h; obtain ⟨f, e⟩ := hp _ h; cases e).trans h, z, r.past hp⟩
theorem Good.notM {s : Sn} {p : Addr} {f : Heap → Prop} (g : Good cl s) (h : s.H p = some (.ext f)) : ¬ s.M p := fun ⟨j, c, hj, e⟩ => by
  have z := g.ct j c hj
  rw [e] at z
  cases c with
  | lst ds => obtain ⟨vs, h2, _⟩ := z; rw [h] at h2; cases h2
  | dct ks ds => obtain ⟨vs, h2, _⟩ := z; rw [h] at h2; cases h2
  | ins c ns ds => obtain ⟨dx, vs, h2, _⟩ := z; rw [h] at h2; cases h2
theorem Le.past {s t : Sn} {p : Addr} {o : HO} (l : Le s t) (hp : s.H p = none) : Le s (t.lay p o) :=
  ⟨l.n, l.kap, fun a u h n => by
    obtain ⟨h1, n1⟩ := l.keep a u h n
    exact ⟨(upd_ne fun z => by rw [z, hp] at h; cases h).trans h1, n1⟩, l.hid⟩
end
def dSetL (g : DTG) (tt : DTT) (te : DTE) (r : Env) : List D → List Str → Mu → (List Str → Mu → Prop) → Prop
  | [], acc, m, Φ => Φ acc m
  | x :: xs, acc, m, Φ => g x r m fun r1 m1 => tt r1 m1 fun b m2 => Br b (te r1 m2 fun y m3 => ∃ z, y = .v (.str z) ∧ acc.length + 1 < scanBound ∧ dSetL g tt te r xs (addL acc z) m3 Φ) (dSetL g tt te r xs acc m2 Φ)
def dSortSet (it : DTI) (g : DTG) (tt : DTT) (te : DTE) (vs : List Nat) : DTE := fun r m Φ => wipeK vs r fun r' => it r m fun xs m1 => dSetL g tt te r' xs [] m1 fun acc m2 => acc.length + 1 < scanBound ∧
  ∀ ys : List Str, ys.length = acc.length → (∀ k, k ∈ ys ↔ k ∈ acc) → ys.Nodup → sortedS ys = true → Φ (.lst ((ys.map V.str).map D.v)) m2
section
variable {cl : Nat → Addr} {s0 : Sn}
theorem ev_sortSet {P : Program} {w : World} {wi : TI} {gg : TG} {tt : TT} {tb : TE} {it : DTI} {g : DTG} {dt : DTT} {db : DTE} {vs : List Nat} (hi : EvI cl s0 wi it) (hg : EvG cl s0 gg g) (ho : OwnG vs gg) (ht : EvT cl s0 tt dt) (hb : EvD cl s0 tb db) :
    EvD cl s0 (fun σ H Q => tSetT P w wi gg tt tb vs σ H fun x H1 => rSortT P w [x] H1 Q) (dSortSet it g dt db vs) := by
  refine ⟨fun s σ r Φ Q gd w0 l q k => hi.run s σ r _ _ gd w0 l (wipeK.to q) fun J xs s1 l1 g1 ok q1 p hp => ?_⟩
  obtain ⟨n, G, Y, hn, wk, hG, hY⟩ := ok.w
  have w1 : EnvOk cl s1 (dwipe r vs) (wipe σ vs) := (w0.mono l1).wipe vs
  let Pv : Nat → Hp → Prop := fun i H' => ∃ s' acc, H' = s'.H ∧ Le s1 s' ∧ Good cl s' ∧ s'.H p = some (SetTO P w p acc) ∧ acc.Nodup ∧ dSetL g dt db (dwipe r vs) (xs.drop i) acc s'.mu fun acc m2 => acc.length + 1 < scanBound ∧ ∀ ys : List Str, ys.length = acc.length → (∀ k, k ∈ ys ↔ k ∈ acc) → ys.Nodup → sortedS ys = true → Φ (.lst ((ys.map V.str).map D.v)) m2
  refine ⟨n, G, Y, Pv, wk, ⟨s1.lay p (SetTO P w p []), [], rfl, Le.lay g1 hp, g1.lay hp, upd_same, List.nodup_nil, q1⟩, ?_, ?_, ?_⟩
  · rintro i H' _ ⟨s', acc, rfl, l', _⟩
    exact hG s' l'
  · rintro i x H' H2 hin ⟨s', acc, rfl, l', g', hD, nd, q'⟩ hy
    obtain ⟨d, s2, hd, rfl, l3, g3, hm, rd⟩ := hY i s' x H2 hin l' g' hy
    have hdrop : xs.drop i = d :: xs.drop (i + 1) := by
      have hlt : i < xs.length := hn ▸ hin
      rw [List.drop_eq_getElem_cons hlt]
      have e := hd
      rw [List.getElem?_eq_getElem hlt] at e
      rw [Option.some.inj e]
    rw [hdrop, ← hm] at q'
    have L : Le s0 s2 := (l.trans l1).trans (l'.trans l3)
    have there : ∀ {t : Sn}, Le s' t → t.H p = some (SetTO P w p acc) := fun {t} lt => (lt.keep _ _ hD (g'.notM hD)).1
    have body := ho x (wipe σ vs) s2.H _ (hg.run s2 (wipe σ vs) (dwipe r vs) d x _ (fun σ2 H2 => tt σ2 H2 fun b H4 => if b = true then tb σ2 H4 fun y H5 => ∃ z l, y = .str z ∧ H5 p = some (SetTO P w p l) ∧ l.length + 1 < scanBound ∧ Pv (i + 1) (upd H5 p (SetTO P w p (addL l z))) else Pv (i + 1) H4)
      g3 (w1.mono (l'.trans l3)) L rd q' fun s3 r3 σ3 l4 g4 w4 q4 => ht.run s3 σ3 r3 _ _ g4 w4 (L.trans l4) q4 fun b s4 l5 g5 q5 => ?_)
    · rw [wipe_wipe] at body
      exact body
    · cases b with
      | false =>
        have ls : Le s' s4 := (l3.trans l4).trans l5
        exact ⟨s4, acc, rfl, l'.trans ls, g5, there ls, nd, q5.ff⟩
      | true =>
        refine hb.run s4 σ3 r3 _ _ g5 (w4.mono l5) ((L.trans l4).trans l5) q5.tt fun y yv s5 l6 g6 ry q6 => ?_
        obtain ⟨z, rfl, room, q6⟩ := q6
        cases ry
        have ls : Le s' s5 := ((l3.trans l4).trans l5).trans l6
        have hp5 := there ls
        exact ⟨z, acc, rfl, hp5, room, s5.lay p (SetTO P w p (addL acc z)), addL acc z, rfl, (l'.trans ls).past hp, g6.past (fun u e => ⟨_, Option.some.inj (e.symm.trans hp5)⟩), upd_same, addL_nodup nd, q6⟩
  · rintro H' ⟨s', acc, rfl, l', g', hD, nd, q'⟩
    rw [hn, List.drop_length] at q'
    refine ⟨p, acc, rfl, hD, nd, q'.1, fun ys a e1 e2 e3 e4 ha => ?_⟩
    exact k _ _ (s'.lay a (.lst (ys.map V.str))) ((l1.trans l').trans (Le.lay g' ha)) (g'.lay ha) (Rep.laid g' ha Reps.vals) (q'.2 ys e1 e2 e3 e4)
variable {X : Cx} {elt tg iter : Expr} {ifs : List Expr} {scope : Scope} {own : List (Str × Nat)} {p pos cpos : Pos} {it : DTI} {gg : TG} {g : DTG} {dt : DTT} {db : DTE}
theorem de_sortSet (hc : X.calm = true) (hN : X.N.Nodup) (hgl : Gl X "sorted") (hmm : X.mg "sorted" = none) (hi : DI cl s0 X tg iter it) (ok : BlkOk X.N X.env.scope scope own)
    (hg : ∀ s H C c fp, PG (BCx X scope s H C c fp) tg gg) (hge : EvG cl s0 gg g) (hgo : OwnG (own.map (·.2)) gg)
    (ht : ∀ s H C c fp, DTs cl s0 (BCx X scope s H C c fp) ifs dt) (he : ∀ s H C c fp, DE cl s0 (BCx X scope s H C c fp) elt db) (hs : ∀ x, foldedSetIterable iter X.env x = pure x := by intro _; rfl)
    (hst : starEach [(.SetComp elt [⟨tg, iter, ifs, 0⟩] scope cpos : Expr)] X.env = (false, eval (.SetComp elt [⟨tg, iter, ifs, 0⟩] scope cpos) X.env) :: starEach [] X.env := by rfl) (hpl : (backTo pos (starEach [] X.env)).any (·.1) = false := by rfl) :
    DE cl s0 X (.Call (.Name "sorted" p) [.SetComp elt [⟨tg, iter, ifs, 0⟩] scope cpos] [] pos) (dSortSet it g dt db (own.map (·.2))) :=
  let ⟨_, pp, v⟩ := hi
  ⟨_, pe_callB (cr_sortT hc) hgl hmm (by decide +kernel) (pa_cons (pe_setT hc hN pp ok hg (pt_any ht) (pe_any he) hs) pa_nil hst) (by decide) (by decide) hst hpl, ev_sortSet v hge hgo evt_any ev_any⟩
end
end ER

namespace ER
open PySem PySem.Spec PyProof.Rows L2
/-! ## dict displays -/
def dPairs : List (DTE × DTE) → Env → Mu → (List D → List D → Mu → Prop) → Prop
  | [], _, m, Φ => Φ [] [] m
  | (tk, tv) :: rest, r, m, Φ => tk r m fun x m1 => tv r m1 fun y m2 => dPairs rest r m2 fun xs ys m3 => Φ (x :: xs) (y :: ys) m3
structure EvP (cl : Nat → Addr) (s0 : Sn) (tps : List (TE × TE)) (t : List (DTE × DTE)) : Prop where
  run : ∀ (s : Sn) (σ : L2.St) (r : Env) (Φ : List D → List D → Mu → Prop) (Q : List (V × V) → Hp → Prop), Good cl s → EnvOk cl s r σ → Le s0 s → dPairs t r s.mu Φ →
    (∀ xs ys vx vy s', Le s s' → Good cl s' → Reps cl s' xs vx → Reps cl s' ys vy → Φ xs ys s'.mu → Q (vx.zip vy) s'.H) → tPairs tps σ s.H Q
def DPs (cl : Nat → Addr) (s0 : Sn) (X : Cx) (pos : Pos) (keys : List (Option Expr)) (values : List Expr) (t : List (DTE × DTE)) : Prop := ∃ tps, PPs X pos keys values tps ∧ EvP cl s0 tps t
section
variable {cl : Nat → Addr} {s0 : Sn} {X : Cx} {pos : Pos} {k v : Expr} {ks : List (Option Expr)} {vs : List Expr} {tk tv : DTE} {t : List (DTE × DTE)}
theorem dd_nil : DPs cl s0 X pos [] [] [] := ⟨_, pps_nil, ⟨fun s σ r Φ Q g w l q k => k [] [] [] [] s (Le.refl s) g .nil .nil q⟩⟩
theorem dd_cons (hk : DE cl s0 X k tk) (hv : DE cl s0 X v tv) (hr : DPs cl s0 X pos ks vs t) : DPs cl s0 X pos (some k :: ks) (v :: vs) ((tk, tv) :: t) := by
  obtain ⟨t1, p1, v1⟩ := hk
  obtain ⟨t2, p2, v2⟩ := hv
  obtain ⟨t3, p3, v3⟩ := hr
  refine ⟨_, pps_cons p1 p2 p3, ⟨fun s σ r Φ Q g w l q kk => v1.run s σ r _ _ g w l q fun dx x s1 l1 g1 rx q1 => v2.run s1 σ r _ _ g1 (w.mono l1) (l.trans l1) q1 fun dy y s2 l2 g2 ry q2 => ?_⟩⟩
  exact v3.run s2 σ r _ _ g2 ((w.mono l1).mono l2) ((l.trans l1).trans l2) q2 fun xs ys vx vy s3 l3 g3 rxs rys q3 =>
    kk (dx :: xs) (dy :: ys) (x :: vx) (y :: vy) s3 ((l1.trans l2).trans l3) g3 (.cons ((rx.mono l2).mono l3) rxs) (.cons (ry.mono l3) rys) q3
end
theorem merge_new : ∀ (more acc : List (Key × V)), ((acc ++ more).map (·.1)).Nodup → mergeK acc more = acc ++ more
  | [], acc, _ => (List.append_nil acc).symm
  | kv :: more, acc, h => by
    have e : putK acc kv.1 kv.2 = acc ++ [kv] := by
      unfold putK
      rw [if_neg]
      intro z
      obtain ⟨q, hq, e⟩ := List.any_eq_true.mp z
      have e := of_decide_eq_true e
      rw [List.map_append, List.map_cons] at h
      have dj := (List.nodup_append.mp h).2.2 q.1 (List.mem_map.mpr ⟨q, hq, rfl⟩) kv.1 List.mem_cons_self
      exact dj e
    show mergeK (putK acc kv.1 kv.2) more = _
    rw [e, merge_new more (acc ++ [kv]) (by rw [List.append_assoc]; exact h), List.append_assoc]
    rfl
theorem Reps.keys {cl : Nat → Addr} {s : Sn} {ks : List Key} : ∀ {vs : List V}, Reps cl s (ks.map fun k => D.v (kV k)) vs → vs = ks.map kV := fun {vs} r => by
  have e : ks.map (fun k => D.v (kV k)) = (ks.map kV).map D.v := by rw [List.map_map]; rfl
  rw [e] at r
  exact Reps.vals_eq r
theorem zip_keys : ∀ (ks : List Key) (vs : List V), (ks.map kV).zip vs = (ks.zip vs).map fun kv => (kV kv.1, kv.2)
  | [], _ => rfl
  | _ :: _, [] => rfl
  | k :: ks, v :: vs => congrArg (List.cons (kV k, v)) (zip_keys ks vs)
theorem zip_fst : ∀ {ks : List Key} {vs : List V}, ks.length = vs.length → (ks.zip vs).map (·.1) = ks
  | [], [], _ => rfl
  | [], _ :: _, h => nomatch h
  | _ :: _, [], h => nomatch h
  | k :: ks, v :: vs, h => congrArg (List.cons k) (zip_fst (Nat.succ.inj h))
theorem merge_zip {ks : List Key} {vs : List V} (h : ks.length = vs.length) (hn : ks.Nodup) : mergeK [] (ks.zip vs) = ks.zip vs :=
  (merge_new (ks.zip vs) [] (by rw [List.nil_append, zip_fst h]; exact hn)).trans (List.nil_append _)
/-- {k: v, ..}: unlike keys; the dict as it will stay -/
def dDict (t : List (DTE × DTE)) : DTE := fun r m Φ => dPairs t r m fun xs ys m1 => ∃ ks : List Key, xs = ks.map (fun k => D.v (kV k)) ∧ ks.Nodup ∧ ks.length = ys.length ∧ ks.length ≤ 15 ∧ Φ (.dct ks ys) m1
/-- the same, in a handle -/
def dDictH (t : List (DTE × DTE)) : DTE := fun r m Φ => dPairs t r m fun xs ys m1 => ∃ ks : List Key, xs = ks.map (fun k => D.v (kV k)) ∧ ks.Nodup ∧ ks.length = ys.length ∧ ks.length ≤ 15 ∧ ∀ k, m1 k = none → Φ (.hd k) (setMu m1 k (.dct ks ys))
section
variable {cl : Nat → Addr} {s0 : Sn}
theorem Le.showH {s t : Sn} {k : Nat} {b : Bool} (l : Le s t) (hs : s.al k = none) : Le s (t.look k b) :=
  ⟨l.n, l.kap, l.keep, fun j f hj hv => by
    obtain ⟨h1, n1⟩ := l.hid j f hj hv
    exact ⟨h1, (if_neg fun z => by rw [z, hs] at hj; cases hj).trans n1⟩⟩
/-- the pairs, then the dict in a handle that nobody saw before -/
theorem ev_disp {tps : List (TE × TE)} {t : List (DTE × DTE)} (hp : EvP cl s0 tps t) {s : Sn} {σ : L2.St} {r : Env} {Φ : List Key → List D → Mu → Prop} {Q : VK} (g : Good cl s) (w : EnvOk cl s r σ) (l : Le s0 s)
    (q : dPairs t r s.mu fun xs ys m1 => ∃ ks : List Key, xs = ks.map (fun k => D.v (kV k)) ∧ ks.Nodup ∧ ks.length = ys.length ∧ ks.length ≤ 15 ∧ Φ ks ys m1)
    (k : ∀ ks ys s', Le s s' → Good cl s' → s'.mu s.n = some (.dct ks ys) → Φ ks ys (delMu s'.mu s.n) → (∃ m1 : Mu, m1 s.n = none ∧ s'.mu = setMu m1 s.n (.dct ks ys) ∧ Φ ks ys m1) → Q (.ref (s'.kap s.n)) s'.H) : tDisp tps σ s.H Q := by
  intro p hpn
  have hs : s.al s.n = none := by
    cases e : s.al s.n with
    | none => rfl
    | some c => exact absurd (g.dom _ _ e) (Nat.lt_irrefl _)
  have lo : Le s (s.open_ p (.dK []) (.dct [] [])) := Le.open_ g hpn
  have go : Good cl (s.open_ p (.dK []) (.dct [] [])) := g.open_ hpn ⟨[], upd_same, rfl, .nil⟩
  have l1 : Le s ((s.open_ p (.dK []) (.dct [] [])).look s.n false) := lo.trans Le.hide
  have m1 : ((s.open_ p (.dK []) (.dct [] [])).look s.n false).mu = s.mu := by rw [hide_mu, open_mu, delMu_set (mu_n g)]
  rw [← m1] at q
  refine hp.run ((s.open_ p (.dK []) (.dct [] [])).look s.n false) σ r _ _ go.look (w.mono l1) (l.trans l1) q fun xs ys vx vy s2 l2 g2 rx ry q2 => ?_
  obtain ⟨ks, rfl, nd, hl, h15, q3⟩ := q2
  have hid := l2.hid s.n (.dct [] []) setMu_same (if_pos rfl)
  have hk : s2.kap s.n = p := (l2.kap s.n (Nat.lt_succ_self _)).trans (if_pos rfl)
  obtain ⟨us, h1, z1, r1⟩ := g2.ct _ _ hid.1
  cases r1
  rw [hk] at h1
  have ey : ks.length = vy.length := by rw [hl]; exact ry.length
  rw [Reps.keys rx]
  refine ⟨h1, ks.zip vy, zip_keys ks vy, by rw [List.length_zip]; omega, ?_⟩
  rw [merge_zip ey nd]
  -- in sight, then written
  have L3 : Le s (s2.look s.n true) := (l1.trans l2).showH hs
  have v3 : (s2.look s.n true).vis s.n = true := if_pos rfl
  have a3 : (s2.look s.n true).al s.n = some (.dct [] []) := hid.1
  have l4 : Le (s2.look s.n true) ((s2.look s.n true).put s.n (.dK (ks.zip vy)) (.dct ks ys)) := Le.put a3 v3
  have g4 : Good cl ((s2.look s.n true).put s.n (.dK (ks.zip vy)) (.dct ks ys)) := (g2.look).put a3 v3 ⟨vy, upd_same, ey, (ry.looked (b := true)).mono l4⟩
  have e4 : ((s2.look s.n true).put s.n (.dK (ks.zip vy)) (.dct ks ys)).mu = setMu s2.mu s.n (.dct ks ys) := by
    rw [put_mu v3, show_mu hid.1, setMu_set]
  have n2 : s2.mu s.n = none := by unfold Sn.mu; rw [hid.2]; rfl
  have fin := k ks ys _ (L3.trans l4) g4 (by rw [e4]; exact setMu_same) (by rw [e4, delMu_set n2]; exact q3) ⟨s2.mu, n2, e4, q3⟩
  have ek : ((s2.look s.n true).put s.n (.dK (ks.zip vy)) (.dct ks ys)).kap s.n = p := hk
  rw [ek] at fin
  have eH : ((s2.look s.n true).put s.n (.dK (ks.zip vy)) (.dct ks ys)).H = upd s2.H p (.dK (ks.zip vy)) := by
    show upd s2.H (s2.kap s.n) _ = _
    rw [hk]
  rw [eH] at fin
  exact fin
variable {X : Cx} {pos : Pos} {keys : List (Option Expr)} {values : List Expr} {t : List (DTE × DTE)}
theorem de_dict (h : DPs cl s0 X pos keys values t) (hall : keys.all (·.isSome) = true := by rfl) (hl : keys.length = values.length := by rfl) (h0 : keys ≠ [] := by exact fun z => nomatch z) (h15 : keys.length ≤ 15 := by decide) : DE cl s0 X (.Dict keys values pos) (dDict t) := by
  obtain ⟨tps, pp, v⟩ := h
  refine ⟨_, pe_disp pp hall hl h0 h15, ⟨fun s σ r Φ Q g w l q k => ev_disp v (Φ := fun ks ys m1 => Φ (.dct ks ys) m1) g w l q fun ks ys s' l' g' hm q1 _ => ?_⟩⟩
  obtain ⟨hal, hv⟩ := Sn.mu_al hm
  obtain ⟨us, h1, z1, r1⟩ := g'.ct _ _ hal
  exact k _ _ (s'.close s.n) (l'.trans (Le.close hv)) (g'.close hv) (.dct (close_not_M g' hal) h1 z1 (r1.mono (Le.close hv))) (by rw [close_mu]; exact q1)
theorem de_dictH (h : DPs cl s0 X pos keys values t) (hall : keys.all (·.isSome) = true := by rfl) (hl : keys.length = values.length := by rfl) (h0 : keys ≠ [] := by exact fun z => nomatch z) (h15 : keys.length ≤ 15 := by decide) : DE cl s0 X (.Dict keys values pos) (dDictH t) := by
  obtain ⟨tps, pp, v⟩ := h
  refine ⟨_, pe_disp pp hall hl h0 h15, ⟨fun s σ r Φ Q g w l q k => ev_disp v (Φ := fun ks ys m1 => ∀ k, m1 k = none → Φ (.hd k) (setMu m1 k (.dct ks ys))) g w l q fun ks ys s' l' g' hm _ q1 => ?_⟩⟩
  obtain ⟨m1, hn, e, q2⟩ := q1
  exact k (.hd s.n) _ s' l' g' (.hd (g'.dom _ _ (Sn.mu_al hm).1)) (by rw [e]; exact q2 s.n hn)
/-- {} -/
def dDict0 : DTE := fun _ m Φ => Φ (.dct [] []) m
def dDictH0 : DTE := fun _ m Φ => ∀ k, m k = none → Φ (.hd k) (setMu m k (.dct [] []))
theorem de_dict0 : DE cl s0 X (.Dict [] [] pos) dDict0 := ⟨_, pe_dnewK, ⟨fun s σ r Φ Q g w l q k => fun p hp => k _ _ (s.lay p (.dK [])) (Le.lay g hp) (g.lay hp) (.dct (ks := []) (vs := []) (g.fresh hp) (show upd s.H p (.dK []) p = some (.dK []) from upd_same) rfl .nil) q⟩⟩
end
end ER

namespace ER
open PySem PySem.Spec PyProof.Rows L2
section
variable {cl : Nat → Addr} {r : Env} {m : Mu} {Φ : DK} {De : DEnds}
theorem j_chain {f f' : D → D → Mu → DK → Prop} {ta tb tc : DTE} (h : ta r m fun x m1 => tb r m1 fun y m2 => f x y m2 fun z m3 => boolD z m3 fun k m3 => Br k (tc r m3 fun w m4 => f' y w m4 Φ) (Φ (.v (.bl false)) m3)) : dChain f f' ta tb tc r m Φ := h
theorem j_make {c n : Nat} {F : DFn} {t : DTA} (h : t r m fun ds m1 => ds.length + 1 = n ∧ ∀ k, m1 k = none →
  Go F (.hd k :: ds) (setMu m1 k (.ins c [] [])) (fun v m2 => v = .v .non ∧ Sm (m2 k) (insC c fun ns xs => Φ (.obj c ns xs) (delMu m2 k))) noX) : dMake c n F t r m Φ := h
theorem j_fld {c : Nat} {f : Str} {t : DTE} (h : t r m fun d m1 => fldD c f d m1 Φ) : dFld c f t r m Φ := h
theorem j_fldO {c : Nat} {f : Str} {ns : List Str} {xs : List D} {y : D} (e : lk f ns xs = some y) (h : Φ y m) : fldD c f (.obj c ns xs) m Φ := ⟨rfl, .mk y e h⟩
theorem j_setF {c : Nat} {f : Str} {to te : DTE} (h : te r m fun y m1 => to r m1 fun d m2 => setFD c f d y m2 fun m3 => De.nx r m3) : dSetF c f to te De r m := h
theorem j_setFH {c k : Nat} {f : Str} {y : D} {ns : List Str} {xs : List D} {Φ : Mu → Prop} (hk : m k = some (.ins c ns xs)) (hf : f ∉ ns) (hz : ns.length < 900) (h : Φ (setMu m k (.ins c (ns ++ [f]) (xs ++ [y])))) : setFD c f (.hd k) y m Φ := .mk _ hk ⟨rfl, hf, hz, h⟩
theorem j_meth {c n : Nat} {mm : Str} {F : DFn} {to : DTE} {t : DTA} (h : to r m fun d m1 => selfD c mm d (t r m1 fun ds m2 => ds.length + 1 = n ∧ Go F (d :: ds) m2 Φ noX)) : dMeth c mm n F to t r m Φ := h
theorem j_self {c : Nat} {mm : Str} {ns : List Str} {xs : List D} {K : Prop} (hn : mm ∉ ns) (h : K) : selfD c mm (.obj c ns xs) K := ⟨rfl, hn, h⟩
theorem j_prop {c : Nat} {F : DFn} {to : DTE} (h : to r m fun d m1 => selfD c "" d (Go F [d] m1 Φ noX)) : dProp c F to r m Φ := h
theorem j_dget {to ti : DTE} (h : to r m fun x m1 => ti r m1 fun y m2 => asDct x m2 fun ks ds => Sm (keyD y) fun k => Sm (getK ks ds k) fun d => Φ d m2) : dGet to ti r m Φ := h
theorem j_asD {ks : List Key} {ds : List D} {Φ : List Key → List D → Prop} (h : Φ ks ds) : asDct (.dct ks ds) m Φ := h
theorem j_app {to : DTE} {t : DTA} (h : to r m fun o m1 => okList o m1 ∧ t r m1 fun ds m2 => appD o ds m2 Φ) : dApp to t r m Φ := h
theorem j_okL {k : Nat} {xs : List D} {B : Prop} (hk : m k = some (.lst xs)) (h : B) : okList (.hd k) m ∧ B := ⟨.mk _ hk trivial, h⟩
theorem j_appH {k : Nat} {xs : List D} {d : D} (hk : m k = some (.lst xs)) (z : xs.length < sizeLine) (h : Φ (.v .non) (setMu m k (.lst (xs ++ [d])))) : appD (.hd k) [d] m Φ := .mk _ hk ⟨z, h⟩
theorem j_pop {to : DTE} (h : to r m fun o m1 => popD o m1 Φ) : dPop to r m Φ := h
theorem j_popH {k : Nat} {xs : List D} {d : D} (hk : m k = some (.lst (xs ++ [d]))) (h : Φ d (setMu m k (.lst xs))) : popD (.hd k) m Φ := .mk _ hk (.end_ h)
theorem j_inT {neg : Bool} {x : V} {ys : List D} {zs : List V} (e : ys = zs.map D.v) (f1 : flatV x = true) (f2 : zs.all flatV = true) (h : ngK neg Φ (inV x zs) m) : inD neg (.v x) (.tup ys) m Φ := ⟨zs, e, f1, f2, h⟩
theorem j_inD {neg : Bool} {x : V} {ks : List Key} {ds : List D} {k : Key} (e : keyD (.v x) = some k) (h : ngK neg Φ (getK ks ds k).isSome m) : inD neg (.v x) (.dct ks ds) m Φ := .mk k e h
theorem j_isi {c : Nat} {x : D} {a : Addr} {b : Bool} (ha : a = cl c) (hb : isCD c x = some b) (h : Φ (.v (.bl b)) m) : isiD cl c [x, .v (.ref a)] m Φ := ⟨ha, .mk b hb h⟩
theorem j_dict {t : List (DTE × DTE)} (h : dPairs t r m fun xs ys m1 => ∃ ks : List Key, xs = ks.map (fun k => D.v (kV k)) ∧ ks.Nodup ∧ ks.length = ys.length ∧ ks.length ≤ 15 ∧ Φ (.dct ks ys) m1) : dDict t r m Φ := h
theorem j_p0 {Φ : List D → List D → Mu → Prop} (h : Φ [] [] m) : dPairs [] r m Φ := h
theorem j_p1 {tk tv : DTE} {rest : List (DTE × DTE)} {Φ : List D → List D → Mu → Prop} (h : tk r m fun x m1 => tv r m1 fun y m2 => dPairs rest r m2 fun xs ys m3 => Φ (x :: xs) (y :: ys) m3) : dPairs ((tk, tv) :: rest) r m Φ := h
theorem j_ownL {c : Nat} {F FR : DFn} {f : D → D → Mu → DK → Prop} {ns ns2 : List Str} {xs xs2 : List D} (h : Go F [.obj c ns xs, .obj c ns2 xs2] m Φ noX) : ownD c F FR f (.obj c ns xs) (.obj c ns2 xs2) m Φ := ⟨⟨rfl, rfl⟩, h⟩
theorem j_ownI {c : Nat} {F FR : DFn} {f : D → D → Mu → DK → Prop} {ns : List Str} {xs : List D} {i : Int} (h : Go F [.obj c ns xs, .v (.int i)] m Φ noX) : ownD c F FR f (.obj c ns xs) (.v (.int i)) m Φ := ⟨rfl, h⟩
theorem j_ownR {c : Nat} {F FR : DFn} {f : D → D → Mu → DK → Prop} {ns : List Str} {xs : List D} {i : Int} (h : Go FR [.obj c ns xs, .v (.int i)] m Φ noX) : ownD c F FR f (.v (.int i)) (.obj c ns xs) m Φ := ⟨rfl, h⟩
theorem j_ownN {c : Nat} {F FR : DFn} {f : D → D → Mu → DK → Prop} {i j : Int} (h : f (.v (.int i)) (.v (.int j)) m Φ) : ownD c F FR f (.v (.int i)) (.v (.int j)) m Φ := h
theorem j_showI {i : Int} (z : i.natAbs.log2 < 1920) (h : Φ (.v (.str (toString i))) m) : showD [.v (.int i)] m Φ := ⟨z, h⟩
theorem j_showL {xs : List D} {p : PyData} (e : PyOf (.lst xs) p) (z : Showable p) (h : Φ (.v (.str p.shown)) m) : showD [.lst xs] m Φ := .mk p e z h
-- ~x
def ownU (c : Nat) (F : DFn) (x : D) (m : Mu) (Φ : DK) : Prop := match x with
  | .obj c1 ns xs => c1 = c ∧ Go F [.obj c1 ns xs] m Φ noX
  | _ => False
structure UnOk (P : Program) (w : World) (K : PySem.W.Frag) (mg : Str → Option Value) (base : Heap) (cl : Nat → Addr) (c : Nat) (k : Nat) (F : DFn) : Prop where
  l : ∃ f fd, OwnUn K (cl c) f ∧ FnD P w K mg base cl k f fd ["self"] F ∧ Binds K fd ["self"] []
variable {s0 : Sn} {X : Cx} {a : Expr} {ta : DTE} {pos : Pos} {c k : Nat} {F : DFn}
theorem de_inv (S : UnOk X.prog X.w X.K X.mg X.base cl c k F) (hr : Room k X.A) (ha : DE cl s0 X a ta) : DE cl s0 X (.UnaryOp .Invert a pos) (dUn (ownU c F) ta) := by
  obtain ⟨f, fd, O, G, hb⟩ := S.l
  refine de_un (un_own O G hr hb passL) (fun s x dx Φ Q g rx h k => ?_) ha
  unfold ownU at h
  split at h
  · obtain ⟨rfl, h⟩ := h
    have rx0 := rx
    cases rx with
    | obj n1 h1 z1 r1 => exact ⟨_, _, _, rfl, h1, s, _, Φ, noX, rfl, g, .cons rx0 .nil, rfl, h.un, k, fun _ _ _ _ _ _ _ _ z => z.elim⟩
  · exact h.elim
theorem j_inv {ns : List Str} {xs : List D} (h : Go F [.obj c ns xs] m Φ noX) : ownU c F (.obj c ns xs) m Φ := ⟨rfl, h⟩
end
section
variable {cl : Nat → Addr} {s0 : Sn} {X : Cx} {a b c : Expr} {ta tb tc : DTE} {pos : Pos}
theorem dt_chain {op op' : CmpOp} {r r' : R2} {f f' : D → D → Mu → DK → Prop} (ho : OpR X (compareOp op) r) (hd : OpD cl r f) (ho' : OpR X (compareOp op') r') (hd' : OpD cl r' f') (ha : DE cl s0 X a ta) (hb : DE cl s0 X b tb) (hc : DE cl s0 X c tc)
    (hm : lastMarks [op, op'] [b, c] = false := by with_unfolding_all rfl) : DT cl s0 X (.Compare a [op, op'] [b, c] pos) (dB (dChain f f' ta tb tc)) :=
  let ⟨_, pa, ea⟩ := ha; let ⟨_, pb, eb⟩ := hb; let ⟨_, pc, ec⟩ := hc; ⟨_, pt_chain ho ho' pa pb pc hm, ev_b (ev_chain hd hd' ea eb ec)⟩
theorem dt_lele (ha : DE cl s0 X a ta) (hb : DE cl s0 X b tb) (hc : DE cl s0 X c tc) (hm : lastMarks [.LtE, .LtE] [b, c] = false := by with_unfolding_all rfl) : DT cl s0 X (.Compare a [.LtE, .LtE] [b, c] pos) (dB (dChain leD leD ta tb tc)) := dt_chain opR_le opd_ord opR_le opd_ord ha hb hc hm
theorem dt_lelt (ha : DE cl s0 X a ta) (hb : DE cl s0 X b tb) (hc : DE cl s0 X c tc) (hm : lastMarks [.LtE, .Lt] [b, c] = false := by with_unfolding_all rfl) : DT cl s0 X (.Compare a [.LtE, .Lt] [b, c] pos) (dB (dChain leD ltD ta tb tc)) := dt_chain opR_le opd_ord opR_lt opd_ord ha hb hc hm
end
section
theorem j_ndecF {p A B : Prop} [Decidable p] (h : p) (h1 : B) : Br (!decide p) A B := .f (by rw [decide_eq_true h]; rfl) h1
theorem j_ndecT {p A B : Prop} [Decidable p] (h : ¬ p) (h1 : A) : Br (!decide p) A B := .t (by rw [decide_eq_false h]; rfl) h1
theorem j_forC {g : DTG} {tb : DTS} {De : DEnds} {x : D} {xs : List D} {r : Env} {m : Mu} (h : g x r m fun r' m' => tb { De with nx := dForL g tb De xs, ct := dForL g tb De xs, bk := De.nx } r' m') : dForL g tb De (x :: xs) r m := h
theorem j_forN {g : DTG} {tb : DTS} {De : DEnds} {r : Env} {m : Mu} (h : De.nx r m) : dForL g tb De [] r m := h
theorem one_lt (c d : Nat) : ([c] < [d]) ↔ c < d := by
  rw [List.cons_lt_cons_iff]
  constructor
  · rintro (h | ⟨_, h⟩)
    · exact h
    · exact absurd h (List.not_lt_nil _)
  · exact Or.inl
theorem j_nF {b : Bool} {A B : Prop} (e : b = false) (h : A) : Br (!b) A B := .t (by rw [e]; rfl) h
theorem j_nT {b : Bool} {A B : Prop} (e : b = true) (h : B) : Br (!b) A B := .f (by rw [e]; rfl) h
theorem j_nn {b : Bool} {A B : Prop} (e : b = false) (h : B) : Br (!!b) A B := .f (by rw [e]; rfl) h
end
/-! ## bodies with handles of their own -/
def keepMu (m m' : Mu) : Mu := fun k => if (m k).isSome = true then m' k else none
theorem keep_own {m m' : Mu} {k : Nat} (hk : m k = none) (h : ∀ j, j ≠ k → m' j = m j) : keepMu m m' = m := by
  funext j
  unfold keepMu
  by_cases z : j = k
  · rw [z, hk]; rfl
  · rw [h j z]
    cases m j <;> rfl
theorem keep_same {m : Mu} : keepMu m m = m := by
  funext j
  unfold keepMu
  cases m j <;> rfl
section
variable {P : Program} {w : World} {K : PySem.W.Frag} {mg : Str → Option Value} {base : Heap} {cl : Nat → Addr} {f : Addr} {fd : FuncData} {ps : List Str} {F : DFn}
theorem okDL {x qual : Str} {st : Stmt} {N : List Str} {k : Nat} (Fu : Fun K x qual st f fd) (S : FnScope N ps (defScope st))
    (hbody : ∀ (cdv : Value) (A : Around) (outer : List PySem.Env) (s : Shared) (H : Hp) (E : XK) (s0 : Sn) (Ξ : DX), Room k (A.deeper (envOfC qual (defScope st) s.heap.objs.size f cdv)) →
      TakesD cl s0 (cxOf (L2.CX P w) P w K mg base N qual (defScope st) f cdv A outer s H E) (fun _ => Ξ) →
      ∃ t, DSs cl s0 (cxOf (L2.CX P w) P w K mg base N qual (defScope st) f cdv A outer s H E) (defBody st) t ∧ ∀ ds m Φ, ds.length = ps.length → F ds m Φ Ξ → t { nx := fun _ m' => Φ (.v .non) (keepMu m m'), rt := fun d m' => Φ d (keepMu m m') } (startD N ds) m) :
    FnD P w K mg base cl (k + 1) f fd ps F := by
  refine Fu.okX S (fun vs H Q E h => spD_len h) fun cdv A outer s H vs Q E hr h => ?_
  obtain ⟨s1, ds, Φ, Ξ, e1, g, r, hl, hF, hQ, hE⟩ := h
  subst e1
  obtain ⟨t, ⟨tt, pp, v⟩, ht⟩ := hbody cdv A outer s s1.H E s1 Ξ hr ((takes_of rfl rfl rfl rfl).imp fun cls a σ H' ⟨s2, c, d, r2, l2, g2, _, e2, x2, z⟩ => by
    subst e2
    exact hE c d s2 cls a l2 g2 x2 z)
  have fin : ∀ (d : D) (u : V) (s2 : Sn), Le s1 s2 → Good cl s2 → Rep cl s2 d u → Φ d (keepMu s1.mu s2.mu) → Q u s2.H := fun d u s2 l2 g2 r2 q2 =>
    hQ d u (s2.only s1.mu) (l2.trans Le.only) g2.only (r2.mono Le.only) (by rw [only_mu]; exact q2)
  refine ⟨tt, pp, v.run s1 (L2.start N vs) (startD N ds) _ _ g (env_start r) (Le.refl s1) (ht ds s1.mu Φ hl hF) ⟨fun s2 r2 σ l2 g2 w2 q2 => ?_, fun _ _ _ _ _ _ z => z.elim, fun _ _ _ _ _ _ z => z.elim, fun s2 d v2 l2 g2 r2 q2 => ?_⟩⟩
  · exact fin (.v .non) .non s2 l2 g2 (.v _) q2
  · exact fin d v2 s2 l2 g2 r2 q2
end
/-- a for by an invariant -/
theorem for_inv {α : Type} {g : DTG} {tb : DTS} {De : DEnds} (fn : α → D) (I : List α → Env → Mu → Prop)
    (step : ∀ x xs (N : Env → Mu → Prop) r m, (∀ r m, I xs r m → N r m) → I (x :: xs) r m → g (fn x) r m fun r' m' => tb { De with nx := N, ct := N, bk := De.nx } r' m')
    (fin : ∀ r m, I [] r m → De.nx r m) : ∀ xs r m, I xs r m → dForL g tb De (xs.map fn) r m
  | [], r, m, h => fin r m h
  | x :: xs, r, m, h => step x xs (dForL g tb De (xs.map fn)) r m (fun r m h => for_inv fn I step fin xs r m h) h
theorem len_small {n : Nat} (h : n ≤ 100) : n ≤ sizeLine := Nat.le_trans h (by rw [sizeLine_eq]; omega)
end ER

namespace ER
open PySem PySem.Spec PyProof.Rows L2
/-! ## an own sign without a reflected one (x // y) -/
structure SignL (P : Program) (w : World) (K : PySem.W.Frag) (mg : Str → Option Value) (base : Heap) (cl : Nat → Addr) (op : Operator) (c : Nat) (k : Nat) (F : DFn) : Prop where
  l : ∃ f fd, OwnOp K (cl c) op f ∧ FnD P w K mg base cl k f fd ["self", "other"] F ∧ Binds K fd ["self", "other"] []
  i : OwnOpI K (cl c) op
def ownDL (c : Nat) (F : DFn) : D → D → Mu → DK → Prop := fun x y m Φ => match x, y with
  | .obj c1 ns xs, .v (.int i) => c1 = c ∧ Go F [.obj c1 ns xs, .v (.int i)] m Φ noX
  | _, _ => False
section
variable {cl : Nat → Addr} {s0 : Sn} {X : Cx} {a b : Expr} {ta tb : DTE} {pos : Pos} {c k : Nat} {F : DFn} {op : Operator}
theorem opd_ownL : OpD cl (rOwnI (cl c) (spD cl 2 F) E0) (ownDL c F) := fun s x y dx dy Φ Q g rx ry q k => by
  unfold ownDL at q
  split at q
  · obtain ⟨rfl, q⟩ := q
    have rx0 := rx
    cases ry
    cases rx with
    | obj n1 h1 z1 r1 => exact ⟨_, _, _, _, rfl, h1, rfl, s, _, Φ, noX, rfl, g, .cons rx0 (.cons (.v _) .nil), rfl, q.un, k, fun _ _ _ _ _ _ _ _ z => z.elim⟩
  · exact q.elim
theorem de_binL (S : SignL X.prog X.w X.K X.mg X.base cl op c k F) (hr : Room k X.A) (ha : DE cl s0 X a ta) (hb : DE cl s0 X b tb) : DE cl s0 X (.BinOp a op b pos) (dOp (ownDL c F) ta tb) :=
  let ⟨_, _, O, G, hbl⟩ := S.l; de_bin (op_ownI O S.i G hr hbl passL) opd_ownL ha hb
end
/-! ## methods called by keywords alone -/
def pick {α : Type} (js : List Nat) (xs : List α) : List α := js.filterMap fun j => xs[j]?
def gpick {α : Type} (nk : Nat) (js : List Nat) (us ws : List α) : List α := if us.length = 1 ∧ ws.length = nk then pick js (us ++ ws) else []
section
variable {cl : Nat → Addr} {s : Sn}
theorem pick_cons {α : Type} {j : Nat} {js : List Nat} {xs : List α} : pick (j :: js) xs = (match xs[j]? with | some x => x :: pick js xs | none => pick js xs) := by
  unfold pick
  rw [List.filterMap_cons]
  cases xs[j]? <;> rfl
theorem pick_vals {vs : List V} {us : List Value} (r : Vals vs us) : ∀ js : List Nat, Vals (pick js vs) (pick js us)
  | [] => .nil
  | j :: js => by
    rw [pick_cons, pick_cons]
    cases e : vs[j]? with
    | some x =>
      obtain ⟨u, e2, ru⟩ := r.get e
      rw [e2]
      exact .cons ru (pick_vals r js)
    | none =>
      have h : vs.length ≤ j := List.getElem?_eq_none_iff.mp e
      rw [List.getElem?_eq_none (by rw [← r.length]; exact h)]
      exact pick_vals r js
theorem pick_reps {ds : List D} {vs : List V} (r : Reps cl s ds vs) : ∀ js : List Nat, Reps cl s (pick js ds) (pick js vs)
  | [] => .nil
  | j :: js => by
    rw [pick_cons, pick_cons]
    cases e : ds[j]? with
    | some d =>
      obtain ⟨v, e2, rv⟩ := r.get e
      rw [e2]
      exact .cons rv (pick_reps r js)
    | none =>
      have h : ds.length ≤ j := List.getElem?_eq_none_iff.mp e
      rw [List.getElem?_eq_none (by rw [← r.length]; exact h)]
      exact pick_reps r js
end
structure MethKOk (P : Program) (w : World) (K : PySem.W.Frag) (mg : Str → Option Value) (base : Heap) (cl : Nat → Addr) (m : Str) (c : Nat) (k : Nat) (ps ks : List Str) (js : List Nat) (F : DFn) : Prop where
  is : ∃ f fd, FnD P w K mg base cl k f fd ps F ∧ Cls K (cl c) ∧ Meth K (cl c) m f ∧
    ∀ (s : Shared) (us ws : List Value), K.In s.heap → (gpick ks.length js us ws).length = ps.length → BindsTo s fd ⟨us, ks.zip ws⟩ (ps.zip (gpick ks.length js us ws))
theorem kb_of {K : PySem.W.Frag} {fd : FuncData} {ps ks : List Str} {js : List Nat} (h : ∀ (s : Shared) (us ws : List Value), K.In s.heap → (gpick ks.length js us ws).length = ps.length → BindsTo s fd ⟨us, ks.zip ws⟩ (ps.zip (gpick ks.length js us ws))) :
    KBinds K fd ps ks (gpick ks.length js) (gpick ks.length js) :=
  ⟨h, fun {vs us zs ws} r r2 => by
    unfold gpick
    rw [r.length, r2.length]
    split
    · exact pick_vals (r.append r2) js
    · exact .nil⟩
def DKw (cl : Nat → Addr) (s0 : Sn) (X : Cx) (kws : List Keyword) (t : DTA) : Prop := ∃ tk, PK X kws tk ∧ EvA cl s0 tk t
def dMethK (c : Nat) (m : Str) (nk : Nat) (js : List Nat) (n : Nat) (F : DFn) (to : DTE) (t : DTA) : DTE := fun r mu Φ => to r mu fun d m1 => selfD c m d (t r m1 fun ds m2 => ds.length = nk ∧ (pick js (d :: ds)).length = n ∧ Go F (pick js (d :: ds)) m2 Φ noX)
section
variable {cl : Nat → Addr} {s0 : Sn} {X : Cx} {o e : Expr} {to te : DTE} {td : DTA} {kws : List Keyword} {pos apos kpos : Pos} {m : Str} {c k : Nat} {ps ks : List Str} {js : List Nat} {F : DFn} {nm : Option Str}
theorem dk_nil : DKw cl s0 X [] dNil := ⟨_, pk_nil, ⟨fun s σ r Φ Q g v l q k => k [] [] s (Le.refl s) g .nil q⟩⟩
theorem dk_cons (ha : DE cl s0 X e te) (hr : DKw cl s0 X kws td) : DKw cl s0 X (⟨nm, e, kpos⟩ :: kws) (dCons te td) :=
  let ⟨_, p, v⟩ := ha; let ⟨_, p', v'⟩ := hr; ⟨_, pk_cons p p', ⟨fun s σ r Φ Q g w l q k => v.run s σ r _ _ g w l q fun d x s1 l1 g1 rx q1 =>
    v'.run s1 σ r _ _ g1 (w.mono l1) (l.trans l1) q1 fun ds xs s2 l2 g2 rs q2 => k _ _ s2 (l1.trans l2) g2 (.cons (rx.mono l2) rs) q2⟩⟩
theorem de_methK {pl : Sem Bool} (C : MethKOk X.prog X.w X.K X.mg X.base cl m c k ps ks js F) (hr : Room k X.A) (ho : DE cl s0 X o to) (hkw : DKw cl s0 X kws td)
    (hall : (backToKw pos (keywordEach kws X.env)).all (·.1.isSome) = true := by rfl) (hks : (backToKw pos (keywordEach kws X.env)).filterMap (·.1) = ks := by rfl)
    (hpl : ((backTo pos (starEach [] X.env)).any (·.1) || (backToKw pos (keywordEach kws X.env)).any (·.1.isNone)) = false := by rfl)
    (ht : eval (.Call (.Attribute o m apos) [] kws pos) X.env = (do
      let it ← eval o X.env
      standAt apos.atName
      let (f, first) ← holding [it] (getMethod it m pl)
      callWith pos f first (backTo pos (starEach [] X.env)) (backToKw pos (keywordEach kws X.env))) := by rfl) :
    DE cl s0 X (.Call (.Attribute o m apos) [] kws pos) (dMethK c m ks.length js ps.length F to td) := by
  obtain ⟨f, fd, G, hc, hm, hb⟩ := C.is
  obtain ⟨tt, p1, v1⟩ := ho
  obtain ⟨tk, p2, v2⟩ := hkw
  refine ⟨fun σ H Q => tt σ H fun x H1 => ∃ a dx fs, x = .ref a ∧ H1 a = some (.ins (cl c) dx fs) ∧ fs.lookup m = none ∧ tk σ H1 fun zs H2 => spD cl ps.length F (gpick ks.length js [.ref a] zs) H2 Q E0, ⟨fun pins s σ H Q I h => ?_⟩, ⟨fun s σ r Φ Q g w l q kk => ?_⟩⟩
  · refine PySem.W.methodCall_KW (pl := pl) (thn (p1.run pins s σ H _ I h) fun u t ⟨x, H1, J, rx, a, dx, fs, ex, ea, lk, q⟩ => ?_) ht
    subst ex
    obtain rfl : u = Value.ref a := rx
    refine getmeth_ok J ea hc hm lk (PySem.W.callWith_KW0 (h₀ := X.base) J.ok.mod.kin hm.kp hall (thn (p2.run pos pins t σ H1 _ J q) fun ws t2 ⟨zs, H2, J2, rz, q2⟩ => ⟨J2.kIn, ?_⟩) hpl)
    rw [hks]
    exact run_fnk (us := [.ref a]) (vs := [.ref a]) G hr (kb_of hb) passL J2 (.cons rfl .nil) rz q2
  · refine v1.run s σ r _ _ g w l q fun d x s1 l1 g1 rx q1 => ?_
    unfold selfD at q1
    split at q1
    · obtain ⟨rfl, hn, q1⟩ := q1
      have rx0 := rx
      cases rx with
      | obj n1 h1 z1 r1 =>
        refine ⟨_, _, _, rfl, h1, zip_none hn, v2.run s1 σ r _ _ g1 (w.mono l1) (l.trans l1) q1 fun ds vs s2 l2 g2 r2 q2 => ?_⟩
        obtain ⟨e1, e2, q2⟩ := q2
        have ev : ∀ u : V, gpick ks.length js [u] vs = pick js (u :: vs) := fun u => if_pos ⟨rfl, by rw [← r2.length]; exact e1⟩
        rw [ev]
        exact ⟨s2, _, Φ, noX, rfl, g2, pick_reps (.cons (rx0.mono l2) r2) js, e2, q2.un, fun d v s3 l3 g3 r3 q3 => kk d v s3 ((l1.trans l2).trans l3) g3 r3 q3, fun _ _ _ _ _ _ _ _ z => z.elim⟩
    · exact q1.elim
end
end ER

namespace ER
open PySem PySem.Spec PyProof.Rows L2
/-! ## == of data that are the same: lists and dicts, one within the other -/
inductive SD : Nat → D → Prop
  | v {n : Nat} {x : V} : flatB x = true → SD (n + 1) (.v x)
  | lst {n : Nat} {ds : List D} : (∀ d ∈ ds, SD n d) → SD (n + 1) (.lst ds)
  | dct {n : Nat} {ks : List Key} {ds : List D} : ks.Nodup → (∀ d ∈ ds, SD n d) → SD (n + 1) (.dct ks ds)
section
variable {cl : Nat → Addr} {s : Sn} {K : PySem.W.Frag}
theorem paired_same {E : V → V → Prop} : ∀ {ds : List D} {vs us : List V}, Reps cl s ds vs → Reps cl s ds us → (∀ d ∈ ds, ∀ x y, Rep cl s d x → Rep cl s d y → E x y) → Paired E vs us
  | _, _, _, .nil, .nil, _ => .nil
  | _, _, _, .cons a r, .cons b q, h => .cons (h _ List.mem_cons_self _ _ a b) (paired_same r q fun d hd => h d (List.mem_cons_of_mem _ hd))
theorem zip_hit {E : V → V → Prop} : ∀ {ks : List Key} {vs us : List V}, Paired E vs us → ks.Nodup → ks.length = us.length → ∀ p ∈ ks.zip vs, ∃ u, valV (ks.zip us) p.1 = some u ∧ E p.2 u
  | [], _, _, _, _, _, p, hp => nomatch hp
  | _ :: _, _, _, .nil, _, _, p, hp => nomatch hp
  | k :: ks, v :: vs, u :: us, .cons h t, nd, hl, p, hp => by
    have nd2 := List.nodup_cons.mp nd
    rcases List.mem_cons.mp hp with rfl | hp
    · exact ⟨u, valV_pos (p := (k, u)) rfl, h⟩
    · obtain ⟨u', e, q⟩ := zip_hit t nd2.2 (Nat.succ.inj hl) p hp
      refine ⟨u', ?_, q⟩
      have ne : ¬ k = p.1 := fun z => nd2.1 (by rw [z]; exact (List.of_mem_zip (show (p.1, p.2) ∈ ks.zip vs from hp)).1)
      exact (valV_neg (p := (k, u)) ne).trans e
theorem SD.same {n : Nat} {d : D} (h : SD n d) : ∀ {x y : V}, Rep cl s d x → Rep cl s d y → EqV K s.H n x y := by
  induction h with
  | v f =>
    intro x y a b
    cases a
    cases b
    exact .inl ⟨rfl, f⟩
  | lst h ih =>
    intro x y a b
    cases a with
    | lst _ h1 r => cases b with
      | lst _ h2 q => exact .inr (.inr (.inl ⟨_, _, _, _, rfl, rfl, SqL.of h1, SqL.of h2, paired_same r q fun d hd x y a b => ih d hd a b⟩))
  | dct nd h ih =>
    intro x y a b
    cases a with
    | dct _ h1 z1 r => cases b with
      | dct _ h2 z2 q => exact .inr (.inr (.inr ⟨_, _, _, _, rfl, rfl, h1, h2, by rw [List.length_zip, List.length_zip, ← z1, ← z2], zip_hit (paired_same r q fun d hd x y a b => ih d hd a b) nd z2⟩))
end
def eqSame (x y : D) (m : Mu) (Φ : DK) : Prop := match x, y with
  | .lst xs, .lst ys => xs = ys ∧ (∃ n, n < 60 ∧ SD (n + 1) (.lst xs)) ∧ Φ (.v (.bl true)) m
  | _, _ => False
section
variable {cl : Nat → Addr} {s0 : Sn} {X : Cx} {a b : Expr} {ta tb : DTE} {pos : Pos}
theorem de_eqS (hu : X.A.units + 64 < cLine) (ha : DE cl s0 X a ta) (hb : DE cl s0 X b tb) : DE cl s0 X (.Compare a [.Eq] [b] pos) (dOp eqSame ta tb) :=
  de_cmp (op_eqV hu) (fun s x y dx dy Φ Q g rx ry h k => by
    unfold eqSame at h
    split at h
    · obtain ⟨rfl, ⟨n, hn, sd⟩, q⟩ := h
      refine ⟨n, by omega, ?_, k _ _ s (Le.refl s) g (.v _) q⟩
      cases sd with
      | lst h =>
        cases rx with
        | lst _ h1 r => cases ry with
          | lst _ h2 q => exact .inl ⟨_, _, _, _, rfl, rfl, SqL.of h1, SqL.of h2, paired_same r q fun d hd x y a b => SD.same (h d hd) a b⟩
    · exact h.elim) ha hb (nomark _)
end
end ER

namespace ER
open PySem PySem.Spec PyProof.Rows L2
/-! ## a written dict of defs, and a call of a local name that holds one -/
structure HeldD (P : Program) (w : World) (K : PySem.W.Frag) (mg : Str → Option Value) (base : Heap) (cl : Nat → Addr) (k : Nat) (f : Addr) (n : Nat) (F : DFn) : Prop where
  is : ∃ fd ps, ps.length = n ∧ FnD P w K mg base cl k f fd ps F ∧ PySem.W.keepIn K (.ref f) = true ∧ Binds K fd ps []
def wixD (K : PySem.W.Frag) (w : World) : D → D → Mu → DK → Prop := fun x y m Φ => match x, y with
  | .v (.ref p), .v (.str z) => ∃ f, KDct K w p z (.ref f) ∧ Φ (.v (.ref f)) m
  | _, _ => False
section
variable {cl : Nat → Addr} {s0 : Sn} {X : Cx} {a b e : Expr} {es : List Expr} {ta tb : DTE} {tds : DTA} {pos p : Pos} {x : Str} {i k : Nat}
theorem opd_wix {K : PySem.W.Frag} {w : World} : OpD cl (rIxD K w) (wixD K w) := fun s x y dx dy Φ Q g rx ry h k => by
  unfold wixD at h
  split at h
  · obtain ⟨f, kd, q⟩ := h
    cases rx
    cases ry
    exact ⟨_, _, _, rfl, rfl, kd, k _ _ s (Le.refl s) g (.v _) q⟩
  · exact h.elim
theorem de_wget (ha : DE cl s0 X a ta) (hb : DE cl s0 X b tb) (hs : PlainIx b := by exact fun _ _ => rfl) : DE cl s0 X (.Subscript a b pos) (dOp (wixD X.K X.w) ta tb) :=
  let ⟨_, pa, ea⟩ := ha; let ⟨_, pb, eb⟩ := hb; ⟨_, pe_ix ix_kdict pa pb hs, ev_op opd_wix ea eb⟩
def tCallH (P : Program) (w : World) (K : PySem.W.Frag) (mg : Str → Option Value) (base : Heap) (i k : Nat) (t : TA) : TE := fun σ H Q => ∃ f sp, σ[i]? = some (some (.ref f)) ∧
  (∃ fd ps, FnOk P w K mg base (L2.CX P w) k f fd ps sp ∧ PySem.W.keepIn K (.ref f) = true ∧ Binds K fd ps []) ∧ t σ H fun vs H1 => sp vs H1 Q E0
theorem pe_callH {t : TA} (hr : Room k X.A) (hN : X.N[i]? = some x) (hv : Vis X.env.scope x) (ha : PA X (e :: es) t)
    (hdb : (x == ("__debug__" : Str)) = false := by decide) (hcd : (x == ("__classdict__" : Str)) = false := by decide)
    (he : starEach (e :: es) X.env = (false, eval e X.env) :: starEach es X.env := by rfl) (hpl : (backTo pos (starEach es X.env)).any (·.1) = false := by rfl) : PE X (.Call (.Name x p) (e :: es) [] pos) (tCallH X.prog X.w X.K X.mg X.base i k t) := by
  refine ⟨fun pins s σ H Q I h => ?_⟩
  obtain ⟨f, sp, hs, ⟨fd, ps, F, hk, hb⟩, ht⟩ := h
  refine (pe_callL (i := i) (f := f) (sp := sp) (dvs := []) (E := E0) F hr hN hv hk hb .nil passL ha hdb hcd he hpl).run pins s σ H Q I ⟨hs, ?_⟩
  have e0 : (fun (vs : List V) (H1 : Hp) => sp (vs ++ []) H1 Q E0) = fun vs H1 => sp vs H1 Q E0 := by
    funext vs H1
    rw [List.append_nil]
  show t σ H (fun vs H1 => sp (vs ++ []) H1 Q E0)
  rw [e0]
  exact ht
def dCallH (P : Program) (w : World) (K : PySem.W.Frag) (mg : Str → Option Value) (base : Heap) (cl : Nat → Addr) (i k : Nat) (t : DTA) : DTE := fun r m Φ => ∃ f n F, r[i]? = some (some (.v (.ref f))) ∧ HeldD P w K mg base cl k f n F ∧ t r m fun ds m1 => ds.length = n ∧ Go F ds m1 Φ noX
theorem de_callH (hr : Room k X.A) (hN : X.N[i]? = some x) (ha : DA cl s0 X (e :: es) tds) (hv : Vis X.env.scope x := by first | exact Or.inl rfl | exact Or.inr (Or.inl rfl) | exact Or.inr (Or.inr rfl))
    (hdb : (x == ("__debug__" : Str)) = false := by decide) (hcd : (x == ("__classdict__" : Str)) = false := by decide)
    (he : starEach (e :: es) X.env = (false, eval e X.env) :: starEach es X.env := by rfl) (hpl : (backTo pos (starEach es X.env)).any (·.1) = false := by rfl) : DE cl s0 X (.Call (.Name x p) (e :: es) [] pos) (dCallH X.prog X.w X.K X.mg X.base cl i k tds) := by
  obtain ⟨ta, pa, v⟩ := ha
  refine ⟨_, pe_callH hr hN hv pa hdb hcd he hpl, ⟨fun s σ r Φ Q g w l q kk => ?_⟩⟩
  obtain ⟨f, n, F, h1, ⟨fd, ps, hn, G, hk, hb⟩, q⟩ := q
  obtain ⟨u, h2, ru⟩ := w.get i _ h1
  cases ru
  refine ⟨f, spD cl ps.length F, h2, ⟨fd, ps, G, hk, hb⟩, v.run s σ r _ _ g w l q fun ds vs s1 l1 g1 r1 q1 => ?_⟩
  exact ⟨s1, ds, Φ, noX, rfl, g1, r1, q1.1.trans hn.symm, q1.2.un, fun d v s2 l2 g2 r2 q2 => kk d v s2 (l1.trans l2) g2 r2 q2, fun _ _ _ _ _ _ _ _ z => z.elim⟩
end
section
variable {cl : Nat → Addr} {r : Env} {m : Mu} {Φ : DK}
theorem j_wix {K : PySem.W.Frag} {w : World} {p f : Addr} {z : Str} (h : KDct K w p z (.ref f)) (q : Φ (.v (.ref f)) m) : wixD K w (.v (.ref p)) (.v (.str z)) m Φ := ⟨f, h, q⟩
theorem j_callH {P : Program} {w : World} {K : PySem.W.Frag} {mg : Str → Option Value} {base : Heap} {i k n : Nat} {t : DTA} {f : Addr} {F : DFn} (e : r[i]? = some (some (.v (.ref f)))) (h : HeldD P w K mg base cl k f n F)
    (q : t r m fun ds m1 => ds.length = n ∧ Go F ds m1 Φ noX) : dCallH P w K mg base cl i k t r m Φ := ⟨f, n, F, e, h, q⟩
end
section
variable {cl : Nat → Addr} {s0 : Sn} {X : Cx} {pos : Pos} {x : Str}
theorem de_gint {n : Int} (hg : Gl X x) (h : ∃ t, X.mg x = some (.int n t)) (hd : (x == ("__debug__" : Str)) = false := by decide) : DE cl s0 X (.Name x pos) (dC (.v (.int n))) := let ⟨_, e⟩ := h; de_glob (v := .int n) hg e ⟨_, rfl⟩ hd
theorem ev_gsnil : EvGs cl s0 gNil dgNil := ⟨fun s σ r ds vs Φ Q g w l rv q k => by
  obtain ⟨e, q⟩ := q
  subst e
  cases rv
  exact ⟨rfl, k s r σ (Le.refl s) g w q⟩⟩
end
section
variable {cl : Nat → Addr} {s0 : Sn} {X : Cx} {a b : Expr} {ta tb : DTE} {pos : Pos} {c k : Nat} {F FR : DFn}
/-- no meaning for ints on both sides -/
def noOpD : D → D → Mu → DK → Prop := fun _ _ _ _ => False
theorem opd_no : OpD cl (fun _ _ _ _ => False) noOpD := fun _ _ _ _ _ _ _ _ _ _ h _ => h.elim
theorem opR_no {f : Value → Value → Sem Value} : OpR X f (fun _ _ _ _ => False) := fun _ _ _ _ _ _ _ _ _ _ _ _ h => h.elim
theorem de_andO (S : SignOk X.prog X.w X.K X.mg X.base cl .BitAnd c k F FR) (hr : Room k X.A) (ha : DE cl s0 X a ta) (hb : DE cl s0 X b tb) : DE cl s0 X (.BinOp a .BitAnd b pos) (dOp (ownD c F FR noOpD) ta tb) := de_own S ioAnd hr opR_no opd_no ha hb
theorem de_orO (S : SignOk X.prog X.w X.K X.mg X.base cl .BitOr c k F FR) (hr : Room k X.A) (ha : DE cl s0 X a ta) (hb : DE cl s0 X b tb) : DE cl s0 X (.BinOp a .BitOr b pos) (dOp (ownD c F FR noOpD) ta tb) := de_own S ioOr hr opR_no opd_no ha hb
end
end ER

namespace ER
open PySem PySem.Spec PyProof.Rows L2
/-! ## environments stay written lists: stores by their place -/
section
variable {r : Env} {m : Mu} {d : Option D} {k : Env → Prop}
theorem okL_of {k : Nat} {xs : List D} (h : m k = some (.lst xs)) : okList (.hd k) m := .mk _ h trivial
variable {x0 x1 x2 x3 x4 x5 x6 x7 x8 x9 x10 x11 x12 x13 x14 x15 x16 x17 x18 x19 x20 x21 x22 x23 x24 x25 x26 x27 : Option D}
theorem s_0 (h : k (d :: r)) : StD (x0 :: r) 0 d k := .mk h
theorem s_1 (h : k (x0 :: d :: r)) : StD (x0 :: x1 :: r) 1 d k := .mk h
theorem s_2 (h : k (x0 :: x1 :: d :: r)) : StD (x0 :: x1 :: x2 :: r) 2 d k := .mk h
theorem s_3 (h : k (x0 :: x1 :: x2 :: d :: r)) : StD (x0 :: x1 :: x2 :: x3 :: r) 3 d k := .mk h
theorem s_4 (h : k (x0 :: x1 :: x2 :: x3 :: d :: r)) : StD (x0 :: x1 :: x2 :: x3 :: x4 :: r) 4 d k := .mk h
theorem s_5 (h : k (x0 :: x1 :: x2 :: x3 :: x4 :: d :: r)) : StD (x0 :: x1 :: x2 :: x3 :: x4 :: x5 :: r) 5 d k := .mk h
theorem s_6 (h : k (x0 :: x1 :: x2 :: x3 :: x4 :: x5 :: d :: r)) : StD (x0 :: x1 :: x2 :: x3 :: x4 :: x5 :: x6 :: r) 6 d k := .mk h
theorem s_7 (h : k (x0 :: x1 :: x2 :: x3 :: x4 :: x5 :: x6 :: d :: r)) : StD (x0 :: x1 :: x2 :: x3 :: x4 :: x5 :: x6 :: x7 :: r) 7 d k := .mk h
theorem s_8 (h : k (x0 :: x1 :: x2 :: x3 :: x4 :: x5 :: x6 :: x7 :: d :: r)) : StD (x0 :: x1 :: x2 :: x3 :: x4 :: x5 :: x6 :: x7 :: x8 :: r) 8 d k := .mk h
theorem s_9 (h : k (x0 :: x1 :: x2 :: x3 :: x4 :: x5 :: x6 :: x7 :: x8 :: d :: r)) : StD (x0 :: x1 :: x2 :: x3 :: x4 :: x5 :: x6 :: x7 :: x8 :: x9 :: r) 9 d k := .mk h
theorem s_10 (h : k (x0 :: x1 :: x2 :: x3 :: x4 :: x5 :: x6 :: x7 :: x8 :: x9 :: d :: r)) : StD (x0 :: x1 :: x2 :: x3 :: x4 :: x5 :: x6 :: x7 :: x8 :: x9 :: x10 :: r) 10 d k := .mk h
theorem s_11 (h : k (x0 :: x1 :: x2 :: x3 :: x4 :: x5 :: x6 :: x7 :: x8 :: x9 :: x10 :: d :: r)) : StD (x0 :: x1 :: x2 :: x3 :: x4 :: x5 :: x6 :: x7 :: x8 :: x9 :: x10 :: x11 :: r) 11 d k := .mk h
theorem s_12 (h : k (x0 :: x1 :: x2 :: x3 :: x4 :: x5 :: x6 :: x7 :: x8 :: x9 :: x10 :: x11 :: d :: r)) : StD (x0 :: x1 :: x2 :: x3 :: x4 :: x5 :: x6 :: x7 :: x8 :: x9 :: x10 :: x11 :: x12 :: r) 12 d k := .mk h
theorem s_13 (h : k (x0 :: x1 :: x2 :: x3 :: x4 :: x5 :: x6 :: x7 :: x8 :: x9 :: x10 :: x11 :: x12 :: d :: r)) : StD (x0 :: x1 :: x2 :: x3 :: x4 :: x5 :: x6 :: x7 :: x8 :: x9 :: x10 :: x11 :: x12 :: x13 :: r) 13 d k := .mk h
theorem s_14 (h : k (x0 :: x1 :: x2 :: x3 :: x4 :: x5 :: x6 :: x7 :: x8 :: x9 :: x10 :: x11 :: x12 :: x13 :: d :: r)) : StD (x0 :: x1 :: x2 :: x3 :: x4 :: x5 :: x6 :: x7 :: x8 :: x9 :: x10 :: x11 :: x12 :: x13 :: x14 :: r) 14 d k := .mk h
theorem s_15 (h : k (x0 :: x1 :: x2 :: x3 :: x4 :: x5 :: x6 :: x7 :: x8 :: x9 :: x10 :: x11 :: x12 :: x13 :: x14 :: d :: r)) : StD (x0 :: x1 :: x2 :: x3 :: x4 :: x5 :: x6 :: x7 :: x8 :: x9 :: x10 :: x11 :: x12 :: x13 :: x14 :: x15 :: r) 15 d k := .mk h
theorem s_16 (h : k (x0 :: x1 :: x2 :: x3 :: x4 :: x5 :: x6 :: x7 :: x8 :: x9 :: x10 :: x11 :: x12 :: x13 :: x14 :: x15 :: d :: r)) : StD (x0 :: x1 :: x2 :: x3 :: x4 :: x5 :: x6 :: x7 :: x8 :: x9 :: x10 :: x11 :: x12 :: x13 :: x14 :: x15 :: x16 :: r) 16 d k := .mk h
theorem s_17 (h : k (x0 :: x1 :: x2 :: x3 :: x4 :: x5 :: x6 :: x7 :: x8 :: x9 :: x10 :: x11 :: x12 :: x13 :: x14 :: x15 :: x16 :: d :: r)) : StD (x0 :: x1 :: x2 :: x3 :: x4 :: x5 :: x6 :: x7 :: x8 :: x9 :: x10 :: x11 :: x12 :: x13 :: x14 :: x15 :: x16 :: x17 :: r) 17 d k := .mk h
theorem s_18 (h : k (x0 :: x1 :: x2 :: x3 :: x4 :: x5 :: x6 :: x7 :: x8 :: x9 :: x10 :: x11 :: x12 :: x13 :: x14 :: x15 :: x16 :: x17 :: d :: r)) : StD (x0 :: x1 :: x2 :: x3 :: x4 :: x5 :: x6 :: x7 :: x8 :: x9 :: x10 :: x11 :: x12 :: x13 :: x14 :: x15 :: x16 :: x17 :: x18 :: r) 18 d k := .mk h
theorem s_19 (h : k (x0 :: x1 :: x2 :: x3 :: x4 :: x5 :: x6 :: x7 :: x8 :: x9 :: x10 :: x11 :: x12 :: x13 :: x14 :: x15 :: x16 :: x17 :: x18 :: d :: r)) : StD (x0 :: x1 :: x2 :: x3 :: x4 :: x5 :: x6 :: x7 :: x8 :: x9 :: x10 :: x11 :: x12 :: x13 :: x14 :: x15 :: x16 :: x17 :: x18 :: x19 :: r) 19 d k := .mk h
theorem s_20 (h : k (x0 :: x1 :: x2 :: x3 :: x4 :: x5 :: x6 :: x7 :: x8 :: x9 :: x10 :: x11 :: x12 :: x13 :: x14 :: x15 :: x16 :: x17 :: x18 :: x19 :: d :: r)) : StD (x0 :: x1 :: x2 :: x3 :: x4 :: x5 :: x6 :: x7 :: x8 :: x9 :: x10 :: x11 :: x12 :: x13 :: x14 :: x15 :: x16 :: x17 :: x18 :: x19 :: x20 :: r) 20 d k := .mk h
theorem s_21 (h : k (x0 :: x1 :: x2 :: x3 :: x4 :: x5 :: x6 :: x7 :: x8 :: x9 :: x10 :: x11 :: x12 :: x13 :: x14 :: x15 :: x16 :: x17 :: x18 :: x19 :: x20 :: d :: r)) : StD (x0 :: x1 :: x2 :: x3 :: x4 :: x5 :: x6 :: x7 :: x8 :: x9 :: x10 :: x11 :: x12 :: x13 :: x14 :: x15 :: x16 :: x17 :: x18 :: x19 :: x20 :: x21 :: r) 21 d k := .mk h
theorem s_22 (h : k (x0 :: x1 :: x2 :: x3 :: x4 :: x5 :: x6 :: x7 :: x8 :: x9 :: x10 :: x11 :: x12 :: x13 :: x14 :: x15 :: x16 :: x17 :: x18 :: x19 :: x20 :: x21 :: d :: r)) : StD (x0 :: x1 :: x2 :: x3 :: x4 :: x5 :: x6 :: x7 :: x8 :: x9 :: x10 :: x11 :: x12 :: x13 :: x14 :: x15 :: x16 :: x17 :: x18 :: x19 :: x20 :: x21 :: x22 :: r) 22 d k := .mk h
theorem s_23 (h : k (x0 :: x1 :: x2 :: x3 :: x4 :: x5 :: x6 :: x7 :: x8 :: x9 :: x10 :: x11 :: x12 :: x13 :: x14 :: x15 :: x16 :: x17 :: x18 :: x19 :: x20 :: x21 :: x22 :: d :: r)) : StD (x0 :: x1 :: x2 :: x3 :: x4 :: x5 :: x6 :: x7 :: x8 :: x9 :: x10 :: x11 :: x12 :: x13 :: x14 :: x15 :: x16 :: x17 :: x18 :: x19 :: x20 :: x21 :: x22 :: x23 :: r) 23 d k := .mk h
theorem s_24 (h : k (x0 :: x1 :: x2 :: x3 :: x4 :: x5 :: x6 :: x7 :: x8 :: x9 :: x10 :: x11 :: x12 :: x13 :: x14 :: x15 :: x16 :: x17 :: x18 :: x19 :: x20 :: x21 :: x22 :: x23 :: d :: r)) : StD (x0 :: x1 :: x2 :: x3 :: x4 :: x5 :: x6 :: x7 :: x8 :: x9 :: x10 :: x11 :: x12 :: x13 :: x14 :: x15 :: x16 :: x17 :: x18 :: x19 :: x20 :: x21 :: x22 :: x23 :: x24 :: r) 24 d k := .mk h
theorem s_25 (h : k (x0 :: x1 :: x2 :: x3 :: x4 :: x5 :: x6 :: x7 :: x8 :: x9 :: x10 :: x11 :: x12 :: x13 :: x14 :: x15 :: x16 :: x17 :: x18 :: x19 :: x20 :: x21 :: x22 :: x23 :: x24 :: d :: r)) : StD (x0 :: x1 :: x2 :: x3 :: x4 :: x5 :: x6 :: x7 :: x8 :: x9 :: x10 :: x11 :: x12 :: x13 :: x14 :: x15 :: x16 :: x17 :: x18 :: x19 :: x20 :: x21 :: x22 :: x23 :: x24 :: x25 :: r) 25 d k := .mk h
theorem s_26 (h : k (x0 :: x1 :: x2 :: x3 :: x4 :: x5 :: x6 :: x7 :: x8 :: x9 :: x10 :: x11 :: x12 :: x13 :: x14 :: x15 :: x16 :: x17 :: x18 :: x19 :: x20 :: x21 :: x22 :: x23 :: x24 :: x25 :: d :: r)) : StD (x0 :: x1 :: x2 :: x3 :: x4 :: x5 :: x6 :: x7 :: x8 :: x9 :: x10 :: x11 :: x12 :: x13 :: x14 :: x15 :: x16 :: x17 :: x18 :: x19 :: x20 :: x21 :: x22 :: x23 :: x24 :: x25 :: x26 :: r) 26 d k := .mk h
theorem s_27 (h : k (x0 :: x1 :: x2 :: x3 :: x4 :: x5 :: x6 :: x7 :: x8 :: x9 :: x10 :: x11 :: x12 :: x13 :: x14 :: x15 :: x16 :: x17 :: x18 :: x19 :: x20 :: x21 :: x22 :: x23 :: x24 :: x25 :: x26 :: d :: r)) : StD (x0 :: x1 :: x2 :: x3 :: x4 :: x5 :: x6 :: x7 :: x8 :: x9 :: x10 :: x11 :: x12 :: x13 :: x14 :: x15 :: x16 :: x17 :: x18 :: x19 :: x20 :: x21 :: x22 :: x23 :: x24 :: x25 :: x26 :: x27 :: r) 27 d k := .mk h
end
end ER

namespace ER
open PySem PySem.Spec PyProof.Rows L2
/-! ## what the top has left, put together -/
section
variable {P : Program} {w : World} {K : PySem.W.Frag} {mg : Str → Option Value} {base : Heap} {cl : Nat → Addr} {f : Addr} {fd : FuncData} {ps ks : List Str} {F FR : DFn} {k c : Nat} {x m : Str}
theorem kbind {nk : Nat} {js : List Nat} (hp : 0 < ps.length) (h : ∀ (u : Value) (ws : List Value), ws.length = nk → bindArgs fd ⟨[u], ks.zip ws⟩ = pure (ps.zip (pick js (u :: ws)))) :
    ∀ (s : Shared) (us ws : List Value), K.In s.heap → (gpick nk js us ws).length = ps.length → BindsTo s fd ⟨us, ks.zip ws⟩ (ps.zip (gpick nk js us ws)) := fun s us ws _ hl => by
  unfold gpick at hl ⊢
  split at hl
  · rename_i e
    rw [if_pos e]
    obtain ⟨e1, e2⟩ := e
    match us, e1 with
    | [u], _ => exact .of_eq (h u ws e2)
  · rw [List.length_nil] at hl
    omega
theorem mk_callee (G : FnD P w K mg base cl k f fd ps F) (hm : mg x = some (.ref f)) (kp : PySem.W.keepIn K (.ref f) = true) (b : Binds K fd ps []) : Callee P w K mg base cl x k ps F := ⟨f, fd, G, hm, kp, b⟩
theorem mk_calleeG (G : FnG P w K mg base k f fd ps (spD cl ps.length F)) (hm : mg x = some (.ref f)) (kp : PySem.W.keepIn K (.ref f) = true) (b : Binds K fd ps []) : CalleeG P w K mg base cl x k ps F := ⟨f, fd, G, hm, kp, b⟩
theorem mk_held {n : Nat} (G : FnD P w K mg base cl k f fd ps F) (hn : ps.length = n) (kp : PySem.W.keepIn K (.ref f) = true) (b : Binds K fd ps []) : HeldD P w K mg base cl k f n F := ⟨fd, ps, hn, G, kp, b⟩
theorem isC_mk {C : Addr} (c : Cls K C) (ha : PySem.W.findIn K (.ref C) "__class__" = some (some (.builtin "object.__class__"))) (hn : PySem.W.specialIn K (.builtin "object.__class__") "__get__" = some (some (.builtin "getset_descriptor.__get__")))
    (ht : PySem.W.takesIn K (.builtin "object.__class__") = some true) (hm : PySem.W.mroIn K C (.type "object") = some true)
    (n1 : PySem.W.kitOne K (.type "NoneType") (.ref C) = some false) (n2 : PySem.W.kitOne K (.type "bool") (.ref C) = some false) (n3 : PySem.W.kitOne K (.type "int") (.ref C) = some false) (n4 : PySem.W.kitOne K (.type "str") (.ref C) = some false)
    (n5 : PySem.W.kitOne K (.type "list") (.ref C) = some false) (n6 : PySem.W.kitOne K (.type "tuple") (.ref C) = some false) (n7 : PySem.W.kitOne K (.type "dict") (.ref C) = some false) : IsC K C := ⟨c, ha, hn, ht, hm, fun T hT => by
  simp only [List.mem_cons, List.not_mem_nil, or_false] at hT
  rcases hT with rfl | rfl | rfl | rfl | rfl | rfl | rfl
  · exact n1
  · exact n2
  · exact n3
  · exact n4
  · exact n5
  · exact n6
  · exact n7⟩
/-- what is asked of a law, at the script -/
def spLaw : Sp := fun vs H Q _ => ∃ (a : Addr) (o : Obj) (ns : List Int), vs = [.ref a] ∧ ns.length ≤ 63 ∧ H a = some (.frz o (.lst (ns.map V.int))) ∧ ∀ H', Q (.bl true) H'
theorem FnG.imp {sp sp' : Sp} (G : FnG P w K mg base k f fd ps sp) (h : ∀ vs H Q E, sp' vs H Q E → sp vs H Q E) : FnG P w K mg base k f fd ps sp' :=
  ⟨fun vs H Q E q => G.len vs H Q E (h _ _ _ _ q), fun A outer s H args us vs Q E hg hr e0 hb r q => G.go A outer s H args us vs Q E hg hr e0 hb r (h _ _ _ _ q)⟩
theorem law_enter {lawF : DFn} (h : ∀ (ns : List Int) (m : Mu) (Φ : DK), ns.length ≤ 63 → (∀ m', Φ (.v (.bl true)) m') → lawF [.scr ns] m Φ noX) (vs : List V) (H : Hp) (Q : VK) (E : XK) (q : spLaw vs H Q E) : spD cl 1 lawF vs H Q E := by
  obtain ⟨a, o, ns, rfl, hl, ha, hq⟩ := q
  refine ⟨⟨fun _ => 0, 0, fun _ => none, fun _ => true, H⟩, [.scr ns], fun d _ => d = .v (.bl true), noX, rfl, ⟨fun k c h => (nomatch h), fun j k c e h => (nomatch h), fun k c h => (nomatch h)⟩, .cons (.scr (fun ⟨_, _, h, _⟩ => (nomatch h)) ha) .nil, rfl, h ns _ _ hl (fun _ => rfl), fun d v s' _ _ rd e => ?_, fun _ _ _ _ _ _ _ _ z => z.elim⟩
  subst e
  cases rd
  exact hq _
def noLists (K : PySem.W.Frag) : Bool := K.all fun p => match p.2.cls, p.2.data with
  | .type x, .seq _ _ => !(x == "list")
  | _, _ => true
theorem lookup_all {α β : Type} [BEq α] [LawfulBEq α] {p : α × β → Bool} {a : α} {o : β} : ∀ {l : List (α × β)}, l.all p = true → l.lookup a = some o → p (a, o) = true
  | [], _, e => (nomatch e)
  | (b, u) :: l, h, e => by
    rw [List.all_cons, Bool.and_eq_true] at h
    unfold List.lookup at e
    split at e
    · rename_i q
      cases e
      have : a = b := eq_of_beq q
      rw [this]
      exact h.1
    · exact lookup_all h.2 e
theorem law_sp (nl : noLists K = true) {H : Hp} {a : Addr} {ns : List Int} (hl : ns.length ≤ 63) (hO : Only H) (hS : SqL K H a (ns.map V.int)) : spLaw [.ref a] H (fun v _ => v = .bl true) E0 := by
  rcases hS with (h | ⟨o, h⟩) | ⟨o, its, n, h, hc, _, hd, _⟩
  · rcases hO a with z | ⟨o, xs, z⟩
    · rw [h] at z; cases z
    · rw [h] at z; cases z
  · exact ⟨a, o, ns, rfl, hl, h, fun _ => rfl⟩
  · have q := lookup_all nl h
    rw [show (a, o).2.cls = Value.type "list" from hc, show (a, o).2.data = .seq its n from hd] at q
    cases q
end
end ER

namespace ER
open PySem PySem.Spec PyProof.Rows L2

/-! ## calls whose errors are wished for at the caller's slots -/
section
variable {X : Cx} {CX : CXT} {k : Nat} {f C : Addr} {fd : FuncData} {ps ks : List Str} {sp : Sp} {E : L2.St → XK}
theorem run_fnkS {pins : List (Addr × Obj)} {σ : L2.St} {H : Hp} {s : Shared} {Q : VK} {us ws : List Value} {vs zs : List V} {g : List Value → List Value → List Value} {gV : List V → List V → List V}
    (F : FnOk X.prog X.w X.K X.mg X.base CX k f fd ps sp) (hr : Room k X.A) (hb : KBinds X.K fd ps ks g gV) (hx : PassesAt CX X σ (E σ))
    (I : Inv X pins σ H s) (r : Vals vs us) (rz : Vals zs ws) (h : sp (gV vs zs) H Q (E σ)) : wpAny (model X.prog X.w) X.A (call (.ref f) us (ks.zip ws)) (EP X pins σ Q) X.xe s := by
  have r2 := hb.rel r rz
  have hl : (g us ws).length = ps.length := by rw [← r2.length]; exact F.len _ _ _ _ h
  refine wpAny_call (codeAny_mono (F.run X.A X.stack s H ⟨us, ks.zip ws⟩ (g us ws) (gV vs zs) Q (E σ) hr I.env0 (hb.to s us ws I.kIn hl) r2 h) fun r s' hq => ?_)
  cases r with
  | error e => exact hx pins H s e s' I hq
  | ok fl =>
    cases fl with
    | ret u => exact I.after hq
    | next => exact False.elim hq
    | brk => exact False.elim hq
    | cont => exact False.elim hq
end
/-- positional arguments np, keywords nk, brought into the parameters' order -/
def gpn {α : Type} (np nk : Nat) (js : List Nat) (us ws : List α) : List α := if us.length = np ∧ ws.length = nk then pick js (us ++ ws) else []
theorem kb_ofN {K : PySem.W.Frag} {fd : FuncData} {ps ks : List Str} {np : Nat} {js : List Nat} (h : ∀ (s : Shared) (us ws : List Value), K.In s.heap → (gpn np ks.length js us ws).length = ps.length → BindsTo s fd ⟨us, ks.zip ws⟩ (ps.zip (gpn np ks.length js us ws))) :
    KBinds K fd ps ks (gpn np ks.length js) (gpn np ks.length js) :=
  ⟨h, fun {vs us zs ws} r r2 => by
    unfold gpn
    rw [r.length, r2.length]
    split
    · exact pick_vals (r.append r2) js
    · exact .nil⟩
/-- a def called by keywords alone -/
structure CalleeK (P : Program) (w : World) (K : PySem.W.Frag) (mg : Str → Option Value) (base : Heap) (cl : Nat → Addr) (x : Str) (k : Nat) (ps ks : List Str) (js : List Nat) (F : DFn) : Prop where
  is : ∃ f fd, FnD P w K mg base cl k f fd ps F ∧ mg x = some (.ref f) ∧ PySem.W.keepIn K (.ref f) = true ∧
    ∀ (s : Shared) (us ws : List Value), K.In s.heap → (gpn 0 ks.length js us ws).length = ps.length → BindsTo s fd ⟨us, ks.zip ws⟩ (ps.zip (gpn 0 ks.length js us ws))
theorem kbind0 {K : PySem.W.Frag} {fd : FuncData} {ps ks : List Str} {nk : Nat} {js : List Nat} (hp : 0 < ps.length) (h : ∀ (ws : List Value), ws.length = nk → bindArgs fd ⟨[], ks.zip ws⟩ = pure (ps.zip (pick js ws))) :
    ∀ (s : Shared) (us ws : List Value), K.In s.heap → (gpn 0 nk js us ws).length = ps.length → BindsTo s fd ⟨us, ks.zip ws⟩ (ps.zip (gpn 0 nk js us ws)) := fun s us ws _ hl => by
  unfold gpn at hl ⊢
  split at hl
  · rename_i e
    rw [if_pos e]
    obtain ⟨e1, e2⟩ := e
    match us, e1 with
    | [], _ => exact .of_eq (h ws e2)
  · rw [List.length_nil] at hl
    omega
section
variable {cl : Nat → Addr} {s0 : Sn} {X : Cx} {o e a b : Expr} {es : List Expr} {to te ta tb : DTE} {td tds : DTA} {kws : List Keyword} {pos apos kpos p : Pos} {m x : Str} {c k : Nat} {ps ks : List Str} {js : List Nat} {F : DFn} {nm : Option Str} {Ξ : DXE}
theorem takes_no : TakesD cl s0 X (fun _ => noX) := takes0.imp fun _ _ _ _ ⟨_, _, _, _, _, _, _, _, _, z⟩ => z
def dCallKX (Ξ : DXE) (nk : Nat) (js : List Nat) (n : Nat) (F : DFn) (t : DTA) : DTE := fun r m Φ => t r m fun ds m1 => ds.length = nk ∧ (pick js ds).length = n ∧ Go F (pick js ds) m1 Φ (Ξ r)
theorem de_callKX (tk : TakesD cl s0 X Ξ) (C : CalleeK X.prog X.w X.K X.mg X.base cl x k ps ks js F) (hr : Room k X.A) (hg : Gl X x) (hkw : DKw cl s0 X kws td) (hdb : (x == ("__debug__" : Str)) = false := by decide)
    (hall : (backToKw pos (keywordEach kws X.env)).all (·.1.isSome) = true := by rfl) (hks : (backToKw pos (keywordEach kws X.env)).filterMap (·.1) = ks := by rfl)
    (hpl : ((backTo pos (starEach [] X.env)).any (·.1) || (backToKw pos (keywordEach kws X.env)).any (·.1.isNone)) = false := by rfl) :
    DE cl s0 X (.Call (.Name x p) [] kws pos) (dCallKX Ξ ks.length js ps.length F td) := by
  obtain ⟨f, fd, G, hm, hk, hb⟩ := C.is
  obtain ⟨tk2, p2, v2⟩ := hkw
  refine ⟨fun σ H Q => tk2 σ H fun zs H2 => spD cl ps.length F (gpn 0 ks.length js [] zs) H2 Q (WE (WX_ cl s0 Ξ) σ), ⟨fun pins s σ H Q I h => ?_⟩, ⟨fun s σ r Φ Q g w l q kk => ?_⟩⟩
  · refine wpAny_Call_Name_kw (ld_glob I hg hm ?_ hdb)
    refine PySem.W.callWith_KW0 (h₀ := X.base) I.ok.mod.kin hk hall (thn (p2.run pos pins s σ H _ I h) fun ws t2 ⟨zs, H2, J2, rz, q2⟩ => ⟨J2.kIn, ?_⟩) hpl
    rw [hks]
    exact run_fnkS (E := WE (WX_ cl s0 Ξ)) (us := []) (vs := []) G hr (kb_ofN hb) (passAt tk σ) J2 .nil rz q2
  · refine v2.run s σ r _ _ g w l q fun ds vs s2 l2 g2 r2 q2 => ?_
    obtain ⟨e1, e2, q2⟩ := q2
    have ev : gpn 0 ks.length js [] vs = pick js vs := if_pos ⟨rfl, by rw [← r2.length]; exact e1⟩
    rw [ev]
    exact ⟨s2, _, Φ, Ξ r, rfl, g2, pick_reps r2 js, e2, q2.un, fun d v s3 l3 g3 r3 q3 => kk d v s3 (l2.trans l3) g3 r3 q3, fun c d s3 cls a l3 g3 x3 z => ⟨s3, c, d, r, (l.trans l2).trans l3, g3, (w.mono l2).mono l3, rfl, x3, z⟩⟩
theorem de_methX {pl : Sem Bool} (tk : TakesD cl s0 X Ξ) (C : MethOk X.prog X.w X.K X.mg X.base cl m c k ps F) (hr : Room k X.A) (ho : DE cl s0 X o to) (ha : DA cl s0 X (e :: es) tds)
    (hst : starEach (e :: es) X.env = (false, eval e X.env) :: starEach es X.env := by rfl) (hpl : (backTo pos (starEach es X.env)).any (·.1) = false := by rfl)
    (ht : eval (.Call (.Attribute o m apos) (e :: es) [] pos) X.env = (do
      let ov ← eval o X.env
      standAt apos.atName
      let (f, first) ← holding [ov] (getMethod ov m pl)
      callWith pos f first (backTo pos (starEach (e :: es) X.env)) (backToKw pos (keywordEach [] X.env))) := by rfl) :
    DE cl s0 X (.Call (.Attribute o m apos) (e :: es) [] pos) (dMethX Ξ c m ps.length F to tds) := by
  obtain ⟨f, fd, G, hc, hm, hb⟩ := C.is
  obtain ⟨tt, p1, v1⟩ := ho
  obtain ⟨tA, p2, v2⟩ := ha
  refine ⟨fun σ H Q => tt σ H fun x H1 => ∃ a dx fs, x = .ref a ∧ H1 a = some (.ins (cl c) dx fs) ∧ fs.lookup m = none ∧ tA σ H1 fun vs H2 => spD cl ps.length F (.ref a :: vs) H2 Q (WE (WX_ cl s0 Ξ) σ), ⟨fun pins s σ H Q I h => ?_⟩, ⟨fun s σ r Φ Q g w l q kk => ?_⟩⟩
  · refine PySem.W.methodCall_KW (pl := pl) (thn (p1.run pins s σ H _ I h) fun u t ⟨x, H1, J, rx, a, dx, fs, ex, ea, lk, q⟩ => ?_) ht
    subst ex
    obtain rfl : u = Value.ref a := rx
    refine getmeth_ok J ea hc hm lk ?_
    refine PySem.W.callWith_K (first := [.ref a]) (h₀ := X.base) J.ok.mod.kin hm.kp (thn (p2.run pos pins t σ H1 _ J q) fun us s2 ⟨vs, H2, J2, r, q2⟩ => ⟨J2.kIn, ?_⟩) hst hpl
    exact run_fnS (E := WE (WX_ cl s0 Ξ)) (us := .ref a :: us) (vs := .ref a :: vs) G hr hb (passAt tk σ) J2 (.cons rfl r) q2
  · refine v1.run s σ r _ _ g w l q fun d x s1 l1 g1 rx q1 => ?_
    unfold selfD at q1
    split at q1
    · obtain ⟨rfl, hn, q1⟩ := q1
      have rx0 := rx
      cases rx with
      | obj n1 h1 z1 r1 =>
        refine ⟨_, _, _, rfl, h1, zip_none hn, v2.run s1 σ r _ _ g1 (w.mono l1) (l.trans l1) q1 fun ds vs s2 l2 g2 r2 q2 => ?_⟩
        obtain ⟨e2, q2⟩ := q2
        exact ⟨s2, _, Φ, Ξ r, rfl, g2, .cons (rx0.mono l2) r2, e2, q2.un, fun d v s3 l3 g3 r3 q3 => kk d v s3 ((l1.trans l2).trans l3) g3 r3 q3, fun c d s3 cls a l3 g3 x3 z => ⟨s3, c, d, r, ((l.trans l1).trans l2).trans l3, g3, ((w.mono l1).mono l2).mono l3, rfl, x3, z⟩⟩
    · exact q1.elim
def dMethKX (Ξ : DXE) (c : Nat) (m : Str) (nk : Nat) (js : List Nat) (n : Nat) (F : DFn) (to : DTE) (t : DTA) : DTE := fun r mu Φ => to r mu fun d m1 => selfD c m d (t r m1 fun ds m2 => ds.length = nk ∧ (pick js (d :: ds)).length = n ∧ Go F (pick js (d :: ds)) m2 Φ (Ξ r))
theorem de_methKX {pl : Sem Bool} (tk : TakesD cl s0 X Ξ) (C : MethKOk X.prog X.w X.K X.mg X.base cl m c k ps ks js F) (hr : Room k X.A) (ho : DE cl s0 X o to) (hkw : DKw cl s0 X kws td)
    (hall : (backToKw pos (keywordEach kws X.env)).all (·.1.isSome) = true := by rfl) (hks : (backToKw pos (keywordEach kws X.env)).filterMap (·.1) = ks := by rfl)
    (hpl : ((backTo pos (starEach [] X.env)).any (·.1) || (backToKw pos (keywordEach kws X.env)).any (·.1.isNone)) = false := by rfl)
    (ht : eval (.Call (.Attribute o m apos) [] kws pos) X.env = (do
      let it ← eval o X.env
      standAt apos.atName
      let (f, first) ← holding [it] (getMethod it m pl)
      callWith pos f first (backTo pos (starEach [] X.env)) (backToKw pos (keywordEach kws X.env))) := by rfl) :
    DE cl s0 X (.Call (.Attribute o m apos) [] kws pos) (dMethKX Ξ c m ks.length js ps.length F to td) := by
  obtain ⟨f, fd, G, hc, hm, hb⟩ := C.is
  obtain ⟨tt, p1, v1⟩ := ho
  obtain ⟨tk2, p2, v2⟩ := hkw
  refine ⟨fun σ H Q => tt σ H fun x H1 => ∃ a dx fs, x = .ref a ∧ H1 a = some (.ins (cl c) dx fs) ∧ fs.lookup m = none ∧ tk2 σ H1 fun zs H2 => spD cl ps.length F (gpick ks.length js [.ref a] zs) H2 Q (WE (WX_ cl s0 Ξ) σ), ⟨fun pins s σ H Q I h => ?_⟩, ⟨fun s σ r Φ Q g w l q kk => ?_⟩⟩
  · refine PySem.W.methodCall_KW (pl := pl) (thn (p1.run pins s σ H _ I h) fun u t ⟨x, H1, J, rx, a, dx, fs, ex, ea, lk, q⟩ => ?_) ht
    subst ex
    obtain rfl : u = Value.ref a := rx
    refine getmeth_ok J ea hc hm lk (PySem.W.callWith_KW0 (h₀ := X.base) J.ok.mod.kin hm.kp hall (thn (p2.run pos pins t σ H1 _ J q) fun ws t2 ⟨zs, H2, J2, rz, q2⟩ => ⟨J2.kIn, ?_⟩) hpl)
    rw [hks]
    exact run_fnkS (E := WE (WX_ cl s0 Ξ)) (us := [.ref a]) (vs := [.ref a]) G hr (kb_of hb) (passAt tk σ) J2 (.cons rfl .nil) rz q2
  · refine v1.run s σ r _ _ g w l q fun d x s1 l1 g1 rx q1 => ?_
    unfold selfD at q1
    split at q1
    · obtain ⟨rfl, hn, q1⟩ := q1
      have rx0 := rx
      cases rx with
      | obj n1 h1 z1 r1 =>
        refine ⟨_, _, _, rfl, h1, zip_none hn, v2.run s1 σ r _ _ g1 (w.mono l1) (l.trans l1) q1 fun ds vs s2 l2 g2 r2 q2 => ?_⟩
        obtain ⟨e1, e2, q2⟩ := q2
        have ev : ∀ u : V, gpick ks.length js [u] vs = pick js (u :: vs) := fun u => if_pos ⟨rfl, by rw [← r2.length]; exact e1⟩
        rw [ev]
        exact ⟨s2, _, Φ, Ξ r, rfl, g2, pick_reps (.cons (rx0.mono l2) r2) js, e2, q2.un, fun d v s3 l3 g3 r3 q3 => kk d v s3 ((l1.trans l2).trans l3) g3 r3 q3, fun c d s3 cls a l3 g3 x3 z => ⟨s3, c, d, r, ((l.trans l1).trans l2).trans l3, g3, ((w.mono l1).mono l2).mono l3, rfl, x3, z⟩⟩
    · exact q1.elim
/-- x op i, an object's own sign at an int, that may raise -/
def ownIX (Ξ : DX) (c : Nat) (F : DFn) (x y : D) (m : Mu) (Φ : DK) : Prop := match x, y with
  | .obj c1 ns xs, .v (.int i) => c1 = c ∧ Go F [.obj c1 ns xs, .v (.int i)] m Φ Ξ
  | _, _ => False
def dBinX (Ξ : DXE) (c : Nat) (F : DFn) (ta tb : DTE) : DTE := fun r m Φ => ta r m fun x m1 => tb r m1 fun y m2 => ownIX (Ξ r) c F x y m2 Φ
theorem own_at {op : Operator} {C f : Addr} {fd : FuncData} {ps : List Str} {sp : Sp} {E : L2.St → XK} {pins : List (Addr × Obj)} {s : Shared} {σ : L2.St} {H : Hp} {x y : V} {v u : Value} {Q : VK} (O : OwnOp X.K C op f) (O' : OwnOpI X.K C op)
    (F : FnOk X.prog X.w X.K X.mg X.base (L2.CX X.prog X.w) k f fd ps sp) (hr : Room k X.A) (hb : Binds X.K fd ps []) (hx : PassesAt (L2.CX X.prog X.w) X σ (E σ)) (I : Inv X pins σ H s) (rx : RelV x v) (ry : RelV y u) (h : rOwnI C sp (E σ) x y H Q) :
    wpAny (model X.prog X.w) X.A (binaryOp op v u) (EP X pins σ Q) X.xe s := by
  obtain ⟨a, dx, fs, i, rfl, ea, rfl, q⟩ := h
  cases (show v = Value.ref a from rx)
  obtain ⟨t, rfl⟩ := (show ∃ t, u = Value.int i t from ry)
  obtain ⟨od, J⟩ := inst_of I ea
  obtain ⟨m, hF⟩ := I.fr
  obtain ⟨rc, hrc, hp⟩ := O'.r
  obtain ⟨fo, ro, h1, h2⟩ := O'.t
  refine PySem.W.ksp_binT (T := "int") hF I.ok.mod.kin J rfl O.sf O.s O.fn hrc hp h1 h2 O'.sub ?_
  refine wpAny_mono (run_fnS (E := E) (us := [.ref a, .int i t]) (vs := [.ref a, .int i]) F hr hb hx I (.cons rfl (.cons ⟨t, rfl⟩ .nil)) q) (fun w s' z => ?_) fun _ _ x => x
  obtain ⟨z', H', I', rz, qz⟩ := z
  exact SlX.cmpback rz ⟨z', H', I', rz, qz⟩
theorem de_binX {op : Operator} (tk : TakesD cl s0 X Ξ) (S : SignL X.prog X.w X.K X.mg X.base cl op c k F) (hr : Room k X.A) (ha : DE cl s0 X a ta) (hb : DE cl s0 X b tb) : DE cl s0 X (.BinOp a op b pos) (dBinX Ξ c F ta tb) := by
  obtain ⟨⟨f, fd, O, G, hbi⟩, O'⟩ := S
  obtain ⟨t1, p1, v1⟩ := ha
  obtain ⟨t2, p2, v2⟩ := hb
  refine ⟨fun σ H Q => tOp (fun x y H2 Q => rOwnI (cl c) (spD cl 2 F) (WE (WX_ cl s0 Ξ) σ) x y H2 Q) t1 t2 σ H Q, ⟨fun pins s σ H Q I h => ?_⟩, ⟨fun s σ r Φ Q g w l q kk => ?_⟩⟩
  · exact wpAny_BinOp (binT p1 p2 I h fun v u s2 x y H2 I2 rx ry q => own_at (E := WE (WX_ cl s0 Ξ)) O O' G hr hbi (passAt tk σ) I2 rx ry q)
  · refine v1.run s σ r _ _ g w l q fun d x s1 l1 g1 rx q1 => v2.run s1 σ r _ _ g1 (w.mono l1) (l.trans l1) q1 fun dy y s2 l2 g2 ry q2 => ?_
    have rx1 := rx.mono l2
    unfold ownIX at q2
    split at q2
    · obtain ⟨rfl, q2⟩ := q2
      cases ry
      have rx0 := rx1
      cases rx1 with
      | obj n1 h1 z1 r1 =>
        exact ⟨_, _, _, _, rfl, h1, rfl, s2, [_, _], Φ, Ξ r, rfl, g2, .cons rx0 (.cons (.v _) .nil), rfl, q2.un, fun d v s3 l3 g3 r3 q3 => kk d v s3 ((l1.trans l2).trans l3) g3 r3 q3, fun c d s3 cls a l3 g3 x3 z => ⟨s3, c, d, r, ((l.trans l1).trans l2).trans l3, g3, ((w.mono l1).mono l2).mono l3, rfl, x3, z⟩⟩
    · exact q2.elim
end
end ER

namespace ER
open PySem PySem.Spec PyProof.Rows L2

/-! ## raise C(e) -/
/-- what the __init__ of the base class promises: self.value = value -/
def spXi (K : PySem.W.Frag) : Sp := fun vs H Q _ => ∃ (a C : Addr) (y : V), vs = [.ref a, y] ∧ OexC K C ∧ PySem.W.findIn K (.ref C) "value" = some none ∧ H a = some (exo a C none) ∧
  ∀ dx, H dx = none → dx ≠ a → Q .non (upd (upd H dx (exd dx [("value", y)])) a (exo a C (some dx)))
theorem spXi_len {K : PySem.W.Frag} {vs : List V} {H : Hp} {Q : VK} {E : XK} (h : spXi K vs H Q E) : vs.length = 2 := by
  obtain ⟨_, _, _, rfl, _⟩ := h
  rfl
/-- a class of errors of the text, number c -/
structure XRaise (P : Program) (w : World) (K : PySem.W.Frag) (mg : Str → Option Value) (base : Heap) (cl : Nat → Addr) (x : Str) (c k : Nat) : Prop where
  is : ∃ fI fd, OexC K (cl c) ∧ PySem.W.findIn K (.ref (cl c)) "value" = some none ∧ PySem.W.findIn K (.ref (cl c)) "__init__" = some (some (.ref fI)) ∧ PySem.W.typeIn K (.ref fI) = some (.type "function") ∧
    FnOk P w K mg base (L2.CX P w) k fI fd ["self", "value"] (spXi K) ∧ Binds K fd ["self", "value"] [] ∧ mg x = some (.ref (cl c))
def one_ (ds : List D) (k : D → Prop) : Prop := match ds with
  | [d] => k d
  | _ => False
def dRaise (Ξ : DXE) (c : Nat) (t : DTA) : DTS := fun _ r m => t r m fun ds m1 => one_ ds fun d => Ξ r c d m1
section
variable {cl : Nat → Addr} {s0 : Sn} {X : Cx} {e : Expr} {tds : DTA} {pos pos' p : Pos} {x : Str} {c k : Nat} {Ξ : DXE}
theorem ds_raise (hc : X.calm = true) (tk : TakesD cl s0 X Ξ) (R : XRaise X.prog X.w X.K X.mg X.base cl x c k) (hr : Room (k + 1) X.A) (hg : Gl X x) (ha : DA cl s0 X [e] tds) (hdb : (x == ("__debug__" : Str)) = false := by decide)
    (he : starEach [e] X.env = (false, eval e X.env) :: starEach [] X.env := by rfl) (hpl : (backTo pos (starEach [] X.env)).any (·.1) = false := by rfl) :
    DS cl s0 X (.Raise (some (.Call (.Name x p) [e] [] pos)) none pos') (dRaise Ξ c tds) := by
  obtain ⟨fI, fd, T, hv, iC, tI, F1, hb, hm⟩ := R.is
  obtain ⟨ta, pa, v⟩ := ha
  refine ⟨_, ps_raise hc tk (pmk_oex T iC tI F1 hr hb .nil passL hg hm pa hdb he hpl), ⟨fun s σ r De T' g w l q kk => ?_⟩⟩
  refine v.run s σ r _ _ g w l q fun ds vs s1 l1 g1 r1 q1 => ?_
  unfold one_ at q1
  split at q1
  · rename_i d
    cases r1 with
    | cons ry rr =>
      rename_i y ys
      cases rr
      refine ⟨by show 1 ≤ 1000; omega, fun a ha => ⟨a, cl c, y, rfl, T, hv, upd_same, fun dx hdx hne => ?_⟩⟩
      have hd1 : s1.H dx = none := by
        have := hdx
        rwa [upd_ne hne] at this
      refine ⟨rfl, dx, _, upd_same, by rw [upd_ne hne, upd_same], hd1, ?_⟩
      have lay := Le.lay (o := HO.xd [(("value" : Str), y)]) g1 hd1
      refine ⟨s1.lay dx (.xd [(("value" : Str), y)]), c, d, r, (l.trans l1).trans lay, g1.lay hd1, (w.mono l1).mono lay, ?_, ⟨rfl, dx, y, rfl, upd_same, fun hM => g1.fresh hd1 (lay_M.mp hM), ry.mono lay⟩, q1⟩
      funext b
      show upd s1.H dx (.xd [(("value" : Str), y)]) b = upd (del (upd (upd (upd s1.H a (exo a (cl c) none)) dx (exd dx [(("value" : Str), y)])) a (exo a (cl c) (some dx))) a) dx (.xd [(("value" : Str), y)]) b
      by_cases hb1 : b = dx
      · rw [hb1, upd_same, upd_same]
      · rw [upd_ne hb1, upd_ne hb1]
        by_cases hb2 : b = a
        · rw [hb2, del_same, ha]
        · rw [del_ne hb2, upd_ne hb2, upd_ne hb1, upd_ne hb2]
  · exact q1.elim
end

/-! ## try: body; except C as n: suite; .. -/
def offE (i : Nat) (D : Ends) : Ends := { nx := fun σ' H' => D.nx (σ'.set i none) H', rt := D.rt, bk := fun σ' H' => D.bk (σ'.set i none) H', ct := fun σ' H' => D.ct (σ'.set i none) H' }
def wAsL (K : PySem.W.Frag) (Wout : WX) (D : Ends) : List (Value × Nat × (Addr → Value → Option Addr → TS)) → WX
  | [] => Wout
  | (c, i, ts) :: r => fun cls d σ H => ∃ b, PySem.W.exmOne K cls c = some b ∧ (b = true → ∀ a, H a = none → ts a cls d (offE i D) (σ.set i (some (.ref a))) H) ∧ (b = false → wAsL K Wout D r cls d σ H)
inductive HdsAs (X : Cx) : List ExceptHandler → List (Value × Nat × (Addr → Value → Option Addr → TS)) → Prop
  | nil : HdsAs X [] []
  | cons {x n : Str} {c : Value} {i : Nat} {ts : Addr → Value → Option Addr → TS} {b₀ : Stmt} {suite : List Stmt} {np pos' : Pos} {hds : List ExceptHandler} {l : List (Value × Nat × (Addr → Value → Option Addr → TS))}
      (hi : X.N[i]? = some n) (hln : X.env.kindOf n = some .local) (hc : Names X x c)
      (hsu : ∀ (a : Addr) (oe : Obj) (cls : Value) (d : Option Addr) (pn : List (Addr × Obj)), Zc cls d oe → (∃ vs, oe.data = .fields vs) → PSs (X.suite a ((a, oe) :: pn)) (b₀ :: suite) (ts a cls d)) (r : HdsAs X hds l) :
      HdsAs X (.ExceptHandler (some (.Name x np)) (some n) (b₀ :: suite) pos' :: hds) ((c, i, ts) :: l)
section
variable {X : Cx} {body : List Stmt} {h₀ : ExceptHandler} {hds : List ExceptHandler} {l : List (Value × Nat × (Addr → Value → Option Addr → TS))} {pos : Pos} {tb : WX → TS} {Wout : WX}
theorem ps_try_asL (hs : X.stack = X.env :: X.outer) (hf : X.env.frame = some X.env.locals) (hN : X.N.Nodup) (tk : Takes X Wout)
    (hb : ∀ (W : WX) (pn : List (Addr × Obj)) (xe : Value → Shared → Prop), Takes (X.tr pn xe) W → PassesOwn (model X.prog X.w) X.A X.env xe → PSs (X.tr pn xe) body (tb W))
    (hh : HdsAs X (h₀ :: hds) l) : PS X (.Try body (h₀ :: hds) [] [] pos) (fun D σ H => tb (wAsL X.K Wout D l) D σ H) := by
  refine ⟨fun pins s σ H D I h => ?_⟩
  have ok := I.ok
  have hfr : X.A.frames = some (X.env :: X.outer) := by rw [ok.frames, hs]
  refine wpAny_Try_except ?_
  refine wpAny_mono ((hb (wAsL X.K Wout D l) (X.pn ++ pins) (fun e s₁ => wpAny (model X.prog X.w) X.A (noteFrame e X.env) (fun _ s₂ => wpAny (model X.prog X.w) X.A (setFlight e none) (fun _ s₃ =>
    wpAny (model X.prog X.w) X.A (handleBy e X.env (h₀ :: hds)) (SP X pins D) X.xe s₃) X.xe s₂) X.xe s₁) (fun u s' xx => ?_) PassesOwn.looking).run [] s σ H D (I.toTry _) h) (fun f s1 hsp => ?_) (fun e s1 he => he)
  · -- the catch
    obtain ⟨a, B, sI, pins', σ', H', cls, d, rfl, J', nb, up, sky, na, os, ag, w⟩ := xx
    have J : Inv X pins σ' H' sI := J'.ofTry ok
    have sky' : Sky B (X.env :: X.outer) a (Zc cls d) X.env.locals s'.heap := by rw [← hs]; exact sky
    show wpAny (model X.prog X.w) X.A (noteFrame (.ref a) X.env) _ _ _
    refine Sky.land Zc.steady hfr hf sky' fun h3 fl3 up3 => ?_
    have J3 : Inv X pins σ' H' { s' with heap := h3 } := J.landed nb fl3.1 (up.trans up3) os ag
    obtain ⟨oe3, vs3, he3, hz3, hd3⟩ := fl3.there
    have notFr : ∀ {h : Heap} {o : Obj} {vs : Array Value}, h.FunFrames B (X.env :: X.outer) → h.get? a = some o → o.data = .fields vs → a ∉ frs (X.env :: X.outer) := fun {h o vs} ff e dd hm => by
      obtain ⟨_, o', e', hnf⟩ := ff.mem hm
      rw [e] at e'; cases e'
      exact hnf _ dd
    have nfr := notFr fl3.2.2.1 he3 hd3
    have nL : a ≠ X.env.locals := fun z => nfr (List.mem_filterMap.mpr ⟨X.env, List.mem_cons_self, by rw [hf, z]⟩)
    have nF : a ∉ X.fs := fun hm => by
      obtain ⟨e, he, q⟩ := List.mem_filterMap.mp hm
      exact nfr (List.mem_filterMap.mpr ⟨e, List.mem_cons_of_mem _ he, q⟩)
    have S3 := J3.suite he3 hd3 na nL nF
    have go : ∀ {hds' : List ExceptHandler} {l' : List (Value × Nat × (Addr → Value → Option Addr → TS))}, HdsAs X hds' l' → wAsL X.K Wout D l' cls d σ' H' →
        wpAny (model X.prog X.w) X.A (handleBy (.ref a) X.env hds') (SP X pins D) X.xe { s' with heap := h3 } := by
      intro hds' l' hk
      induction hk with
      | nil =>
        intro w
        refine wpAny_handleBy_nil ?_
        obtain ⟨k1, k2, k3, oe, vs, T, oT, ts', he, hz, hd, h1, hr⟩ := id fl3
        unfold PySem.passOn
        refine wpAny_bind (wpAny_field he hd h1 ?_)
        rw [if_neg (show ¬ ((Value.ref T == Value.none) = true) from by simp)]
        have fin : wpAny (model X.prog X.w) X.A (setFlight (.ref a) X.env.frame) (fun _ s4 => wpAny (model X.prog X.w) X.A (throw (.ref a) : Sem Flow) (SP X pins D) X.xe s4) X.xe { s' with heap := h3 } := by
          rw [hf]
          refine HandSPX.setFlight_upZ fl3 fun h4 hh4 up4 => wpAny_throw (tk _ _ ?_)
          exact ⟨a, B, sI, pins, σ', H', cls, d, rfl, J, nb, (up.trans up3).trans up4, .inr (.inr (by rw [hs]; exact hh4)), na, os, ag, w⟩
        first
          | exact wpAny_bind (wpAny_pure (wpAny_bind fin))
          | exact wpAny_bind fin
      | @cons x n c i ts b₀ suite np pos' hds2 l2 hi hln hc hsu r ih =>
        intro w
        obtain ⟨b, hb1, hyes, hno⟩ := w
        have hloc : Loc X.env.scope n := .inl hln
        refine wpAny_handleBy_cons (codeAny_handlers_test ?_) (by intro q; cases q)
        have LT : PySem.W.Looks (model X.prog X.w) h3 (typeOf (.ref a)) cls := fun A Q E s k q => wpAny_typeOf_ref (k _ _ he3) (by rw [hz3.1]; exact q)
        have LM := PySem.W.exm_one (M := model X.prog X.w) (J3.kIn) LT hb1
        have test : ∀ {Q : Value → Shared → Prop} {E : Value → Shared → Prop}, Q c { s' with heap := h3 } → wpAny (model X.prog X.w) (X.A.mark (some (.ref a))) (eval (.Name x np) X.env) Q E { s' with heap := h3 } := fun {Q E} q => by
          obtain ⟨hg, hdbg, hm | ⟨hm, hv, hnn⟩⟩ := hc
          · exact ld_glob (X := X.suite a ((a, oe3) :: (X.pn ++ pins))) S3 hg hm q hdbg
          · exact ld_blt (X := X.suite a ((a, oe3) :: (X.pn ++ pins))) S3 hg hm hv q hnn hdbg
        refine test (LM.here ?_)
        cases b with
        | true =>
          refine codeAny_handlers_suite_as ?_
          refine HandSPX.lands_againZ fl3 fun h4 fl4 up4 => ?_
          have J4 : Inv X pins σ' H' { s' with heap := h4 } := J.landed nb fl4.1 ((up.trans up3).trans up4) os ag
          obtain ⟨oe4, vs4, he4, hz4, hd4⟩ := fl4.there
          have S4 := J4.suite he4 hd4 na nL nF
          refine store_ok (X := X.suite a ((a, oe4) :: (X.pn ++ pins))) (v := .ref a) S4 hN hi hloc rfl (fun s5 S5 => ?_) (.inr hln)
          refine wpAny_mono ((hsu a oe4 cls d (X.pn ++ pins) hz4 ⟨_, hd4⟩).run [] s5 _ H' _ S5 (hyes rfl a na)) (fun f s6 hsp => ?_) (fun _ _ z => False.elim z)
          have end_ : ∀ {σ6 : L2.St} {H6 : Hp} {Q : Shared → Prop}, Inv (X.suite a ((a, oe4) :: (X.pn ++ pins))) [] σ6 H6 s6 → (∀ s7, Inv X pins (σ6.set i none) H6 s7 → Q s7) →
              wpAny (model X.prog X.w) X.A (do bindName X.env n .none; unbindBehindTheSuite X.env n pos') (fun _ s7 => Q s7) X.xe s6 := fun {σ6 H6 Q} S6 hq => gone_ok (S6.unsuite ok) hN hi hln hq
          cases f with
          | next =>
            obtain ⟨σ6, H6, S6, q6⟩ := hsp
            exact end_ S6 fun s7 J7 => ⟨_, _, J7, q6⟩
          | brk =>
            obtain ⟨σ6, H6, S6, q6⟩ := hsp
            exact end_ S6 fun s7 J7 => ⟨_, _, J7, q6⟩
          | cont =>
            obtain ⟨σ6, H6, S6, q6⟩ := hsp
            exact end_ S6 fun s7 J7 => ⟨_, _, J7, q6⟩
          | ret u =>
            obtain ⟨v6, σ6, H6, S6, r6, q6⟩ := hsp
            exact end_ S6 fun s7 J7 => ⟨_, _, _, J7, r6, q6⟩
        | false =>
          show wpAny _ X.A (handleBy (.ref a) X.env hds2) _ _ _
          exact ih (hno rfl)
    exact go hh w
  · cases f with
    | next =>
      obtain ⟨σ', H', J', q⟩ := hsp
      exact wpAny_execs_nil ⟨σ', H', J'.ofTry ok, q⟩
    | brk =>
      obtain ⟨σ', H', J', q⟩ := hsp
      exact ⟨σ', H', J'.ofTry ok, q⟩
    | cont =>
      obtain ⟨σ', H', J', q⟩ := hsp
      exact ⟨σ', H', J'.ofTry ok, q⟩
    | ret u =>
      obtain ⟨v, σ', H', J', r, q⟩ := hsp
      exact ⟨v, σ', H', J'.ofTry ok, r, q⟩
end

/-! ### over data -/
/-- which classes of errors are known, beside which an except clause may stand, which is below which -/
structure XTab (K : PySem.W.Frag) (cl : Nat → Addr) (xin sub : Nat → Nat → Bool) : Prop where
  exm : ∀ c j, xin c j = true → PySem.W.exmOne K (.ref (cl c)) (.ref (cl j)) = some (sub c j)
/-- wherever it stands -/
inductive ForA (p : Addr → Prop) : Prop
  | mk : (∀ a, p a) → ForA p
theorem ForA.un {p : Addr → Prop} (h : ForA p) (a : Addr) : p a := by
  cases h with
  | mk h => exact h a
/-- InvalidName .. are below RunError, 10 -/
def xsub (c j : Nat) : Bool := c == j || j == 10
/-- names a context -/
inductive Here (X : Cx) : Prop
  | mk : Here X
structure DCl where
  j : Nat
  i : Nat
  ts : Addr → Nat → D → DTS
def offD (i : Nat) (De : DEnds) : DEnds := { nx := fun r m => St r i none fun r' => De.nx r' m, rt := De.rt, bk := fun r m => St r i none fun r' => De.bk r' m, ct := fun r m => St r i none fun r' => De.ct r' m }
def dCatch (xin sub : Nat → Nat → Bool) (Ξo : DXE) (De : DEnds) : List DCl → DXE
  | [] => Ξo
  | q :: cs => fun r c d m => xin c q.j = true ∧ Br (sub c q.j) (ForA fun a => St r q.i (some (.v (.ref a))) fun r' => q.ts a c d (offD q.i De) r' m) (dCatch xin sub Ξo De cs r c d m)
def dTry (xin sub : Nat → Nat → Bool) (Ξo : DXE) (tb : DXE → DTS) (cs : List DCl) : DTS := fun De r m => tb (dCatch xin sub Ξo De cs) De r m
section
variable (cl : Nat → Addr) (X : Cx)
def bodyAny (body : List Stmt) (tb : DXE → DTS) (W : WX) : TS := fun D σ H => ∃ (s1 : Sn) (Ξ' : DXE), (∀ cls a σ H, WX_ cl s1 Ξ' cls a σ H → W cls a σ H) ∧ ∀ pn xe tt, PSs (X.tr pn xe) body tt → EvS cl s1 tt (tb Ξ') → tt D σ H
def suiteAny (suite : List Stmt) (ts : Addr → Nat → D → DTS) (a : Addr) (cls : Value) (d : Option Addr) : TS := fun T σ H => ∃ (s1 : Sn) (c : Nat) (dv : D), ExAt cl s1 c dv cls d ∧
  ∀ oe pn tt, Zc cls d oe → (∃ vs, oe.data = .fields vs) → PSs (X.suite a ((a, oe) :: pn)) suite tt → EvS cl s1 tt (ts a c dv) → tt T σ H
inductive HdsD : List ExceptHandler → List DCl → List (Value × Nat × (Addr → Value → Option Addr → TS)) → Prop
  | nil : HdsD [] [] []
  | cons {x n : Str} {q : DCl} {b₀ : Stmt} {suite : List Stmt} {np pos' : Pos} {hds : List ExceptHandler} {cs : List DCl} {l : List (Value × Nat × (Addr → Value → Option Addr → TS))}
      (hi : X.N[q.i]? = some n) (hln : X.env.kindOf n = some .local) (hc : Names X x (.ref (cl q.j)))
      (hsu : ∀ (s1 : Sn) (a : Addr) (oe : Obj) (cls : Value) (d : Option Addr) (c : Nat) (dv : D) (pn : List (Addr × Obj)), Here (X.suite a ((a, oe) :: pn)) → Zc cls d oe → (∃ vs, oe.data = .fields vs) → ExAt cl s1 c dv cls d → DSs cl s1 (X.suite a ((a, oe) :: pn)) (b₀ :: suite) (q.ts a c dv)) (r : HdsD hds cs l) :
      HdsD (.ExceptHandler (some (.Name x np)) (some n) (b₀ :: suite) pos' :: hds) (q :: cs) ((.ref (cl q.j), q.i, suiteAny cl X (b₀ :: suite) q.ts) :: l)
end
section
variable {cl : Nat → Addr} {s0 : Sn} {X : Cx} {body : List Stmt} {tb : DXE → DTS} {Ξo : DXE} {xin sub : Nat → Nat → Bool} {hds : List ExceptHandler} {cs : List DCl} {l : List (Value × Nat × (Addr → Value → Option Addr → TS))} {h₀ : ExceptHandler} {pos : Pos}
theorem HdsD.as (h : HdsD cl X hds cs l) : HdsAs X hds l := by
  induction h with
  | nil => exact .nil
  | cons hi hln hc hsu r ih =>
    refine .cons hi hln hc (fun a oe cls d pn hz hf => ⟨fun pins s σ H D I hh => ?_⟩) ih
    obtain ⟨s1, c, dv, ex, hall⟩ := hh
    obtain ⟨tt, P, V⟩ := hsu s1 a oe cls d c dv pn .mk hz hf ex
    exact P.run pins s σ H D I (hall oe pn tt hz hf P V)
theorem catch_le (XT : XTab X.K cl xin sub) {s : Sn} {De : DEnds} {T : Ends} (l0 : Le s0 s) (k : EndsOk cl s De T) (h : HdsD cl X hds cs l) : ∀ cls a σ H, WX_ cl s (dCatch xin sub Ξo De cs) cls a σ H → wAsL X.K (WX_ cl s0 Ξo) T l cls a σ H := by
  induction h with
  | nil =>
    rintro cls a σ H ⟨s', c, d, r, l1, g1, w1, e, ex, q⟩
    exact ⟨s', c, d, r, l0.trans l1, g1, w1, e, ex, q⟩
  | @cons x n q b₀ suite np pos' hds cs l hi hln hc hsu r ih =>
    rintro cls a σ H ⟨s', c, d, r', l1, g1, w1, e, ex, hx, qq⟩
    have hcls := ex.1
    refine ⟨sub c q.j, by rw [hcls]; exact XT.exm c q.j hx, fun hb a' ha' => ?_, fun hb => ?_⟩
    · rw [hb] at qq
      have q2 := (qq.tt.un a').to
      refine ⟨s', c, d, ex, fun oe pn tt hz hf P V => ?_⟩
      rw [← e]
      refine V.run s' (σ.set q.i (some (.ref a'))) _ (offD q.i De) (offE q.i T) g1 (w1.set (.v _) q.i) (Le.refl s') q2 ⟨?_, ?_, ?_, ?_⟩
      · exact fun s2 r2 σ2 l2 g2 w2 z => k.nx s2 _ _ (l1.trans l2) g2 (w2.unset q.i) z.to
      · exact fun s2 r2 σ2 l2 g2 w2 z => k.bk s2 _ _ (l1.trans l2) g2 (w2.unset q.i) z.to
      · exact fun s2 r2 σ2 l2 g2 w2 z => k.ct s2 _ _ (l1.trans l2) g2 (w2.unset q.i) z.to
      · exact fun s2 d2 v2 l2 g2 r2 z => k.rt s2 d2 v2 (l1.trans l2) g2 r2 z
    · rw [hb] at qq
      exact ih cls a σ H ⟨s', c, d, r', l1, g1, w1, e, ex, qq.ff⟩
theorem ds_try (XT : XTab X.K cl xin sub) (hs : X.stack = X.env :: X.outer) (hf : X.env.frame = some X.env.locals) (hN : X.N.Nodup) (tk : TakesD cl s0 X Ξo)
    (hb : ∀ (s1 : Sn) (Ξ' : DXE) (pn : List (Addr × Obj)) (xe : Value → Shared → Prop), TakesD cl s1 (X.tr pn xe) Ξ' → PassesOwn (model X.prog X.w) X.A X.env xe → DSs cl s1 (X.tr pn xe) body (tb Ξ'))
    (hh : HdsD cl X (h₀ :: hds) cs l) : DS cl s0 X (.Try body (h₀ :: hds) [] [] pos) (dTry xin sub Ξo tb cs) :=
  ⟨_, ps_try_asL (tb := bodyAny cl X body tb) hs hf hN tk (fun W pn xe tkW po => ⟨fun pins s σ H D I hh => by
    obtain ⟨s1, Ξ', hle, hall⟩ := hh
    obtain ⟨tt, P, V⟩ := hb s1 Ξ' pn xe (tkW.imp hle) po
    exact P.run pins s σ H D I (hall pn xe tt P V)⟩) hh.as, ⟨fun s σ r De T g w l q k => ⟨s, _, catch_le XT l k hh, fun pn xe tt P V => V.run s σ r De T g w (Le.refl s) q k⟩⟩⟩
end
end ER

namespace PySem.W
open PySem PySem.Spec PySem.Calls PyProof.Rows
section
variable {prog : Program} {w : World} {A : Around} {E : Value → Shared → Prop} {s : Shared} {K : Frag} {x D : Addr} {ox : Obj} {od : Option Obj}
theorem erx_findObj {C : Addr} {name : Str} {a g : Value} (hc : (clsIn K C).isSome = true) (ha : findIn K (.ref C) name = some (some a)) (hg : specialIn K a "__get__" = some (some g)) (ht : takesIn K a = some true) : findObj K C od name = some (.bind g a) := by
  obtain ⟨cd, hc⟩ := Option.isSome_iff_exists.mp hc
  unfold findObj
  rw [hc, Option.bind_some, ha, Option.bind_some]
  simp [hg, ht]
theorem erx_class {Q : Option Value → Shared → Prop} (hga : findIn K (.ref D) "__getattribute__" = some (some (.builtin "BaseException.__getattribute__"))) (hgt : findIn K (.ref D) "__getattr__" = some none) (hsub : subIn K (.ref D) (.type "BaseException") = some true)
    (hdct : hasDictIn K D = true) (ha : findIn K (.ref D) "__class__" = some (some (.builtin "object.__class__")))
    (hn : specialIn K (.builtin "object.__class__") "__get__" = some (some (.builtin "getset_descriptor.__get__"))) (htk : takesIn K (.builtin "object.__class__") = some true) (hm : mroIn K D (.type "object") = some true)
    (X : K.In s.heap) (I : InstAt s.heap x ox D od) (h : Q (some (.ref D)) { s with toks := s.toks + 1 }) : wpAny (model prog w) A (getAttr? (.ref x) "__class__") Q E s := by
  have hf : findObj K D od "__class__" = some (.bind (.builtin "getset_descriptor.__get__") (.builtin "object.__class__")) := erx_findObj (by obtain ⟨cd, hc, _⟩ := any_some hdct; rw [hc]; rfl) ha hn htk
  obtain ⟨hp, g, d, t, os⟩ := s
  have L0 := I.type (M := model prog w)
  have L1 := looks_findIn (M := model prog w) X hga
  have L2 := looks_findIn (M := model prog w) X hgt
  have L3 := looks_find (M := model prog w) X I hf
  have sub : Looks (model prog w) hp (isInstance (.ref x) (.type "BaseException")) true := L0.andThen (looks_subIn X hsub)
  have hx0 : (false && onTheHeap (Value.builtin "BaseException.__getattribute__")) = false := rfl
  have hx2 : (Value.builtin "BaseException.__getattribute__" == Value.builtin "object.__getattribute__") = false := by decide +kernel
  have hx1 : (onTheHeap (Value.ref D) && Value.builtin "BaseException.__getattribute__" == Value.builtin "object.__getattribute__") = false := by rw [hx2]; rfl
  unfold getAttr? getAttrBy? getAttrBy
  refine wpAny_bind (wpAny_mkText (wpAny_bind (wpAny_attempt (wpAny_holding (wpAny_bind (L0.at (wpAny_bind (L1.at ?_))))))))
  show wpAny _ _ (if (onTheHeap (Value.ref D) && Value.builtin "BaseException.__getattribute__" == Value.builtin "object.__getattribute__") = true then _ else _) _ _ _
  rw [hx1, if_neg Bool.false_ne_true]
  unfold getAttrByItsOwn hookBefore
  refine wpAny_bind ?_
  rw [if_pos (show onTheHeap (Value.ref D) = true from rfl)]
  refine L2.at ?_
  refine wpAny_bind (wpAny_attempt (wpAny_holding ?_))
  unfold callGetattribute
  rw [hx0, if_neg Bool.false_ne_true]
  unfold boundAndCalled
  rw [PySem.F.excAttr_ValueError.ga.bind (.ref x)]
  refine wpAny_bind (wpAny_pure ?_)
  show wpAny _ _ (call (.builtin "BaseException.__getattribute__") [.ref x, .str "__class__" t]) _ _ _
  refine wpAny_call (codeAny_call_builtin PySem.F.excAttr_ValueError.ga.plain PySem.F.entry_bexc_ga ?_)
  refine @check_slot (model prog w) _ _ ⟨hp, g, d, t + 1, os⟩ "BaseException.__getattribute__" "BaseException" "__getattribute__" (.ref x) [.str "__class__" t] [] _ (by decide +kernel) (by decide +kernel) sub (PySem.F.args_bexc_ga (.ref x) (.str "__class__" t)) ?_
  unfold Builtin.«object.__getattribute__»
  refine wpAny_bind (wpAny_of_eq (a := ((Value.ref x : Value), [Value.str "__class__" t])) (by first | rfl | (simp only [slotArgs]; rfl)) ?_)
  refine wpAny_bind (wpAny_pure (wpAny_bind (L0.at (wpAny_bind (L3.at ?_)))))
  show wpAny _ _ (holding [Value.builtin "object.__class__"] (call (.builtin "getset_descriptor.__get__") [.builtin "object.__class__", .ref x, .ref D]) >>= ret) _ _ _
  refine wpAny_bind (wpAny_holding (wpAny_call (class_get (s := ⟨hp, g, d, t + 1, os⟩) (ox := ox) (od := od) X I hm ?_)))
  refine wpAny_pure ?_
  show wpAny _ _ (handedOut (.ref D)) _ _ _
  rw [handedOut_of (v := .ref D) rfl]
  first
    | exact wpAny_pure (wpAny_pure h)
    | exact wpAny_pure h
    | exact wpAny_pure (wpAny_bind (wpAny_pure (wpAny_pure h)))
theorem erx_kit (hga : findIn K (.ref D) "__getattribute__" = some (some (.builtin "BaseException.__getattribute__"))) (hgt : findIn K (.ref D) "__getattr__" = some none) (hsub : subIn K (.ref D) (.type "BaseException") = some true) (hdct : hasDictIn K D = true) (ha : findIn K (.ref D) "__class__" = some (some (.builtin "object.__class__")))
    (hn : specialIn K (.builtin "object.__class__") "__get__" = some (some (.builtin "getset_descriptor.__get__"))) (htk : takesIn K (.builtin "object.__class__") = some true) (hm : mroIn K D (.type "object") = some true) :
    KitX K (.ref x) (.ref D) (fun h => InstAt h x ox D od) where
  ty := fun _ _ _ I => I.type
  it := fun _ _ X _ => by
    obtain ⟨cdD, hcD, _⟩ := any_some hdct
    unfold clsIn at hcD
    split at hcD
    · rename_i c' d' cd' sl' ho
      intro A' Q' E' s' k q
      unfold isType loadHead
      exact wpAny_bind (wpAny_loadPart (k _ _ (X _ _ ho)) (wpAny_pure q))
    · cases hcD
  ne := fun h tp dd its n sl X htp => by
    obtain ⟨cdD, hcD, _⟩ := any_some hdct
    refine Bool.eq_false_iff.mpr fun q => ?_
    have e : D = tp := Value.ref.inj (beq_iff_eq.mp q)
    subst e
    unfold clsIn at hcD
    split at hcD
    · rename_i c' d' cd' sl' ho
      have z := (X _ _ ho).symm.trans htp
      cases z
    · cases hcD
  ca := fun X I k => erx_class hga hgt hsub hdct ha hn htk hm X I k
end
end PySem.W
namespace ER
open PySem PySem.Spec PyProof.Rows L2
/-! ## what a suite asks of its exception -/
structure XC (K : PySem.W.Frag) (C : Addr) : Prop where
  xf : XfC K C
  nv : PySem.W.findIn K (.ref C) "value" = some none
  ex : ExcC K C
/-- the classes of errors that suites know, beside which they ask isinstance -/
structure XSee (K : PySem.W.Frag) (cl : Nat → Addr) (kn : Nat → Bool) (kin sub : Nat → Nat → Bool) : Prop where
  cls : ∀ c, kn c = true → XC K (cl c)
  kit : ∀ c j, kin c j = true → PySem.W.kitOne K (.ref (cl c)) (.ref (cl j)) = some (sub c j)
def dXval (kn : Nat → Bool) (a : Addr) (c : Nat) (dv : D) (t : DTE) : DTE := fun r m Φ => t r m fun x m1 => x = .v (.ref a) ∧ kn c = true ∧ Φ dv m1
def xisD (cl : Nat → Addr) (kn : Nat → Bool) (kin sub : Nat → Nat → Bool) (a : Addr) (c j : Nat) (ds : List D) (m : Mu) (Φ : DK) : Prop := match ds with
  | [.v (.ref x), .v (.ref y)] => x = a ∧ y = cl j ∧ kn c = true ∧ kin c j = true ∧ Φ (.v (.bl (sub c j))) m
  | _ => False
def rIsX (K : PySem.W.Frag) (C a : Addr) (d : Option Addr) : List V → Hp → VK → Prop := fun xs H Q => ∃ (c : V) (cv : Value) (b : Bool) (dd : Addr) (fs : List (Str × V)), xs = [.ref a, c] ∧ (∀ u, RelV c u → u = cv) ∧ PySem.W.kitOne K (.ref C) cv = some b ∧ d = some dd ∧ H dd = some (.xd fs) ∧ Q (.bl b) H
section
variable {cl : Nat → Addr} {s1 : Sn} {X : Cx} {a : Addr} {oe : Obj} {cls : Value} {d : Option Addr} {c : Nat} {dv : D} {pn : List (Addr × Obj)} {e : Expr} {te : DTE} {pos p : Pos} {kn : Nat → Bool} {kin sub : Nat → Nat → Bool}
theorem de_xval (hx : Here (X.suite a ((a, oe) :: pn))) (XS : XSee X.K cl kn kin sub) (hz : Zc cls d oe) (hf : ∃ vs, oe.data = .fields vs) (ex : ExAt cl s1 c dv cls d) (he : DE cl s1 (X.suite a ((a, oe) :: pn)) e te) (hb : attributeBase e "value" X.env (eval e X.env) = eval e X.env := by rfl) :
    DE cl s1 (X.suite a ((a, oe) :: pn)) (.Attribute e "value" pos) (dXval kn a c dv te) := by
  obtain ⟨tt, P, V⟩ := he
  cases hkn : kn c with
  | false => exact ⟨fun σ H Q => tt σ H fun _ _ => False, ⟨fun pins s σ H Q I h => attr_of hb (thn (P.run pins s σ H _ I h) fun u s2 hh => by
      obtain ⟨_, _, _, _, z⟩ := hh
      exact z.elim)⟩, ⟨fun s σ r Φ Q g w l q k => V.run s σ r _ _ g w l q fun _ _ _ _ _ _ q1 => by
      obtain ⟨_, z, _⟩ := q1
      rw [hkn] at z
      cases z⟩⟩
  | true =>
    have C := XS.cls c hkn
    refine ⟨_, pe_xf (X := X) C.xf C.nv hz hf P hb, ⟨fun s σ r Φ Q g w l q k => V.run s σ r _ _ g w l q fun x v s2 l2 g2 rx q1 => ?_⟩⟩
    obtain ⟨rfl, _, q1⟩ := q1
    cases rx
    obtain ⟨ec, dx, y, e2, h1, n1, ry⟩ := ex.mono (l.trans l2)
    refine ⟨rfl, ec, dx, _, y, e2, h1, ?_, k dv y s2 l2 g2 ry q1⟩
    rfl
theorem call_isX {C : Addr} (T : ExcC X.K C) (hz : Zc (.ref C) d oe) (hf : ∃ vs, oe.data = .fields vs) : CallR (X.suite a ((a, oe) :: pn)) (.builtin "isinstance") (rIsX X.K C a d) := by
  intro pins s σ H xs us Q I r h
  obtain ⟨c, cv, b, dd, fs, rfl, hcv, e, ed, ea, q⟩ := h
  subst ed
  cases r with
  | cons rx rr =>
    cases rr with
    | cons rt rr =>
      cases rr
      cases rx
      have ec := hcv _ rt
      subst ec
      obtain ⟨hget, _⟩ := I.pin (a, oe) (List.mem_append.mpr (.inl List.mem_cons_self))
      obtain ⟨vs, hv⟩ := hf
      obtain ⟨mA, hns, hr⟩ := (show ObjOk X.prog X.w H s.heap dd (.xd fs) from I.hok dd _ ea)
      obtain ⟨od, ho, hl⟩ := lookIn_ns hns
      have J : PySem.W.InstAt s.heap a oe C (some od) := ⟨hget, hz.1, by unfold PySem.W.notCls; rw [hv] <;> rfl, by rw [hz.2]; exact ho⟩
      exact PySem.W.kia_one (PySem.W.erx_kit T.hg T.hk T.hs T.hd T.ha T.hn T.ht T.hm) I.kIn J e (fun z => nomatch z) fun tk => ⟨.bl b, H, I.kept (t' := tk) fun _ _ z => z, rfl, q⟩
theorem callR_none {X : Cx} {f : Value} : CallR X f (fun _ _ _ => False) := fun _ _ _ _ _ _ _ _ _ h => h.elim
theorem de_xis {es : List Expr} {tds : DTA} (j : Nat) (hx : Here (X.suite a ((a, oe) :: pn))) (XS : XSee X.K cl kn kin sub) (hz : Zc cls d oe) (hf : ∃ vs, oe.data = .fields vs) (ex : ExAt cl s1 c dv cls d) (hg : Gl (X.suite a ((a, oe) :: pn)) "isinstance") (hm : X.mg "isinstance" = none)
    (ha : DA cl s1 (X.suite a ((a, oe) :: pn)) (e :: es) tds) (he : starEach (e :: es) X.env = (false, eval e X.env) :: starEach es X.env := by rfl) (hpl : (backTo pos (starEach es X.env)).any (·.1) = false := by rfl) :
    DE cl s1 (X.suite a ((a, oe) :: pn)) (.Call (.Name "isinstance" p) (e :: es) [] pos) (dCa (xisD cl kn kin sub a c j) tds) := by
  cases hkn : kn c with
  | false =>
    obtain ⟨tt, P, V⟩ := ha
    exact ⟨_, pe_callB (callR_none (X := X.suite a ((a, oe) :: pn)) (f := .builtin "isinstance")) hg hm (by decide +kernel) P (by decide) (by decide) he hpl, ⟨fun s σ r Φ Q g w l q k => V.run s σ r _ _ g w l q fun ds _ _ _ _ _ q1 => by
      unfold xisD at q1
      split at q1
      · obtain ⟨_, _, z, _⟩ := q1
        rw [hkn] at z
        cases z
      · exact q1.elim⟩⟩
  | true =>
    have C := XS.cls c hkn
    have ecls := ex.1
    rw [ecls] at hz
    obtain ⟨tt, P, V⟩ := ha
    refine ⟨_, pe_callB (call_isX (pn := pn) (a := a) C.ex hz hf) hg hm (by decide +kernel) P (by decide) (by decide) he hpl, ⟨fun s σ r Φ Q g w l q k => V.run s σ r _ _ g w l q fun ds vs s2 l2 g2 rs q1 => ?_⟩⟩
    unfold xisD at q1
    split at q1
    · obtain ⟨rfl, rfl, _, hki, q1⟩ := q1
      cases rs with
      | cons r1 rs => cases rs with
        | cons r2 rs =>
          cases rs
          cases r1
          cases r2
          obtain ⟨_, dx, y, e2, h1, n1, ry⟩ := ex.mono (l.trans l2)
          exact ⟨_, _, _, dx, _, rfl, fun u z => z, XS.kit c j hki, e2, h1, k _ _ s2 l2 g2 (.v _) q1⟩
    · exact q1.elim
end
end ER

namespace ER
open PySem PySem.Spec PyProof.Rows PySem.SeqAt L2
/-! ## == and != by an own __eq__ -/
section
variable {prog : Program} {w : World} {A : Around} {E : Value → Shared → Prop} {s : Shared} {K : PySem.W.Frag} {x C f : Addr} {ox : Obj} {od : Option Obj} {b : Value}
theorem ne_entry (X : K.In s.heap) (I : PySem.W.InstAt s.heap x ox C od) (hs : PySem.W.findIn K (.ref C) "__eq__" = some (some (.ref f))) (hf : PySem.W.isFn K (.ref f) = true) (hu : A.units < cLine) {Q : Fin → Shared → Prop}
    (hcall : wpAny (model prog w) A (call (.ref f) [.ref x, b]) (fun v s' => ∃ k, v = .bool k ∧ Q (.done (.ret (.bool (!k)))) s') E s) :
    wpAny (model prog w) A (Builtin.«object.__ne__» ⟨[.ref x, b], []⟩) Q E s := by
  obtain ⟨hp, g, d, t, os⟩ := s
  unfold Builtin.«object.__ne__»
  repeat (first
    | with_reducible refine wpAny_cRoomFor hu ?_
    | (refine wpAny_bind (m := callSpecialIfBound? (.ref x) (Str.ofString "__eq__") [b])
        (PySem.W.ifBound_K X I hs hf (wpAny_mono hcall (fun r s' hr => by
          obtain ⟨k, rfl, hq⟩ := hr
          repeat (first | exact hq | exact wpAny_pure hq | exact wpAny_truthy_bool hq | (refine wpAny_bind (m := truthy (.bool _)) (wpAny_truthy_bool ?_)) | wp_step)) fun _ _ e => e)))
    | wp_step)
theorem ifBound_ne {M : Model} {args : List Value} {Q : Option Value → Shared → Prop} (X : K.In s.heap) (I : PySem.W.InstAt s.heap x ox C od) (hs : PySem.W.findIn K (.ref C) "__ne__" = some (some (.builtin "object.__ne__")))
    (h : wpAny M A (call (.builtin "object.__ne__") (.ref x :: args)) (fun v => Q (some v)) E s) : wpAny M A (callSpecialIfBound? (.ref x) "__ne__" args) Q E s := by
  simp only [callSpecialIfBound?, bindSpecialIfBound?]
  refine wpAny_holding (wpAny_bind (wpAny_bind (wpAny_bind (I.type.here ((PySem.W.looks_findIn X hs).here ?_)))))
  refine wpAny_bind (wpAny_askSetting (wpAny_ite ?_))
  have fin : wpAny M A (call (.builtin "object.__ne__") ([.ref x] ++ args) >>= fun v => pure (some v)) Q E s := wpAny_bind (wpAny_mono h (fun v s' h' => wpAny_pure h') fun _ _ h' => h')
  split
  · exact wpAny_bind (wpAny_of_eq (F.cmp_object.ne.bind _) (wpAny_pure (by exact fin)))
  · exact wpAny_tryCatch (wpAny_bind (wpAny_of_eq (F.cmp_object.ne.bind _) (wpAny_pure (by exact fin))))
theorem cmpNe_K {h₀ : Heap} {L : Addr} {m : Str → Option Value} {tb : Value} {Q : Value → Shared → Prop} (hu : A.units + 1 < cLine) (F' : Fr h₀ L s.heap m) (X₀ : K.In h₀) (I : PySem.W.InstAt s.heap x ox C od) (hb : PySem.W.Looks (model prog w) s.heap (typeOf b) tb) (hn : PySem.W.notFirst K C tb = true)
    (hm : PySem.W.mroIn K C (.type "object") = some true) (hne : PySem.W.findIn K (.ref C) "__ne__" = some (some (.builtin "object.__ne__"))) (hs : PySem.W.findIn K (.ref C) "__eq__" = some (some (.ref f))) (hf : PySem.W.isFn K (.ref f) = true)
    (h : wpAny (model prog w) A.in1 (call (.ref f) [.ref x, b]) (fun v s' => ∃ k, v = .bool k ∧ Q (.bool (!k)) s') E s) : wpAny (model prog w) A (richCompare .NotEq (.ref x) b) Q E s := by
  have X := X₀.keeps F'.keep
  have one : wpAny (model prog w) A (tryCompare (.ref x) "__ne__" b) (fun r s' => ∃ v, r = some v ∧ Q v s') E s := by
    unfold tryCompare
    refine wpAny_bind (ifBound_ne X I hne (wpAny_call (codeAny_call_builtin F.cmp_object.ne.plain F.cmpEntry_ne (PySem.W.check_slot F.cmpKind_ne F.cmpSplit_ne (I.type.andThen (PySem.W.looks_mroIn X hm)) (F.cmpArgs_ne _ _)
      (ne_entry (A := A.in1) X I hs hf hu (wpAny_mono h (fun v s' hv => ?_) fun _ _ e => e))))))
    obtain ⟨k, rfl, hq⟩ := hv
    first | exact ⟨k, rfl, wpAny_pure ⟨_, rfl, hq⟩⟩ | exact ⟨k, rfl, wpAny_pure (wpAny_pure ⟨_, rfl, hq⟩)⟩
  unfold richCompare
  simp only [oneThing_ref, cmpInfo_NotEq]
  refine wpAny_holding (wpAny_bind (wpAny_cRoomFor (Nat.lt_of_succ_lt hu) ?_))
  refine wpAny_bind (I.type.here (wpAny_bind (hb.here ?_)))
  split
  · rename_i q
    have e : PySem.W.subIn K tb (.ref C) = some false := by
      rcases Bool.or_eq_true_iff.mp hn with e | e
      · rw [beq_iff_eq.mp e] at q; simp at q
      · exact beq_iff_eq.mp e
    refine wpAny_bind ((PySem.W.looks_subIn X e).here ?_)
    simp only [Bool.false_eq_true, if_false]
    refine wpAny_bind (wpAny_mono one (fun r s' z => ?_) fun _ _ e => e)
    obtain ⟨v, rfl, hq⟩ := z
    exact wpAny_pure hq
  · refine wpAny_bind (wpAny_pure ?_)
    simp only [Bool.false_eq_true, if_false]
    refine wpAny_bind (wpAny_mono one (fun r s' z => ?_) fun _ _ e => e)
    obtain ⟨v, rfl, hq⟩ := z
    exact wpAny_pure hq
end
section
variable {X : Cx} {CX : CXT} {n : Nat} {f C : Addr} {fd : FuncData} {ps : List Str} {sp : Sp} {E : XK}
theorem own_run {A : Around} {pins : List (Addr × Obj)} {σ : L2.St} {H : Hp} {s : Shared} {Q : VK} {us : List Value} {vs : List V} (sb : Sub X n A) (F : FnOk X.prog X.w X.K X.mg X.base CX n f fd ps sp) (hb : Binds X.K fd ps []) (hx : Passes CX X E)
    (I : Inv X pins σ H s) (r : Vals vs us) (hsp : sp vs H Q E) : wpAny (model X.prog X.w) A (call (.ref f) us) (EP X pins σ Q) X.xe s := by
  have e0 : Env0 X.prog X.w X.K X.mg X.base A X.stack s H := by
    have e := I.env0
    exact ⟨by rw [sb.fr]; exact e.frames, e.mod, e.bs, e.bsz, e.funs, e.frf, e.hok, e.bare⟩
  have hl := F.len _ _ _ _ hsp
  have lu : (us ++ []).length = ps.length := by rw [List.append_nil, ← r.length]; exact hl
  have bd := hb s us I.kIn lu
  rw [List.append_nil] at bd
  refine wpAny_call (codeAny_mono (F.run A X.stack s H ⟨us, []⟩ us vs Q E sb.room e0 bd r hsp) fun r s' hq => ?_)
  cases r with
  | error e => exact hx pins σ H s e s' I hq
  | ok fl =>
    cases fl with
    | ret w => exact I.after hq
    | next => exact False.elim hq
    | brk => exact False.elim hq
    | cont => exact False.elim hq
/-- the text's own ==, no own != -/
structure OwnE (K : PySem.W.Frag) (C f : Addr) : Prop where
  s : PySem.W.findIn K (.ref C) "__eq__" = some (some (.ref f))
  fn : PySem.W.isFn K (.ref f) = true
  ne : PySem.W.findIn K (.ref C) "__ne__" = some (some (.builtin "object.__ne__"))
  m : PySem.W.mroIn K C (.type "object") = some true
def rOwnE (C : Addr) (sp : Sp) (E : XK) (neg : Bool) : R2 := fun x y H Q => ∃ a dx fs b dy gs, x = .ref a ∧ H a = some (.ins C dx fs) ∧ y = .ref b ∧ H b = some (.ins C dy gs) ∧ sp [x, y] H (fun v H' => ∃ k, v = .bl k ∧ Q (.bl (if neg = true then !k else k)) H') E
theorem op_ownEq (O : OwnE X.K C f) (F : FnOk X.prog X.w X.K X.mg X.base CX n f fd ps sp) (hr : Room n X.A) (hb : Binds X.K fd ps []) (hx : Passes CX X E) : OpR X (compareOp .Eq) (rOwnE C sp E false) := by
  intro pins s σ H x y v u Q I rx ry h
  obtain ⟨a, dx, fs, b, dy, gs, rfl, ea, rfl, eb, q⟩ := h
  cases (show v = Value.ref a from rx)
  cases (show u = Value.ref b from ry)
  obtain ⟨od, J⟩ := inst_of I ea
  obtain ⟨od', J'⟩ := inst_of I eb
  obtain ⟨m, hF⟩ := I.fr
  show wpAny (model X.prog X.w) X.A (richCompare .Eq (.ref a) (.ref b)) (EP X pins σ Q) X.xe s
  refine PySem.W.cmp_K (op := .Eq) (tb := .ref C) hr.units0 hF I.ok.mod.kin J J'.type (by simp [PySem.W.notFirst]) O.s O.fn ?_
  refine wpAny_mono (own_run (us := [.ref a, .ref b]) (vs := [.ref a, .ref b]) ⟨hr, rfl⟩ F hb hx I (.cons rfl (.cons rfl .nil)) q) (fun w s' z => ?_) fun _ _ x => x
  obtain ⟨z', H', I', rz, k, rfl, qz⟩ := z
  cases (show w = Value.bool k from rz)
  exact ⟨.bl k, H', I', rfl, qz⟩
theorem op_ownNe (O : OwnE X.K C f) (F : FnOk X.prog X.w X.K X.mg X.base CX n f fd ps sp) (hr : Room (n + 1) X.A) (hb : Binds X.K fd ps []) (hx : Passes CX X E) (hu : X.A.units + 1 < cLine) : OpR X (compareOp .NotEq) (rOwnE C sp E true) := by
  intro pins s σ H x y v u Q I rx ry h
  obtain ⟨a, dx, fs, b, dy, gs, rfl, ea, rfl, eb, q⟩ := h
  cases (show v = Value.ref a from rx)
  cases (show u = Value.ref b from ry)
  obtain ⟨od, J⟩ := inst_of I ea
  obtain ⟨od', J'⟩ := inst_of I eb
  obtain ⟨m, hF⟩ := I.fr
  show wpAny (model X.prog X.w) X.A (richCompare .NotEq (.ref a) (.ref b)) (EP X pins σ Q) X.xe s
  refine cmpNe_K (tb := .ref C) hu hF I.ok.mod.kin J J'.type (by simp [PySem.W.notFirst]) O.m O.ne O.s O.fn ?_
  have sb : Sub X n X.A.in1 := (show Sub X (n + 1) X.A from ⟨hr, rfl⟩).in1
  refine wpAny_mono (own_run (us := [.ref a, .ref b]) (vs := [.ref a, .ref b]) sb F hb hx I (.cons rfl (.cons rfl .nil)) q) (fun w s' z => ?_) fun _ _ x => x
  obtain ⟨z', H', I', rz, k, rfl, qz⟩ := z
  cases (show w = Value.bool k from rz)
  exact ⟨k, rfl, .bl (!k), H', I', rfl, qz⟩
end
/-! ### over data -/
structure EqOk (P : Program) (w : World) (K : PySem.W.Frag) (mg : Str → Option Value) (base : Heap) (cl : Nat → Addr) (c k : Nat) (F : DFn) : Prop where
  is : ∃ f fd, OwnE K (cl c) f ∧ FnD P w K mg base cl k f fd ["self", "other"] F ∧ Binds K fd ["self", "other"] []
def ownED (c : Nat) (F : DFn) (neg : Bool) (x y : D) (m : Mu) (Φ : DK) : Prop := match x, y with
  | .obj c1 ns xs, .obj c2 ns2 xs2 => (c1 = c ∧ c2 = c) ∧ Go F [.obj c1 ns xs, .obj c2 ns2 xs2] m (fun v m' => boolD v m' fun k m' => Φ (.v (.bl (if neg = true then !k else k))) m') noX
  | x, y => eqD neg x y m Φ
section
variable {cl : Nat → Addr} {s0 : Sn} {X : Cx} {a b : Expr} {ta tb : DTE} {pos : Pos} {c k : Nat} {F : DFn} {neg : Bool}
theorem boolD_to {v : D} {m : Mu} {Φ : Bool → Mu → Prop} (h : boolD v m Φ) : ∃ k, v = .v (.bl k) ∧ Φ k m := by
  unfold boolD at h
  split at h
  · exact ⟨_, rfl, h⟩
  · exact h.elim
theorem opd_ownE {r : R2} (h : OpD cl r (eqD neg)) : OpD cl (fun x y H Q => rOwnE (cl c) (spD cl 2 F) E0 neg x y H Q ∨ r x y H Q) (ownED c F neg) := fun s x y dx dy Φ Q g rx ry q k => by
  unfold ownED at q
  split at q
  · obtain ⟨⟨rfl, rfl⟩, q⟩ := q
    have rx0 := rx
    have ry0 := ry
    cases rx with
    | obj n1 h1 z1 r1 => cases ry with
      | obj n2 h2 z2 r2 =>
        refine .inl ⟨_, _, _, _, _, _, rfl, h1, rfl, h2, s, _, _, noX, rfl, g, .cons rx0 (.cons ry0 .nil), rfl, q.un, fun d v s' l' g' rd qd => ?_, fun _ _ _ _ _ _ _ _ z => z.elim⟩
        obtain ⟨kk, rfl, qd⟩ := boolD_to qd
        cases rd
        exact ⟨kk, rfl, k _ _ s' l' g' (.v _) qd⟩
  · exact .inr (h s x y dx dy Φ Q g rx ry q k)
theorem de_eqOwn (S : EqOk X.prog X.w X.K X.mg X.base cl c k F) (hr : Room (k + 1) X.A) (hu : X.A.units + 64 < cLine) (ha : DE cl s0 X a ta) (hb : DE cl s0 X b tb) : DE cl s0 X (.Compare a [.Eq] [b] pos) (dOp (ownED c F false) ta tb) :=
  let ⟨_, _, O, G, hbd⟩ := S.is
  de_cmp (OpR.or (op_ownEq O G (hr.mono (Nat.le_succ _)) hbd passL) (OpR.or op_eq (op_eqD hu))) (opd_ownE (opd_eq (K := X.K))) ha hb (nomark _)
theorem de_neOwn (S : EqOk X.prog X.w X.K X.mg X.base cl c k F) (hr : Room (k + 1) X.A) (hu : X.A.units + 64 < cLine) (ha : DE cl s0 X a ta) (hb : DE cl s0 X b tb) : DE cl s0 X (.Compare a [.NotEq] [b] pos) (dOp (ownED c F true) ta tb) :=
  let ⟨_, _, O, G, hbd⟩ := S.is
  de_cmp (OpR.or (op_ownNe O G hr hbd passL (by omega)) (OpR.or op_ne (op_neD hu))) (opd_ownE (opd_ne (K := X.K))) ha hb (nomark _)
theorem dt_eqOwn (S : EqOk X.prog X.w X.K X.mg X.base cl c k F) (hr : Room (k + 1) X.A) (hu : X.A.units + 64 < cLine) (ha : DE cl s0 X a ta) (hb : DE cl s0 X b tb) : DT cl s0 X (.Compare a [.Eq] [b] pos) (dB (dOp (ownED c F false) ta tb)) :=
  let ⟨_, _, O, G, hbd⟩ := S.is
  dt_cmp (OpR.or (op_ownEq O G (hr.mono (Nat.le_succ _)) hbd passL) (OpR.or op_eq (op_eqD hu))) (opd_ownE (opd_eq (K := X.K))) ha hb (nomark _)
theorem dt_neOwn (S : EqOk X.prog X.w X.K X.mg X.base cl c k F) (hr : Room (k + 1) X.A) (hu : X.A.units + 64 < cLine) (ha : DE cl s0 X a ta) (hb : DE cl s0 X b tb) : DT cl s0 X (.Compare a [.NotEq] [b] pos) (dB (dOp (ownED c F true) ta tb)) :=
  let ⟨_, _, O, G, hbd⟩ := S.is
  dt_cmp (OpR.or (op_ownNe O G hr hbd passL (by omega)) (OpR.or op_ne (op_neD hu))) (opd_ownE (opd_ne (K := X.K))) ha hb (nomark _)
end
end ER

namespace ER
open PySem PySem.Spec PyProof.Rows L2 TL
/-! ## texts: z * i, z[a:b], z.join(ys); slices of lists and tuples -/
section
variable {cl : Nat → Addr} {s0 : Sn} {X : Cx} {a b e o : Expr} {ta tb te to : DTE} {pos p2 apos : Pos}
/-- z * i, small -/
def rMulS : R2 := fun x y H Q => ∃ z i, x = .str z ∧ y = .int i ∧ z.length ≤ 1000 ∧ -1000 ≤ i ∧ i ≤ 1000 ∧ Q (.str (Txt.mul z i)) H
theorem mulOk_small {z : Str} {i : Int} (h : z.length ≤ 1000) (h0 : -1000 ≤ i) (h1 : i ≤ 1000) : PySem.MulOk z i := by
  refine ⟨?_, fun hi _ hq => ?_, fun hi _ => ?_⟩
  · rw [decide_eq_false (by omega), decide_eq_false (by omega)]; rfl
  · have h2 : (1000 : Int) ≤ (2 ^ 63 - 1) / i := by
      rw [Int.le_ediv_iff_mul_le (by omega)]
      omega
    omega
  · have h3 : z.length * i.toNat ≤ 1000 * 1000 := Nat.mul_le_mul h (by omega)
    exact decide_eq_false (by show ¬ z.length * i.toNat > sizeLine; rw [sizeLine_eq]; omega)
theorem op_mulS : OpR X (binaryOp .Mult) rMulS := by
  intro pins s σ H x y v u Q I rx ry h
  obtain ⟨z, i, rfl, rfl, h1, h2, h3, q⟩ := h
  obtain ⟨t, rfl⟩ := rx
  obtain ⟨t', rfl⟩ := ry
  exact PySem.SB.mul (mulOk_small h1 h2 h3) fun t' k => ⟨.str (Txt.mul z i), H, I.tok _, ⟨_, rfl⟩, q⟩
def mulSD : D → D → Mu → DK → Prop := fun x y m Φ => match x, y with
  | .v (.str z), .v (.int i) => z.length ≤ 1000 ∧ (-1000 ≤ i ∧ i ≤ 1000) ∧ Φ (.v (.str (Txt.mul z i))) m
  | x, y => mulD x y m Φ
theorem opd_mulS : OpD cl (fun x y H Q => rMulS x y H Q ∨ rI CMulA (fun i j => .int (i * j)) x y H Q) mulSD := fun s x y dx dy Φ Q g rx ry h k => by
  unfold mulSD at h
  split at h
  · obtain ⟨h1, ⟨h2, h3⟩, h⟩ := h
    cases rx
    cases ry
    exact .inl ⟨_, _, rfl, rfl, h1, h2, h3, k _ _ s (Le.refl s) g (.v _) h⟩
  · exact .inr (opd_int s x y dx dy Φ Q g rx ry h k)
theorem de_mulS (ha : DE cl s0 X a ta) (hb : DE cl s0 X b tb) : DE cl s0 X (.BinOp a .Mult b pos) (dOp mulSD ta tb) := de_bin (OpR.or op_mulS opR_mul) opd_mulS ha hb

/-! ### slices -/
abbrev DTO := Env → Mu → (Option Int → Mu → Prop) → Prop
structure EvO (cl : Nat → Addr) (s0 : Sn) (t : TO) (u : DTO) : Prop where
  run : ∀ (s : Sn) (σ : L2.St) (r : Env) (Φ : Option Int → Mu → Prop) (Q : Option Int → Hp → Prop), Good cl s → EnvOk cl s r σ → Le s0 s → u r s.mu Φ → (∀ o s', Le s s' → Good cl s' → Φ o s'.mu → Q o s'.H) → t σ s.H Q
def DO (cl : Nat → Addr) (s0 : Sn) (X : Cx) (e : Option Expr) (u : DTO) : Prop := ∃ t, PO X e t ∧ EvO cl s0 t u
def dNoPart : DTO := fun _ m Φ => Φ none m
def partD (d : D) (m : Mu) (Φ : Option Int → Mu → Prop) : Prop := match d with
  | .v (.int i) => Φ (some i) m
  | _ => False
def dPart (t : DTE) : DTO := fun r m Φ => t r m fun d m1 => partD d m1 Φ
theorem do_none : DO cl s0 X none dNoPart := ⟨_, po_none, ⟨fun s σ r Φ Q g w l q k => k none s (Le.refl s) g q⟩⟩
theorem do_some (h : DE cl s0 X e te) : DO cl s0 X (some e) (dPart te) :=
  let ⟨_, p, v⟩ := h; ⟨_, po_some p, ⟨fun s σ r Φ Q g w l q k => v.run s σ r _ _ g w l q fun d x s1 l1 g1 rx q1 => by
    unfold partD at q1
    split at q1
    · cases rx
      exact ⟨_, rfl, k _ s1 l1 g1 q1⟩
    · exact q1.elim⟩⟩
def cutD (xs : List D) (lo hi : Option Int) : List D := (xs.drop (HT.sIx xs.length 0 lo)).take (HT.sIx xs.length xs.length hi - HT.sIx xs.length 0 lo)
def slD (d : D) (lo hi : Option Int) (m : Mu) (Φ : DK) : Prop := match d with
  | .v (.str z) => z.length ≤ sizeLine ∧ Φ (.v (.str (cutS z lo hi))) m
  | .lst xs => Φ (.lst (cutD xs lo hi)) m
  | .tup xs => ¬ (HT.sIx xs.length 0 lo = 0 ∧ HT.sIx xs.length xs.length hi = xs.length) ∧ Φ (.tup (cutD xs lo hi)) m
  | _ => False
def dSl (te : DTE) (tl th : DTO) : DTE := fun r m Φ => te r m fun d m1 => tl r m1 fun lo m2 => th r m2 fun hi m3 => slD d lo hi m3 Φ
theorem Reps.cut {s : Sn} {ds : List D} {vs : List V} (r : Reps cl s ds vs) (lo hi : Option Int) : Reps cl s (cutD ds lo hi) (cutV vs lo hi) := by
  unfold cutD cutV
  rw [r.length]
  exact (r.drop _).take _
theorem de_slice {lo hi : Option Expr} {tl th : DTO} (he : DE cl s0 X e te) (hl : DO cl s0 X lo tl) (hh : DO cl s0 X hi th) : DE cl s0 X (.Subscript e (.Slice lo hi none p2) pos) (dSl te tl th) := by
  obtain ⟨t1, p1, v1⟩ := he
  obtain ⟨t2, p2, v2⟩ := hl
  obtain ⟨t3, p3, v3⟩ := hh
  refine ⟨_, pe_slice (SlR.or sl_str (SlR.or sl_list sl_tup)) p1 p2 p3, ⟨fun s σ r Φ Q g w l q k => v1.run s σ r _ _ g w l q fun d x s1 l1 g1 rx q1 => v2.run s1 σ r _ _ g1 (w.mono l1) (l.trans l1) q1 fun lo s2 l2 g2 q2 =>
    v3.run s2 σ r _ _ g2 ((w.mono l1).mono l2) ((l.trans l1).trans l2) q2 fun hi s3 l3 g3 q3 => ?_⟩⟩
  have rx3 := (rx.mono l2).mono l3
  have L := (l1.trans l2).trans l3
  unfold slD at q3
  split at q3
  · cases rx3
    exact .inl ⟨_, rfl, q3.1, k _ _ s3 L g3 (.v _) q3.2⟩
  · cases rx3 with
    | @lst _ _ vs n1 h1 r1 =>
      refine .inr (.inl ⟨_, _, rfl, SqL.of h1, fun p hp => ?_⟩)
      have lay := Le.lay (o := HO.lst (cutV vs lo hi)) g3 hp
      exact k _ _ (s3.lay p _) (L.trans lay) (g3.lay hp) (.lst (fun hM => g3.fresh hp (lay_M.mp hM)) upd_same ((r1.cut lo hi).mono lay)) q3
  · cases rx3 with
    | @tup _ _ vs n1 h1 r1 =>
      refine .inr (.inr ⟨_, _, rfl, SqT.of h1, by rw [← r1.length]; exact q3.1, fun p hp => ?_⟩)
      have lay := Le.lay (o := HO.tup (cutV vs lo hi)) g3 hp
      exact k _ _ (s3.lay p _) (L.trans lay) (g3.lay hp) (.tup (fun hM => g3.fresh hp (lay_M.mp hM)) upd_same ((r1.cut lo hi).mono lay)) q3.2
  · exact q3.elim

/-! ### join -/
inductive Jn (a : Str) (xs : List D) (k : Str → Prop) : Prop
  | mk (ys : List Str) : xs = (ys.map V.str).map D.v → (ys.map (·.length)).sum + ys.length * a.length ≤ 16777216 → k (Txt.join a ys) → Jn a xs k
theorem Jn.un {a : Str} {xs : List D} {k : Str → Prop} (h : Jn a xs k) : ∃ ys, xs = (ys.map V.str).map D.v ∧ (ys.map (·.length)).sum + ys.length * a.length ≤ 16777216 ∧ k (Txt.join a ys) := by
  cases h with
  | mk ys e z h => exact ⟨ys, e, z, h⟩
def joinD (a : Str) (y : D) (m : Mu) (Φ : DK) : Prop := match y with
  | .lst xs => Jn a xs fun z => Φ (.v (.str z)) m
  | .tup xs => Jn a xs fun z => Φ (.v (.str z)) m
  | _ => False
def isTxt (x : D) (k : Str → Prop) : Prop := match x with
  | .v (.str a) => k a
  | _ => False
def dJoin (to te : DTE) : DTE := fun r m Φ => to r m fun x m1 => isTxt x fun a => te r m1 fun y m2 => joinD a y m2 Φ
theorem de_join (ho : DE cl s0 X o to) (he : DE cl s0 X e te) (hs : starEach [e] X.env = [(false, eval e X.env)] := by rfl) (hbase : attributeBase o "join" X.env (eval o X.env) = eval o X.env := by rfl) (hline : (apos.endLine == pos.line) = true := by rfl) :
    DE cl s0 X (.Call (.Attribute o "join" apos) [e] [] pos) (dJoin to te) := by
  obtain ⟨t1, p1, v1⟩ := ho
  obtain ⟨t2, p2, v2⟩ := he
  refine ⟨_, pe_join p1 p2 hs hbase hline, ⟨fun s σ r Φ Q g w l q k => v1.run s σ r _ _ g w l q fun x v s1 l1 g1 rx q1 => ?_⟩⟩
  unfold isTxt at q1
  split at q1
  · cases rx
    refine ⟨⟨_, rfl⟩, v2.run s1 σ r _ _ g1 (w.mono l1) (l.trans l1) q1 fun y u s2 l2 g2 ry q2 => ?_⟩
    unfold joinD at q2
    split at q2
    · obtain ⟨ys, rfl, hz, q2⟩ := q2.un
      cases ry with
      | lst n1 h1 r1 =>
        cases r1.vals_eq
        exact ⟨_, _, ys, rfl, rfl, .inl (SqL.of h1), hz, k _ _ s2 (l1.trans l2) g2 (.v _) q2⟩
    · obtain ⟨ys, rfl, hz, q2⟩ := q2.un
      cases ry with
      | tup n1 h1 r1 =>
        cases r1.vals_eq
        exact ⟨_, _, ys, rfl, rfl, .inr (SqT.of h1), hz, k _ _ s2 (l1.trans l2) g2 (.v _) q2⟩
    · exact q2.elim
  · exact q1.elim
end

/-! ### what letters are -/
def low (z : Str) : Prop := ∀ c ∈ z.cps.toList, 97 ≤ c ∧ c ≤ 122
theorem cps_app (x y : Str) : (x ++ y).cps.toList = x.cps.toList ++ y.cps.toList := by
  show (x.cps ++ y.cps).toList = _
  exact Array.toList_append
theorem len_app (x y : Str) : (x ++ y).length = x.length + y.length := Str.length_append x y
theorem low_app {x y : Str} (h : low x) (k : low y) : low (x ++ y) := fun c hc => by
  rw [cps_app] at hc
  rcases List.mem_append.mp hc with hc | hc
  · exact h c hc
  · exact k c hc
theorem low_cut {z : Str} {lo hi : Option Int} (h : low z) : low (cutS z lo hi) := fun c hc => by
  have hc : c ∈ ((z.cps.toList.drop (HT.sIx z.length 0 lo)).take (HT.sIx z.length z.length hi - HT.sIx z.length 0 lo)) := hc
  exact h c (List.mem_of_mem_drop (List.mem_of_mem_take hc))
theorem len_cut (z : Str) (lo hi : Option Int) : (cutS z lo hi).length = min (HT.sIx z.length z.length hi - HT.sIx z.length 0 lo) (z.length - HT.sIx z.length 0 lo) := by
  show (((z.cps.toList.drop (HT.sIx z.length 0 lo)).take (HT.sIx z.length z.length hi - HT.sIx z.length 0 lo)).toArray).size = _
  rw [List.size_toArray, List.length_take, List.length_drop]
  rfl
theorem sIx_in {n d : Nat} {i : Int} (h0 : 0 ≤ i) (h1 : i ≤ n) : HT.sIx n d (some i) = i.toNat := by
  show (if i < 0 then (i + (n : Int)).toNat else min i.toNat n) = i.toNat
  rw [if_neg (by omega)]
  omega
theorem len_to {z : Str} {i : Int} (h0 : 0 ≤ i) (h1 : i ≤ z.length) : (cutS z none (some i)).length = i.toNat := by
  rw [len_cut, sIx_in h0 h1]
  show min (i.toNat - 0) (z.length - 0) = i.toNat
  omega
theorem len_from {z : Str} {i : Int} (h0 : 0 ≤ i) (h1 : i ≤ z.length) : (cutS z (some i) none).length = z.length - i.toNat := by
  rw [len_cut, sIx_in h0 h1]
  show min (z.length - i.toNat) (z.length - i.toNat) = z.length - i.toNat
  omega
theorem len_from_le {z : Str} {i : Int} (h0 : 0 ≤ i) : (cutS z (some i) none).length ≤ z.length - min i.toNat z.length := by
  rw [len_cut]
  have : HT.sIx z.length 0 (some i) = min i.toNat z.length := by
    show (if i < 0 then (i + (z.length : Int)).toNat else min i.toNat z.length) = _
    rw [if_neg (by omega)]
  rw [this]
  exact Nat.min_le_right _ _
theorem fold_app : ∀ (xs : List (Array Nat)) (a : Array Nat), (xs.foldl (· ++ ·) a).toList = a.toList ++ (xs.map Array.toList).flatten
  | [], a => by simp
  | x :: xs, a => by rw [List.foldl_cons, fold_app xs]; simp
theorem mul_list {z : Str} {i : Int} : (Txt.mul z i).cps.toList = (List.replicate i.toNat z.cps.toList).flatten := by
  unfold Txt.mul
  split
  · rename_i h
    have : i.toNat = 0 := by omega
    rw [this]
    rfl
  · split
    · rename_i h1 h
      rcases Bool.or_eq_true_iff.mp h with h | h
      · have e : i = 1 := eq_of_beq h
        rw [e]
        simp
      · have e : z.cps.size = 0 := eq_of_beq h
        have e2 : z.cps.toList = [] := List.eq_nil_iff_length_eq_zero.mpr e
        rw [e2]
        simp
    · show ((List.replicate i.toNat z.cps).foldl (· ++ ·) #[]).toList = _
      rw [fold_app]
      simp
theorem low_mul {z : Str} {i : Int} (h : low z) : low (Txt.mul z i) := fun c hc => by
  rw [mul_list] at hc
  obtain ⟨l, hl, hc⟩ := List.mem_flatten.mp hc
  rw [(List.mem_replicate.mp hl).2] at hc
  exact h c hc
theorem len_mul {z : Str} {i : Int} : (Txt.mul z i).length = i.toNat * z.length := by
  show (Txt.mul z i).cps.size = _
  rw [← Array.length_toList, mul_list]
  simp
  rfl
theorem joinL_nil : ∀ xs : List (List Nat), joinL [] xs = xs.flatten
  | [] => rfl
  | [p] => by simp [joinL]
  | p :: q :: r => by rw [joinL, joinL_nil (q :: r)]; simp
theorem join_list (ys : List Str) : (Txt.join "" ys).cps.toList = (ys.map fun y => y.cps.toList).flatten := by
  rw [join_eq]
  have := tl_join "" ys
  rw [show tl ("" : Str) = [] from rfl, joinL_nil] at this
  exact this
theorem low_join {ys : List Str} (h : ∀ y ∈ ys, low y) : low (Txt.join "" ys) := fun c hc => by
  rw [join_list] at hc
  obtain ⟨l, hl, hc⟩ := List.mem_flatten.mp hc
  obtain ⟨y, hy, rfl⟩ := List.mem_map.mp hl
  exact h y hy c hc
theorem len_join {ys : List Str} : (Txt.join "" ys).length = (ys.map (·.length)).sum := by
  show (Txt.join "" ys).cps.size = _
  rw [← Array.length_toList, join_list, List.length_flatten, List.map_map]
  rfl
theorem rng_ok {n : Int} (h0 : -(2 ^ 62) ≤ n) (h1 : n < 2 ^ 62) : -(2 ^ 62) ≤ n ∧ n < 2 ^ 62 := ⟨h0, h1⟩
/-- a comprehension by an invariant -/
theorem lc_inv {α : Type} {g : DTG} {tt : DTT} {te : DTE} {r : Env} {Φ : List D → Mu → Prop} (fn : α → D) (I : List α → List D → Mu → Prop)
    (step : ∀ x xs acc m (N : List D → Mu → Prop), (∀ acc m, I xs acc m → N acc m) → I (x :: xs) acc m → g (fn x) r m fun r1 m1 => tt r1 m1 fun b m2 => Br b (te r1 m2 fun y m3 => acc.length < sizeLine ∧ N (acc ++ [y]) m3) (N acc m2))
    (fin : ∀ acc m, I [] acc m → Φ acc m) : ∀ xs acc m, I xs acc m → dLcL g tt te r (xs.map fn) acc m Φ
  | [], acc, m, h => fin acc m h
  | x :: xs, acc, m, h => step x xs acc m (fun acc m => dLcL g tt te r (xs.map fn) acc m Φ) (fun acc m h => lc_inv fn I step fin xs acc m h) h
end ER

namespace ER
open PySem PySem.Spec PyProof.Rows L2
/-! ## in over data at any depth -/
def rInP (K : PySem.W.Frag) (neg : Bool) : R2 := fun x y H Q => ∃ d ds, Dp K H x d ∧ (Dp K H y (.list ds) ∨ Dp K H y (.tuple ds)) ∧ SeqAt.shaped d = true ∧ SeqAt.shaped (.list ds) = true ∧ Q (.bl (if neg = true then !(ds.any fun z => PyData.eqv z d) else ds.any fun z => PyData.eqv z d)) H
theorem op_inP {X : Cx} (hu : X.A.units + 65 < cLine) : OpR X (compareOp .In) (rInP X.K false) := by
  intro pins s σ H x y v u Q I rx ry h
  obtain ⟨d, ds, hd, he, sd, se, q⟩ := h
  obtain ⟨as, r1⟩ := Dp.reads I d x v hd rx
  rcases he with he | he
  · obtain ⟨bs, r2⟩ := Dp.reads I (.list ds) y u he ry
    exact SeqAt.in_list_reads r2 r1 (SeqAt.canLay_of_shaped se) (SeqAt.canLay_of_shaped sd) (room_in_shaped sd hu) ⟨.bl _, H, I, rfl, q⟩
  · obtain ⟨bs, r2⟩ := Dp.reads I (.tuple ds) y u he ry
    exact SeqAt.in_tuple_reads r2 r1 (SeqAt.canLay_of_shaped se) (SeqAt.canLay_of_shaped sd) (room_in_shaped sd hu) ⟨.bl _, H, I, rfl, q⟩
theorem op_notInP {X : Cx} (hu : X.A.units + 65 < cLine) : OpR X (compareOp .NotIn) (rInP X.K true) := by
  intro pins s σ H x y v u Q I rx ry h
  obtain ⟨d, ds, hd, he, sd, se, q⟩ := h
  obtain ⟨as, r1⟩ := Dp.reads I d x v hd rx
  rcases he with he | he
  · obtain ⟨bs, r2⟩ := Dp.reads I (.list ds) y u he ry
    exact SeqAt.notIn_list_reads r2 r1 (SeqAt.canLay_of_shaped se) (SeqAt.canLay_of_shaped sd) (room_in_shaped sd hu) ⟨.bl _, H, I, rfl, q⟩
  · obtain ⟨bs, r2⟩ := Dp.reads I (.tuple ds) y u he ry
    exact SeqAt.notIn_tuple_reads r2 r1 (SeqAt.canLay_of_shaped se) (SeqAt.canLay_of_shaped sd) (room_in_shaped sd hu) ⟨.bl _, H, I, rfl, q⟩
inductive InP (x : D) (ys : List D) (k : Bool → Prop) : Prop
  | mk (p : PyData) (ps : List PyData) : PyOf x p → PyOfs ys ps → SeqAt.shaped p = true → SeqAt.shaped (.list ps) = true → k (ps.any fun z => PyData.eqv z p) → InP x ys k
theorem InP.un {x : D} {ys : List D} {k : Bool → Prop} (h : InP x ys k) : ∃ p ps, PyOf x p ∧ PyOfs ys ps ∧ SeqAt.shaped p = true ∧ SeqAt.shaped (.list ps) = true ∧ k (ps.any fun z => PyData.eqv z p) := by
  cases h with
  | mk p ps h1 h2 h3 h4 h5 => exact ⟨p, ps, h1, h2, h3, h4, h5⟩
def inPD (neg : Bool) (x y : D) (m : Mu) (Φ : DK) : Prop := match y with
  | .lst ys => InP x ys fun b => ngK neg Φ b m
  | .tup ys => InP x ys fun b => ngK neg Φ b m
  | _ => False
section
variable {cl : Nat → Addr} {s0 : Sn} {X : Cx} {a b : Expr} {ta tb : DTE} {pos : Pos} {neg : Bool}
theorem opd_inP {K : PySem.W.Frag} : OpD cl (rInP K neg) (inPD neg) := fun s x y dx dy Φ Q g rx ry q k => by
  unfold inPD at q
  split at q
  · obtain ⟨p, ps, h1, h2, h3, h4, h5⟩ := q.un
    exact ⟨p, ps, h1.dp rx, .inl ((PyOf.lst h2).dp ry), h3, h4, k _ _ s (Le.refl s) g (.v _) (ngK_if h5)⟩
  · obtain ⟨p, ps, h1, h2, h3, h4, h5⟩ := q.un
    exact ⟨p, ps, h1.dp rx, .inr ((PyOf.tup h2).dp ry), h3, h4, k _ _ s (Le.refl s) g (.v _) (ngK_if h5)⟩
  · exact q.elim
theorem de_inP (hu : X.A.units + 65 < cLine) (ha : DE cl s0 X a ta) (hb : DE cl s0 X b tb) (hm : behindInMarks .In b = false := by first | exact nomark _ | rfl | (with_unfolding_all rfl)) : DE cl s0 X (.Compare a [.In] [b] pos) (dOp (inPD false) ta tb) := de_cmp (op_inP hu) (opd_inP (K := X.K)) ha hb hm
theorem de_notInP (hu : X.A.units + 65 < cLine) (ha : DE cl s0 X a ta) (hb : DE cl s0 X b tb) (hm : behindInMarks .NotIn b = false := by first | exact nomark _ | rfl | (with_unfolding_all rfl)) : DE cl s0 X (.Compare a [.NotIn] [b] pos) (dOp (inPD true) ta tb) := de_cmp (op_notInP hu) (opd_inP (K := X.K)) ha hb hm
theorem dt_inP (hu : X.A.units + 65 < cLine) (ha : DE cl s0 X a ta) (hb : DE cl s0 X b tb) (hm : behindInMarks .In b = false := by first | exact nomark _ | rfl | (with_unfolding_all rfl)) : DT cl s0 X (.Compare a [.In] [b] pos) (dB (dOp (inPD false) ta tb)) := dt_cmp (op_inP hu) (opd_inP (K := X.K)) ha hb hm
theorem dt_notInP (hu : X.A.units + 65 < cLine) (ha : DE cl s0 X a ta) (hb : DE cl s0 X b tb) (hm : behindInMarks .NotIn b = false := by first | exact nomark _ | rfl | (with_unfolding_all rfl)) : DT cl s0 X (.Compare a [.NotIn] [b] pos) (dB (dOp (inPD true) ta tb)) := dt_cmp (op_notInP hu) (opd_inP (K := X.K)) ha hb hm
end
end ER

namespace ER
open PySem PySem.Spec PyProof.Rows L2
/-! ## what is short enough to be shown -/
structure Sh (d : Nat) (p : PyData) (n : Nat) : Prop where
  s : PyData.showable p = true
  h : PyData.hasDict p = false
  d : PyData.depth p ≤ d
  l : PyData.leavesShort 61 p = true
  w : PyData.weight p ≤ n
structure ShA (d : Nat) (p : List PyData) (n : Nat) : Prop where
  s : PyData.showableAll p = true
  h : PyData.hasDictAll p = false
  d : PyData.depthAll p ≤ d
  l : PyData.leavesShortAll 61 p = true
  w : PyData.weightAll p ≤ n
theorem Sh.up {d d' n n' : Nat} {p : PyData} (a : Sh d p n) (h : d ≤ d') (k : n ≤ n') : Sh d' p n' := ⟨a.s, a.h, Nat.le_trans a.d h, a.l, Nat.le_trans a.w k⟩
theorem ShA.nil {d : Nat} : ShA d [] 0 := ⟨rfl, rfl, Nat.zero_le _, rfl, Nat.le_refl _⟩
theorem ShA.cons {d a b : Nat} {p : PyData} {ps : List PyData} (x : Sh d p a) (y : ShA d ps b) : ShA d (p :: ps) (a + 1 + b) := by
  refine ⟨?_, ?_, ?_, ?_, ?_⟩
  · show (PyData.showable p && PyData.showableAll ps) = true
    rw [x.s, y.s]; rfl
  · show (PyData.hasDict p || PyData.hasDictAll ps) = false
    rw [x.h, y.h]; rfl
  · show max (PyData.depth p) (PyData.depthAll ps) ≤ d
    have := x.d; have := y.d; omega
  · show (PyData.leavesShort 61 p && PyData.leavesShortAll 61 ps) = true
    rw [x.l, y.l]; rfl
  · show PyData.weight p + 1 + PyData.weightAll ps ≤ _
    have := x.w; have := y.w; omega
theorem ShA.of {d n : Nat} : ∀ {ps : List PyData}, (∀ p ∈ ps, Sh d p n) → ShA d ps ((n + 1) * ps.length)
  | [], _ => .nil
  | p :: ps, h => by
    have := ShA.cons (h p List.mem_cons_self) (ShA.of fun q hq => h q (List.mem_cons_of_mem _ hq))
    refine ⟨this.s, this.h, this.d, this.l, Nat.le_trans this.w ?_⟩
    rw [List.length_cons, Nat.mul_add]
    omega
theorem Sh.lst {d n : Nat} {ps : List PyData} (y : ShA d ps n) : Sh (d + 1) (.list ps) n := ⟨y.s, y.h, Nat.succ_le_succ y.d, y.l, y.w⟩
theorem Sh.tup {d n : Nat} {ps : List PyData} (y : ShA d ps n) : Sh (d + 1) (.tuple ps) n := ⟨y.s, y.h, Nat.succ_le_succ y.d, y.l, y.w⟩
theorem Sh.bl {d : Nat} {b : Bool} : Sh d (.bool b) 0 := ⟨rfl, rfl, Nat.zero_le _, rfl, Nat.le_refl _⟩
theorem Sh.non {d : Nat} : Sh d .none 0 := ⟨rfl, rfl, Nat.zero_le _, rfl, Nat.le_refl _⟩
theorem Sh.str {d : Nat} {z : Str} (h : PyData.strOk z = true) : Sh d (.str z) z.length := by
  refine ⟨rfl, rfl, Nat.zero_le _, ?_, Nat.le_refl _⟩
  show z.cps.toList.all (fun c => decide (c < 16 ^ 8)) = true
  rw [List.all_eq_true]
  intro c hc
  have h : z.cps.all (· < 0x110000) = true := h
  rw [Array.all_eq_true'] at h
  have := of_decide_eq_true (h c (Array.mem_toList_iff.mp hc))
  exact decide_eq_true (by omega)
theorem Sh.int {d : Nat} {i : Int} (h : i.natAbs < 10 ^ 60) : Sh d (.int i) 250 := by
  have hlog : i.natAbs.log2 < 200 := by
    by_cases z : i.natAbs = 0
    · rw [z]; decide
    · exact (Nat.log2_lt z).mpr (Nat.lt_trans h (by decide))
  refine ⟨?_, rfl, Nat.zero_le _, ?_, ?_⟩
  · show decide (i.natAbs.log2 < 1920) = true
    exact decide_eq_true (Nat.lt_trans hlog (by decide))
  · show decide ((PyData.shown (.int i)).length ≤ 61) = true
    refine decide_eq_true ?_
    have e := int_text_length_le10 (k := 60) (by decide) h
    show (Str.ofString (toString i)).length ≤ 61
    rw [PySem.ofString_length]
    exact e
  · show (if i == 0 then 0 else i.natAbs.log2 + 1) ≤ 250
    split <;> omega
theorem Sh.ok {d n : Nat} {p : PyData} (a : Sh d p n) (hd : d ≤ 60) (hn : n ≤ 100000) : Showable p := by
  refine ⟨a.s, a.h, Nat.le_trans a.d hd, ?_⟩
  have q := PyData.shown_le 61 (by decide) p a.l
  have := a.w
  rw [sizeLine_eq]
  omega
theorem pyof_s {z : Str} : PyOf (.v (.str z)) (.str z) := .v rfl
theorem pyof_i {n : Int} : PyOf (.v (.int n)) (.int n) := .v rfl
theorem pyof_b {b : Bool} : PyOf (.v (.bl b)) (.bool b) := .v rfl
theorem pyof_n : PyOf (.v .non) .none := .v rfl
theorem show_sh {x : D} {p : PyData} {d n : Nat} {k : Str → Prop} (o : PyOf x p) (a : Sh d p n) (hd : d ≤ 60) (hn : n ≤ 100000) (q : k p.shown) : Shw x k := .mk p o (a.ok hd hn) q
theorem show_bl {bs : List Bool} {xs : List D} {k : Str → Prop} (e : xs = bs.map fun b => D.v (.bl b)) (hl : bs.length ≤ 100) (q : k (PyData.list (bs.map .bool)).shown) : Shw (.lst xs) k := by
  subst e
  have o : ∀ bs : List Bool, PyOfs (bs.map fun b => D.v (.bl b)) (bs.map PyData.bool) := fun bs => by
    induction bs with
    | nil => exact .nil
    | cons y ys ih => exact .cons pyof_b ih
  refine show_sh (.lst (o bs)) (Sh.lst (d := 0) (ShA.of (n := 0) fun p hp => ?_)) (by omega) ?_ q
  · obtain ⟨b, _, rfl⟩ := List.mem_map.mp hp
    exact .bl
  · rw [List.length_map]; omega
/-! ## texts are texts -/
theorem tok_of {z : Str} (h : ∀ c ∈ z.cps.toList, c < 0x110000) : PyData.strOk z = true := by
  show z.cps.all (· < 0x110000) = true
  rw [Array.all_eq_true']
  intro c hc
  exact decide_eq_true (h c (Array.mem_toList_iff.mpr hc))
theorem of_ok {z : Str} (h : PyData.strOk z = true) : ∀ c ∈ z.cps.toList, c < 0x110000 := fun c hc => by
  have h : z.cps.all (· < 0x110000) = true := h
  rw [Array.all_eq_true'] at h
  exact of_decide_eq_true (h c (Array.mem_toList_iff.mp hc))
theorem tok_app {x y : Str} (h : PyData.strOk x = true) (k : PyData.strOk y = true) : PyData.strOk (x ++ y) = true := tok_of fun c hc => by
  rw [cps_app] at hc
  rcases List.mem_append.mp hc with hc | hc
  · exact of_ok h c hc
  · exact of_ok k c hc
theorem tok_cut {z : Str} {lo hi : Option Int} (h : PyData.strOk z = true) : PyData.strOk (cutS z lo hi) = true := tok_of fun c hc => by
  have hc : c ∈ ((z.cps.toList.drop (HT.sIx z.length 0 lo)).take (HT.sIx z.length z.length hi - HT.sIx z.length 0 lo)) := hc
  exact of_ok h c (List.mem_of_mem_drop (List.mem_of_mem_take hc))
theorem tok_mul {z : Str} {i : Int} (h : PyData.strOk z = true) : PyData.strOk (Txt.mul z i) = true := tok_of fun c hc => by
  rw [mul_list] at hc
  obtain ⟨l, hl, hc⟩ := List.mem_flatten.mp hc
  rw [(List.mem_replicate.mp hl).2] at hc
  exact of_ok h c hc
theorem tok_one {z : Str} {c : Nat} (h : PyData.strOk z = true) (hc : c ∈ z.cps.toList) : PyData.strOk ⟨#[c]⟩ = true := tok_of fun d hd => by
  have : d = c := by simpa using hd
  rw [this]
  exact of_ok h c hc
theorem tok_low {z : Str} (h : low z) : PyData.strOk z = true := tok_of fun c hc => by
  have := h c hc
  omega
/-! ## loops at which the walk stops -/
inductive Lp (p : Prop) : Prop
  | mk : p → Lp p
theorem Lp.un {p : Prop} (h : Lp p) : p := by
  cases h with
  | mk h => exact h
def dForS (it : DTI) (g : DTG) (tb : DTS) : DTS := fun De r m => Lp (dFor it g tb De r m)
section
variable {cl : Nat → Addr} {s0 : Sn} {X : Cx} {pos : Pos}
theorem ds_forS {tg iter : Expr} {body : List Stmt} {it : DTI} {g : DTG} {db : DTS} (hp : PassesOwn (model X.prog X.w) X.A X.env X.xe) (hc : X.calm = true) (hi : DI cl s0 X tg iter it) (hg : DG cl s0 X tg g) (hb : DSs cl s0 X body db)
    (hs : ∀ x, foldedSetIterable iter X.env x = pure x := by intro _; rfl) : DS cl s0 X (.For tg iter body [] pos) (dForS it g db) :=
  let ⟨_, p, v⟩ := ds_for (pos := pos) hp hc hi hg hb hs; ⟨_, p, ⟨fun s σ r De T g w l q k => v.run s σ r De T g w l q.un k⟩⟩
end
/-- a for over range(n), n written or not -/
theorem rng_inv {n : Int} {g : DTG} {tb : DTS} {De : DEnds} {r : Env} {m : Mu} {t : DTE} (I : Nat → Env → Mu → Prop) (ht : t r m = fun Φ => Φ (.v (.int n)) m) (hn : -(2 ^ 62) ≤ n ∧ n < 2 ^ 62)
    (step : ∀ (i j : Nat) (N : Env → Mu → Prop) r m, i + j + 1 = n.toNat → (∀ r m, I j r m → N r m) → I (j + 1) r m → g (.v (.int (0 + (i : Int)))) r m fun r' m' => tb { De with nx := N, ct := N, bk := De.nx } r' m')
    (fin : ∀ r m, I 0 r m → De.nx r m) (init : I n.toNat r m) : Lp (dFor (dRng1 (dCons t dNil)) g tb De r m) := by
  refine .mk ?_
  show t r m (fun x m1 => rng1D [x] m1 fun xs m1 => dForL g tb De xs r m1)
  rw [ht]
  refine ⟨hn, ?_⟩
  have key : ∀ (k : Nat) (xs : List Nat) (r : Env) (m : Mu), xs.length = k → (∀ i (h : i < xs.length), xs[i] + (k - i - 1) + 1 = n.toNat) → I k r m → dForL g tb De (xs.map fun i : Nat => D.v (.int (0 + (i : Int)))) r m := by
    intro k
    induction k with
    | zero =>
      intro xs r m hl _ hI
      match xs, hl with
      | [], _ => exact fin r m hI
    | succ k ih =>
      intro xs r m hl hx hI
      match xs, hl with
      | x :: xs, hl =>
        have hl2 : xs.length = k := Nat.succ.inj hl
        have h0 := hx 0 (Nat.succ_pos _)
        refine step x k (dForL g tb De (xs.map fun i : Nat => D.v (.int (0 + (i : Int))))) r m ?_ (fun r m h => ih xs r m hl2 (fun i h => ?_) h) hI
        · simp at h0
          omega
        · have := hx (i + 1) (Nat.succ_lt_succ h)
          simp at this
          omega
  refine key n.toNat (List.range n.toNat) r m List.length_range (fun i h => ?_) init
  rw [List.length_range] at h
  rw [List.getElem_range]
  omega
end ER

namespace ER
open PySem PySem.Spec PyProof.Rows L2
theorem setMu_comm {m : Mu} {k j : Nat} {a b c : Ct} (h : k ≠ j) : setMu (setMu (setMu m k a) j b) k c = setMu (setMu m k c) j b := by
  funext i
  unfold setMu
  by_cases h1 : i = k
  · subst h1
    rw [if_pos rfl, if_neg h, if_pos rfl]
  · rw [if_neg h1]
    by_cases h2 : i = j
    · rw [if_pos h2, if_pos h2]
    · rw [if_neg h2, if_neg h1, if_neg h2, if_neg h1]
theorem set_none {m : Mu} {k j : Nat} {c : Ct} (h : setMu m k c j = none) : k ≠ j ∧ m j = none := by
  unfold setMu at h
  split at h
  · cases h
  · rename_i e
    exact ⟨fun q => e q.symm, h⟩
theorem del_in {m : Mu} {k j : Nat} {a b : Ct} (h : k ≠ j) (hj : m j = none) : delMu (setMu (setMu m j a) k b) j = setMu m k b := by
  funext i
  unfold delMu setMu
  by_cases h1 : i = j
  · subst h1
    rw [if_pos rfl, if_neg (fun e => h e.symm), hj]
  · rw [if_neg h1]
    by_cases h2 : i = k
    · rw [if_pos h2, if_pos h2]
    · rw [if_neg h2, if_neg h1, if_neg h2]
/-! ## a sign in a text; tuple(..), list(..); a < b < c -/
section
variable {cl : Nat → Addr} {s0 : Sn} {X : Cx} {a b c e : Expr} {es : List Expr} {ta tb tc : DTE} {tds : DTA} {pos p : Pos}
def signD (neg : Bool) (x y : D) (m : Mu) (Φ : DK) : Prop := match x, y with
  | .v (.str c), .v (.str z) => ∃ k, c = ⟨#[k]⟩ ∧ ngK neg Φ (decide (k ∈ z.cps.toList)) m
  | _, _ => False
theorem opd_sign : OpD cl (fun x y H Q => ∃ (c : Nat) (z : Str), x = .str ⟨#[c]⟩ ∧ y = .str z ∧ Q (.bl (decide (c ∈ z.cps.toList))) H) (signD false) := fun s x y dx dy Φ Q g rx ry h k => by
  unfold signD at h
  split at h
  · obtain ⟨c, rfl, h⟩ := h
    cases rx; cases ry
    exact ⟨c, _, rfl, rfl, k _ _ s (Le.refl s) g (.v _) h⟩
  · exact h.elim
theorem opd_nsign : OpD cl (fun x y H Q => ∃ (c : Nat) (z : Str), x = .str ⟨#[c]⟩ ∧ y = .str z ∧ Q (.bl (!decide (c ∈ z.cps.toList))) H) (signD true) := fun s x y dx dy Φ Q g rx ry h k => by
  unfold signD at h
  split at h
  · obtain ⟨c, rfl, h⟩ := h
    cases rx; cases ry
    exact ⟨c, _, rfl, rfl, k _ _ s (Le.refl s) g (.v _) h⟩
  · exact h.elim
theorem de_inSign (ha : DE cl s0 X a ta) (hb : DE cl s0 X b tb) (hm : behindInMarks .In b = false := by first | exact nomark _ | rfl | (with_unfolding_all rfl)) : DE cl s0 X (.Compare a [.In] [b] pos) (dOp (signD false) ta tb) := de_cmp op_in_sign opd_sign ha hb hm
theorem de_notInSign (ha : DE cl s0 X a ta) (hb : DE cl s0 X b tb) (hm : behindInMarks .NotIn b = false := by first | exact nomark _ | rfl | (with_unfolding_all rfl)) : DE cl s0 X (.Compare a [.NotIn] [b] pos) (dOp (signD true) ta tb) := de_cmp op_notIn_sign opd_nsign ha hb hm
theorem dt_inSign (ha : DE cl s0 X a ta) (hb : DE cl s0 X b tb) (hm : behindInMarks .In b = false := by first | exact nomark _ | rfl | (with_unfolding_all rfl)) : DT cl s0 X (.Compare a [.In] [b] pos) (dB (dOp (signD false) ta tb)) := dt_cmp op_in_sign opd_sign ha hb hm
theorem dt_notInSign (ha : DE cl s0 X a ta) (hb : DE cl s0 X b tb) (hm : behindInMarks .NotIn b = false := by first | exact nomark _ | rfl | (with_unfolding_all rfl)) : DT cl s0 X (.Compare a [.NotIn] [b] pos) (dB (dOp (signD true) ta tb)) := dt_cmp op_notIn_sign opd_nsign ha hb hm
theorem de_ltlt (ha : DE cl s0 X a ta) (hb : DE cl s0 X b tb) (hc : DE cl s0 X c tc) (hm : lastMarks [.Lt, .Lt] [b, c] = false := by with_unfolding_all rfl) : DE cl s0 X (.Compare a [.Lt, .Lt] [b, c] pos) (dChain ltD ltD ta tb tc) := de_chain opR_lt opd_ord opR_lt opd_ord ha hb hc hm
theorem dt_ltlt (ha : DE cl s0 X a ta) (hb : DE cl s0 X b tb) (hc : DE cl s0 X c tc) (hm : lastMarks [.Lt, .Lt] [b, c] = false := by with_unfolding_all rfl) : DT cl s0 X (.Compare a [.Lt, .Lt] [b, c] pos) (dB (dChain ltD ltD ta tb tc)) := dt_chain opR_lt opd_ord opR_lt opd_ord ha hb hc hm
/-- i ** j, wide -/
def CPowW (i j : Int) : Prop := 0 ≤ j ∧ j ≤ 1000 ∧ i.natAbs < 2 ^ 250
theorem op_powW : OpR X (binaryOp .Pow) (rI CPowW fun i j => .int (i ^ j.toNat)) := opI fun i j _ _ _ _ _ hc q => pow_int hc.1 (by
  have h1 : Builtin.Int.intBits i ≤ 1000 := by
    unfold Builtin.Int.intBits
    split
    · omega
    · rename_i h0
      have : i.natAbs ≠ 0 := by simpa using h0
      have := (Nat.log2_lt this).mpr hc.2.2
      omega
  have h2 : (Builtin.Int.intBits i : Int) * j ≤ 1000 * 1000 := Int.mul_le_mul (by omega) hc.2.1 hc.1 (by omega)
  omega) q
theorem de_powW (ha : DE cl s0 X a ta) (hb : DE cl s0 X b tb) : DE cl s0 X (.BinOp a .Pow b pos) (dOp (intD CPowW fun i j => .int (i ^ j.toNat)) ta tb) := de_bin op_powW opd_int ha hb
/-- tuple(xs) -/
def tupleD (ds : List D) (m : Mu) (Φ : DK) : Prop := match ds with
  | [.lst xs] => Φ (.tup xs) m
  | [.tup xs] => Φ (.tup xs) m
  | _ => False
def listD (ds : List D) (m : Mu) (Φ : DK) : Prop := match ds with
  | [.lst xs] => Φ (.lst xs) m
  | [.tup xs] => Φ (.lst xs) m
  | _ => False
theorem cad_tuple {K : PySem.W.Frag} : CaD cl (fun xs H Q => ∃ p ys, xs = [.ref p] ∧ ((SqL K H p ys ∧ ∀ l, H l = none → Q (.ref l) (upd H l (.tup ys))) ∨ (SqT K H p ys ∧ Q (.ref p) H))) tupleD := fun s xs ds Φ Q g r h k => by
  unfold tupleD at h
  split at h
  · cases r with
    | cons r1 r2 => cases r2; cases r1 with
      | @lst _ _ vs n1 h1 r1 =>
        refine ⟨_, _, rfl, .inl ⟨SqL.of h1, fun l hl => ?_⟩⟩
        have lay := Le.lay (o := HO.tup vs) g hl
        exact k _ _ (s.lay l _) lay (g.lay hl) (.tup (fun hM => g.fresh hl (lay_M.mp hM)) upd_same (r1.mono lay)) h
  · cases r with
    | cons r1 r2 =>
      have r10 := r1
      cases r2; cases r1 with
      | tup n1 h1 r1 => exact ⟨_, _, rfl, .inr ⟨SqT.of h1, k _ _ s (Le.refl s) g r10 h⟩⟩
  · exact h.elim
theorem cad_list {K : PySem.W.Frag} : CaD cl (fun xs H Q => ∃ p ys, xs = [.ref p] ∧ (SqL K H p ys ∨ SqT K H p ys) ∧ ∀ l, H l = none → Q (.ref l) (upd H l (.lst ys))) listD := fun s xs ds Φ Q g r h k => by
  unfold listD at h
  split at h
  · cases r with
    | cons r1 r2 => cases r2; cases r1 with
      | @lst _ _ vs n1 h1 r1 =>
        refine ⟨_, _, rfl, .inl (SqL.of h1), fun l hl => ?_⟩
        have lay := Le.lay (o := HO.lst vs) g hl
        exact k _ _ (s.lay l _) lay (g.lay hl) (.lst (fun hM => g.fresh hl (lay_M.mp hM)) upd_same (r1.mono lay)) h
  · cases r with
    | cons r1 r2 => cases r2; cases r1 with
      | @tup _ _ vs n1 h1 r1 =>
        refine ⟨_, _, rfl, .inr (SqT.of h1), fun l hl => ?_⟩
        have lay := Le.lay (o := HO.lst vs) g hl
        exact k _ _ (s.lay l _) lay (g.lay hl) (.lst (fun hM => g.fresh hl (lay_M.mp hM)) upd_same (r1.mono lay)) h
  · exact h.elim
theorem de_tuple (hg : Gl X "tuple") (hm : X.mg "tuple" = none) (ha : DA cl s0 X [e] tds) (he : starEach [e] X.env = (false, eval e X.env) :: starEach [] X.env := by rfl) (hpl : (backTo pos (starEach [] X.env)).any (·.1) = false := by rfl) :
    DE cl s0 X (.Call (.Name "tuple" p) [e] [] pos) (dCa tupleD tds) := de_callTy call_tuple_of (cad_tuple (K := X.K)) hg hm (by decide +kernel) ha (by decide) (by decide) he hpl
theorem de_list (hg : Gl X "list") (hm : X.mg "list" = none) (ha : DA cl s0 X [e] tds) (he : starEach [e] X.env = (false, eval e X.env) :: starEach [] X.env := by rfl) (hpl : (backTo pos (starEach [] X.env)).any (·.1) = false := by rfl) :
    DE cl s0 X (.Call (.Name "list" p) [e] [] pos) (dCa listD tds) := de_callTy call_list_of (cad_list (K := X.K)) hg hm (by decide +kernel) ha (by decide) (by decide) he hpl
/-- return xs, xs a list of the def's own -/
def closeD (d : D) (m : Mu) (Φ : DK) : Prop := match d with
  | .hd k => Sm (m k) (lstC fun xs => Φ (.lst xs) (delMu m k))
  | _ => False
def dRetC (t : DTE) : DTS := fun De r m => t r m fun d m1 => closeD d m1 De.rt
theorem ds_retC (h : DE cl s0 X e ta) : DS cl s0 X (.Return (some e) pos) (dRetC ta) :=
  let ⟨_, p, v⟩ := h; ⟨_, ps_ret p, ⟨fun s σ r De T g w l q k => v.run s σ r _ _ g w l q fun d x s1 l1 g1 rx q1 => by
    unfold closeD at q1
    split at q1
    · obtain ⟨xs, hk, q1⟩ := lst_to q1
      cases rx
      obtain ⟨hal, hvis⟩ := Sn.mu_al hk
      obtain ⟨vs, h1, r1⟩ := g1.ct _ _ hal
      exact k.rt (s1.close _) (.lst xs) _ (l1.trans (Le.close hvis)) (g1.close hvis) (.lst (close_not_M g1 hal) h1 (r1.mono (Le.close hvis))) (by rw [close_mu]; exact q1)
    · exact q1.elim⟩⟩
end
/-- a for over a list, by an invariant -/
theorem seq_inv {α : Type} {xs : List α} {g : DTG} {tb : DTS} {De : DEnds} {r : Env} {m : Mu} {t : DTE} (fn : α → D) (I : List α → Env → Mu → Prop) (ht : t r m = fun Φ => Φ (.lst (xs.map fn)) m)
    (step : ∀ x xs (N : Env → Mu → Prop) r m, (∀ r m, I xs r m → N r m) → I (x :: xs) r m → g (fn x) r m fun r' m' => tb { De with nx := N, ct := N, bk := De.nx } r' m')
    (fin : ∀ r m, I [] r m → De.nx r m) (init : I xs r m) : Lp (dFor (dSq t) g tb De r m) := by
  refine .mk ?_
  show t r m (fun d m1 => seqD d m1 fun xs m1 => dForL g tb De xs r m1)
  rw [ht]
  exact for_inv fn I step fin xs r m init
end ER

namespace ER
open PySem PySem.Spec PyProof.Rows L2
/-! ## x op= e, x an object whose class has op and no sign of its own for op= -/
/-- what is asked of the text -/
structure NoI (K : PySem.W.Frag) (C : Addr) (op : Operator) : Prop where
  mro : (PySem.W.clsIn K C).map (·.mro) = some [.ref C, .type "object"]
  c : PySem.W.findIn K (.ref C) (dunderI op.info.2) = some none
  o : PySem.W.findIn K (.type "object") (dunderI op.info.2) = some none
section
variable {prog : Program} {w : World} {M : Model} {A : Around} {E : Value → Shared → Prop} {s : Shared} {K : PySem.W.Frag} {x C L f : Addr} {h₀ : Heap} {m : Str → Option Value} {ox : Obj} {od : Option Obj} {T : String}
open PySem.W in
theorem fills_noI {h : Heap} {op : Operator} {add : Bool} (X : K.In h) (N : NoI K C op) : Looks M h (fillsInplaceSlot (.ref C) op.info.2 add) false := by
  obtain ⟨hm, h1, h2⟩ := N
  obtain ⟨cd, hc, hm⟩ := Option.map_eq_some_iff.mp hm
  intro A Q E s k q
  have Lm : Looks M h (mroOf (.ref C)) cd.mro := (looks_clsIn X hc).andThen (f := fun cd => pure cd.mro) .now
  have Lm' := Lm.keeps k
  obtain ⟨hh, g, d, tt, os⟩ := s
  have X' : K.In hh := X.keeps k
  have L1 : Looks M hh (typeLookup (.ref C) (dunderI op.info.2)) none := looks_findIn X' h1
  have L2 : Looks M hh (typeLookup (.type "object") (dunderI op.info.2)) none := looks_findIn X' h2
  unfold fillsInplaceSlot
  refine wpAny_bind (Lm'.at ?_)
  rw [hm, List.anyM_cons]
  refine wpAny_bind ?_
  refine wpAny_bind (L1.at (wpAny_pure ?_))
  rw [if_neg (by decide), List.anyM_cons]
  refine wpAny_bind (wpAny_bind (L2.at (wpAny_pure ?_)))
  rw [if_neg (by decide), List.anyM_nil]
  exact wpAny_pure q
open PySem.W in
theorem aug_binT {op : Operator} {b : Value} {fo ro rc : Option Value} {Q : Value → Shared → Prop} (F : Fr h₀ L s.heap m) (X₀ : K.In h₀) (I : InstAt s.heap x ox C od) (N : NoI K C op) (hb : typeOf b = pure (.type T)) (hc : selfFirst K C = true)
    (hs : findIn K (.ref C) (PySem.dunder op.info.2) = some (some (.ref f))) (hf : isFn K (.ref f) = true) (hr : findIn K (.ref C) (dunderR op.info.2) = some rc) (hp : rc = none ∨ ∃ g : Addr, rc = some (.ref g))
    (h1 : findIn K (.type T) (PySem.dunder op.info.2) = some fo) (h2 : findIn K (.type T) (dunderR op.info.2) = some ro) (hsub : subIn K (.type T) (.ref C) = some false)
    (h : wpAny (model prog w) A (call (.ref f) [.ref x, b]) (PySem.W.CmpBack Q) E s) : wpAny (model prog w) A (inplaceOp op (.ref x) b) Q E s := by
  have X := X₀.keeps F.keep
  obtain ⟨cd, rest, hcd, hm⟩ := ksp_first hc
  have L0 : Looks (model prog w) s.heap (fillsInplaceSlot (.ref C) op.info.2 (op == .Add)) false := fills_noI X N
  have one := ksp_try X I hs hf h
  obtain ⟨hh, g, d, tt, os⟩ := s
  have L1 : Looks (model prog w) hh (typeOf (.ref x)) (.ref C) := I.type
  have L2 : Looks (model prog w) hh (typeOf b) (.type T) := Looks.of_pure hb
  have L3 : Looks (model prog w) hh (fillsNumberSlot (.ref C) op.info.2) true := fills_K X hcd hm hs
  have L4 : Looks (model prog w) hh (fillsNumberSlot (.type T) op.info.2) ((fo.isSome && !isSeqSlot fo) || (ro.isSome && !isSeqSlot ro)) := ksp_fillsT X h1 h2
  have L5 : Looks (model prog w) hh (isSubtype (.type T) (.ref C)) false := looks_subIn X hsub
  have L6 : Looks (model prog w) hh (numberSlotInPython (.ref C) op.info.2) true := ksp_inPy X hs hr hp
  have L7 : Looks (model prog w) hh (numberSlotInPython (.type T) op.info.2) false := Looks.of_pure rfl
  have L8 : Looks (model prog w) hh (typeLookup (.type T) (dunderR op.info.2)) ro := looks_findIn X h2
  generalize ((fo.isSome && !isSeqSlot fo) || (ro.isSome && !isSeqSlot ro)) = right at L4
  have hne : (Value.ref C == Value.type T) = false := Bool.eq_false_iff.mpr fun q => by cases beq_iff_eq.mp q
  unfold inplaceOp
  refine wpAny_holding (wpAny_bind (L1.at (wpAny_bind (L0.at ?_))))
  rw [if_neg (by decide)]
  refine wpAny_bind ?_
  unfold binaryOp1
  refine wpAny_bind (L1.at (wpAny_bind (L2.at (wpAny_bind (L3.at ?_)))))
  simp only [hne, Bool.false_eq_true, if_false]
  cases right with
  | false =>
    ksp_lk
    refine wpAny_mono one (fun r s' hr' => ?_) fun _ _ e => e
    obtain ⟨v, rfl, hq⟩ := hr'
    ksp_lk
    exact hq
  | true =>
    ksp_lk
    refine wpAny_mono one (fun r s' hr' => ?_) fun _ _ e => e
    obtain ⟨v, rfl, hq⟩ := hr'
    ksp_lk
    exact hq
open PySem.W in
theorem aug_K {op : Operator} {b : Value} {Q : Value → Shared → Prop} (F : Fr h₀ L s.heap m) (X₀ : K.In h₀) (I : InstAt s.heap x ox C od) (N : NoI K C op) (hb : Looks (model prog w) s.heap (typeOf b) (.ref C)) (hc : selfFirst K C = true)
    (hs : findIn K (.ref C) (PySem.dunder op.info.2) = some (some (.ref f))) (hf : isFn K (.ref f) = true)
    (h : wpAny (model prog w) A (call (.ref f) [.ref x, b]) (PySem.W.CmpBack Q) E s) : wpAny (model prog w) A (inplaceOp op (.ref x) b) Q E s := by
  have X := X₀.keeps F.keep
  obtain ⟨cd, rest, hcd, hm⟩ := ksp_first hc
  have L0 : Looks (model prog w) s.heap (fillsInplaceSlot (.ref C) op.info.2 (op == .Add)) false := fills_noI X N
  have one := ksp_try X I hs hf h
  unfold inplaceOp
  refine wpAny_holding (wpAny_bind (I.type.here (wpAny_bind (L0.here ?_))))
  rw [if_neg (by decide)]
  refine wpAny_bind ?_
  unfold binaryOp1
  refine wpAny_bind (I.type.here (wpAny_bind (hb.here (wpAny_bind ((fills_K X hcd hm hs).here ?_)))))
  simp only [beq_self_eq_true, if_true]
  refine wpAny_bind (wpAny_pure ?_)
  simp only [Bool.and_false, Bool.false_eq_true, if_false, Bool.false_and]
  refine wpAny_bind (wpAny_pure ?_)
  simp only [Bool.false_eq_true, if_false, if_true]
  refine wpAny_bind (wpAny_mono one (fun r s' hr' => ?_) fun _ _ e => e)
  obtain ⟨v, rfl, hq⟩ := hr'
  exact wpAny_pure (wpAny_pure hq)
end
section
variable {X : Cx} {C f : Addr} {op : Operator} {k : Nat} {fd : FuncData} {ps : List Str} {sp : Sp} {E : L2.St → XK}
/-- name op= e, errors at the caller's slots -/
def tAugσ (i : Nat) (te : TE) (ti : L2.St → TIp) : TS := fun D σ H => ∃ x, σ[i]? = some (some x) ∧ te σ H fun y H1 => ti σ x y H1 fun z H2 => D.nx (σ.set i (some z)) H2
theorem ps_augσ {i : Nat} {x : Str} {e : Expr} {te : TE} {ti : L2.St → TIp} {pos' pos : Pos} (hN : X.N.Nodup) (hi : X.N[i]? = some x) (hx : Loc X.env.scope x) (he : PE X e te)
    (ho : ∀ (pins : List (Addr × Obj)) (s : Shared) (σ : L2.St) (H : Hp) (x y : V) (v u : Value) (Q : VK), Inv X pins σ H s → RelV x v → RelV y u → ti σ x y H Q → wpAny (model X.prog X.w) X.A (inplaceOp op v u) (EP X pins σ Q) X.xe s)
    (hf : X.fn x = true ∨ X.env.scope.names.lookup x = some .local := by first | exact .inl rfl | exact .inr rfl | assumption) :
    PS X (.AugAssign (.Name x pos') op e pos) (tAugσ i te ti) := by
  refine ⟨fun pins s σ H D I h => ?_⟩
  obtain ⟨v, e1, h⟩ := h
  obtain ⟨m, hn, hl⟩ := I.loc
  have vis : Vis X.env.scope x := by rcases hx with k | k; exact .inl k; exact .inr (.inl k)
  obtain ⟨u, r, l⟩ := hl i x v hi e1 vis
  refine wpAny_AugAssign_Name ?_
  have go : wpAny (model X.prog X.w) X.A (eval e X.env) (fun w s₂ => wpAny (model X.prog X.w) X.A (inplaceOp op u w) (fun r s₃ => wpAny (model X.prog X.w) X.A (storeName X.env x r) (fun _ => SP X pins D .next) X.xe s₃) X.xe s₂) X.xe s := by
    refine thn (he.run pins s σ H _ I h) fun w s1 ⟨y, H1, I1, r1, q1⟩ => ?_
    refine thn (ho pins s1 σ H1 v y u w _ I1 r r1 q1) fun z s2 ⟨zv, H2, I2, r2, q2⟩ => ?_
    exact store_ok I2 hN hi hx r2 (fun s3 I3 => ⟨_, H2, I3, q2⟩) hf
  rcases l with ⟨hk, hm⟩ | ⟨hk, c, hc, hcell⟩
  · exact wpAny_loadName_local I.ok.kind hk hn hm go
  · rcases hk with hk | hk
    · exact wpAny_loadName_cell I.ok.kind hk hc hcell go
    · rcases hx with k | k
      · have : X.env.scope.names.lookup x = some .free := hk
        rw [k] at this; cases this
      · have : X.env.scope.names.lookup x = some .free := hk
        rw [k] at this; cases this
theorem aug_at {pins : List (Addr × Obj)} {s : Shared} {σ : L2.St} {H : Hp} {x y : V} {v u : Value} {Q : VK} (O : OwnOp X.K C op f) (O' : OwnOpI X.K C op) (N : NoI X.K C op)
    (F : FnOk X.prog X.w X.K X.mg X.base (L2.CX X.prog X.w) k f fd ps sp) (hr : Room k X.A) (hb : Binds X.K fd ps []) (hx : PassesAt (L2.CX X.prog X.w) X σ (E σ)) (I : Inv X pins σ H s) (rx : RelV x v) (ry : RelV y u)
    (h : rOwnI C sp (E σ) x y H Q ∨ rOwnL C sp (E σ) x y H Q) : wpAny (model X.prog X.w) X.A (inplaceOp op v u) (EP X pins σ Q) X.xe s := by
  rcases h with ⟨a, dx, fs, i, rfl, ea, rfl, q⟩ | ⟨a, dx, fs, b, dy, gs, rfl, ea, rfl, eb, q⟩
  · cases (show v = Value.ref a from rx)
    obtain ⟨t, rfl⟩ := (show ∃ t, u = Value.int i t from ry)
    obtain ⟨od, J⟩ := inst_of I ea
    obtain ⟨m, hF⟩ := I.fr
    obtain ⟨rc, hrc, hp⟩ := O'.r
    obtain ⟨fo, ro, h1, h2⟩ := O'.t
    refine aug_binT (T := "int") hF I.ok.mod.kin J N rfl O.sf O.s O.fn hrc hp h1 h2 O'.sub ?_
    refine wpAny_mono (run_fnS (E := E) (us := [.ref a, .int i t]) (vs := [.ref a, .int i]) F hr hb hx I (.cons rfl (.cons ⟨t, rfl⟩ .nil)) q) (fun w s' z => ?_) fun _ _ x => x
    obtain ⟨z', H', I', rz, qz⟩ := z
    exact SlX.cmpback rz ⟨z', H', I', rz, qz⟩
  · cases (show v = Value.ref a from rx)
    cases (show u = Value.ref b from ry)
    obtain ⟨od, J⟩ := inst_of I ea
    obtain ⟨od', J'⟩ := inst_of I eb
    obtain ⟨m, hF⟩ := I.fr
    refine aug_K hF I.ok.mod.kin J N J'.type O.sf O.s O.fn ?_
    refine wpAny_mono (run_fnS (E := E) (us := [.ref a, .ref b]) (vs := [.ref a, .ref b]) F hr hb hx I (.cons rfl (.cons rfl .nil)) q) (fun w s' z => ?_) fun _ _ x => x
    obtain ⟨z', H', I', rz, qz⟩ := z
    exact SlX.cmpback rz ⟨z', H', I', rz, qz⟩
end
/-- a class has the sign op, no own sign op= -/
structure AugOk (P : Program) (w : World) (K : PySem.W.Frag) (mg : Str → Option Value) (base : Heap) (cl : Nat → Addr) (op : Operator) (c : Nat) (k : Nat) (F : DFn) : Prop where
  l : ∃ f fd, OwnOp K (cl c) op f ∧ FnD P w K mg base cl k f fd ["self", "other"] F ∧ Binds K fd ["self", "other"] []
  i : OwnOpI K (cl c) op
  n : NoI K (cl c) op
def ownA (Ξ : DX) (c : Nat) (F : DFn) (x y : D) (m : Mu) (Φ : DK) : Prop := match x, y with
  | .obj c1 ns xs, .v (.int i) => c1 = c ∧ Go F [.obj c1 ns xs, .v (.int i)] m Φ Ξ
  | .obj c1 ns xs, .obj c2 ns2 xs2 => (c1 = c ∧ c2 = c) ∧ Go F [.obj c1 ns xs, .obj c2 ns2 xs2] m Φ Ξ
  | _, _ => False
def dAug (Ξ : DXE) (c : Nat) (F : DFn) (i : Nat) (te : DTE) : DTS := fun De r m => dVar i r m fun x m1 => te r m1 fun y m2 => ownA (Ξ r) c F x y m2 fun z m3 => dName i z r m3 De.nx
section
variable {cl : Nat → Addr} {s0 : Sn} {X : Cx} {e : Expr} {te : DTE} {pos pos' : Pos} {c k : Nat} {F : DFn} {op : Operator} {Ξ : DXE}
theorem ds_augX {i : Nat} {x : Str} (tk : TakesD cl s0 X Ξ) (S : AugOk X.prog X.w X.K X.mg X.base cl op c k F) (hr : Room k X.A) (hN : X.N.Nodup) (hi : X.N[i]? = some x) (hx : Loc X.env.scope x) (he : DE cl s0 X e te)
    (hf : X.fn x = true ∨ X.env.scope.names.lookup x = some .local := by first | exact .inl rfl | exact .inr rfl | assumption) : DS cl s0 X (.AugAssign (.Name x pos') op e pos) (dAug Ξ c F i te) := by
  obtain ⟨⟨f, fd, O, G, hbi⟩, O', N⟩ := S
  obtain ⟨t1, p1, v1⟩ := he
  refine ⟨tAugσ i t1 fun σ x y H Q => rOwnI (cl c) (spD cl 2 F) (WE (WX_ cl s0 Ξ) σ) x y H Q ∨ rOwnL (cl c) (spD cl 2 F) (WE (WX_ cl s0 Ξ) σ) x y H Q,
    ps_augσ hN hi hx p1 (fun pins s σ H x y v u Q I rx ry q => aug_at (E := WE (WX_ cl s0 Ξ)) O O' N G hr hbi (passAt tk σ) I rx ry q) hf, ⟨fun s σ r De T g w l q kk => ?_⟩⟩
  obtain ⟨d, h, q⟩ := (show dVar i r s.mu _ from q).to
  obtain ⟨v, h1, h2⟩ := w.get i d h
  refine ⟨v, h1, v1.run s σ r _ _ g w l q fun dy y s2 l2 g2 ry q2 => ?_⟩
  have rx1 := h2.mono l2
  have fin : ∀ (d : D) (v : V) (s3 : Sn), Le s2 s3 → Good cl s3 → Rep cl s3 d v → dName i d r s3.mu De.nx → T.nx (σ.set i (some v)) s3.H := fun d v s3 l3 g3 r3 q3 => kk.nx s3 _ _ (l2.trans l3) g3 (((w.mono l2).mono l3).set r3 i) q3.to
  have err : ∀ (c : Nat) (d : D) (s3 : Sn) (cls : Value) (a : Option Addr), Le s2 s3 → Good cl s3 → ExAt cl s3 c d cls a → Ξ r c d s3.mu → WE (WX_ cl s0 Ξ) σ cls a s3.H := fun c d s3 cls a l3 g3 x3 z => ⟨s3, c, d, r, (l.trans l2).trans l3, g3, (w.mono l2).mono l3, rfl, x3, z⟩
  unfold ownA at q2
  split at q2
  · obtain ⟨rfl, q2⟩ := q2
    cases ry
    have rx0 := rx1
    cases rx1 with
    | obj n1 z1 y1 r1 => exact .inl ⟨_, _, _, _, rfl, z1, rfl, s2, [_, _], _, Ξ r, rfl, g2, .cons rx0 (.cons (.v _) .nil), rfl, q2.un, fin, err⟩
  · obtain ⟨⟨rfl, rfl⟩, q2⟩ := q2
    have rx0 := rx1
    have ry0 := ry
    cases rx1 with
    | obj n1 z1 y1 r1 => cases ry with
      | obj n2 z2 y2 r2 => exact .inr ⟨_, _, _, _, _, _, rfl, z1, rfl, z2, s2, [_, _], _, Ξ r, rfl, g2, .cons rx0 (.cons ry0 .nil), rfl, q2.un, fin, err⟩
  · exact q2.elim
theorem ds_augO {i : Nat} {x : Str} (S : AugOk X.prog X.w X.K X.mg X.base cl op c k F) (hr : Room k X.A) (hN : X.N.Nodup) (hi : X.N[i]? = some x) (hx : Loc X.env.scope x) (he : DE cl s0 X e te)
    (hf : X.fn x = true ∨ X.env.scope.names.lookup x = some .local := by first | exact .inl rfl | exact .inr rfl | assumption) : DS cl s0 X (.AugAssign (.Name x pos') op e pos) (dAug (fun _ => noX) c F i te) :=
  ds_augX takes_no S hr hN hi hx he hf
end
/-! ## a, b = a list -/
section
variable {cl : Nat → Addr} {s0 : Sn} {X : Cx} {pos : Pos}
def dgLst (n : Nat) (t : DTGs) : DTG := fun d r m Φ => match d with
  | .lst ds => ds.length = n ∧ t ds r m Φ
  | _ => False
theorem ev_glst {K : PySem.W.Frag} {n : Nat} {g2 : TGs} {u : DTGs} (h : EvGs cl s0 g2 u) : EvG cl s0 (gLst K n g2) (dgLst n u) := ⟨fun s σ r d v Φ Q g w l rv q k => by
  unfold dgLst at q
  split at q
  · cases rv with
    | lst n1 h1 r1 => exact ⟨_, _, rfl, .inl (.inl h1), by rw [← r1.length]; exact q.1, h.run s σ r _ _ Φ Q g w l r1 q.2 k⟩
  · exact q.elim⟩
theorem dg_lst {es : List Expr} {k : Nat} {t : DTGs} {n : Nat} (hc : X.calm = true) (h : DGs cl s0 X es t)
    (hn : (assignEach es X.env).length = n := by rfl) (hst : (assignEach es X.env).findIdx? (·.1) = none := by rfl) : DG cl s0 X (.Tuple es k pos) (dgLst n t) :=
  let ⟨_, p, v⟩ := h; ⟨_, pg_lst hc p hn hst, ev_glst v⟩
end
end ER

namespace ER
open PySem PySem.Spec PyProof.Rows L2
/-! ## dicts that change -/
def hasK (ks : List Key) (j : Key) : Bool := ks.any fun k => decide (k = j)
def putKs (ks : List Key) (j : Key) : List Key := if hasK ks j = true then ks else ks ++ [j]
def putX {α : Type} (ks : List Key) (xs : List α) (j : Key) (x : α) : List α := if hasK ks j = true then List.zipWith (fun k u => if k = j then x else u) ks xs else xs ++ [x]
theorem any_zip {α : Type} {j : Key} : ∀ {ks : List Key} {xs : List α}, ks.length = xs.length → ((ks.zip xs).any fun kv => decide (kv.1 = j)) = hasK ks j
  | [], [], _ => rfl
  | k :: ks, x :: xs, h => by
    have := any_zip (j := j) (ks := ks) (xs := xs) (by simpa using h)
    unfold hasK at this ⊢
    rw [List.zip_cons_cons, List.any_cons, List.any_cons, this]
theorem map_zip {α : Type} {j : Key} {x : α} : ∀ {ks : List Key} {xs : List α}, (ks.zip xs).map (fun kv => if kv.1 = j then (kv.1, x) else kv) = ks.zip (List.zipWith (fun k u => if k = j then x else u) ks xs)
  | [], _ => by simp
  | _ :: _, [] => by simp
  | k :: ks, y :: xs => by
    rw [List.zip_cons_cons, List.map_cons, List.zipWith_cons_cons, List.zip_cons_cons, map_zip]
    by_cases e : k = j
    · rw [if_pos e, if_pos e]
    · rw [if_neg e, if_neg e]
theorem putK_zip {j : Key} {ks : List Key} {vs : List V} {v : V} (h : ks.length = vs.length) : putK (ks.zip vs) j v = (putKs ks j).zip (putX ks vs j v) := by
  unfold putK putKs putX
  rw [any_zip h]
  by_cases e : hasK ks j = true
  · rw [if_pos e, if_pos e, if_pos e, map_zip]
  · rw [if_neg e, if_neg e, if_neg e, List.zip_append h]
    rfl
theorem put_len {α : Type} {j : Key} {ks : List Key} {xs : List α} {x : α} (h : ks.length = xs.length) : (putKs ks j).length = (putX ks xs j x).length := by
  unfold putKs putX
  split
  · rw [List.length_zipWith, h, Nat.min_self]
  · rw [List.length_append, List.length_append, h]; rfl
theorem put_le {j : Key} {ks : List Key} : (putKs ks j).length ≤ ks.length + 1 := by
  unfold putKs
  split
  · omega
  · rw [List.length_append]; exact Nat.le_refl _
section
variable {cl : Nat → Addr} {s : Sn}
theorem reps_zipW {j : Key} {d : D} {v : V} (rd : Rep cl s d v) : ∀ {ks : List Key} {ds : List D} {vs : List V}, Reps cl s ds vs → Reps cl s (List.zipWith (fun k u => if k = j then d else u) ks ds) (List.zipWith (fun k u => if k = j then v else u) ks vs)
  | [], _, _, _ => .nil
  | _ :: _, _, _, .nil => .nil
  | k :: ks, _, _, .cons r rs => by
    rw [List.zipWith_cons_cons, List.zipWith_cons_cons]
    by_cases e : k = j
    · rw [if_pos e, if_pos e]; exact .cons rd (reps_zipW rd rs)
    · rw [if_neg e, if_neg e]; exact .cons r (reps_zipW rd rs)
theorem reps_put {j : Key} {ks : List Key} {ds : List D} {vs : List V} {d : D} {v : V} (r : Reps cl s ds vs) (rd : Rep cl s d v) : Reps cl s (putX ks ds j d) (putX ks vs j v) := by
  unfold putX
  split
  · exact reps_zipW rd r
  · exact r.append (.cons rd .nil)
end
theorem hasK_getK {j : Key} : ∀ {ks : List Key} {ds : List D}, ks.length = ds.length → (getK ks ds j).isSome = hasK ks j
  | [], [], _ => rfl
  | k :: ks, d :: ds, h => by
    have ih := hasK_getK (j := j) (ks := ks) (ds := ds) (by simpa using h)
    unfold getK hasK
    rw [List.any_cons]
    by_cases e : k = j
    · rw [if_pos e, decide_eq_true e]; rfl
    · rw [if_neg e, decide_eq_false e, ih]; rfl
theorem getK_zipW {i j : Key} {d : D} : ∀ {ks : List Key} {ds : List D}, getK ks (List.zipWith (fun k u => if k = j then d else u) ks ds) i = if i = j then (if hasK ks j = true then (getK ks ds i).map fun _ => d else getK ks ds i) else getK ks ds i
  | [], _ => by simp [getK]
  | _ :: _, [] => by simp [getK]
  | k :: ks, x :: ds => by
    rw [List.zipWith_cons_cons]
    have ih := getK_zipW (i := i) (j := j) (d := d) (ks := ks) (ds := ds)
    unfold getK
    rw [ih]
    unfold hasK
    rw [List.any_cons]
    grind
theorem getK_app {i j : Key} {d : D} : ∀ {ks : List Key} {ds : List D}, ks.length = ds.length → getK (ks ++ [j]) (ds ++ [d]) i = if (getK ks ds i).isSome = true then getK ks ds i else if j = i then some d else none
  | [], [], _ => by simp [getK]
  | k :: ks, x :: ds, h => by
    have ih := getK_app (i := i) (j := j) (d := d) (ks := ks) (ds := ds) (by simpa using h)
    rw [List.cons_append, List.cons_append]
    unfold getK
    rw [ih]
    by_cases e : k = i
    · rw [if_pos e, if_pos e]; rfl
    · rw [if_neg e, if_neg e]
/-- what is found behind a store -/
theorem getK_put {i j : Key} {d : D} {ks : List Key} {ds : List D} (h : ks.length = ds.length) : getK (putKs ks j) (putX ks ds j d) i = if i = j then some d else getK ks ds i := by
  have e1 := hasK_getK (j := j) h
  have e2 := hasK_getK (j := i) h
  unfold putKs putX
  by_cases e : hasK ks j = true
  · rw [if_pos e, if_pos e, getK_zipW]
    by_cases q : i = j
    · subst q
      rw [if_pos rfl, if_pos e, if_pos rfl]
      rw [e] at e1
      obtain ⟨x, hx⟩ := Option.isSome_iff_exists.mp e1
      rw [hx]; rfl
    · rw [if_neg q, if_neg q]
  · rw [if_neg e, if_neg e, getK_app h]
    by_cases q : i = j
    · subst q
      rw [e1, if_neg e, if_pos rfl, if_pos rfl]
    · rw [if_neg q]
      by_cases z : (getK ks ds i).isSome = true
      · rw [if_pos z]
      · rw [if_neg z, if_neg (fun w => q w.symm)]
        cases w : getK ks ds i with
        | none => rfl
        | some x => rw [w] at z; exact absurd rfl z
/-- o[i] = d, o a dict in a handle -/
def setDc (o i d : D) (m : Mu) (Φ : Mu → Prop) : Prop := match o with
  | .hd h => Sm (keyD i) fun k => Sm (m h) (dctC fun ks ds => ks.length < 4096 ∧ Φ (setMu m h (.dct (putKs ks k) (putX ks ds k d))))
  | _ => False
def dPut (to ti tv : DTE) : DTS := fun De r m => tv r m fun d m1 => to r m1 fun o m2 => ti r m2 fun i m3 => setDc o i d m3 fun m4 => De.nx r m4
section
variable {cl : Nat → Addr} {s0 : Sn} {X : Cx} {o i e : Expr} {to ti te : DTE} {pos pos' : Pos}
theorem ds_dput (hu : X.A.units + 1 < cLine) (ho : DE cl s0 X o to) (hi : DE cl s0 X i ti) (he : DE cl s0 X e te) (hs : swapsWith e (some (.Subscript o i pos')) pos.line X.env = pure false := by rfl) :
    DS cl s0 X (.Assign [.Subscript o i pos'] e pos) (dPut to ti te) := by
  obtain ⟨t1, p1, v1⟩ := ho
  obtain ⟨t2, p2, v2⟩ := hi
  obtain ⟨t3, p3, v3⟩ := he
  refine ⟨_, ps_dput hu p1 p2 p3 hs, ⟨fun s σ r De T g w l q kk => ?_⟩⟩
  refine v3.run s σ r _ _ g w l q fun d v s1 l1 g1 rv q1 => v1.run s1 σ r _ _ g1 (w.mono l1) (l.trans l1) q1 fun od ov s2 l2 g2 r2 q2 => v2.run s2 σ r _ _ g2 ((w.mono l1).mono l2) ((l.trans l1).trans l2) q2 fun xd xv s3 l3 g3 r3 q3 => ?_
  unfold setDc at q3
  split at q3
  · rename_i h
    obtain ⟨k, ek, q4⟩ := q3.to
    obtain ⟨c, hk, q5⟩ := q4.to
    clear q3 q4
    obtain ⟨hal, hvis⟩ := Sn.mu_al hk
    cases c with
    | dct ks ds =>
      obtain ⟨hz, q6⟩ := (show ks.length < 4096 ∧ _ from q5)
      obtain ⟨vs, h1, hl, rs⟩ := g3.ct _ _ hal
      cases r2 with
      | hd hlt =>
        have ek2 : s3.kap h = s2.kap h := l3.kap _ hlt
        rw [ek2] at h1
        have ey := keyD_eq ek
        subst ey
        cases r3
        have rv3 := (rv.mono l2).mono l3
        have lp : Le s3 (s3.put h (.dK ((putKs ks k).zip (putX ks vs k v))) (.dct (putKs ks k) (putX ks ds k d))) := Le.put hal hvis
        have gp : Good cl (s3.put h (.dK ((putKs ks k).zip (putX ks vs k v))) (.dct (putKs ks k) (putX ks ds k d))) := g3.put hal hvis ⟨putX ks vs k v, upd_same, put_len hl, (reps_put rs rv3).mono lp⟩
        refine ⟨_, _, rfl, DPut.k h1 ?_, ?_⟩
        · rw [List.length_zip, ← hl, Nat.min_self, sizeLine_eq]; omega
        rw [putK_zip hl]
        have := kk.nx (s3.put h (.dK ((putKs ks k).zip (putX ks vs k v))) (.dct (putKs ks k) (putX ks ds k d))) r σ (((l1.trans l2).trans l3).trans lp) gp ((((w.mono l1).mono l2).mono l3).mono lp) (by rw [put_mu hvis]; exact q6)
        rw [← ek2]
        exact this
    | lst xs => exact False.elim q5
    | ins c ns xs => exact False.elim q5
  · exact q3.elim
/-- {} that changes -/
theorem de_dictH0 : DE cl s0 X (.Dict [] [] pos) dDictH0 := ⟨_, pe_dnewK, ⟨fun s σ r Φ Q g w l q k => fun p hp => by
  have lo : Le s (s.open_ p (.dK []) (.dct [] [])) := Le.open_ g hp
  have go : Good cl (s.open_ p (.dK []) (.dct [] [])) := g.open_ hp ⟨[], upd_same, rfl, .nil⟩
  have ek : (s.open_ p (.dK []) (.dct [] [])).kap s.n = p := if_pos rfl
  have := k (.hd s.n) _ _ lo go (.hd (Nat.lt_succ_self _)) (by rw [open_mu]; exact q s.n (mu_n g))
  rw [ek] at this
  exact this⟩⟩
end
end ER

namespace ER
open PySem PySem.Spec PyProof.Rows L2 PySem.Froz
/-! ## set(xs), xs a list of texts; sorted of it -/
def addsL : List Str → List Str → List Str
  | acc, [] => acc
  | acc, z :: zs => addsL (addL acc z) zs
theorem addL_mem {acc : List Str} {z y : Str} : y ∈ addL acc z ↔ y ∈ acc ∨ y = z := by
  unfold addL
  split
  · exact ⟨.inl, fun h => h.elim id fun e => e ▸ by assumption⟩
  · rw [List.mem_cons]; exact or_comm
theorem addL_len {acc : List Str} {z : Str} : (addL acc z).length ≤ acc.length + 1 := by
  unfold addL
  split
  · omega
  · rw [List.length_cons]; omega
theorem addsL_mem : ∀ {zs acc : List Str} {y : Str}, y ∈ addsL acc zs ↔ y ∈ acc ∨ y ∈ zs
  | [], acc, y => by simp [addsL]
  | z :: zs, acc, y => by
    show y ∈ addsL (addL acc z) zs ↔ _
    rw [addsL_mem, addL_mem, List.mem_cons, or_assoc]
theorem addsL_nodup : ∀ {zs acc : List Str}, acc.Nodup → (addsL acc zs).Nodup
  | [], _, h => h
  | z :: zs, acc, h => addsL_nodup (zs := zs) (acc := addL acc z) (addL_nodup h)
theorem addsL_len : ∀ {zs acc : List Str}, (addsL acc zs).length ≤ acc.length + zs.length
  | [], acc => by simp [addsL]
  | z :: zs, acc => by
    have h1 := addsL_len (zs := zs) (acc := addL acc z)
    have h2 := addL_len (acc := acc) (z := z)
    show (addsL (addL acc z) zs).length ≤ _
    rw [List.length_cons]
    omega
section
variable {P : Program} {w : World} {A : Around} {E : Value → Shared → Prop} {s : Shared} {a : Addr} {l : List Str}
theorem setAddT {k : Str} {u : Tok} {Q : Bool → Shared → Prop} (R : SetTx P w s.heap a l) (room : l.length + 1 < scanBound)
    (hQ : ∀ b h', (∀ b o, b ≠ a → s.heap.get? b = some o → h'.get? b = some o) → SetTx P w h' a (addL l k) → Q b { s with heap := h', toks := s.toks + 1 }) : wpAny (model P w) A (setAdd a (.str k u)) Q E s := by
  obtain ⟨D, ho, ok, rs, led⟩ := R
  unfold setAdd
  refine wpAny_holding (wpAny_bind ((strKind P w).pyHash (is_str k u) ?_))
  by_cases hk : k ∈ l
  · refine add_same (s := { s with toks := s.toks + 1 }) ho ok hk (by omega) ?_
    exact hQ _ s.heap (fun _ _ _ e => e) (by unfold addL; rw [if_pos hk]; exact ⟨D, ho, ok, rs, led⟩)
  · refine add_x (s := { s with toks := s.toks + 1 }) ho ok hk room ?_
    refine hQ _ _ (fun b o hb e => (Heap.get?_update_ne _ _ _ _ hb).trans e) ?_
    unfold addL
    rw [if_neg hk]
    exact ⟨_, get_upd _ ho rfl, add_ok u ok, add_ris rs, by rw [add_led]; exact led⟩
theorem set_new_led (v : Value) {Q1 : Value → Shared → Prop}
    (h : Q1 (.ref s.heap.objs.size) { s with heap := s.heap.push { cls := .type "set", dict := none, data := .set #[] 0 (.fresh 0 0 (!w.params.followText "set-order")) } }) :
    codeAny (model P w) A (.call (.builtin "set.__new__") ⟨[.type "set", v], []⟩) (wants Q1 E) s := by
  refine codeAny_of_tree (wpAny_bind (wpAny_of_eq (F.newCall_set_1 v) (wpAny_pure ⟨plainId_quiet F.plain_set_new _, codeAny_builtin F.entry_set_new ?_⟩)))
  rw [Around.under_plainId F.plain_set_new _]
  have su := sub_set_self
  obtain ⟨hp, g, d, tk, os⟩ := s
  unfold Builtin.«set.__new__» Builtin.Frozenset.newClass
  dsimp only
  wp_walk
  refine wpAny_askSetting (wpAny_pure ?_)
  dsimp only
  simp only [newObj]
  exact wpAny_bind (wpAny_alloc (wpAny_pure (wpAny_pure h)))
end
section
variable {P : Program} {w : World} {A : Around} {R : Result → Shared → Prop} {J : Addr} {fp wr : List Addr} {G : Array GenState → Array GenState → Prop} {n : Nat} {Pv : Nat → Value → Prop} {St : Nat → Shared → Prop}
theorem setLoopT (W : WalksS P w A.in1 J fp wr G n Pv St) (a : Addr) (ha : a ∉ fp) (zs : List Str) (hz : zs.length = n) (hn : n + 1 < scanBound) (hv : ∀ i v, Pv i v → ∃ u, v = .str (zs.getD i Str.empty) u) :
    ∀ (k i : Nat) (t : Shared) (acc : List Str), n = i + k → St i t → SetTx P w t.heap a acc → acc.length ≤ i → (∀ t', Moved (a :: wr) G t t' → SetTx P w t'.heap a (addsL acc (zs.drop i)) → R (.ok (.ret .none)) t') →
      codeAny (model P w) A (.builtin "set.update.loop" ⟨[.ref a, .ref J], []⟩) R t := by
  have aw : a ∉ wr := fun h => ha (W.sub _ h)
  have up : ∀ b ∈ wr, b ∈ a :: wr := fun b hb => List.mem_cons_of_mem _ hb
  intro k
  induction k with
  | zero =>
    intro i t acc hk st hS _ hR
    obtain rfl : n = i := by omega
    rw [List.drop_eq_nil_of_le (by omega)] at hR
    refine codeAny_builtin F.entry_set_update_loop ?_
    rw [Around.under_plainId F.plain_set_update_loop _]
    refine wpAny_bind (m := pyNext (.ref J)) (W.done t _ _ st fun t' mv => ?_)
    exact wpAny_pure (hR t' (mv.mono up) (by
      obtain ⟨D, ho, r⟩ := hS
      exact ⟨D, mv.heap a _ aw ho, r⟩))
  | succ k ih =>
    intro i t acc hk st hS hacc hR
    have hin : i < n := by omega
    refine codeAny_builtin F.entry_set_update_loop ?_
    rw [Around.under_plainId F.plain_set_update_loop _]
    refine wpAny_bind (m := pyNext (.ref J)) (W.item i t _ _ hin st fun v t1 hP st1 mv => ?_)
    obtain ⟨u, rfl⟩ := hv i v hP
    have hS1 : SetTx P w t1.heap a acc := by
      obtain ⟨D, ho, r⟩ := hS
      exact ⟨D, mv.heap a _ aw ho, r⟩
    have hd : zs.drop i = zs.getD i Str.empty :: zs.drop (i + 1) := by
      have hlt : i < zs.length := by omega
      rw [List.drop_eq_getElem_cons hlt, List.getD_eq_getElem?_getD, List.getElem?_eq_getElem hlt]
      rfl
    rw [hd] at hR
    refine wpAny_bind (m := holding [Value.str (zs.getD i Str.empty) u] (setAdd a (.str (zs.getD i Str.empty) u))) (wpAny_holding (setAddT hS1 (by omega) fun b h' keep new => ?_))
    refine wpAny_pure ⟨plainId_quiet F.plain_set_update_loop _, ih (i + 1) _ _ (by omega) (W.frame _ t1 h' _ st1 (Nat.le_succ _) fun b hb o e => keep b o (fun q => ha (q ▸ hb)) e) new (Nat.le_trans addL_len (by omega)) fun t2 mv2 S2 => ?_⟩
    exact hR t2 (Moved.trans W.gtrans ((mv.mono up).then_heap (Nat.le_succ _) fun b o hb e => keep b o (fun q => hb (q ▸ List.mem_cons_self)) e) mv2) S2
end
section
variable {P : Program} {w : World} {A : Around} {E : Value → Shared → Prop} {s : Shared}
set_option maxHeartbeats 3200000 in
theorem call_set_strs {p : Addr} {items : Array Value} {zs : List Str} {Q : Value → Shared → Prop} (hh : A.handled = none) (hp : s.heap.IsList p items) (hi : StrsAre items.toList zs) (hn : zs.length + 1 < scanBound)
    (h : ∀ (h' : Heap) (tk : Nat), SetTx P w h' s.heap.objs.size (addsL [] zs) → (∀ b o, b < s.heap.objs.size → s.heap.get? b = some o → h'.get? b = some o) → Q (.ref s.heap.objs.size) { s with heap := h', toks := tk }) :
    wpAny (model P w) A (call (.type "set") [.ref p]) Q E s := by
  obtain ⟨c0, tl0, hmro⟩ := F.called_set.mro
  have made := F.called_set.made
  have su := F.called_set.sub
  have n1 := F.called_set.notType
  have n2 := F.called_set.canCreate
  have n3 := F.typeCall_set_1 (.ref p)
  refine wpAny_call (codeAny_of_tree ?_)
  show wpAny _ _ (callAny (Value.type "set") _) _ _ _
  refine wpAny_pure ⟨Code.quiet_builtin _ (by decide +kernel), ?_⟩
  refine codeAny_builtin F.entry_type_call ?_
  rw [Around.under_plain (weight_type_call_type "set" [.ref p] []) rfl]
  repeat any_goals first | assumption | wp_step
  refine codeAny_mono (set_new_led (.ref p) (E := E) (Q1 := fun ob t => ob = .ref s.heap.objs.size ∧ t = { s with heap := s.heap.push { cls := .type "set", dict := none, data := .set #[] 0 (.fresh 0 0 (!w.params.followText "set-order")) } }) ⟨rfl, rfl⟩) fun r1 t1 g1 => ?_
  match r1, g1 with
  | .error e, g1 => exact g1
  | .ok (.ret ob), g1 =>
    obtain ⟨rfl, rfl⟩ := g1
    generalize eo : ({ cls := .type "set", dict := none, data := .set #[] 0 (.fresh 0 0 (!w.params.followText "set-order")) } : Obj) = ob0
    have hS : (s.heap.push ob0).get? s.heap.objs.size = some ob0 := Heap.get?_push_size _ (by rw [← eo]; rfl)
    have isT : Shared.TypeIs { s with heap := s.heap.push ob0 } (.ref s.heap.objs.size) "set" := ⟨_, hS, by rw [← eo]⟩
    have look := F.called_set.init.lookup
    have bind := F.called_set.init.bind (.ref s.heap.objs.size)
    repeat any_goals first | assumption | wp_step
    refine codeAny_mono (codeAny_call_builtin (R := wants (fun r t => r = .none ∧ ∃ h' tk, t = { s with heap := h', toks := tk } ∧ SetTx P w h' s.heap.objs.size (addsL [] zs) ∧ ∀ b o, b < s.heap.objs.size → s.heap.get? b = some o → h'.get? b = some o) E)
      F.called_set.init.plain F.entry_set_init (check_set_init_1 isT ?_)) fun r2 t2 g2 => ?_
    · obtain ⟨ol, hol, hcl, nl, hdl⟩ := hp
      obtain ⟨oc, od, odt, osl⟩ := ol
      simp only at hcl hdl
      subst hcl hdl
      have hlt : p < s.heap.objs.size := Heap.lt_size hol
      have pl : (s.heap.push ob0).IsList p items := ⟨_, Heap.get?_push_of_some _ hol, rfl, nl, rfl⟩
      have isP : (s.heap.push ob0).get? p = some { cls := .type "list", dict := od, data := .seq items nl, slots := osl } := Heap.get?_push_of_some _ hol
      subst eo
      have sub1 := F.sub_list_set
      have sub2 := F.sub_list_frozenset
      have nd : (Value.type "list" == Value.type "dict") = false := by decide
      unfold Builtin.«set.__init__» noKeywords Builtin.Frozenset.updateFrom
      generalize ei : pyIter = it0
      wp_walk
      subst ei
      refine wpAny_pyIter_list pl ?_; refine wpAny_bind (wpAny_runValue ?_)
      have calm3 : A.in1.in1.in1.handled = none := by simp [hh]
      have sz1 : ∀ o : Obj, (s.heap.push o).objs.size = s.heap.objs.size + 1 := fun o => Heap.size_push _ _
      have np : ∀ o : Obj, p ≠ (s.heap.push o).objs.size := fun o => by rw [sz1]; exact Nat.ne_of_lt (Nat.lt_succ_of_lt hlt)
      have na : ∀ o : Obj, s.heap.objs.size ∉ [(s.heap.push o).objs.size, p] := fun o => by
        rw [sz1]
        simp only [List.mem_cons, List.not_mem_nil, or_false, not_or]
        exact ⟨Nat.ne_of_lt (Nat.lt_succ_self _), Nat.ne_of_gt hlt⟩
      have hsz : zs.length = items.size := by rw [← StrsAre.len_eq hi, Array.length_toList]
      refine setLoopT ((Walks.list calm3 _ p (np _) items).toS) s.heap.objs.size (na _) zs hsz (by omega) (fun i v e => SS.strs_at hi i v (by rw [Array.getElem?_toList]; exact e)) items.size 0 _ [] (by omega)
        ⟨⟨_, Heap.get?_push_size _ rfl, rfl, rfl⟩, pl.push _⟩ ?_ (Nat.zero_le _) ?_
      · exact SetTx.keep setTx_fresh fun o e => Heap.get?_push_of_some _ e
      · intro t3 mv S3
        obtain ⟨h3, g3, d3, tk3, os3⟩ := t3
        obtain rfl : g3 = s.gens := mv.gens
        obtain rfl : d3 = s.drawn := mv.drawn
        obtain rfl : os3 = s.os := mv.os
        refine wpAny_pure (wpAny_pure ⟨rfl, h3, tk3, rfl, S3, fun b o hb e => ?_⟩)
        refine mv.heap b o ?_ (Heap.get?_push_of_some _ (Heap.get?_push_of_some _ e))
        rw [sz1]
        simp only [List.mem_cons, List.not_mem_nil, or_false, not_or]
        exact ⟨Nat.ne_of_lt hb, Nat.ne_of_lt (Nat.lt_succ_of_lt hb)⟩
    · match r2, g2 with
      | .error e, g2 => exact g2
      | .ok (.ret r), g2 =>
        obtain ⟨rfl, h', tk, rfl, S, keep⟩ := g2
        repeat any_goals first | assumption | wp_step
        exact h _ _ S keep
end
section
variable {X : Cx}
def rSetL (P : Program) (w : World) : List V → Hp → VK → Prop := fun vs H Q => ∃ (p : Addr) (zs : List Str), vs = [.ref p] ∧ H p = some (.lst (zs.map V.str)) ∧ zs.length + 1 < scanBound ∧ ∀ a, H a = none → Q (.ref a) (upd H a (SetTO P w a (addsL [] zs)))
theorem cr_setL (hc : X.calm = true) : CallR X (.type "set") (rSetL X.prog X.w) := by
  intro pins s σ H vs us Q I r h
  obtain ⟨p, zs, rfl, hp, hn, q⟩ := h
  obtain ⟨u, rfl, ru⟩ := r.one
  cases (show u = Value.ref p from ru)
  obtain ⟨its, rv, pl, _⟩ := I.list (SqL.of hp)
  refine call_set_strs (I.ok.hd hc) pl.isList (strsAre_of rv) hn fun h' tk S keep => ?_
  exact ⟨.ref _, _, I.laid (t' := tk) (fun b o e => keep b o (Heap.lt_size e) e) (Nat.le_refl _) (setTO_new S), rfl, q _ (I.hok.fresh (Nat.le_refl _))⟩
end
def dSortL (ta : DTE) : DTE := fun r m Φ => ta r m fun d m1 => match d with
  | .lst xs => ∃ zs : List Str, xs = (zs.map V.str).map D.v ∧ zs.length + 1 < scanBound ∧ ∀ ys : List Str, (∀ k, k ∈ ys ↔ k ∈ zs) → ys.Nodup → sortedS ys = true → Φ (.lst ((ys.map V.str).map D.v)) m1
  | _ => False
section
variable {cl : Nat → Addr} {s0 : Sn} {X : Cx} {e : Expr} {ta : DTE} {pos p p2 q : Pos}
theorem de_sortL (hc : X.calm = true) (hg : Gl X "sorted") (hm : X.mg "sorted" = none) (hg2 : Gl X "set") (hm2 : X.mg "set" = none) (ha : DE cl s0 X e ta)
    (he2 : starEach [e] X.env = (false, eval e X.env) :: starEach [] X.env := by rfl) (hpl2 : (backTo q (starEach [] X.env)).any (·.1) = false := by rfl)
    (he : starEach [(.Call (.Name "set" p2) [e] [] q : Expr)] X.env = (false, eval (.Call (.Name "set" p2) [e] [] q) X.env) :: starEach [] X.env := by rfl) (hpl : (backTo pos (starEach [] X.env)).any (·.1) = false := by rfl) :
    DE cl s0 X (.Call (.Name "sorted" p) [.Call (.Name "set" p2) [e] [] q] [] pos) (dSortL ta) := by
  obtain ⟨te, pa, v⟩ := ha
  refine ⟨_, pe_callB (cr_sortT hc) hg hm (by decide +kernel) (pa_cons (pe_callTy (cr_setL hc) hg2 hm2 (by decide +kernel) (pa_cons pa pa_nil he2) (by decide) (by decide) he2 hpl2) pa_nil he) (by decide) (by decide) he hpl, ⟨fun s σ r Φ Q g w l q k => ?_⟩⟩
  refine v.run s σ r _ _ g w l q fun d u s1 l1 g1 rd q1 => ?_
  split at q1
  · obtain ⟨zs, rfl, hn, q2⟩ := q1
    cases rd with
    | @lst a _ vs n1 h1 rr =>
      rw [Reps.vals_eq rr] at h1
      refine ⟨a, zs, rfl, h1, hn, fun D hD => ?_⟩
      have hl := addsL_len (zs := zs) (acc := [])
      rw [List.length_nil] at hl
      refine ⟨D, addsL [] zs, rfl, upd_same, addsL_nodup List.nodup_nil, by omega, fun ys b e1 e2 e3 e4 hb => ?_⟩
      have lay := Le.lay (o := SetTO X.prog X.w D (addsL [] zs)) g1 hD
      have g2 := g1.lay (o := SetTO X.prog X.w D (addsL [] zs)) hD
      refine k _ _ ((s1.lay D (SetTO X.prog X.w D (addsL [] zs))).lay b (.lst (ys.map V.str))) ((l1.trans lay).trans (Le.lay g2 hb)) (g2.lay hb) (Rep.laid g2 hb Reps.vals) (q2 ys (fun k => ?_) e3 e4)
      rw [e2 k, addsL_mem]
      exact ⟨fun h => h.elim (fun h => nomatch h) id, .inr⟩
  · exact q1.elim
end
end ER

namespace ER
open PySem PySem.Spec PyProof.Rows L2
/-! ## texts of data with dicts and handles in it -/
def keyP : Key → PyData
  | .inl i => .int i
  | .inr z => .str z
mutual
inductive DpM (H : Hp) : V → PyData → Prop
  | sc {x : V} {p : PyData} : toPyV x = some p → DpM H x p
  | tup {a : Addr} {xs : List V} {ps : List PyData} : H a = some (.tup xs) → DpMs H xs ps → DpM H (.ref a) (.tuple ps)
  | dic {a : Addr} {ks : List Key} {xs : List V} {ps : List PyData} : H a = some (.dK (ks.zip xs)) → ks.length = xs.length → DpMs H xs ps → DpM H (.ref a) (.dict ((ks.map keyP).zip ps))
inductive DpMs (H : Hp) : List V → List PyData → Prop
  | nil : DpMs H [] []
  | cons {x : V} {xs : List V} {p : PyData} {ps : List PyData} : DpM H x p → DpMs H xs ps → DpMs H (x :: xs) (p :: ps)
end
section
variable {X : Cx} {pins : List (Addr × Obj)} {σ : L2.St} {H : Hp} {s : Shared}
theorem reads_sc {x : V} {p : PyData} {u : Value} (h : toPyV x = some p) (r : RelV x u) : Reads s.heap u p [] := by
  unfold toPyV at h
  split at h
  · cases h; cases r; exact .none
  · cases h; cases r; exact .bool _
  · cases h; obtain ⟨t, rfl⟩ := r; exact .int _ t
  · cases h; obtain ⟨t, rfl⟩ := r; exact .str _ t
  · cases h
theorem DpMs.len : ∀ {xs : List V} {ps : List PyData}, DpMs H xs ps → xs.length = ps.length
  | _, _, .nil => rfl
  | _, _, .cons _ t => congrArg (· + 1) (DpMs.len t)
theorem reads_keys : ∀ {es : List DictEntry} {ks : List Key} {vs : List Value}, ks.length = vs.length → Pairs (mixKind X.prog X.w) es (ks.zip vs) → ReadsAll s.heap (es.map (·.key)) (ks.map keyP) [] ∧ es.map (·.val) = vs
  | _, [], [], _, .nil => ⟨.nil, rfl⟩
  | _, k :: ks, v :: vs, hl, .cons (e := e) (es := es) h1 h2 t => by
    obtain ⟨q1, q2⟩ := reads_keys (by simpa using hl) t
    refine ⟨?_, by rw [List.map_cons, q2, h2]⟩
    have hk : Reads s.heap e.key (keyP k) [] := by
      rcases keyIs_shape (show keyIs k e.key = true from h1) with ⟨i, t, rfl, e2⟩ | ⟨x, t, rfl, e2⟩
      · rw [e2]; exact .int i t
      · rw [e2]; exact .str x t
    exact ReadsAll.cons hk q1
theorem kv_zip : ∀ {ks : List Key} {xs : List V} {vs : List (Key × Value)}, ks.length = xs.length → KV (ks.zip xs) vs → ∃ us : List Value, vs = ks.zip us ∧ ks.length = us.length ∧ Vals xs us
  | [], [], _, _, .nil => ⟨[], rfl, rfl, .nil⟩
  | k :: ks, x :: xs, _, hl, .cons (b := b) h t => by
    obtain ⟨us, rfl, hu, r⟩ := kv_zip (by simpa using hl) t
    obtain ⟨k', u⟩ := b
    obtain ⟨h1, h2⟩ := h
    have h1 : k = k' := h1
    subst h1
    exact ⟨u :: us, rfl, by simpa using hu, .cons h2 r⟩
mutual
theorem DpM.reads (I : Inv X pins σ H s) : ∀ {v : V} {p : PyData} {u : Value}, DpM H v p → RelV v u → ∃ as, Reads s.heap u p as ∧ sysModules ∉ as
  | _, _, _, .sc h, r => ⟨_, reads_sc h r, List.not_mem_nil⟩
  | _, _, u, .tup (a := a) h t, r => by
    cases (show u = .ref a from r)
    obtain ⟨hz, its, rv, o, ho, hc, n, hd⟩ := (I.hok a _ h : ObjOk _ _ _ _ _ _)
    obtain ⟨as, h1, h2⟩ := DpMs.reads I t rv
    exact ⟨as, Reads.tuple ho hc hd (by simpa using h1), h2⟩
  | _, _, u, .dic (a := a) h hl t, r => by
    cases (show u = .ref a from r)
    obtain ⟨hz, hsm, vs, kv, o, es, ep, ho, hx, hd, _, hp, _⟩ := (I.hok a _ h : ObjOk _ _ _ _ _ _)
    obtain ⟨us, rfl, hu, rv⟩ := kv_zip hl kv
    obtain ⟨as, h1, h2⟩ := DpMs.reads I t rv
    obtain ⟨k1, k2⟩ := reads_keys (X := X) (s := s) hu hp
    have l2 := t.len
    refine ⟨_, Reads.dict (as := []) (bs := as) ho hx.1 hd ?_ ?_, fun hm => ?_⟩
    · rw [List.map_fst_zip (by rw [List.length_map, hl, l2]; exact Nat.le_refl _)]
      exact k1
    · rw [List.map_snd_zip (by rw [List.length_map, hl, l2]; exact Nat.le_refl _), k2]
      exact h1
    · rcases List.mem_cons.mp hm with e | hm
      · rw [← e] at hsm; exact absurd hsm (by decide)
      · exact h2 hm
theorem DpMs.reads (I : Inv X pins σ H s) : ∀ {vs : List V} {ps : List PyData} {us : List Value}, DpMs H vs ps → Vals vs us → ∃ as, ReadsAll s.heap us ps as ∧ sysModules ∉ as
  | _, _, _, .nil, .nil => ⟨_, .nil, List.not_mem_nil⟩
  | _, _, _, .cons h t, .cons r rs => by
    obtain ⟨as, h1, h2⟩ := DpM.reads I h r
    obtain ⟨bs, h3, h4⟩ := DpMs.reads I t rs
    exact ⟨_, .cons h1 h3, fun hm => (List.mem_append.mp hm).elim h2 h4⟩
end
/-- what may be shown, dicts too -/
structure ShowableM (p : PyData) : Prop where
  s : p.showable = true
  h : p.depth ≤ 60
  z : p.shown.length ≤ sizeLine
/-- repr of a list: its own address does not count -/
theorem repr_listI {P : Program} {w : World} {A : Around} {E : Value → Shared → Prop} {s : Shared} {Q : Value → Shared → Prop} {a : Addr} {o : Obj} {vs : Array Value} {n : Nat} {xs : List PyData} {as : List Addr} (h1 : s.heap.get? a = some o) (h2 : o.cls = .type "list") (h3 : o.data = .seq vs n)
    (h4 : ReadsAll s.heap vs.toList xs as) (sh : ShowableM (.list xs)) (hn : sysModules ∉ as) (hg : A.guards = some []) (hu : A.units + ((PyData.list xs).depth + 1) < cLine)
    (hQ : ∀ h' u tk, (∀ b o, s.heap.get? b = some o → h'.get? b = some o) → Q (.str (PyData.list xs).shown u) { s with heap := h', toks := tk }) : wpAny (model P w) A (call (.builtin "repr") [.ref a]) Q E s := by
  have hz : (listText (PyData.shownAll xs)).length ≤ sizeLine := sh.z
  have hs : PyData.showableAll xs = true := sh.s
  obtain ⟨bs, hb, hk⟩ := ReprAllK.of_readsAll (prog := P) (w := w) h4 hs (fun _ => hn) (fun x hx => Nat.le_trans (listText_mem_le hx) hz)
  have nb : a ∉ bs := not_mem_of_deeper (.list h1 h2 h3 h4) (by simp only [PyData.depth]; omega) hb
  have dp : (PyData.list xs).depth = PyData.depthAll xs + 1 := rfl
  rw [dp] at hu
  refine call_repr_slot (by omega) ⟨o, h1, h2⟩ F.slot_list_repr.toG ?_
  obtain ⟨l⟩ := vs
  cases l with
  | nil =>
    have h4 : ReadsAll s.heap [] xs as := h4
    cases h4
    exact call_list_repr_empty ⟨o, h1, h2⟩ h1 h3 ⟨_, _, rfl, hQ s.heap _ _ fun _ _ e => e⟩
  | cons y l =>
    exact call_list_reprK h1 h2 h3 nb (by simpa using hk.length_eq) (fun i z e => hk.item i z (by simpa using e)) hg (fun b _ => Clear.nil b) (by show A.units + 1 + _ < _; omega) (fun _ _ e => e) (fun h' u tk k => ⟨_, _, rfl, hQ h' u tk k⟩) hz
def rShowM : List V → Hp → VK → Prop := fun xs H Q => (∃ a p, xs = [V.ref a] ∧ DpM H (.ref a) p ∧ ShowableM p ∧ Q (.str p.shown) H) ∨ ∃ a ys ps, xs = [V.ref a] ∧ H a = some (.lst ys) ∧ DpMs H ys ps ∧ ShowableM (.list ps) ∧ Q (.str (PyData.list ps).shown) H
theorem call_showM {X : Cx} (hgd : X.A.guards = some []) (hr : Room 0 X.A) : CallR X (.builtin "repr") rShowM := by
  intro pins s σ H xs us Q I r h
  rcases h with ⟨a, p, rfl, hd, sh, q⟩ | ⟨a, ys, ps, rfl, ha, hd, sh, q⟩
  · obtain ⟨u, rfl, ru⟩ := r.one
    cases (show u = Value.ref a from ru)
    obtain ⟨as, rd, hn⟩ := DpM.reads I hd ru
    refine repr_of_reads' rd sh.s (fun _ => hn) hgd ?_ (fun _ _ e => e) (fun h' t tk hk => ⟨.str p.shown, H, I.kept hk, ⟨t, rfl⟩, q⟩) sh.z
    have := hr.un
    have := sh.h
    omega
  · obtain ⟨u, rfl, ru⟩ := r.one
    cases (show u = Value.ref a from ru)
    obtain ⟨hz, its, n, rv, ho⟩ := (I.hok a _ ha : ObjOk _ _ _ _ _ _)
    obtain ⟨as, rd, hn⟩ := DpMs.reads I hd rv
    refine repr_listI ho rfl rfl (by simpa using rd) sh hn hgd ?_ (fun h' t tk hk => ⟨.str (PyData.list ps).shown, H, I.kept hk, ⟨t, rfl⟩, q⟩)
    have := hr.un
    have := sh.h
    omega
end
mutual
inductive PyM (m : Mu) : D → PyData → Prop
  | v {x : V} {p : PyData} : toPyV x = some p → PyM m (.v x) p
  | tup {xs : List D} {ps : List PyData} : PyMs m xs ps → PyM m (.tup xs) (.tuple ps)
  | dct {ks : List Key} {xs : List D} {ps : List PyData} : PyMs m xs ps → PyM m (.dct ks xs) (.dict ((ks.map keyP).zip ps))
  | hdD {k : Nat} {ks : List Key} {xs : List D} {ps : List PyData} : m k = some (.dct ks xs) → PyMs m xs ps → PyM m (.hd k) (.dict ((ks.map keyP).zip ps))
inductive PyMs (m : Mu) : List D → List PyData → Prop
  | nil : PyMs m [] []
  | cons {x : D} {xs : List D} {p : PyData} {ps : List PyData} : PyM m x p → PyMs m xs ps → PyMs m (x :: xs) (p :: ps)
end
section
variable {cl : Nat → Addr} {s : Sn}
mutual
theorem PyM.dp (g : Good cl s) : ∀ {d : D} {v : V} {p : PyData}, PyM s.mu d p → Rep cl s d v → DpM s.H v p
  | _, _, _, .v h, .v _ => .sc h
  | _, _, _, .tup h, .tup _ h1 r => .tup h1 (PyMs.dp g h r)
  | _, _, _, .dct h, .dct _ h1 hl r => .dic h1 hl (PyMs.dp g h r)
  | _, _, _, .hdD e h, .hd _ => by
    obtain ⟨vs, h1, hl, r⟩ := g.ct _ _ (Sn.mu_al e).1
    exact .dic h1 hl (PyMs.dp g h r)
theorem PyMs.dp (g : Good cl s) : ∀ {ds : List D} {vs : List V} {ps : List PyData}, PyMs s.mu ds ps → Reps cl s ds vs → DpMs s.H vs ps
  | _, _, _, .nil, .nil => .nil
  | _, _, _, .cons h t, .cons h1 r => .cons (PyM.dp g h h1) (PyMs.dp g t r)
end
end
/-- the text of data, as the store is -/
inductive ShwM (m : Mu) (d : D) (k : Str → Prop) : Prop
  | mk (p : PyData) : PyM m d p → ShowableM p → k p.shown → ShwM m d k
  | lst (xs : List D) (ps : List PyData) : d = .lst xs → PyMs m xs ps → ShowableM (.list ps) → k (PyData.list ps).shown → ShwM m d k
  | hdL (h : Nat) (xs : List D) (ps : List PyData) : d = .hd h → m h = some (.lst xs) → PyMs m xs ps → ShowableM (.list ps) → k (PyData.list ps).shown → ShwM m d k
def showMD (ds : List D) (m : Mu) (Φ : DK) : Prop := match ds with
  | [.v _] => False
  | [d] => ShwM m d fun z => Φ (.v (.str z)) m
  | _ => False
theorem rep_ref {cl : Nat → Addr} {s : Sn} {d : D} {v : V} (r : Rep cl s d v) (h : ∀ x, d ≠ .v x) : ∃ a, v = .ref a := by
  cases r with
  | v => exact absurd rfl (h _)
  | hd _ => exact ⟨_, rfl⟩
  | lst _ _ _ => exact ⟨_, rfl⟩
  | tup _ _ _ => exact ⟨_, rfl⟩
  | scr _ _ => exact ⟨_, rfl⟩
  | dct _ _ _ _ => exact ⟨_, rfl⟩
  | obj _ _ _ _ => exact ⟨_, rfl⟩
theorem cad_showM {cl : Nat → Addr} : CaD cl rShowM showMD := fun s xs ds Φ Q g r h k => by
  unfold showMD at h
  split at h
  · exact h.elim
  · rename_i d hne
    cases r with
    | cons r1 r2 =>
      cases r2
      cases h with
      | mk p h1 h2 h3 =>
        have dp := h1.dp g r1
        obtain ⟨a, rfl⟩ := rep_ref r1 (fun x e => hne x (by rw [e]))
        exact .inl ⟨a, p, rfl, dp, h2, k _ _ s (Le.refl s) g (.v _) h3⟩
      | lst ys ps e h1 h2 h3 =>
        subst e
        cases r1 with
        | lst n1 e1 rr => exact .inr ⟨_, _, ps, rfl, e1, h1.dp g rr, h2, k _ _ s (Le.refl s) g (.v _) h3⟩
      | hdL j ys ps e hm h1 h2 h3 =>
        subst e
        cases r1 with
        | hd hj =>
          obtain ⟨vs, e1, rr⟩ := g.ct _ _ (Sn.mu_al hm).1
          exact .inr ⟨_, _, ps, rfl, e1, h1.dp g rr, h2, k _ _ s (Le.refl s) g (.v _) h3⟩
  · exact h.elim
section
variable {cl : Nat → Addr} {s0 : Sn} {X : Cx} {e : Expr} {es : List Expr} {tds : DTA} {pos p : Pos}
theorem de_reprM (hgd : X.A.guards = some []) (hr : Room 0 X.A) (hg : Gl X "repr") (hm : X.mg "repr" = none) (ha : DA cl s0 X (e :: es) tds) (he : starEach (e :: es) X.env = (false, eval e X.env) :: starEach es X.env := by rfl) (hpl : (backTo pos (starEach es X.env)).any (·.1) = false := by rfl) :
    DE cl s0 X (.Call (.Name "repr" p) (e :: es) [] pos) (dCa showMD tds) := de_callB (call_showM hgd hr) cad_showM hg hm (by decide +kernel) ha (by decide) (by decide) he hpl
end
end ER

namespace ER
open PySem PySem.Spec PyProof.Rows L2
/-! ## isinstance(x, T), T built-in -/
inductive Ty where
  | non | bl | int | str | lst | tup | dct
def Ty.nm : Ty → String
  | .non => "NoneType" | .bl => "bool" | .int => "int" | .str => "str" | .lst => "list" | .tup => "tuple" | .dct => "dict"
/-- is what is of type a of type t -/
def isTb : Ty → Ty → Bool
  | .non, .non => true | .bl, .bl => true | .int, .int => true | .int, .bl => true | .str, .str => true | .lst, .lst => true | .tup, .tup => true | .dct, .dct => true
  | _, _ => false
theorem isT_kit : ∀ t a : Ty, t ≠ .non → kitB a.nm t.nm = some (isTb t a) := by
  intro t a h
  cases t <;> first | exact absurd rfl h | (cases a <;> decide +kernel)
def ctTy : Ct → Option Ty
  | .lst _ => some .lst
  | .dct _ _ => some .dct
  | .ins _ _ _ => none
def tyD (d : D) (m : Mu) : Option Ty := match d with
  | .v .non => some .non
  | .v (.bl _) => some .bl
  | .v (.int _) => some .int
  | .v (.str _) => some .str
  | .v _ => none
  | .hd k => match m k with
    | some c => ctTy c
    | none => none
  | .lst _ => some .lst
  | .tup _ => some .tup
  | .scr _ => some .lst
  | .dct _ _ => some .dct
  | .obj _ _ _ => none
def dIsT (t : Ty) (ta : DTE) : DTE := fun r m Φ => ta r m fun d m1 => Sm (tyD d m1) fun a => Φ (.v (.bl (isTb t a))) m1
section
variable {cl : Nat → Addr} {s0 : Sn} {X : Cx} {e : Expr} {ta : DTE} {pos p p2 : Pos} {x : Str}
theorem ty_at {s : Sn} {d : D} {v : V} {a : Ty} (g : Good cl s) (r : Rep cl s d v) (h : tyD d s.mu = some a) : TyX X.K s.H v (.type a.nm) := by
  cases r with
  | v => cases v <;> first | (cases h; done) | (cases h; first | exact .base .non | exact .base (.bl _) | exact .base (.int _) | exact .base (.str _))
  | @hd k hk =>
    unfold tyD at h
    dsimp only at h
    split at h
    · rename_i c e
      have ct := g.ct _ _ (Sn.mu_al e).1
      cases c with
      | lst xs => cases h; obtain ⟨vs, h1, _⟩ := ct; exact .base (.lst h1)
      | dct ks xs => cases h; obtain ⟨vs, h1, _⟩ := ct; exact .base (.dK h1)
      | ins _ _ _ => cases h
    · cases h
  | lst _ h1 _ => cases h; exact .base (.lst h1)
  | tup _ h1 _ => cases h; exact .base (.tup h1)
  | scr _ h1 => cases h; exact .base (.frz h1)
  | dct _ h1 _ _ => cases h; exact .base (.dK h1)
  | obj _ _ _ _ => cases h
theorem de_isiT (t : Ty) (hne : t ≠ .non := by nofun) (hg : Gl X "isinstance") (hm : X.mg "isinstance" = none) (hgt : Gl X x) (hmt : X.mg x = none) (hv : bootBuiltins x = some (.type t.nm) := by decide +kernel) (ha : DE cl s0 X e ta)
    (hn : x ≠ "__name__" := by decide) (hdb : (x == ("__debug__" : Str)) = false := by decide)
    (he : starEach [e, .Name x p2] X.env = (false, eval e X.env) :: starEach [.Name x p2] X.env := by rfl) (he2 : starEach [.Name x p2] X.env = (false, eval (.Name x p2) X.env) :: starEach [] X.env := by rfl) (hpl : (backTo pos (starEach [.Name x p2] X.env)).any (·.1) = false := by rfl) :
    DE cl s0 X (.Call (.Name "isinstance" p) [e, .Name x p2] [] pos) (dIsT t ta) := by
  obtain ⟨te, pa, v⟩ := ha
  refine ⟨_, pe_callB call_isi hg hm (by decide +kernel) (pa_cons pa (pa_cons (pe_bltn (v := .ty t.nm) hgt hmt hv rfl hn hdb) pa_nil he2) he) (by decide) (by decide) he hpl, ⟨fun s σ r Φ Q g w l q k => ?_⟩⟩
  refine v.run s σ r _ _ g w l q fun d u s1 l1 g1 rd q1 => ?_
  obtain ⟨a, ea, q2⟩ := q1.to
  exact ⟨_, _, _, _, _, rfl, .ty _, ty_at g1 rd ea, kit_ty (isT_kit t a hne), k _ _ s1 l1 g1 (.v _) q2⟩
end
/-! ## repr of what is not yet known -/
inductive Shx (ds : List D) (m : Mu) (Φ : DK) : Prop
  | mk : showD ds m Φ → Shx ds m Φ
theorem Shx.un {ds : List D} {m : Mu} {Φ : DK} (h : Shx ds m Φ) : showD ds m Φ := by
  cases h with
  | mk h => exact h
theorem cad_shx {cl : Nat → Addr} {K : PySem.W.Frag} : CaD cl (rShow K) Shx := fun s xs ds Φ Q g r h k => cad_show s xs ds Φ Q g r h.un k
section
variable {cl : Nat → Addr} {s0 : Sn} {X : Cx} {e : Expr} {es : List Expr} {tds : DTA} {pos p : Pos}
theorem de_reprS (hgd : X.A.guards = some []) (hr : Room 0 X.A) (hg : Gl X "repr") (hm : X.mg "repr" = none) (ha : DA cl s0 X (e :: es) tds) (he : starEach (e :: es) X.env = (false, eval e X.env) :: starEach es X.env := by rfl) (hpl : (backTo pos (starEach es X.env)).any (·.1) = false := by rfl) :
    DE cl s0 X (.Call (.Name "repr" p) (e :: es) [] pos) (dCa Shx tds) := de_callB (call_show hgd hr) cad_shx hg hm (by decide +kernel) ha (by decide) (by decide) he hpl
end
end ER

namespace ER
open PySem PySem.Spec PyProof.Rows L2
/-! ## sorted({..}) as a list that may change; return of a list, open or closed -/
def dSortSetH (it : DTI) (g : DTG) (tt : DTT) (te : DTE) (vs : List Nat) : DTE := fun r m Φ => wipeK vs r fun r' => it r m fun xs m1 => dSetL g tt te r' xs [] m1 fun acc m2 => acc.length + 1 < scanBound ∧
  ∀ ys : List Str, ys.length = acc.length → (∀ k, k ∈ ys ↔ k ∈ acc) → ys.Nodup → sortedS ys = true → ∀ k, m2 k = none → Φ (.hd k) (setMu m2 k (.lst ((ys.map V.str).map D.v)))
def dRetO (t : DTE) : DTS := fun De r m => t r m fun d m1 => De.rt d m1 ∨ closeD d m1 De.rt
/-- a list of texts, open or closed -/
def outL (op : Bool) (xs : List D) (m : Mu) (Φ : DK) : Prop := match op with
  | true => ∀ k, m k = none → Φ (.hd k) (setMu m k (.lst xs))
  | false => Φ (.lst xs) m
theorem outL_ret {op : Bool} {xs : List D} {m : Mu} {Φ : DK} {k : Nat} (hk : m k = none) (h : outL op xs m Φ) : Φ (.hd k) (setMu m k (.lst xs)) ∨ closeD (.hd k) (setMu m k (.lst xs)) Φ := by
  cases op with
  | true => exact .inl (h k hk)
  | false =>
    refine .inr (.mk _ setMu_same ?_)
    show Φ (.lst xs) (delMu (setMu m k (.lst xs)) k)
    rw [delMu_set hk]
    exact h
section
variable {cl : Nat → Addr} {s0 : Sn}
theorem ev_sortSetH {P : Program} {w : World} {wi : TI} {gg : TG} {tt : TT} {tb : TE} {it : DTI} {g : DTG} {dt : DTT} {db : DTE} {vs : List Nat} (hi : EvI cl s0 wi it) (hg : EvG cl s0 gg g) (ho : OwnG vs gg) (ht : EvT cl s0 tt dt) (hb : EvD cl s0 tb db) :
    EvD cl s0 (fun σ H Q => tSetT P w wi gg tt tb vs σ H fun x H1 => rSortT P w [x] H1 Q) (dSortSetH it g dt db vs) := by
  refine ⟨fun s σ r Φ Q gd w0 l q k => ?_⟩
  refine hi.run s σ r _ _ gd w0 l (wipeK.to q) fun J xs s1 l1 g1 ok q1 p hp => ?_
  obtain ⟨n, G, Y, hn, wk, hG, hY⟩ := ok.w
  have w1 : EnvOk cl s1 (dwipe r vs) (wipe σ vs) := (w0.mono l1).wipe vs
  let Pv : Nat → Hp → Prop := fun i H' => ∃ s' acc, H' = s'.H ∧ Le s1 s' ∧ Good cl s' ∧ s'.H p = some (SetTO P w p acc) ∧ acc.Nodup ∧
    dSetL g dt db (dwipe r vs) (xs.drop i) acc s'.mu fun acc m2 => acc.length + 1 < scanBound ∧ ∀ ys : List Str, ys.length = acc.length → (∀ k, k ∈ ys ↔ k ∈ acc) → ys.Nodup → sortedS ys = true → ∀ k, m2 k = none → Φ (.hd k) (setMu m2 k (.lst ((ys.map V.str).map D.v)))
  refine ⟨n, G, Y, Pv, wk, ⟨s1.lay p (SetTO P w p []), [], rfl, Le.lay g1 hp, g1.lay hp, upd_same, List.nodup_nil, q1⟩, ?_, ?_, ?_⟩
  · rintro i H' _ ⟨s', acc, rfl, l', _⟩
    exact hG s' l'
  · rintro i x H' H2 hin ⟨s', acc, rfl, l', g', hD, nd, q'⟩ hy
    obtain ⟨d, s2, hd, rfl, l3, g3, hm, rd⟩ := hY i s' x H2 hin l' g' hy
    have hdrop : xs.drop i = d :: xs.drop (i + 1) := by
      have hlt : i < xs.length := hn ▸ hin
      rw [List.drop_eq_getElem_cons hlt]
      have e := hd
      rw [List.getElem?_eq_getElem hlt] at e
      rw [Option.some.inj e]
    rw [hdrop, ← hm] at q'
    have L : Le s0 s2 := (l.trans l1).trans (l'.trans l3)
    have there : ∀ {t : Sn}, Le s' t → t.H p = some (SetTO P w p acc) := fun {t} lt => (lt.keep _ _ hD (g'.notM hD)).1
    have body := ho x (wipe σ vs) s2.H _ (hg.run s2 (wipe σ vs) (dwipe r vs) d x _ (fun σ2 H2 => tt σ2 H2 fun b H4 => if b = true then tb σ2 H4 fun y H5 => ∃ z l, y = .str z ∧ H5 p = some (SetTO P w p l) ∧ l.length + 1 < scanBound ∧ Pv (i + 1) (upd H5 p (SetTO P w p (addL l z))) else Pv (i + 1) H4)
      g3 (w1.mono (l'.trans l3)) L rd q' fun s3 r3 σ3 l4 g4 w4 q4 => ht.run s3 σ3 r3 _ _ g4 w4 (L.trans l4) q4 fun b s4 l5 g5 q5 => ?_)
    · rw [wipe_wipe] at body
      exact body
    · cases b with
      | false =>
        have ls : Le s' s4 := (l3.trans l4).trans l5
        exact ⟨s4, acc, rfl, l'.trans ls, g5, there ls, nd, q5.ff⟩
      | true =>
        refine hb.run s4 σ3 r3 _ _ g5 (w4.mono l5) ((L.trans l4).trans l5) q5.tt fun y yv s5 l6 g6 ry q6 => ?_
        obtain ⟨z, rfl, room, q6⟩ := q6
        cases ry
        have ls : Le s' s5 := ((l3.trans l4).trans l5).trans l6
        have hp5 := there ls
        exact ⟨z, acc, rfl, hp5, room, s5.lay p (SetTO P w p (addL acc z)), addL acc z, rfl, (l'.trans ls).past hp, g6.past (fun u e => ⟨_, Option.some.inj (e.symm.trans hp5)⟩), upd_same, addL_nodup nd, q6⟩
  · rintro H' ⟨s', acc, rfl, l', g', hD, nd, q'⟩
    rw [hn, List.drop_length] at q'
    refine ⟨p, acc, rfl, hD, nd, q'.1, fun ys a e1 e2 e3 e4 ha => ?_⟩
    have lo := Le.open_ (o := HO.lst (ys.map V.str)) (c := Ct.lst ((ys.map V.str).map D.v)) g' ha
    have go := g'.open_ (o := HO.lst (ys.map V.str)) (c := Ct.lst ((ys.map V.str).map D.v)) ha ⟨_, upd_same, Reps.vals⟩
    have ek : (s'.open_ a (HO.lst (ys.map V.str)) (Ct.lst ((ys.map V.str).map D.v))).kap s'.n = a := if_pos rfl
    have := k (.hd s'.n) _ _ ((l1.trans l').trans lo) go (.hd (Nat.lt_succ_self _)) (by rw [open_mu]; exact q'.2 ys e1 e2 e3 e4 s'.n (mu_n g'))
    rw [ek] at this
    exact this
variable {X : Cx} {elt tg iter : Expr} {ifs : List Expr} {scope : Scope} {own : List (Str × Nat)} {p pos cpos : Pos} {it : DTI} {gg : TG} {g : DTG} {dt : DTT} {db : DTE}
theorem de_sortSetH (hc : X.calm = true) (hN : X.N.Nodup) (hgl : Gl X "sorted") (hmm : X.mg "sorted" = none) (hi : DI cl s0 X tg iter it) (ok : BlkOk X.N X.env.scope scope own)
    (hg : ∀ s H C c fp, PG (BCx X scope s H C c fp) tg gg) (hge : EvG cl s0 gg g) (hgo : OwnG (own.map (·.2)) gg)
    (ht : ∀ s H C c fp, DTs cl s0 (BCx X scope s H C c fp) ifs dt) (he : ∀ s H C c fp, DE cl s0 (BCx X scope s H C c fp) elt db) (hs : ∀ x, foldedSetIterable iter X.env x = pure x := by intro _; rfl)
    (hst : starEach [(.SetComp elt [⟨tg, iter, ifs, 0⟩] scope cpos : Expr)] X.env = (false, eval (.SetComp elt [⟨tg, iter, ifs, 0⟩] scope cpos) X.env) :: starEach [] X.env := by rfl) (hpl : (backTo pos (starEach [] X.env)).any (·.1) = false := by rfl) :
    DE cl s0 X (.Call (.Name "sorted" p) [.SetComp elt [⟨tg, iter, ifs, 0⟩] scope cpos] [] pos) (dSortSetH it g dt db (own.map (·.2))) :=
  let ⟨_, pp, v⟩ := hi
  ⟨_, pe_callB (cr_sortT hc) hgl hmm (by decide +kernel) (pa_cons (pe_setT hc hN pp ok hg (pt_any ht) (pe_any he) hs) pa_nil hst) (by decide) (by decide) hst hpl, ev_sortSetH v hge hgo evt_any ev_any⟩
variable {e : Expr} {ta : DTE}
theorem ds_retO (h : DE cl s0 X e ta) : DS cl s0 X (.Return (some e) pos) (dRetO ta) :=
  let ⟨_, p, v⟩ := h; ⟨_, ps_ret p, ⟨fun s σ r De T g w l q k => v.run s σ r _ _ g w l q fun d x s1 l1 g1 rx q1 => by
    rcases q1 with q1 | q1
    · exact k.rt s1 d _ l1 g1 rx q1
    unfold closeD at q1
    split at q1
    · obtain ⟨xs, hk, q1⟩ := lst_to q1
      cases rx
      obtain ⟨hal, hvis⟩ := Sn.mu_al hk
      obtain ⟨vs, h1, r1⟩ := g1.ct _ _ hal
      exact k.rt (s1.close _) (.lst xs) _ (l1.trans (Le.close hvis)) (g1.close hvis) (.lst (close_not_M g1 hal) h1 (r1.mono (Le.close hvis))) (by rw [close_mu]; exact q1)
    · exact q1.elim⟩⟩
end
/-! ## texts of data with lists in handles, no dicts -/
mutual
inductive DpN (H : Hp) : V → PyData → Prop
  | sc {x : V} {p : PyData} : toPyV x = some p → DpN H x p
  | lst {a : Addr} {xs : List V} {ps : List PyData} : H a = some (.lst xs) → DpNs H xs ps → DpN H (.ref a) (.list ps)
  | tup {a : Addr} {xs : List V} {ps : List PyData} : H a = some (.tup xs) → DpNs H xs ps → DpN H (.ref a) (.tuple ps)
inductive DpNs (H : Hp) : List V → List PyData → Prop
  | nil : DpNs H [] []
  | cons {x : V} {xs : List V} {p : PyData} {ps : List PyData} : DpN H x p → DpNs H xs ps → DpNs H (x :: xs) (p :: ps)
end
section
variable {X : Cx} {pins : List (Addr × Obj)} {σ : L2.St} {H : Hp} {s : Shared}
mutual
theorem DpN.reads (I : Inv X pins σ H s) : ∀ {v : V} {p : PyData} {u : Value}, DpN H v p → RelV v u → ∃ as, Reads s.heap u p as
  | _, _, _, .sc h, r => ⟨_, reads_sc h r⟩
  | _, _, u, .lst (a := a) h t, r => by
    cases (show u = .ref a from r)
    obtain ⟨_, its, n, rv, ho⟩ := (I.hok a _ h : ObjOk _ _ _ _ _ _)
    obtain ⟨as, h1⟩ := DpNs.reads I t rv
    exact ⟨_, Reads.list ho rfl rfl (by simpa using h1)⟩
  | _, _, u, .tup (a := a) h t, r => by
    cases (show u = .ref a from r)
    obtain ⟨_, its, rv, o, ho, hc, n, hd⟩ := (I.hok a _ h : ObjOk _ _ _ _ _ _)
    obtain ⟨as, h1⟩ := DpNs.reads I t rv
    exact ⟨_, Reads.tuple ho hc hd (by simpa using h1)⟩
theorem DpNs.reads (I : Inv X pins σ H s) : ∀ {vs : List V} {ps : List PyData} {us : List Value}, DpNs H vs ps → Vals vs us → ∃ as, ReadsAll s.heap us ps as
  | _, _, _, .nil, .nil => ⟨_, .nil⟩
  | _, _, _, .cons h t, .cons r rs => by
    obtain ⟨as, h1⟩ := DpN.reads I h r
    obtain ⟨bs, h3⟩ := DpNs.reads I t rs
    exact ⟨_, .cons h1 h3⟩
end
def rShowN : List V → Hp → VK → Prop := fun xs H Q => ∃ a p, xs = [V.ref a] ∧ DpN H (.ref a) p ∧ Showable p ∧ Q (.str p.shown) H
theorem call_showN {X : Cx} (hgd : X.A.guards = some []) (hr : Room 0 X.A) : CallR X (.builtin "repr") rShowN := by
  intro pins s σ H xs us Q I r h
  obtain ⟨a, p, rfl, hd, sh, q⟩ := h
  obtain ⟨u, rfl, ru⟩ := r.one
  cases (show u = Value.ref a from ru)
  obtain ⟨as, rd⟩ := DpN.reads I hd ru
  refine repr_of_reads' rd sh.s (PyData.noDict_hsm sh.d) hgd ?_ (fun _ _ e => e) (fun h' t tk hk => ⟨.str p.shown, H, I.kept hk, ⟨t, rfl⟩, q⟩) sh.z
  have := hr.un
  have := sh.h
  omega
end
mutual
inductive PyN (m : Mu) : D → PyData → Prop
  | v {x : V} {p : PyData} : toPyV x = some p → PyN m (.v x) p
  | lst {xs : List D} {ps : List PyData} : PyNs m xs ps → PyN m (.lst xs) (.list ps)
  | tup {xs : List D} {ps : List PyData} : PyNs m xs ps → PyN m (.tup xs) (.tuple ps)
  | hd {k : Nat} {xs : List D} {ps : List PyData} : m k = some (.lst xs) → PyNs m xs ps → PyN m (.hd k) (.list ps)
inductive PyNs (m : Mu) : List D → List PyData → Prop
  | nil : PyNs m [] []
  | cons {x : D} {xs : List D} {p : PyData} {ps : List PyData} : PyN m x p → PyNs m xs ps → PyNs m (x :: xs) (p :: ps)
end
mutual
theorem PyOf.n {m : Mu} : ∀ {d : D} {p : PyData}, PyOf d p → PyN m d p
  | _, _, .v h => .v h
  | _, _, .lst h => .lst (PyOfs.n h)
  | _, _, .tup h => .tup (PyOfs.n h)
theorem PyOfs.n {m : Mu} : ∀ {ds : List D} {ps : List PyData}, PyOfs ds ps → PyNs m ds ps
  | _, _, .nil => .nil
  | _, _, .cons h t => .cons (PyOf.n h) (PyOfs.n t)
end
section
variable {cl : Nat → Addr} {s : Sn}
mutual
theorem PyN.dp (g : Good cl s) : ∀ {d : D} {v : V} {p : PyData}, PyN s.mu d p → Rep cl s d v → DpN s.H v p
  | _, _, _, .v h, .v _ => .sc h
  | _, _, _, .lst h, .lst _ h1 r => .lst h1 (PyNs.dp g h r)
  | _, _, _, .tup h, .tup _ h1 r => .tup h1 (PyNs.dp g h r)
  | _, _, _, .hd e h, .hd _ => by
    obtain ⟨vs, h1, r⟩ := g.ct _ _ (Sn.mu_al e).1
    exact .lst h1 (PyNs.dp g h r)
theorem PyNs.dp (g : Good cl s) : ∀ {ds : List D} {vs : List V} {ps : List PyData}, PyNs s.mu ds ps → Reps cl s ds vs → DpNs s.H vs ps
  | _, _, _, .nil, .nil => .nil
  | _, _, _, .cons h t, .cons h1 r => .cons (PyN.dp g h h1) (PyNs.dp g t r)
end
end
inductive ShwN (m : Mu) (d : D) (k : Str → Prop) : Prop
  | mk (p : PyData) : PyN m d p → Showable p → k p.shown → ShwN m d k
inductive ShnA (ds : List D) (m : Mu) (Φ : DK) : Prop
  | mk (d : D) : ds = [d] → (∀ x, d ≠ .v x) → ShwN m d (fun z => Φ (.v (.str z)) m) → ShnA ds m Φ
theorem cad_showN {cl : Nat → Addr} : CaD cl rShowN ShnA := fun s xs ds Φ Q g r h k => by
  cases h with
  | mk d e hne h =>
    subst e
    cases h with
    | mk p h1 h2 h3 =>
      cases r with
      | cons r1 r2 =>
        cases r2
        have dp := h1.dp g r1
        obtain ⟨a, rfl⟩ := rep_ref r1 hne
        exact ⟨a, p, rfl, dp, h2, k _ _ s (Le.refl s) g (.v _) h3⟩
section
variable {cl : Nat → Addr} {s0 : Sn} {X : Cx} {e : Expr} {es : List Expr} {tds : DTA} {pos p : Pos}
theorem de_reprN (hgd : X.A.guards = some []) (hr : Room 0 X.A) (hg : Gl X "repr") (hm : X.mg "repr" = none) (ha : DA cl s0 X (e :: es) tds) (he : starEach (e :: es) X.env = (false, eval e X.env) :: starEach es X.env := by rfl) (hpl : (backTo pos (starEach es X.env)).any (·.1) = false := by rfl) :
    DE cl s0 X (.Call (.Name "repr" p) (e :: es) [] pos) (dCa ShnA tds) := de_callB (call_showN hgd hr) cad_showN hg hm (by decide +kernel) ha (by decide) (by decide) he hpl
end
end ER

namespace ER
open PySem PySem.Spec PyProof.Rows PySem.SeqAt L2
/-! ## x == y, x of an own class, y of a built-in type -/
def rOwnE2 (K : PySem.W.Frag) (C : Addr) (sp : Sp) (E : XK) (neg : Bool) : R2 := fun x y H Q => ∃ a dx fs T, x = .ref a ∧ H a = some (.ins C dx fs) ∧ TyX K H y (.type T) ∧ PySem.W.notFirst K C (.type T) = true ∧ sp [x, y] H (fun v H' => ∃ k, v = .bl k ∧ Q (.bl (if neg = true then !k else k)) H') E
section
variable {X : Cx} {CX : CXT} {n : Nat} {f C : Addr} {fd : FuncData} {ps : List Str} {sp : Sp} {E : XK}
theorem op_ownEq2 (O : OwnE X.K C f) (F : FnOk X.prog X.w X.K X.mg X.base CX n f fd ps sp) (hr : Room n X.A) (hb : Binds X.K fd ps []) (hx : Passes CX X E) : OpR X (compareOp .Eq) (rOwnE2 X.K C sp E false) := by
  intro pins s σ H x y v u Q I rx ry h
  obtain ⟨a, dx, fs, T, rfl, ea, ty, nf, q⟩ := h
  cases (show v = Value.ref a from rx)
  obtain ⟨od, J⟩ := inst_of I ea
  obtain ⟨m, hF⟩ := I.fr
  obtain ⟨PP, Z, pp, hx0⟩ := kit_of I ry ty
  show wpAny (model X.prog X.w) X.A (richCompare .Eq (.ref a) u) (EP X pins σ Q) X.xe s
  refine PySem.W.cmp_K (op := .Eq) (tb := .type T) hr.units0 hF I.ok.mod.kin J (Z.ty _ _ I.kIn pp) nf O.s O.fn ?_
  refine wpAny_mono (own_run (us := [.ref a, u]) (vs := [.ref a, y]) ⟨hr, rfl⟩ F hb hx I (.cons rfl (.cons ry .nil)) q) (fun w s' z => ?_) fun _ _ x => x
  obtain ⟨z', H', I', rz, k, rfl, qz⟩ := z
  cases (show w = Value.bool k from rz)
  exact ⟨.bl k, H', I', rfl, qz⟩
theorem op_ownNe2 (O : OwnE X.K C f) (F : FnOk X.prog X.w X.K X.mg X.base CX n f fd ps sp) (hr : Room (n + 1) X.A) (hb : Binds X.K fd ps []) (hx : Passes CX X E) (hu : X.A.units + 1 < cLine) : OpR X (compareOp .NotEq) (rOwnE2 X.K C sp E true) := by
  intro pins s σ H x y v u Q I rx ry h
  obtain ⟨a, dx, fs, T, rfl, ea, ty, nf, q⟩ := h
  cases (show v = Value.ref a from rx)
  obtain ⟨od, J⟩ := inst_of I ea
  obtain ⟨m, hF⟩ := I.fr
  obtain ⟨PP, Z, pp, hx0⟩ := kit_of I ry ty
  show wpAny (model X.prog X.w) X.A (richCompare .NotEq (.ref a) u) (EP X pins σ Q) X.xe s
  refine cmpNe_K (tb := .type T) hu hF I.ok.mod.kin J (Z.ty _ _ I.kIn pp) nf O.m O.ne O.s O.fn ?_
  have sb : Sub X n X.A.in1 := (show Sub X (n + 1) X.A from ⟨hr, rfl⟩).in1
  refine wpAny_mono (own_run (us := [.ref a, u]) (vs := [.ref a, y]) sb F hb hx I (.cons rfl (.cons ry .nil)) q) (fun w s' z => ?_) fun _ _ x => x
  obtain ⟨z', H', I', rz, k, rfl, qz⟩ := z
  cases (show w = Value.bool k from rz)
  exact ⟨k, rfl, .bl (!k), H', I', rfl, qz⟩
end
theorem not_first {K : PySem.W.Frag} {C : Addr} {T : String} (h : PySem.W.kitOne K (.type T) (.ref C) = some false) : PySem.W.notFirst K C (.type T) = true := by
  unfold PySem.W.kitOne at h
  split at h
  · cases h
  · unfold PySem.W.kitCls at h
    dsimp only at h
    split at h
    · unfold PySem.W.notFirst
      rw [h]
      simp
    · cases h
def ownED2 (c : Nat) (F : DFn) (neg : Bool) (x y : D) (m : Mu) (Φ : DK) : Prop := match x, y with
  | .obj c1 ns xs, .obj c2 ns2 xs2 => (c1 = c ∧ c2 = c) ∧ Go F [.obj c1 ns xs, .obj c2 ns2 xs2] m (fun v m' => boolD v m' fun k m' => Φ (.v (.bl (if neg = true then !k else k))) m') noX
  | .obj c1 ns xs, y => (c1 = c) ∧ Sm (tyD y m) fun _ => Go F [.obj c1 ns xs, y] m (fun v m' => boolD v m' fun k m' => Φ (.v (.bl (if neg = true then !k else k))) m') noX
  | x, y => eqD neg x y m Φ
section
variable {cl : Nat → Addr} {s0 : Sn} {X : Cx} {a b : Expr} {ta tb : DTE} {pos : Pos} {c k : Nat} {F : DFn} {neg : Bool}
theorem opd_ownE2 {r : R2} (T : IsC X.K (cl c)) (h : OpD cl r (eqD neg)) : OpD cl (fun x y H Q => rOwnE (cl c) (spD cl 2 F) E0 neg x y H Q ∨ rOwnE2 X.K (cl c) (spD cl 2 F) E0 neg x y H Q ∨ r x y H Q) (ownED2 c F neg) := fun s x y dx dy Φ Q g rx ry q k => by
  unfold ownED2 at q
  split at q
  · obtain ⟨⟨rfl, rfl⟩, q⟩ := q
    have rx0 := rx
    have ry0 := ry
    cases rx with
    | obj n1 h1 z1 r1 => cases ry with
      | obj n2 h2 z2 r2 =>
        refine .inl ⟨_, _, _, _, _, _, rfl, h1, rfl, h2, s, _, _, noX, rfl, g, .cons rx0 (.cons ry0 .nil), rfl, q.un, fun d v s' l' g' rd qd => ?_, fun _ _ _ _ _ _ _ _ z => z.elim⟩
        obtain ⟨kk, rfl, qd⟩ := boolD_to qd
        cases rd
        exact ⟨kk, rfl, k _ _ s' l' g' (.v _) qd⟩
  · obtain ⟨rfl, q⟩ := q
    obtain ⟨ty, et, q⟩ := q.to
    have hm : ty.nm ∈ ["NoneType", "bool", "int", "str", "list", "tuple", "dict"] := by clear et q; cases ty <;> decide
    have rx0 := rx
    cases rx with
    | obj n1 h1 z1 r1 =>
      have nf : PySem.W.notFirst X.K (cl _) (.type ty.nm) = true := not_first (T.no _ hm)
      refine .inr (.inl ⟨_, _, _, _, rfl, h1, ty_at g ry et, nf, s, _, _, noX, rfl, g, .cons rx0 (.cons ry .nil), rfl, q.un, fun d v s' l' g' rd qd => ?_, fun _ _ _ _ _ _ _ _ z => z.elim⟩)
      obtain ⟨kk, rfl, qd⟩ := boolD_to qd
      cases rd
      exact ⟨kk, rfl, k _ _ s' l' g' (.v _) qd⟩
  · exact .inr (.inr (h s x y dx dy Φ Q g rx ry q k))
theorem de_eqOwn2 (T : IsC X.K (cl c)) (S : EqOk X.prog X.w X.K X.mg X.base cl c k F) (hr : Room (k + 1) X.A) (hu : X.A.units + 64 < cLine) (ha : DE cl s0 X a ta) (hb : DE cl s0 X b tb) : DE cl s0 X (.Compare a [.Eq] [b] pos) (dOp (ownED2 c F false) ta tb) :=
  let ⟨_, _, O, G, hbd⟩ := S.is
  de_cmp (OpR.or (op_ownEq O G (hr.mono (Nat.le_succ _)) hbd passL) (OpR.or (op_ownEq2 O G (hr.mono (Nat.le_succ _)) hbd passL) (OpR.or op_eq (op_eqD hu)))) (opd_ownE2 T (opd_eq (K := X.K))) ha hb (nomark _)
theorem de_neOwn2 (T : IsC X.K (cl c)) (S : EqOk X.prog X.w X.K X.mg X.base cl c k F) (hr : Room (k + 1) X.A) (hu : X.A.units + 64 < cLine) (ha : DE cl s0 X a ta) (hb : DE cl s0 X b tb) : DE cl s0 X (.Compare a [.NotEq] [b] pos) (dOp (ownED2 c F true) ta tb) :=
  let ⟨_, _, O, G, hbd⟩ := S.is
  de_cmp (OpR.or (op_ownNe O G hr hbd passL (by omega)) (OpR.or (op_ownNe2 O G hr hbd passL (by omega)) (OpR.or op_ne (op_neD hu)))) (opd_ownE2 T (opd_ne (K := X.K))) ha hb (nomark _)
end
end ER

namespace ER
open PySem PySem.Spec PyProof.Rows PySem.SeqAt L2
/-! ## x == y, x of a built-in type, y of an own class: x declines -/
section
variable {M : Model} {A : Around} {E : Value → Shared → Prop} {s : Shared} {K : PySem.W.Frag} {a C : Addr} {ox : Obj} {od : Option Obj}
theorem own_isInst {T : String} (X : K.In s.heap) (I : PySem.W.InstAt s.heap a ox C od) (h : PySem.W.subIn K (.ref C) (.type T) = some false) {Q : Bool → Shared → Prop} (q : Q false s) : wpAny M A (isInstance (.ref a) (.type T)) Q E s := by
  unfold isInstance
  exact wpAny_bind (I.type.here ((PySem.W.looks_subIn X h).here q))
theorem dec_list_eq {l : Addr} {Q : Fin → Shared → Prop} (X : K.In s.heap) (I : PySem.W.InstAt s.heap a ox C od) (h : PySem.W.subIn K (.ref C) (.type "list") = some false) (q : Q (.done (.ret .notImplemented)) s) : wpAny M A (Builtin.«list.__eq__» ⟨[.ref l, .ref a], []⟩) Q E s := by
  obtain ⟨hp, g, d, tk, os⟩ := s
  wp_walk using own_isInst X I h
  exact q
theorem dec_list_ne {l : Addr} {Q : Fin → Shared → Prop} (X : K.In s.heap) (I : PySem.W.InstAt s.heap a ox C od) (h : PySem.W.subIn K (.ref C) (.type "list") = some false) (q : Q (.done (.ret .notImplemented)) s) : wpAny M A (Builtin.«list.__ne__» ⟨[.ref l, .ref a], []⟩) Q E s := by
  obtain ⟨hp, g, d, tk, os⟩ := s
  wp_walk using own_isInst X I h
  exact q
theorem dec_tuple_eq {l : Addr} {Q : Fin → Shared → Prop} (X : K.In s.heap) (I : PySem.W.InstAt s.heap a ox C od) (h : PySem.W.subIn K (.ref C) (.type "tuple") = some false) (q : Q (.done (.ret .notImplemented)) s) : wpAny M A (Builtin.«tuple.__eq__» ⟨[.ref l, .ref a], []⟩) Q E s := by
  obtain ⟨hp, g, d, tk, os⟩ := s
  wp_walk using own_isInst X I h
  exact q
theorem dec_tuple_ne {l : Addr} {Q : Fin → Shared → Prop} (X : K.In s.heap) (I : PySem.W.InstAt s.heap a ox C od) (h : PySem.W.subIn K (.ref C) (.type "tuple") = some false) (q : Q (.done (.ret .notImplemented)) s) : wpAny M A (Builtin.«tuple.__ne__» ⟨[.ref l, .ref a], []⟩) Q E s := by
  obtain ⟨hp, g, d, tk, os⟩ := s
  wp_walk using own_isInst X I h
  exact q
theorem dec_dict_eq {l : Addr} {Q : Fin → Shared → Prop} {ob : Obj} (ho : s.heap.get? l = some ob) (hc : ob.cls = .type "dict") (X : K.In s.heap) (I : PySem.W.InstAt s.heap a ox C od) (h : PySem.W.subIn K (.ref C) (.type "dict") = some false) (q : Q (.done (.ret .notImplemented)) s) : wpAny M A (Builtin.«dict.__eq__» ⟨[.ref l, .ref a], []⟩) Q E s := by
  have hd := F.sub_dict_dict
  obtain ⟨hp, g, d, tk, os⟩ := s
  obtain ⟨oc, od2, odt, osl⟩ := ob
  simp only at hc
  subst hc
  wp_walk using own_isInst X I h, wpAny_loadPart' ho
  exact q
theorem dec_dict_ne {l : Addr} {Q : Fin → Shared → Prop} {ob : Obj} (ho : s.heap.get? l = some ob) (hc : ob.cls = .type "dict") (X : K.In s.heap) (I : PySem.W.InstAt s.heap a ox C od) (h : PySem.W.subIn K (.ref C) (.type "dict") = some false) (q : Q (.done (.ret .notImplemented)) s) : wpAny M A (Builtin.«dict.__ne__» ⟨[.ref l, .ref a], []⟩) Q E s := by
  have hd := F.sub_dict_dict
  obtain ⟨hp, g, d, tk, os⟩ := s
  obtain ⟨oc, od2, odt, osl⟩ := ob
  simp only at hc
  subst hc
  wp_walk using own_isInst X I h, wpAny_loadPart' ho
  exact q
theorem dec_int_eq {i : Int} {t : Tok} {dx : Addr} {Q : Fin → Shared → Prop} (ho : s.heap.get? a = some (PySem.W.instObj C dx)) (q : Q (.done (.ret .notImplemented)) s) : wpAny M A (Builtin.«int.__eq__» ⟨[.int i t, .ref a], []⟩) Q E s := by
  obtain ⟨hp, g, d, tk, os⟩ := s
  wp_walk using wpAny_loadPart' ho, wpAny_load ho
  exact q
theorem dec_str_eq {z : Str} {t : Tok} {dx : Addr} {Q : Fin → Shared → Prop} (ho : s.heap.get? a = some (PySem.W.instObj C dx)) (q : Q (.done (.ret .notImplemented)) s) : wpAny M A (Builtin.«str.__eq__» ⟨[.str z t, .ref a], []⟩) Q E s := by
  obtain ⟨hp, g, d, tk, os⟩ := s
  wp_walk using wpAny_loadPart' ho, wpAny_load ho
  exact q
theorem dec_none_eq {Q : Fin → Shared → Prop} (q : Q (.done (.ret .notImplemented)) s) : wpAny M A (Builtin.«NoneType.__eq__» ⟨[.none, .ref a], []⟩) Q E s := by
  obtain ⟨hp, g, d, tk, os⟩ := s
  wp_walk
  exact q
theorem dec_int_ne {i : Int} {t : Tok} {dx : Addr} {Q : Fin → Shared → Prop} (ho : s.heap.get? a = some (PySem.W.instObj C dx)) (q : Q (.done (.ret .notImplemented)) s) : wpAny M A (Builtin.«int.__ne__» ⟨[.int i t, .ref a], []⟩) Q E s := by
  obtain ⟨hp, g, d, tk, os⟩ := s
  wp_walk using wpAny_loadPart' ho, wpAny_load ho
  exact q
theorem dec_str_ne {z : Str} {t : Tok} {dx : Addr} {Q : Fin → Shared → Prop} (ho : s.heap.get? a = some (PySem.W.instObj C dx)) (q : Q (.done (.ret .notImplemented)) s) : wpAny M A (Builtin.«str.__ne__» ⟨[.str z t, .ref a], []⟩) Q E s := by
  obtain ⟨hp, g, d, tk, os⟩ := s
  wp_walk using wpAny_loadPart' ho, wpAny_load ho
  exact q
theorem dec_none_ne {Q : Fin → Shared → Prop} (q : Q (.done (.ret .notImplemented)) s) : wpAny M A (Builtin.«NoneType.__ne__» ⟨[.none, .ref a], []⟩) Q E s := by
  obtain ⟨hp, g, d, tk, os⟩ := s
  wp_walk
  exact q
end
end ER
namespace ER
open PySem PySem.Spec PyProof.Rows PySem.SeqAt L2
section
variable {prog : Program} {w : World} {A : Around} {E : Value → Shared → Prop} {s : Shared} {K : PySem.W.Frag} {a C f L : Addr} {ox : Obj} {od : Option Obj} {h₀ : Heap} {m : Str → Option Value}
/-- u, of type T, says of the instance at a that it knows it not -/
structure DecK (prog : Program) (w : World) (s : Shared) (u : Value) (a : Addr) (T : String) : Prop where
  ty : s.TypeIs u T
  eq : ∃ id, Slot T (cmpInfo .Eq).2.1 id ∧ ∀ (A : Around) (E : Value → Shared → Prop) (Q : Value → Shared → Prop), Q .notImplemented s → wpAny (model prog w) A (call (.builtin id) [u, .ref a]) Q E s
  ne : ∃ id, Slot T (cmpInfo .NotEq).2.1 id ∧ ∀ (A : Around) (E : Value → Shared → Prop) (Q : Value → Shared → Prop), Q .notImplemented s → wpAny (model prog w) A (call (.builtin id) [u, .ref a]) Q E s
theorem own_tryEq {u : Value} {Q : Value → Shared → Prop} (X : K.In s.heap) (I : PySem.W.InstAt s.heap a ox C od) (hs : PySem.W.findIn K (.ref C) "__eq__" = some (some (.ref f))) (hf : PySem.W.isFn K (.ref f) = true)
    (h : wpAny (model prog w) A (call (.ref f) [.ref a, u]) (fun v s' => ∃ k, v = .bool k ∧ Q (.bool k) s') E s) : wpAny (model prog w) A (tryCompare (.ref a) "__eq__" u) (fun r s' => ∃ v, r = some v ∧ Q v s') E s := by
  unfold tryCompare
  refine wpAny_bind (PySem.W.ifBound_K X I hs hf (wpAny_mono h (fun v s' hv => ?_) fun _ _ e => e))
  obtain ⟨k, rfl, hq⟩ := hv
  exact wpAny_pure ⟨_, rfl, hq⟩
theorem own_tryNe {u : Value} {Q : Value → Shared → Prop} (hu : A.units + 1 < cLine) (X : K.In s.heap) (I : PySem.W.InstAt s.heap a ox C od) (hm : PySem.W.mroIn K C (.type "object") = some true) (hne : PySem.W.findIn K (.ref C) "__ne__" = some (some (.builtin "object.__ne__")))
    (hs : PySem.W.findIn K (.ref C) "__eq__" = some (some (.ref f))) (hf : PySem.W.isFn K (.ref f) = true)
    (h : wpAny (model prog w) A.in1 (call (.ref f) [.ref a, u]) (fun v s' => ∃ k, v = .bool k ∧ Q (.bool (!k)) s') E s) : wpAny (model prog w) A (tryCompare (.ref a) "__ne__" u) (fun r s' => ∃ v, r = some v ∧ Q v s') E s := by
  unfold tryCompare
  refine wpAny_bind (ifBound_ne X I hne (wpAny_call (codeAny_call_builtin F.cmp_object.ne.plain F.cmpEntry_ne (PySem.W.check_slot F.cmpKind_ne F.cmpSplit_ne (I.type.andThen (PySem.W.looks_mroIn X hm)) (F.cmpArgs_ne _ _)
    (ne_entry (A := A.in1) X I hs hf hu (wpAny_mono h (fun v s' hv => ?_) fun _ _ e => e))))))
  obtain ⟨k, rfl, hq⟩ := hv
  first | exact ⟨k, rfl, wpAny_pure ⟨_, rfl, hq⟩⟩ | exact ⟨k, rfl, wpAny_pure (wpAny_pure ⟨_, rfl, hq⟩)⟩
theorem rev_cmp {op : CmpOp} {nm : Str} {u : Value} {T id : String} {Q : Value → Shared → Prop} (hi : ∃ sy, cmpInfo op = (sy, nm, nm)) (hT : s.TypeIs u T) (hs : Slot T nm id) (hc : ∀ (Q : Value → Shared → Prop), Q .notImplemented s → wpAny (model prog w) A (call (.builtin id) [u, .ref a]) Q E s)
    (hu : A.units < cLine) (X : K.In s.heap) (I : PySem.W.InstAt s.heap a ox C od) (sub : PySem.W.subIn K (.ref C) (.type T) = some false)
    (own : wpAny (model prog w) A (tryCompare (.ref a) nm u) (fun r s' => ∃ v, r = some v ∧ Q v s') E s) : wpAny (model prog w) A (richCompare op u (.ref a)) Q E s := by
  obtain ⟨sy, hi⟩ := hi
  have ne : (Value.type T != Value.ref C) = true := rfl
  simp only [richCompare, hi, hT.oneThing_none]
  refine wpAny_holding ?_
  refine wpAny_bind (wpAny_cRoomFor hu ?_)
  refine wpAny_bind (wpAny_typeOf hT (wpAny_bind (I.type.here ?_)))
  simp only [ne, if_true]
  refine wpAny_bind ((PySem.W.looks_subIn X sub).here ?_)
  simp only [Bool.false_eq_true, if_false, Bool.not_false, if_true]
  refine wpAny_bind (m := tryCompare u nm (.ref a)) (wpAny_tryCompare_declines hT hs (hc _ ⟨rfl, ?_⟩))
  refine wpAny_bind (m := tryCompare (.ref a) nm u) (wpAny_mono own (fun r s' z => ?_) fun _ _ e => e)
  obtain ⟨v, rfl, hq⟩ := z
  exact wpAny_pure hq
end
end ER

namespace ER
open PySem PySem.Spec PyProof.Rows PySem.SeqAt L2
/-- no subclass of what is built in -/
structure RevC (K : PySem.W.Frag) (C : Addr) : Prop where
  no : ∀ T ∈ ["NoneType", "int", "str", "list", "tuple", "dict"], PySem.W.subIn K (.ref C) (.type T) = some false
inductive RevX (H : Hp) : V → Ty → Prop
  | non : RevX H .non .non
  | int (i : Int) : RevX H (.int i) .int
  | str (z : Str) : RevX H (.str z) .str
  | lst {a : Addr} {xs : List V} : H a = some (.lst xs) → RevX H (.ref a) .lst
  | frz {a : Addr} {o : Obj} {xs : List V} : H a = some (.frz o (.lst xs)) → RevX H (.ref a) .lst
  | tup {a : Addr} {xs : List V} : H a = some (.tup xs) → RevX H (.ref a) .tup
  | dct {a : Addr} {kvs : List (Key × V)} : H a = some (.dK kvs) → RevX H (.ref a) .dct
theorem RevX.mem {H : Hp} {x : V} {t : Ty} (r : RevX H x t) : t.nm ∈ ["NoneType", "int", "str", "list", "tuple", "dict"] := by
  cases r <;> decide
section
variable {X : Cx} {pins : List (Addr × Obj)} {σ : L2.St} {H : Hp} {s : Shared} {a b C : Addr} {dy : Addr} {gs : List (Str × V)} {od : Option Obj}
theorem deck_of {x : V} {u : Value} {t : Ty} (I : Inv X pins σ H s) (rx : RelV x u) (r : RevX H x t) (ho : s.heap.get? b = some (PySem.W.instObj C dy)) (J : PySem.W.InstAt s.heap b (PySem.W.instObj C dy) C od) (rc : RevC X.K C) : DecK X.prog X.w s u b t.nm := by
  have sub := rc.no
  cases r with
  | non =>
    cases (show u = Value.none from rx)
    exact ⟨typeIs_none s, ⟨_, F.slot_NoneType_eq, fun A E Q q => wpAny_call_entry F.slot_NoneType_eq (typeIs_none s) F.entry_NoneType_eq (dec_none_eq ⟨_, rfl, q⟩) (F.args_NoneType_eq_2 _ _)⟩,
      ⟨_, F.slot_NoneType_ne, fun A E Q q => wpAny_call_entry F.slot_NoneType_ne (typeIs_none s) F.entry_NoneType_ne (dec_none_ne ⟨_, rfl, q⟩) (F.args_NoneType_ne_2 _ _)⟩⟩
  | int i =>
    obtain ⟨tk, rfl⟩ := (show ∃ t, u = Value.int i t from rx)
    exact ⟨typeIs_int s i tk, ⟨_, F.slot_int_eq, fun A E Q q => wpAny_call_entry F.slot_int_eq (typeIs_int s i tk) F.entry_int_eq (dec_int_eq ho ⟨_, rfl, q⟩) (F.args_int_eq_2 _ _)⟩,
      ⟨_, F.slot_int_ne, fun A E Q q => wpAny_call_entry F.slot_int_ne (typeIs_int s i tk) F.entry_int_ne (dec_int_ne ho ⟨_, rfl, q⟩) (F.args_int_ne_2 _ _)⟩⟩
  | str z =>
    obtain ⟨tk, rfl⟩ := (show ∃ t, u = Value.str z t from rx)
    exact ⟨typeIs_str s z tk, ⟨_, F.slot_str_eq, fun A E Q q => wpAny_call_entry F.slot_str_eq (typeIs_str s z tk) F.entry_str_eq (dec_str_eq ho ⟨_, rfl, q⟩) (F.args_str_eq_2 _ _)⟩,
      ⟨_, F.slot_str_ne, fun A E Q q => wpAny_call_entry F.slot_str_ne (typeIs_str s z tk) F.entry_str_ne (dec_str_ne ho ⟨_, rfl, q⟩) (F.args_str_ne_2 _ _)⟩⟩
  | @lst l xs ea =>
    cases (show u = Value.ref l from rx)
    obtain ⟨_, its, n, _, h1⟩ := (show ObjOk X.prog X.w H s.heap l (.lst xs) from I.hok l _ ea)
    have ty : s.TypeIs (.ref l) "list" := ⟨_, h1, rfl⟩
    exact ⟨ty, ⟨_, F.slot_list_eq, fun A E Q q => wpAny_call_entry F.slot_list_eq ty F.entry_list_eq (dec_list_eq I.kIn J (sub _ (by decide)) ⟨_, rfl, q⟩) (F.args_list_eq_2 _ _)⟩,
      ⟨_, F.slot_list_ne, fun A E Q q => wpAny_call_entry F.slot_list_ne ty F.entry_list_ne (dec_list_ne I.kIn J (sub _ (by decide)) ⟨_, rfl, q⟩) (F.args_list_ne_2 _ _)⟩⟩
  | @frz l ob xs ea =>
    cases (show u = Value.ref l from rx)
    obtain ⟨_, _, its, n, _, h1⟩ := (show ObjOk X.prog X.w H s.heap l (.frz ob (.lst xs)) from I.hok l _ ea)
    have ty : s.TypeIs (.ref l) "list" := ⟨_, h1, rfl⟩
    exact ⟨ty, ⟨_, F.slot_list_eq, fun A E Q q => wpAny_call_entry F.slot_list_eq ty F.entry_list_eq (dec_list_eq I.kIn J (sub _ (by decide)) ⟨_, rfl, q⟩) (F.args_list_eq_2 _ _)⟩,
      ⟨_, F.slot_list_ne, fun A E Q q => wpAny_call_entry F.slot_list_ne ty F.entry_list_ne (dec_list_ne I.kIn J (sub _ (by decide)) ⟨_, rfl, q⟩) (F.args_list_ne_2 _ _)⟩⟩
  | @tup l xs ea =>
    cases (show u = Value.ref l from rx)
    obtain ⟨_, its, _, o, h1, h2, _⟩ := (show ObjOk X.prog X.w H s.heap l (.tup xs) from I.hok l _ ea)
    have ty : s.TypeIs (.ref l) "tuple" := ⟨_, h1, h2⟩
    exact ⟨ty, ⟨_, F.slot_tuple_eq, fun A E Q q => wpAny_call_entry F.slot_tuple_eq ty F.entry_tuple_eq (dec_tuple_eq I.kIn J (sub _ (by decide)) ⟨_, rfl, q⟩) (F.args_tuple_eq_2 _ _)⟩,
      ⟨_, F.slot_tuple_ne, fun A E Q q => wpAny_call_entry F.slot_tuple_ne ty F.entry_tuple_ne (dec_tuple_ne I.kIn J (sub _ (by decide)) ⟨_, rfl, q⟩) (F.args_tuple_ne_2 _ _)⟩⟩
  | @dct l kvs ea =>
    cases (show u = Value.ref l from rx)
    obtain ⟨_, _, vs, _, o, es, ep, h1, h2, _⟩ := (show ObjOk X.prog X.w H s.heap l (.dK kvs) from I.hok l _ ea)
    have ty : s.TypeIs (.ref l) "dict" := ⟨_, h1, h2.1⟩
    exact ⟨ty, ⟨_, F.slot_dict_eq, fun A E Q q => wpAny_call_entry F.slot_dict_eq ty F.entry_dict_eq (dec_dict_eq h1 h2.1 I.kIn J (sub _ (by decide)) ⟨_, rfl, q⟩) (F.args_dict_eq_2 _ _)⟩,
      ⟨_, F.slot_dict_ne, fun A E Q q => wpAny_call_entry F.slot_dict_ne ty F.entry_dict_ne (dec_dict_ne h1 h2.1 I.kIn J (sub _ (by decide)) ⟨_, rfl, q⟩) (F.args_dict_ne_2 _ _)⟩⟩
end
def rRev (C : Addr) (sp : Sp) (E : XK) (neg : Bool) : R2 := fun x y H Q => ∃ b dy gs t, y = .ref b ∧ H b = some (.ins C dy gs) ∧ RevX H x t ∧ sp [y, x] H (fun v H' => ∃ k, v = .bl k ∧ Q (.bl (if neg = true then !k else k)) H') E
section
variable {X : Cx} {CX : CXT} {n : Nat} {f C : Addr} {fd : FuncData} {ps : List Str} {sp : Sp} {E : XK}
theorem op_revEq (rc : RevC X.K C) (O : OwnE X.K C f) (F : FnOk X.prog X.w X.K X.mg X.base CX n f fd ps sp) (hr : Room n X.A) (hb : Binds X.K fd ps []) (hx : Passes CX X E) : OpR X (compareOp .Eq) (rRev C sp E false) := by
  intro pins s σ H x y v u Q I rx ry h
  obtain ⟨b, dy, gs, t, rfl, eb, r, q⟩ := h
  cases (show u = Value.ref b from ry)
  obtain ⟨od, J⟩ := inst_of I eb
  have ho := (show ObjOk X.prog X.w H s.heap b (.ins C dy gs) from I.hok b _ eb).2.2.2.1
  have D := deck_of I rx r ho J rc
  obtain ⟨id, sl, cll⟩ := D.eq
  show wpAny (model X.prog X.w) X.A (richCompare .Eq v (.ref b)) (EP X pins σ Q) X.xe s
  refine rev_cmp (op := .Eq) (nm := "__eq__") ⟨_, rfl⟩ D.ty sl (fun Q q => cll _ _ Q q) hr.units0 I.kIn J (rc.no _ r.mem) (own_tryEq I.kIn J O.s O.fn ?_)
  refine wpAny_mono (own_run (us := [.ref b, v]) (vs := [.ref b, x]) ⟨hr, rfl⟩ F hb hx I (.cons rfl (.cons rx .nil)) q) (fun w s' z => ?_) fun _ _ x => x
  obtain ⟨z', H', I', rz, k, rfl, qz⟩ := z
  cases (show w = Value.bool k from rz)
  exact ⟨k, rfl, .bl k, H', I', rfl, qz⟩
theorem op_revNe (rc : RevC X.K C) (O : OwnE X.K C f) (F : FnOk X.prog X.w X.K X.mg X.base CX n f fd ps sp) (hr : Room (n + 1) X.A) (hb : Binds X.K fd ps []) (hx : Passes CX X E) (hu : X.A.units + 1 < cLine) : OpR X (compareOp .NotEq) (rRev C sp E true) := by
  intro pins s σ H x y v u Q I rx ry h
  obtain ⟨b, dy, gs, t, rfl, eb, r, q⟩ := h
  cases (show u = Value.ref b from ry)
  obtain ⟨od, J⟩ := inst_of I eb
  have ho := (show ObjOk X.prog X.w H s.heap b (.ins C dy gs) from I.hok b _ eb).2.2.2.1
  have D := deck_of I rx r ho J rc
  obtain ⟨id, sl, cll⟩ := D.ne
  show wpAny (model X.prog X.w) X.A (richCompare .NotEq v (.ref b)) (EP X pins σ Q) X.xe s
  refine rev_cmp (op := .NotEq) (nm := "__ne__") ⟨_, rfl⟩ D.ty sl (fun Q q => cll _ _ Q q) (Nat.lt_of_succ_lt hu) I.kIn J (rc.no _ r.mem) (own_tryNe hu I.kIn J O.m O.ne O.s O.fn ?_)
  have sb : Sub X n X.A.in1 := (show Sub X (n + 1) X.A from ⟨hr, rfl⟩).in1
  refine wpAny_mono (own_run (us := [.ref b, v]) (vs := [.ref b, x]) sb F hb hx I (.cons rfl (.cons rx .nil)) q) (fun w s' z => ?_) fun _ _ x => x
  obtain ⟨z', H', I', rz, k, rfl, qz⟩ := z
  cases (show w = Value.bool k from rz)
  exact ⟨k, rfl, .bl (!k), H', I', rfl, qz⟩
end
/-! ### over data, either way about -/
def noBl : Ty → Bool
  | .bl => false
  | _ => true
def ownED3 (c : Nat) (F : DFn) (neg : Bool) (x y : D) (m : Mu) (Φ : DK) : Prop := match x, y with
  | .obj c1 ns xs, .obj c2 ns2 xs2 => (c1 = c ∧ c2 = c) ∧ Go F [.obj c1 ns xs, .obj c2 ns2 xs2] m (fun v m' => boolD v m' fun k m' => Φ (.v (.bl (if neg = true then !k else k))) m') noX
  | .obj c1 ns xs, y => (c1 = c) ∧ Sm (tyD y m) fun _ => Go F [.obj c1 ns xs, y] m (fun v m' => boolD v m' fun k m' => Φ (.v (.bl (if neg = true then !k else k))) m') noX
  | x, .obj c2 ns2 xs2 => (c2 = c) ∧ Sm (tyD x m) fun t => (noBl t = true) ∧ Go F [.obj c2 ns2 xs2, x] m (fun v m' => boolD v m' fun k m' => Φ (.v (.bl (if neg = true then !k else k))) m') noX
  | x, y => eqD neg x y m Φ
section
variable {cl : Nat → Addr} {s0 : Sn} {X : Cx} {a b : Expr} {ta tb : DTE} {pos : Pos} {c k : Nat} {F : DFn} {neg : Bool}
theorem rev_at {s : Sn} {d : D} {v : V} {t : Ty} (g : Good cl s) (r : Rep cl s d v) (h : tyD d s.mu = some t) (hb : noBl t = true) : RevX s.H v t := by
  cases r with
  | v => cases v <;> first | (cases h; done) | (cases h; first | exact .non | exact absurd hb (by decide) | exact .int _ | exact .str _)
  | @hd k hk =>
    unfold tyD at h
    dsimp only at h
    split at h
    · rename_i c e
      have ct := g.ct _ _ (Sn.mu_al e).1
      cases c with
      | lst xs => cases h; obtain ⟨vs, h1, _⟩ := ct; exact .lst h1
      | dct ks xs => cases h; obtain ⟨vs, h1, _⟩ := ct; exact .dct h1
      | ins _ _ _ => cases h
    · cases h
  | lst _ h1 _ => cases h; exact .lst h1
  | tup _ h1 _ => cases h; exact .tup h1
  | scr _ h1 => cases h; exact .frz h1
  | dct _ h1 _ _ => cases h; exact .dct h1
  | obj _ _ _ _ => cases h
theorem opd_ownE3 {r : R2} (T : IsC X.K (cl c)) (h : OpD cl r (eqD neg)) : OpD cl (fun x y H Q => rOwnE (cl c) (spD cl 2 F) E0 neg x y H Q ∨ rOwnE2 X.K (cl c) (spD cl 2 F) E0 neg x y H Q ∨ rRev (cl c) (spD cl 2 F) E0 neg x y H Q ∨ r x y H Q) (ownED3 c F neg) := fun s x y dx dy Φ Q g rx ry q k => by
  unfold ownED3 at q
  split at q
  · obtain ⟨⟨rfl, rfl⟩, q⟩ := q
    have rx0 := rx
    have ry0 := ry
    cases rx with
    | obj n1 h1 z1 r1 => cases ry with
      | obj n2 h2 z2 r2 =>
        refine .inl ⟨_, _, _, _, _, _, rfl, h1, rfl, h2, s, _, _, noX, rfl, g, .cons rx0 (.cons ry0 .nil), rfl, q.un, fun d v s' l' g' rd qd => ?_, fun _ _ _ _ _ _ _ _ z => z.elim⟩
        obtain ⟨kk, rfl, qd⟩ := boolD_to qd
        cases rd
        exact ⟨kk, rfl, k _ _ s' l' g' (.v _) qd⟩
  · obtain ⟨rfl, q⟩ := q
    obtain ⟨ty, et, q⟩ := q.to
    have hm : ty.nm ∈ ["NoneType", "bool", "int", "str", "list", "tuple", "dict"] := by clear et q; cases ty <;> decide
    have rx0 := rx
    cases rx with
    | obj n1 h1 z1 r1 =>
      have nf : PySem.W.notFirst X.K (cl _) (.type ty.nm) = true := not_first (T.no _ hm)
      refine .inr (.inl ⟨_, _, _, _, rfl, h1, ty_at g ry et, nf, s, _, _, noX, rfl, g, .cons rx0 (.cons ry .nil), rfl, q.un, fun d v s' l' g' rd qd => ?_, fun _ _ _ _ _ _ _ _ z => z.elim⟩)
      obtain ⟨kk, rfl, qd⟩ := boolD_to qd
      cases rd
      exact ⟨kk, rfl, k _ _ s' l' g' (.v _) qd⟩
  · obtain ⟨rfl, q⟩ := q
    obtain ⟨ty, et, hb, q⟩ := q.to
    have ry0 := ry
    cases ry with
    | obj n1 h1 z1 r1 =>
      refine .inr (.inr (.inl ⟨_, _, _, ty, rfl, h1, rev_at g rx et hb, s, _, _, noX, rfl, g, .cons ry0 (.cons rx .nil), rfl, q.un, fun d v s' l' g' rd qd => ?_, fun _ _ _ _ _ _ _ _ z => z.elim⟩))
      obtain ⟨kk, rfl, qd⟩ := boolD_to qd
      cases rd
      exact ⟨kk, rfl, k _ _ s' l' g' (.v _) qd⟩
  · exact .inr (.inr (.inr (h s x y dx dy Φ Q g rx ry q k)))
theorem de_eqOwn3 (rc : RevC X.K (cl c)) (T : IsC X.K (cl c)) (S : EqOk X.prog X.w X.K X.mg X.base cl c k F) (hr : Room (k + 1) X.A) (hu : X.A.units + 64 < cLine) (ha : DE cl s0 X a ta) (hb : DE cl s0 X b tb) : DE cl s0 X (.Compare a [.Eq] [b] pos) (dOp (ownED3 c F false) ta tb) :=
  let ⟨_, _, O, G, hbd⟩ := S.is
  de_cmp (OpR.or (op_ownEq O G (hr.mono (Nat.le_succ _)) hbd passL) (OpR.or (op_ownEq2 O G (hr.mono (Nat.le_succ _)) hbd passL) (OpR.or (op_revEq rc O G (hr.mono (Nat.le_succ _)) hbd passL) (OpR.or op_eq (op_eqD hu))))) (opd_ownE3 T (opd_eq (K := X.K))) ha hb (nomark _)
theorem de_neOwn3 (rc : RevC X.K (cl c)) (T : IsC X.K (cl c)) (S : EqOk X.prog X.w X.K X.mg X.base cl c k F) (hr : Room (k + 1) X.A) (hu : X.A.units + 64 < cLine) (ha : DE cl s0 X a ta) (hb : DE cl s0 X b tb) : DE cl s0 X (.Compare a [.NotEq] [b] pos) (dOp (ownED3 c F true) ta tb) :=
  let ⟨_, _, O, G, hbd⟩ := S.is
  de_cmp (OpR.or (op_ownNe O G hr hbd passL (by omega)) (OpR.or (op_ownNe2 O G hr hbd passL (by omega)) (OpR.or (op_revNe rc O G hr hbd passL (by omega)) (OpR.or op_ne (op_neD hu))))) (opd_ownE3 T (opd_ne (K := X.K))) ha hb (nomark _)
end
end ER

namespace ER
open PySem PySem.Spec PyProof.Rows L2

/-! ## enumerate over a list or a tuple: new pairs -/
set_option maxHeartbeats 1000000 in
theorem meets_enum1 {v : Value} {o : Obj} {H : Heap → Prop} (B : Begins v o H) :
    Meets (Builtin.«enumerate.__new__» ⟨[.type "enumerate", v], []⟩) (fun _ R s => H s.heap ∧
      R (.ok (.ret (.ref (s.heap.push o).objs.size))) { s with heap := (s.heap.push o).push { cls := .type "enumerate", data := .fields #[.none, .bool false, .ref s.heap.objs.size, rawInt 0, .none, .none] } }) :=
  .of_wp fun prog w A R s h => by
    obtain ⟨hp, g, d, tk, os⟩ := s; obtain ⟨h1, h⟩ := h
    have hsub := sub_enumerate
    have q1 : ∀ {A' : Around} {E : Value → Shared → Prop} {Q : Value → Shared → Prop}, Q (.ref hp.objs.size) ⟨hp.push o, g, d, tk, os⟩ → wpAny (model prog w) A' (pyIter v) Q E ⟨hp, g, d, tk, os⟩ :=
      fun q => B.iter prog w _ _ ⟨hp, g, d, tk, os⟩ _ h1 q
    wp_walk using q1
    refine wpAny_stack_any fun st => wpAny_pure ?_
    split
    · rename_i c _ _ _ _ _
      cases (c == Value.type "enumerate")
      · wp_walk using q1
        exact ⟨_, rfl, h⟩
      · wp_walk using q1
        exact ⟨_, rfl, h⟩
    · wp_walk using q1
      exact ⟨_, rfl, h⟩
theorem enum_begins1 {prog : Program} {w : World} {A : Around} {E : Value → Shared → Prop} {s : Shared} {v : Value} {o : Obj} {H : Heap → Prop} {Q : Value → Shared → Prop} (B : Begins v o H) (h1 : H s.heap)
    (h : ∀ h', IsEnum h' (s.heap.objs.size + 1) s.heap.objs.size 0 .none → h'.get? s.heap.objs.size = some o → h'.objs.size = s.heap.objs.size + 2 →
      (∀ b o, s.heap.get? b = some o → h'.get? b = some o) → Q (.ref (s.heap.objs.size + 1)) { s with heap := h' }) :
    wpAny (model prog w) A (call (.type "enumerate") [v]) Q E s := by
  refine callType_new F.called_enumerate (by decide) (F.typeCall_enumerate_1 _) (F.newCall_enumerate_1 _) (fun obj => F.args_object_init_2 obj _) F.entry_enumerate_new
    (meets_enum1 B) ⟨h1, ?_⟩
  have hz : (s.heap.push o).objs.size = s.heap.objs.size + 1 := Heap.size_push ..
  show _ ∧ _
  rw [hz]
  have he : IsEnum ((s.heap.push o).push { cls := .type "enumerate", data := .fields #[.none, .bool false, .ref s.heap.objs.size, rawInt 0, .none, .none] }) (s.heap.objs.size + 1) s.heap.objs.size 0 .none := by
    have := Heap.get?_push_size (s.heap.push o) (o := { cls := .type "enumerate", data := .fields #[.none, .bool false, .ref s.heap.objs.size, rawInt 0, .none, .none] }) rfl
    rw [hz] at this; exact this
  refine ⟨⟨_, he, rfl⟩, h _ he (Heap.get?_push_of_some _ (Heap.get?_push_size _ B.free)) (by rw [Heap.size_push, hz]) fun b o x => Heap.get?_push_of_some _ (Heap.get?_push_of_some _ x)⟩
/-- the tuple at a, each item in a new pair -/
def IteT (K : PySem.W.Frag) (a : Addr) : It :=
  ⟨fun i H => ∃ (xs : List V) (x : V), SqT K H a xs ∧ xs[i]? = some x, fun i H v H' => ∃ T x, v = .ref T ∧ H T = none ∧ H' = upd H T (.tup [.int (i : Nat), x]) ∧ ∀ xs, SqT K H a xs → xs[i]? = some x, fun i H => ∃ xs : List V, SqT K H a xs ∧ i = xs.length⟩
theorem turn_enumT {P : Program} {w : World} {K : PySem.W.Frag} {elts : List Expr} {kk : Nat} {tpos : Pos} (a e it : Addr) :
    Turn P w K (.Tuple elts kk tpos) (IteT K a) [e, it] e (fun i h => (∃ old, IsEnum h e it ((i : Nat) : Int) old) ∧ h.IsTupleIter it a i ∧ e ≠ it ∧ a ≠ e ∧ a ≠ it) where
  mem := by simp
  obj := fun i h st b hb => by
    obtain ⟨⟨old, he⟩, ⟨o, ho, hc, hd⟩, _⟩ := st
    have e' : b = e ∨ b = it := by simpa using hb
    rcases e' with z | z
    · rw [z]; exact ⟨_, he, fun v q => nomatch q⟩
    · rw [z]; exact ⟨o, ho, fun v q => by rw [hd] at q; cases q⟩
  keep := fun i h h' st k => let ⟨⟨old, he⟩, hi, hne⟩ := st; ⟨⟨old, k e (by simp) _ he⟩, hi.at fun o q => k it (by simp) o q, hne⟩
  item := by
    intro X hP hw hK hc i pins s σ H E I hf st hg
    subst hP hw hK
    obtain ⟨⟨old, he⟩, hit, hne, hae, hai⟩ := st
    obtain ⟨xs, x, hq, hx⟩ := hg
    obtain ⟨its, rv, p, hz⟩ := I.tuple hq
    obtain ⟨u, hu, ru⟩ := rv.get hx
    have hel : e < s.heap.objs.size := Heap.lt_size he
    have hil : it < s.heap.objs.size := by obtain ⟨_, q, _⟩ := hit; exact Heap.lt_size q
    have hi : i < its.toArray.size := by
      have := (List.getElem?_eq_some_iff.mp hu).1
      simpa using this
    have D := Draws.tuple (prog := X.prog) (w := X.w) (A := X.A.in1) (I.ok.hd hc) it a hai its.toArray
    refine wpAny_pyNext_enum_itemC D he ⟨hit, (show s.heap.IsTuple a its.toArray from p)⟩ hi hne (fun m => ?_) fun x' h' tk hpx ho hst' hT hsz hk => ?_
    · have e' : e = it ∨ e = a := by simpa using m
      rcases e' with z | z
      · exact hne z
      · exact hae z.symm
    · have ex : x' = u := by
        have h1 : its.toArray[i]? = some x' := hpx
        have h2 : its.toArray[i]? = some u := by simpa using hu
        rw [h1] at h2
        exact Option.some.inj h2
      subst ex
      refine ⟨_, rfl, wpAny_letOwnedTupleGo_enum (s := { s with heap := h', toks := tk + 1 }) ho fun h'' he' sb => ?_⟩
      have hT2 : h''.get? s.heap.objs.size = some { cls := .type "tuple", data := .seq #[.int i tk, x'] } := (sb.2 _ (Nat.ne_of_gt hel)).trans hT
      have new : ObjOk X.prog X.w (upd H s.heap.objs.size (.tup [.int (i : Nat), x])) h'' s.heap.objs.size (.tup [.int (i : Nat), x]) :=
        ⟨by show 2 ≤ sizeLine; decide, [.int i tk, x'], .cons ⟨_, rfl⟩ (.cons ru .nil), ⟨_, hT2, rfl, _, rfl⟩⟩
      have I1 : Inv X pins σ (upd H s.heap.objs.size (.tup [.int (i : Nat), x])) { s with heap := h'', toks := tk + 1 } :=
        I.turnedNew (t' := tk + 1) (ch := [e, it]) (fun b ob hb q => (sb.2 b (fun z => hb (by simp [z]))).trans (hk b ob (fun z => hb (by simp [z])) (fun z => hb (by simp [z])) q)) hf (Nat.le_refl _) new
      refine ⟨.ref s.heap.objs.size, _, I1, rfl, ⟨_, x, rfl, I.hok.fresh (Nat.le_refl _), rfl, fun ys hy => by rw [I.tuple_inj hy hq]; exact hx⟩, ⟨⟨x', ?_⟩, hst'.1.at fun o q => (sb.2 it (Ne.symm hne)).trans q, hne, hae, hai⟩, fun b hb => ?_⟩
      · have e1 : ((i + 1 : Nat) : Int) = (i : Int) + 1 := by omega
        rw [e1]; exact he'
      · have hb' : b < s.heap.objs.size := by
          have e' : b = e ∨ b = it := by simpa using hb
          rcases e' with z | z
          · rw [z]; exact hel
          · rw [z]; exact hil
        rw [upd_ne (Nat.ne_of_lt hb')]
        exact (hf b hb).1
  done := by
    intro X hP hw hK hc i pins s σ H E I hf st hg
    subst hP hw hK
    obtain ⟨⟨old, he⟩, hit, hne, hae, hai⟩ := st
    obtain ⟨xs, hq, hx⟩ := hg
    obtain ⟨its, rv, p, hz⟩ := I.tuple hq
    obtain ⟨f0, f1, f2, f3, f4, f5⟩ := hf it (by simp)
    have hl := rv.length
    have D := Draws.tuple (prog := X.prog) (w := X.w) (A := X.A.in1) (I.ok.hd hc) it a hai its.toArray
    have hi : i = its.toArray.size := by simp; omega
    exact wpAny_pyNext_enum_endD D he ⟨hi ▸ hit, (show s.heap.IsTuple a its.toArray from p)⟩ fun h' eb => ⟨rfl, I.turned (t' := s.toks) (fun b o hb q => eb b o hb q) f0 f1 f3 f4 f5⟩
  self := fun A i s Q E st h => let ⟨⟨_, he⟩, _⟩ := st; wpAny_pyIter_enum he h
theorem walk_enumT {K : PySem.W.Frag} {a : Addr} {xs : List V} : Walk (IteT K a) xs.length (fun H => SqT K H a xs) (YPair (fun i => some (.int (i : Nat))) (fun i => xs[i]?)) := by
  refine ⟨fun i _ hi q => ⟨xs, xs[i], q, by simp [hi]⟩, fun _ q => ⟨xs, q, rfl⟩, fun i H v H' _ q y => ?_⟩
  obtain ⟨T, x, h1, h2, h3, h4⟩ := y
  exact ⟨T, .int (i : Nat), x, h1, h2, h3, rfl, h4 xs q⟩
/-- enumerate(a list or a tuple) -/
def iEnumD (K : PySem.W.Frag) (ta : TA) : TI := fun σ H R => ta σ H fun vs H1 => ∃ a, vs = [.ref a] ∧ ((∃ xs, SqL K H1 a xs ∧ R (Ite K a) H1) ∨ (∃ xs, SqT K H1 a xs ∧ R (IteT K a) H1))
theorem pi_enumD {X : Cx} {e : Expr} {ta : TA} {p pos tpos : Pos} {elts : List Expr} {kk : Nat} (hg : Gl X "enumerate") (hm : X.mg "enumerate" = none) (ha : PA X [e] ta) (hs : starEach [e] X.env = [(false, eval e X.env)] := by rfl) :
    PI X (.Tuple elts kk tpos) (.Call (.Name "enumerate" p) [e] [] pos) (iEnumD X.K ta) := by
  refine ⟨fun pins s σ H R I h => ?_⟩
  refine Call_ (ld_blt I hg hm boot_enumerate (PyProof.Rows.callWith_type1 (thn (ha.run pos pins s σ H _ I h) fun us s1 ⟨vs, H1, I1, r1, q1⟩ => ?_) hs rfl))
  obtain ⟨a, ex, q1⟩ := q1
  subst ex
  cases r1 with
  | cons r rr =>
    cases rr
    cases r
    rcases q1 with ⟨xs, hq, q⟩ | ⟨xs, hq, q⟩
    · obtain ⟨its, rv, p', hz⟩ := I1.list hq
      refine call_enumerate_list p'.isList fun h' he hit hsz hk => wpAny_pyIter_enum he ?_
      have I2 : Inv X pins σ H1 { s1 with heap := h' } := I1.kept (t' := s1.toks) hk
      refine ⟨s1.heap.objs.size + 1, [s1.heap.objs.size + 1, s1.heap.objs.size], _, _, H1, rfl, I2, turn_enum a (s1.heap.objs.size + 1) s1.heap.objs.size, ⟨⟨.none, he⟩, hit, Nat.succ_ne_self _⟩, fun b hb => ?_, q⟩
      have e' : b = s1.heap.objs.size + 1 ∨ b = s1.heap.objs.size := by simpa using hb
      have hle : s1.heap.objs.size ≤ b := by
        rcases e' with z | z
        · rw [z]; exact Nat.le_add_right _ _
        · rw [z]; exact Nat.le_refl _
      exact I1.fpOk hle (I1.hok.fresh hle)
    · obtain ⟨its, rv, p', hz⟩ := I1.tuple hq
      refine enum_begins1 (begins_tuple a its.toArray) (show s1.heap.IsTuple a its.toArray from p') fun h' he hit hsz hk => wpAny_pyIter_enum he ?_
      have I2 : Inv X pins σ H1 { s1 with heap := h' } := I1.kept (t' := s1.toks) hk
      have hal : a < s1.heap.objs.size := by obtain ⟨_, q, _⟩ := p'; exact Heap.lt_size q
      refine ⟨s1.heap.objs.size + 1, [s1.heap.objs.size + 1, s1.heap.objs.size], _, _, H1, rfl, I2, turn_enumT a (s1.heap.objs.size + 1) s1.heap.objs.size, ⟨⟨.none, he⟩, ⟨_, hit, rfl, rfl⟩, Nat.succ_ne_self _, Nat.ne_of_lt (Nat.lt_succ_of_lt hal), Nat.ne_of_lt hal⟩, fun b hb => ?_, q⟩
      have e' : b = s1.heap.objs.size + 1 ∨ b = s1.heap.objs.size := by simpa using hb
      have hle : s1.heap.objs.size ≤ b := by
        rcases e' with z | z
        · rw [z]; exact Nat.le_add_right _ _
        · rw [z]; exact Nat.le_refl _
      exact I1.fpOk hle (I1.hok.fresh hle)
theorem revC_mk {K : PySem.W.Frag} {C : Addr} (h1 : PySem.W.subIn K (.ref C) (.type "NoneType") = some false) (h2 : PySem.W.subIn K (.ref C) (.type "int") = some false) (h3 : PySem.W.subIn K (.ref C) (.type "str") = some false)
    (h4 : PySem.W.subIn K (.ref C) (.type "list") = some false) (h5 : PySem.W.subIn K (.ref C) (.type "tuple") = some false) (h6 : PySem.W.subIn K (.ref C) (.type "dict") = some false) : RevC K C := ⟨fun T h => by
  simp only [List.mem_cons, List.not_mem_nil, or_false] at h
  rcases h with rfl | rfl | rfl | rfl | rfl | rfl <;> assumption⟩
/-! ## tuple + tuple, the right one may be empty -/
def addTD : D → D → Mu → DK → Prop
  | .tup x, .tup [], m, Φ => x ≠ [] ∧ x.length ≤ sizeLine ∧ Φ (.tup x) m
  | .tup x, .tup (y :: ys), m, Φ => x ≠ [] ∧ x.length + (ys.length + 1) ≤ sizeLine ∧ Φ (.tup (x ++ y :: ys)) m
  | _, _, _, _ => False
section
variable {cl : Nat → Addr} {s0 : Sn} {X : Cx} {a b : Expr} {ta tb : DTE} {pos : Pos}
theorem opd_addT {K : PySem.W.Frag} : OpD cl (rCatT K) addTD := fun s x y dx dy Φ Q g rx ry h k => by
  unfold addTD at h
  split at h
  · cases rx with
    | tup n1 h1 r1 => cases ry with
      | tup n2 h2 r2 =>
        obtain ⟨hx, hz, q⟩ := h
        refine ⟨_, _, _, _, rfl, rfl, SqT.of h1, SqT.of h2, fun e => ?_, ?_, fun e => ?_, fun e => ?_⟩
        · rw [e] at r1
          cases r1
          exact hx rfl
        · rw [← r1.length, ← r2.length]
          exact hz
        · exact k _ _ s (Le.refl s) g (.tup n1 h1 r1) q
        · cases r2
          exact absurd rfl e
  · cases rx with
    | tup n1 h1 r1 => cases ry with
      | tup n2 h2 r2 =>
        obtain ⟨hx, hz, q⟩ := h
        refine ⟨_, _, _, _, rfl, rfl, SqT.of h1, SqT.of h2, fun e => ?_, ?_, fun e => ?_, fun _ p hp => ?_⟩
        · rw [e] at r1
          cases r1
          exact hx rfl
        · rw [← r1.length, ← r2.length]
          exact hz
        · rw [e] at r2
          cases r2
        · exact k _ _ _ (Le.lay g hp) (g.lay hp) (Rep.laidT g hp (r1.append r2)) q
  · exact h.elim
/-- a list that may change + a list -/
def addHD : D → D → Mu → DK → Prop
  | .hd k, .lst y, m, Φ => Sm (m k) fun c => match c with
    | .lst x => x.length + y.length ≤ sizeLine ∧ Φ (.lst (x ++ y)) m
    | _ => False
  | _, _, _, _ => False
theorem opd_addH : OpD cl rCat addHD := fun s x y dx dy Φ Q g rx ry h k => by
  unfold addHD at h
  split at h
  · obtain ⟨c, e, q⟩ := h.to
    have ct := g.ct _ _ (Sn.mu_al e).1
    cases rx with
    | hd hk =>
      cases ry with
      | lst n2 h2 r2 =>
        cases c with
        | lst xs =>
          obtain ⟨vs, h1, r1⟩ := ct
          obtain ⟨hz, q⟩ := q
          refine ⟨_, _, _, _, rfl, rfl, h1, h2, by rw [← r1.length, ← r2.length]; exact hz, fun p hp => ?_⟩
          exact k _ _ _ (Le.lay g hp) (g.lay hp) (Rep.laid g hp (r1.append r2)) q
        | dct _ _ => exact q.elim
        | ins _ _ _ => exact q.elim
  · exact h.elim
theorem de_addH (ha : DE cl s0 X a ta) (hb : DE cl s0 X b tb) : DE cl s0 X (.BinOp a .Add b pos) (dOp addHD ta tb) := de_bin op_cat opd_addH ha hb
theorem de_addT (ha : DE cl s0 X a ta) (hb : DE cl s0 X b tb) : DE cl s0 X (.BinOp a .Add b pos) (dOp addTD ta tb) := de_bin op_catT opd_addT ha hb
end
section
variable {cl : Nat → Addr} {s0 : Sn} {X : Cx} {e : Expr} {pos : Pos}
def enumP (i : Nat) (x : D) : D := .tup [.v (.int (i : Nat)), x]
def enumL (xs : List D) : List D := (List.range xs.length).zipWith enumP xs
theorem enumL_get {xs : List D} {i : Nat} {d : D} (h : xs[i]? = some d) : (enumL xs)[i]? = some (enumP i d) := by
  have hi : i < xs.length := (List.getElem?_eq_some_iff.mp h).1
  unfold enumL
  rw [List.getElem?_zipWith, h, List.getElem?_range hi]
theorem enumL_len {xs : List D} : (enumL xs).length = xs.length := by
  unfold enumL
  rw [List.length_zipWith, List.length_range, Nat.min_self]
theorem itok_enum {J : It} {G : Hp → Prop} {vs : List V} {xs : List D} {s : Sn} (w : Walk J vs.length G (YPair (fun i => some (.int (i : Nat))) (fun i => vs[i]?))) (hG : ∀ s', Le s s' → G s'.H) (r : Reps cl s xs vs) : ItOk cl J (enumL xs) s :=
  ⟨vs.length, G, _, by rw [enumL_len, r.length], w, hG, fun i s' v H' hi l g y => by
    obtain ⟨T, x, y', ev, hn, eH, hx, hy⟩ := y
    subst ev
    cases hx
    have hlt : i < xs.length := by rw [r.length]; exact hi
    have hd : xs[i]? = some xs[i] := List.getElem?_eq_getElem hlt
    obtain ⟨v', e1, rv⟩ := r.get hd
    have e2 : vs[i]? = some y' := hy
    rw [e2] at e1
    cases e1
    have ll := Le.lay g (o := .tup [.int (i : Nat), y']) hn
    refine ⟨enumP i xs[i], s'.lay T (.tup [.int (i : Nat), y']), enumL_get hd, eH.symm, ll, g.lay hn, rfl, ?_⟩
    exact .tup (fun m => g.fresh hn (lay_M.mp m)) upd_same (.cons (.v _) (.cons ((rv.mono l).mono ll) .nil))⟩
def enumD (ds : List D) (m : Mu) (Φ : List D → Mu → Prop) : Prop := match ds with
  | [.lst xs] => Φ (enumL xs) m
  | [.tup xs] => Φ (enumL xs) m
  | _ => False
def dEnum (t : DTA) : DTI := fun r m Φ => t r m fun ds m1 => enumD ds m1 Φ
theorem di_enumerate {elts : List Expr} {kk : Nat} {tpos : Pos} {a : Expr} {ta : DTA} {p : Pos} (hg : Gl X "enumerate") (hm : X.mg "enumerate" = none) (ha : DA cl s0 X [a] ta) (hs : starEach [a] X.env = [(false, eval a X.env)] := by rfl) :
    DI cl s0 X (.Tuple elts kk tpos) (.Call (.Name "enumerate" p) [a] [] pos) (dEnum ta) := by
  obtain ⟨tt, pp, v⟩ := ha
  refine ⟨_, pi_enumD hg hm pp hs, ⟨fun s σ r Φ R g w l q k => v.run s σ r _ _ g w l q fun ds xs s1 l1 g1 rx q1 => ?_⟩⟩
  unfold enumD at q1
  split at q1
  · cases rx with
    | cons r1 r2 =>
      cases r2
      cases r1 with
      | lst n1 h1 r1 => exact ⟨_, rfl, .inl ⟨_, SqL.of h1, k _ _ s1 l1 g1 (itok_enum walk_enum (fun s' l' => SqL.of (l'.keep _ _ h1 n1).1) r1) q1⟩⟩
  · cases rx with
    | cons r1 r2 =>
      cases r2
      cases r1 with
      | tup n1 h1 r1 => exact ⟨_, rfl, .inr ⟨_, SqT.of h1, k _ _ s1 l1 g1 (itok_enum walk_enumT (fun s' l' => SqT.of (l'.keep _ _ h1 n1).1) r1) q1⟩⟩
  · exact q1.elim
end
theorem keep_eq {m m' : Mu} {k : Nat} {c c' : Ct} (hk : m k = some c) (h1 : m' k = some c') (h2 : ∀ j, j ≠ k → (m j).isSome = true → m' j = m j) : keepMu m m' = setMu m k c' := by
  funext j
  unfold keepMu
  by_cases z : j = k
  · rw [z, hk, h1, setMu_same]; rfl
  · rw [setMu_ne z]
    cases e : m j with
    | none => rfl
    | some x => rw [h2 j z (by rw [e]; rfl), e]; rfl
end ER

local macro_rules | `(tactic| walk_at "dc") => `(tactic| (first
  | omega
  | (constructor <;> omega)
  | assumption
  | decide
  | (refine ER.mulA_l ?_; constructor <;> omega)
  | (refine ER.mulA_r ?_; constructor <;> omega)
  | exact And.intro (by omega) (by first | assumption | decide)
  | exact And.intro (by first | omega | decide) (And.intro (by first | omega | decide) (by first | omega | decide))))
local macro_rules | `(tactic| walk_at "set") => `(tactic| with_reducible (first
  | refine ER.s_0 ?_ | refine ER.s_1 ?_ | refine ER.s_2 ?_ | refine ER.s_3 ?_ | refine ER.s_4 ?_ | refine ER.s_5 ?_ | refine ER.s_6 ?_ | refine ER.s_7 ?_ | refine ER.s_8 ?_ | refine ER.s_9 ?_ | refine ER.s_10 ?_ | refine ER.s_11 ?_ | refine ER.s_12 ?_ | refine ER.s_13 ?_ | refine ER.s_14 ?_ | refine ER.s_15 ?_ | refine ER.s_16 ?_ | refine ER.s_17 ?_ | refine ER.s_18 ?_ | refine ER.s_19 ?_ | refine ER.s_20 ?_ | refine ER.s_21 ?_ | refine ER.s_22 ?_ | refine ER.s_23 ?_ | refine ER.s_24 ?_ | refine ER.s_25 ?_ | refine ER.s_26 ?_ | refine ER.s_27 ?_))
local macro_rules | `(tactic| walk_at "hk") => `(tactic| (first | assumption | exact ER.setMu_same | with_unfolding_all rfl))
local macro_rules | `(tactic| walk_at "gs") => `(tactic| (first
  | assumption
  | with_reducible exact ER.rng_ok (by omega) (by omega)
  | with_unfolding_all rfl
  | (exact And.intro rfl rfl)
  | exact ER.okL_of (by walk_at "hk")
  | (with_unfolding_all walk_at "dc")
  | with_unfolding_all (rw [PySem.sizeLine_eq]; first | exact Nat.le_of_ble_eq_true rfl | omega | (simp only [List.length_cons, List.length_nil]; omega))
  | with_unfolding_all decide))
local macro_rules | `(tactic| walk_at "g1") => `(tactic| (conv => whnf
                                                          with_reducible (first
  | (refine ER.St.do_ ?_; walk_at "set")
  | refine And.intro (by walk_at "gs") ?_
  | refine ER.Sm.mk _ (by walk_at "hk") ?_
  | refine ER.ForA.mk fun _ => ?_
  | walk_at "gx"
  | refine ER.Lst.end_ ?_ | refine ER.Lst.one ?_ | refine ER.Lst.map ?_
  | refine ER.Br.t (by with_unfolding_all first | with_reducible rfl | decide +kernel) ?_
  | refine ER.Br.f (by with_unfolding_all first | with_reducible rfl | decide +kernel) ?_
  | refine ER.Br.t (show ER.xsub _ _ = true by with_unfolding_all rfl) ?_
  | refine ER.Br.f (show ER.xsub _ _ = false by with_unfolding_all rfl) ?_)))
local macro_rules | `(tactic| walk_at "go") => `(tactic| ((repeat walk_at "g1"); conv => whnf))

namespace ER
open PySem PySem.Spec PyProof.Rows L2
def topS (i : Nat) : Stmt := PySem.Challenge.pw_elderruns_k04_values_built_unlike.main.body.getD i (.Pass ⟨0, 0, 0, 0⟩)
def memS (i j : Nat) : Stmt := match topS i with
  | .ClassDef (body := b) .. => b.getD j (.Pass ⟨0, 0, 0, 0⟩)
  | _ => .Pass ⟨0, 0, 0, 0⟩
theorem j_nnT {b : Bool} {A B : Prop} (e : b = true) (h : A) : Br (!!b) A B := .t (by rw [e]; rfl) h
theorem j_nFF {b : Bool} {A B : Prop} (e : b = true) (h : B) : Br (!b) A B := .f (by rw [e]; rfl) h
variable {P : Program} {w : World} {K : PySem.W.Frag} {mg : Str → Option Value} {base : Heap} {cl : Nat → Addr} {f : Addr} {fd : FuncData}
/-! ## signs -/
inductive Sg where
  | named (z : Str)
  | now (z : Str)
  | passed
  | num (n : Int)
  | op (z : Str)
  deriving DecidableEq
abbrev pairD (a : Str) (b : V) : D := .tup [.v (.str a), .v b]
def sgD : Sg → D
  | .named z => pairD "named" (.str z)
  | .now z => pairD "now" (.str z)
  | .passed => pairD "passed" (.str "")
  | .num n => pairD "number" (.int n)
  | .op z => pairD z (.str "")
abbrev valD (ss : List Sg) : D := .obj 0 ["signs"] [.tup (ss.map sgD)]
def goodName (z : Str) : Prop := 1 ≤ z.length ∧ z.length ≤ 8 ∧ ∀ c ∈ z.cps.toList, 97 ≤ c ∧ c ≤ 122
/-! ## the class -/
def initF : DFn := fun ds m Φ _ => ∃ k s, ds = [.hd k, s] ∧ m k = some (.ins 0 [] []) ∧ Φ (.v .non) (setMu m k (.ins 0 ["signs"] [s]))
abbrev s_Value_init : Stmt := memS 30 0
theorem sc_Value_init : FnScope ["self", "signs"] ["self", "signs"] (defScope s_Value_init) := ⟨rfl, rfl, rfl, by decide +kernel, rfl, by decide +kernel, by decide +kernel⟩
theorem ok_Value_init (Fu : Fun K "__init__" "Value.__init__" s_Value_init f fd) (f_Value_signs : FldOk K (cl 0) "signs")  : FnD P w K mg base cl 1 f fd ["self", "signs"] initF := by
  refine okD Fu sc_Value_init fun cdv A outer s H E s0 Ξ hr tk => ?_
  have hst : ∀ (d0 d1 : D), startD ["self", "signs"] [d0, d1] = [some d0, some d1] := fun _ _ => rfl
  refine ⟨_, dss_cons (ds_setF (de_var 0) (de_var 1) f_Value_signs) dss_nil, ?_⟩
  intro ds m Φ hl h
  obtain ⟨k, s, rfl, h1, h2⟩ := h
  try rw [hst]
  walk_at "go"
  exact h2

theorem mk_val {m : Mu} {Φ : DK} {s : D} (h : Φ (.obj 0 ["signs"] [s]) m) : ∀ k, m k = none →
    Go initF [.hd k, s] (setMu m k (.ins 0 [] [])) (fun v m2 => v = .v .non ∧ Sm (m2 k) (insC 0 fun ns xs => Φ (.obj 0 ns xs) (delMu m2 k))) noX :=
  fun k hk => .mk ⟨k, s, rfl, setMu_same, rfl, .mk _ setMu_same ⟨rfl, by rw [setMu_set, delMu_set hk]; exact h⟩⟩
local macro_rules | `(tactic| walk_at "gx") => `(tactic| (with_reducible refine ER.mk_val ?_))
/-! ## names -/
abbrev s_Err_init : Stmt := memS 2 0
theorem sc_Err_init : FnScope ["self", "value"] ["self", "value"] (defScope s_Err_init) := ⟨rfl, rfl, rfl, by decide +kernel, rfl, by decide +kernel, by decide +kernel⟩
theorem ok_Err_init (Fu : Fun K "__init__" "RunError.__init__" s_Err_init f fd) : FnOk P w K mg base (L2.CX P w) 1 f fd ["self", "value"] (spXi K) := by
  refine Fu.okX sc_Err_init (fun vs H Q E h => spXi_len h) fun cdv A outer s H vs Q E hr h => ?_
  obtain ⟨a, C, y, rfl, T, hv, ha, hq⟩ := h
  refine ⟨_, pss_cons (ps_ost (pv 0 rfl (.inl rfl) (by decide) (by decide)) (pv 1 rfl (.inl rfl) (by decide) (by decide))) pss_nil, ?_⟩
  refine ⟨y, rfl, .ref a, rfl, a, C, rfl, T, hv, .inl ⟨ha, fun dx h1 h2 => ?_⟩⟩
  exact hq dx h1 h2
def nameF : DFn := fun ds m Φ Ξ => ∃ z, ds = [.v (.str z)] ∧ z.length ≤ sizeLine ∧ (goodName z → Φ (.v .non) m) ∧ (¬ goodName z → Ξ 11 (.v (.str z)) m)
abbrev s_check_name : Stmt := topS 8
theorem sc_check_name : FnScope ["name", "letter"] ["name"] (defScope s_check_name) := ⟨rfl, rfl, rfl, by decide +kernel, rfl, by decide +kernel, by decide +kernel⟩
theorem ok_check_name (Fu : Fun K "check_name" "check_name" s_check_name f fd) (b_len : mg "len" = none) (g_MOST : ∃ t, mg "MOST_LETTERS" = some (.int 8 t)) (e_InvalidName : XRaise P w K mg base cl "InvalidName" 11 1)  : FnD P w K mg base cl 3 f fd ["name"] nameF := by
  refine okD Fu sc_check_name fun cdv A outer s H E s0 Ξ hr tk => ?_
  have nd := sc_check_name.nd
  have hst : ∀ (d0 : D), startD ["name", "letter"] [d0] = [some d0, none] := fun _ => rfl
  refine ⟨_, dss_cons (ds_if (dt_not (dt_lele (de_int) (de_len rfl b_len (da_cons (de_var 0) da_nil)) (de_gint (n := 8) rfl g_MOST))) (dss_cons (ds_raise rfl tk e_InvalidName (hr.mono (by decide)) rfl (da_cons (de_var 0) da_nil)) dss_nil) (dss_nil)) (dss_cons (ds_for (passes_of rfl) rfl (di_seq (de_var 0)) (dg_name (i := 1) nd rfl (.inl rfl)) (dss_cons (ds_if (dt_not (dt_lele (de_str) (de_var 1) (de_str))) (dss_cons (ds_raise rfl tk e_InvalidName (hr.mono (by decide)) rfl (da_cons (de_var 0) da_nil)) dss_nil) (dss_nil)) dss_nil)) dss_nil), ?_⟩
  intro ds m Φ hl h
  obtain ⟨z, rfl, hz, h4, h5⟩ := h
  try rw [hst]
  walk_at "go"
  refine i_dec (fun h1 => ?_) (fun h1 => ?_)
  · walk_at "go"
    by_cases h2 : (z.length : Int) ≤ 8
    · refine j_ndecF h2 ?_
      walk_at "go"
      have h6 : (∀ c ∈ z.cps.toList, 97 ≤ c ∧ c ≤ 122) → Φ (.v .non) m := fun q => h4 ⟨by omega, by omega, q⟩
      have h7 : (¬ ∀ c ∈ z.cps.toList, 97 ≤ c ∧ c ≤ 122) → Ξ 11 (.v (.str z)) m := fun q => h5 fun g => q g.2.2
      generalize (none : Option D) = e1
      generalize z.cps.toList = cs at h6 h7
      induction cs generalizing e1 with
      | nil =>
        walk_at "go"
        exact h6 (fun _ h => nomatch h)
      | cons c cs ih =>
        walk_at "go"
        by_cases hc : 97 ≤ c
        · have e1 : sLt ⟨#[c]⟩ "a" = false := decide_eq_false fun y => by
            have y2 : [c] < [97] := y
            rw [one_lt] at y2
            omega
          refine j_nF e1 ?_
          walk_at "go"
          by_cases hc2 : c ≤ 122
          · have e2 : sLt "z" ⟨#[c]⟩ = false := decide_eq_false fun y => by
              have y2 : [122] < [c] := y
              rw [one_lt] at y2
              omega
            refine j_nn e2 ?_
            walk_at "go"
            refine ih _ (fun q => h6 fun d hd => ?_) (fun q => h7 fun q2 => q fun d hd => q2 d (List.mem_cons_of_mem _ hd))
            rcases List.mem_cons.mp hd with rfl | hd
            · exact ⟨hc, hc2⟩
            · exact q d hd
          · have e2 : sLt "z" ⟨#[c]⟩ = true := decide_eq_true (by
              show [122] < [c]
              rw [one_lt]
              omega)
            refine j_nnT e2 ?_
            walk_at "go"
            exact h7 fun q => hc2 (q c List.mem_cons_self).2
        · have e1 : sLt ⟨#[c]⟩ "a" = true := decide_eq_true (by
            show [c] < [97]
            rw [one_lt]
            omega)
          refine j_nFF e1 ?_
          walk_at "go"
          exact h7 fun q => hc (q c List.mem_cons_self).1
    · refine j_ndecT h2 ?_
      walk_at "go"
      exact h5 fun g => h2 (by have := g.2.1; omega)
  · walk_at "go"
    exact h5 fun g => h1 (by have := g.1; omega)
def namedF (a : Str → Sg) : DFn := fun ds m Φ Ξ => ∃ z, ds = [.v (.str z)] ∧ z.length ≤ sizeLine ∧ (goodName z → Φ (valD [a z]) m) ∧ (¬ goodName z → Ξ 11 (.v (.str z)) m)
abbrev s_named : Stmt := topS 23
theorem sc_named : FnScope ["name"] ["name"] (defScope s_named) := ⟨rfl, rfl, rfl, by decide +kernel, rfl, by decide +kernel, by decide +kernel⟩
theorem ok_named (Fu : Fun K "named" "named" s_named f fd) (c_check_name : Callee P w K mg base cl "check_name" 3 ["name"] nameF) (c_Value : Maker P w K mg base cl "Value" 0 1 ["self", "signs"] initF)  : FnD P w K mg base cl 4 f fd ["name"] (namedF .named) := by
  refine okD Fu sc_named fun cdv A outer s H E s0 Ξ hr tk => ?_
  have hst : ∀ (d0 : D), startD ["name"] [d0] = [some d0] := fun _ => rfl
  refine ⟨_, dss_cons (ds_expr (de_calleeX tk c_check_name (hr.mono (by decide)) rfl (da_cons (de_var 0) da_nil))) (dss_cons (ds_ret (de_make c_Value (hr.mono (by decide)) rfl (da_cons (de_tup (da_cons (de_tup (da_cons (de_str) (da_cons (de_var 0) da_nil))) da_nil)) da_nil))) dss_nil), ?_⟩
  intro ds m Φ hl h
  obtain ⟨z, rfl, h1, h2, h3⟩ := h
  try rw [hst]
  walk_at "go"
  refine ⟨z, rfl, h1, fun g => ?_, h3⟩
  walk_at "go"
  exact h2 g
abbrev s_now : Stmt := topS 24
theorem sc_now : FnScope ["name"] ["name"] (defScope s_now) := ⟨rfl, rfl, rfl, by decide +kernel, rfl, by decide +kernel, by decide +kernel⟩
theorem ok_now (Fu : Fun K "now" "now" s_now f fd) (c_check_name : Callee P w K mg base cl "check_name" 3 ["name"] nameF) (c_Value : Maker P w K mg base cl "Value" 0 1 ["self", "signs"] initF)  : FnD P w K mg base cl 4 f fd ["name"] (namedF .now) := by
  refine okD Fu sc_now fun cdv A outer s H E s0 Ξ hr tk => ?_
  have hst : ∀ (d0 : D), startD ["name"] [d0] = [some d0] := fun _ => rfl
  refine ⟨_, dss_cons (ds_expr (de_calleeX tk c_check_name (hr.mono (by decide)) rfl (da_cons (de_var 0) da_nil))) (dss_cons (ds_ret (de_make c_Value (hr.mono (by decide)) rfl (da_cons (de_tup (da_cons (de_tup (da_cons (de_str) (da_cons (de_var 0) da_nil))) da_nil)) da_nil))) dss_nil), ?_⟩
  intro ds m Φ hl h
  obtain ⟨z, rfl, h1, h2, h3⟩ := h
  try rw [hst]
  walk_at "go"
  refine ⟨z, rfl, h1, fun g => ?_, h3⟩
  walk_at "go"
  exact h2 g
def passedF : DFn := fun ds m Φ _ => ds = [] ∧ Φ (valD [.passed]) m
abbrev s_passed : Stmt := topS 25
theorem sc_passed : FnScope [] [] (defScope s_passed) := ⟨rfl, rfl, rfl, by decide +kernel, rfl, by decide +kernel, by decide +kernel⟩
theorem ok_passed (Fu : Fun K "passed" "passed" s_passed f fd) (c_Value : Maker P w K mg base cl "Value" 0 1 ["self", "signs"] initF)  : FnD P w K mg base cl 3 f fd [] passedF := by
  refine okD Fu sc_passed fun cdv A outer s H E s0 Ξ hr tk => ?_
  refine ⟨_, dss_cons (ds_ret (de_make c_Value (hr.mono (by decide)) rfl (da_cons (de_tup (da_cons (de_tup (da_cons (de_str) (da_cons (de_str) da_nil))) da_nil)) da_nil))) dss_nil, ?_⟩
  intro ds m Φ hl h
  obtain ⟨rfl, h2⟩ := h
  walk_at "go"
  exact h2
def numberF : DFn := fun ds m Φ _ => ∃ n, ds = [.v (.int n)] ∧ Φ (valD [.num n]) m
abbrev s_number : Stmt := topS 26
theorem sc_number : FnScope ["n"] ["n"] (defScope s_number) := ⟨rfl, rfl, rfl, by decide +kernel, rfl, by decide +kernel, by decide +kernel⟩
theorem ok_number (Fu : Fun K "number" "number" s_number f fd) (c_Value : Maker P w K mg base cl "Value" 0 1 ["self", "signs"] initF)  : FnD P w K mg base cl 3 f fd ["n"] numberF := by
  refine okD Fu sc_number fun cdv A outer s H E s0 Ξ hr tk => ?_
  have hst : ∀ (d0 : D), startD ["n"] [d0] = [some d0] := fun _ => rfl
  refine ⟨_, dss_cons (ds_ret (de_make c_Value (hr.mono (by decide)) rfl (da_cons (de_tup (da_cons (de_tup (da_cons (de_str) (da_cons (de_var 0) da_nil))) da_nil)) da_nil))) dss_nil, ?_⟩
  intro ds m Φ hl h
  obtain ⟨n, rfl, h2⟩ := h
  try rw [hst]
  walk_at "go"
  exact h2

/-! ## signs of two -/
def VOf (x : D) (ss : List Sg) : Prop := x = valD ss ∨ ∃ n, x = .v (.int n) ∧ ss = [.num n]
def asF : DFn := fun ds m Φ _ => ∃ x ss, ds = [x] ∧ VOf x ss ∧ Φ (valD ss) m
abbrev s_as_value : Stmt := topS 27
theorem sc_as_value : FnScope ["thing"] ["thing"] (defScope s_as_value) := ⟨rfl, rfl, rfl, by decide +kernel, rfl, by decide +kernel, by decide +kernel⟩
theorem ok_as_value (Fu : Fun K "as_value" "as_value" s_as_value f fd) (b_isinstance : mg "isinstance" = none) (i_Value : IsC K (cl 0)) (g_Value : mg "Value" = some (.ref (cl 0))) (c_number : Callee P w K mg base cl "number" 3 ["n"] numberF)  : FnD P w K mg base cl 4 f fd ["thing"] asF := by
  refine okD Fu sc_as_value fun cdv A outer s H E s0 Ξ hr tk => ?_
  have hst : ∀ (d0 : D), startD ["thing"] [d0] = [some d0] := fun _ => rfl
  refine ⟨_, dss_cons (ds_if (dt_val (de_isi i_Value rfl b_isinstance (da_cons (de_var 0) (da_cons (de_glob (v := .ref (cl 0)) (x := "Value") rfl g_Value rfl) da_nil)))) (dss_cons (ds_ret (de_var 0)) dss_nil) (dss_nil)) (dss_cons (ds_ret (de_callee c_number (hr.mono (by decide)) rfl (da_cons (de_var 0) da_nil))) dss_nil), ?_⟩
  intro ds m Φ hl h
  obtain ⟨x, ss, rfl, h1, h2⟩ := h
  rcases h1 with rfl | ⟨n, rfl, rfl⟩
  · try rw [hst]
    walk_at "go"
    exact h2
  · walk_at "go"
    exact ⟨n, rfl, h2⟩
/-- built of two -/
structure JOk (sx sy : List Sg) : Prop where
  x : sx ≠ []
  y : sy ≠ []
  z : sx.length + sy.length ≤ 1000
def joinF : DFn := fun ds m Φ _ => ∃ x y sx sy o, ds = [x, .v (.str o), y] ∧ VOf x sx ∧ VOf y sy ∧ JOk sx sy ∧ Φ (valD (sx ++ sy ++ [.op o])) m
theorem valD_op {sx sy : List Sg} {o : Str} : valD (sx ++ sy ++ [Sg.op o]) = .obj 0 ["signs"] [.tup (sx.map sgD ++ sy.map sgD ++ [.tup [.v (.str o), .v (.str "")]])] := by
  show D.obj 0 ["signs"] [.tup ((sx ++ sy ++ [Sg.op o]).map sgD)] = _
  rw [List.map_append, List.map_append]
  rfl
theorem map_ne {ss : List Sg} (h : ss ≠ []) : ss.map sgD ≠ [] := fun e => h (List.map_eq_nil_iff.mp e)
abbrev s_joined : Stmt := topS 28
theorem sc_joined : FnScope ["one", "sign", "other"] ["one", "sign", "other"] (defScope s_joined) := ⟨rfl, rfl, rfl, by decide +kernel, rfl, by decide +kernel, by decide +kernel⟩
theorem ok_joined (Fu : Fun K "joined" "joined" s_joined f fd) (c_Value : Maker P w K mg base cl "Value" 0 1 ["self", "signs"] initF) (f_Value_signs : FldOk K (cl 0) "signs") (c_as_value : Callee P w K mg base cl "as_value" 4 ["thing"] asF)  : FnD P w K mg base cl 5 f fd ["one", "sign", "other"] joinF := by
  refine okD Fu sc_joined fun cdv A outer s H E s0 Ξ hr tk => ?_
  have hst : ∀ (d0 d1 d2 : D), startD ["one", "sign", "other"] [d0, d1, d2] = [some d0, some d1, some d2] := fun _ _ _ => rfl
  refine ⟨_, dss_cons (ds_ret (de_make c_Value (hr.mono (by decide)) rfl (da_cons (de_add (de_add (de_fld f_Value_signs (de_callee c_as_value (hr.mono (by decide)) rfl (da_cons (de_var 0) da_nil))) (de_fld f_Value_signs (de_callee c_as_value (hr.mono (by decide)) rfl (da_cons (de_var 2) da_nil)))) (de_tup (da_cons (de_tup (da_cons (de_var 1) (da_cons (de_str) da_nil))) da_nil))) da_nil))) dss_nil, ?_⟩
  intro ds m Φ hl h
  obtain ⟨x, y, sx, sy, o, rfl, h1, h2, ⟨n1, n2, n3⟩, h3⟩ := h
  try rw [hst]
  walk_at "go"
  refine ⟨x, sx, rfl, h1, ?_⟩
  walk_at "go"
  refine ⟨y, sy, rfl, h2, ?_⟩
  walk_at "go"
  refine ⟨⟨map_ne n1, map_ne n2, by rw [List.length_map, List.length_map, sizeLine_eq]; omega⟩, ?_⟩
  walk_at "go"
  refine ⟨⟨?_, ?_, ?_⟩, ?_⟩
  · exact fun e => map_ne n1 (List.append_eq_nil_iff.mp e).1
  · exact fun e => nomatch e
  · rw [List.length_append, List.length_map, List.length_map, sizeLine_eq, List.length_singleton]; omega
  walk_at "go"
  rw [valD_op] at h3
  exact h3
def divF : DFn := fun ds m Φ Ξ => ∃ x sx o n, ds = [x, .v (.str o), .v (.int n)] ∧ VOf x sx ∧ JOk sx [.num n] ∧ (1 ≤ n → Φ (valD (sx ++ [.num n] ++ [.op o])) m) ∧ (n < 1 → Ξ 15 (.v (.int n)) m)
abbrev s_divided : Stmt := topS 29
theorem sc_divided : FnScope ["value", "sign", "n"] ["value", "sign", "n"] (defScope s_divided) := ⟨rfl, rfl, rfl, by decide +kernel, rfl, by decide +kernel, by decide +kernel⟩
theorem ok_divided (Fu : Fun K "divided" "divided" s_divided f fd) (e_InvalidDivisor : XRaise P w K mg base cl "InvalidDivisor" 15 1) (c_joined : Callee P w K mg base cl "joined" 5 ["one", "sign", "other"] joinF)  : FnD P w K mg base cl 6 f fd ["value", "sign", "n"] divF := by
  refine okD Fu sc_divided fun cdv A outer s H E s0 Ξ hr tk => ?_
  have hst : ∀ (d0 d1 d2 : D), startD ["value", "sign", "n"] [d0, d1, d2] = [some d0, some d1, some d2] := fun _ _ _ => rfl
  refine ⟨_, dss_cons (ds_if (dt_lt (de_var 2) (de_int)) (dss_cons (ds_raise rfl tk e_InvalidDivisor (hr.mono (by decide)) rfl (da_cons (de_var 2) da_nil)) dss_nil) (dss_nil)) (dss_cons (ds_ret (de_callee c_joined (hr.mono (by decide)) rfl (da_cons (de_var 0) (da_cons (de_var 1) (da_cons (de_var 2) da_nil))))) dss_nil), ?_⟩
  intro ds m Φ hl h
  obtain ⟨x, sx, o, n, rfl, h1, h3, h4, h5⟩ := h
  try rw [hst]
  walk_at "go"
  refine i_dec (fun h2 => ?_) (fun h2 => ?_)
  · walk_at "go"
    exact h5 h2
  · walk_at "go"
    exact ⟨x, _, sx, _, o, rfl, h1, .inr ⟨n, rfl, rfl⟩, h3, h4 (by omega)⟩
/-- the class's signs: x op y, y op x -/
def signF (o : Str) : DFn := fun ds m Φ _ => ∃ x y sx sy, ds = [x, y] ∧ VOf x sx ∧ VOf y sy ∧ JOk sx sy ∧ Φ (valD (sx ++ sy ++ [.op o])) m
def signR (o : Str) : DFn := fun ds m Φ _ => ∃ x y sx sy, ds = [x, y] ∧ VOf x sx ∧ VOf y sy ∧ JOk sy sx ∧ Φ (valD (sy ++ sx ++ [.op o])) m
def restF (o : Str) : DFn := fun ds m Φ Ξ => ∃ x sx n, ds = [x, .v (.int n)] ∧ VOf x sx ∧ JOk sx [.num n] ∧ (1 ≤ n → Φ (valD (sx ++ [.num n] ++ [.op o])) m) ∧ (n < 1 → Ξ 15 (.v (.int n)) m)
abbrev s_add : Stmt := memS 30 1
theorem sc_add : FnScope ["self", "other"] ["self", "other"] (defScope s_add) := ⟨rfl, rfl, rfl, by decide +kernel, rfl, by decide +kernel, by decide +kernel⟩
theorem ok_add (Fu : Fun K "__add__" "Value.__add__" s_add f fd) (c_joined : Callee P w K mg base cl "joined" 5 ["one", "sign", "other"] joinF)  : FnD P w K mg base cl 6 f fd ["self", "other"] (signF "+") := by
  refine okD Fu sc_add fun cdv A outer s H E s0 Ξ hr tk => ?_
  have hst : ∀ (d0 d1 : D), startD ["self", "other"] [d0, d1] = [some d0, some d1] := fun _ _ => rfl
  refine ⟨_, dss_cons (ds_ret (de_callee c_joined (hr.mono (by decide)) rfl (da_cons (de_var 0) (da_cons (de_str) (da_cons (de_var 1) da_nil))))) dss_nil, ?_⟩
  intro ds m Φ hl h
  obtain ⟨x, y, sx, sy, rfl, h1, h2, h3, h4⟩ := h
  try rw [hst]
  walk_at "go"
  exact ⟨x, y, sx, sy, _, rfl, h1, h2, h3, h4⟩
abbrev s_radd : Stmt := memS 30 2
theorem sc_radd : FnScope ["self", "other"] ["self", "other"] (defScope s_radd) := ⟨rfl, rfl, rfl, by decide +kernel, rfl, by decide +kernel, by decide +kernel⟩
theorem ok_radd (Fu : Fun K "__radd__" "Value.__radd__" s_radd f fd) (c_joined : Callee P w K mg base cl "joined" 5 ["one", "sign", "other"] joinF)  : FnD P w K mg base cl 6 f fd ["self", "other"] (signR "+") := by
  refine okD Fu sc_radd fun cdv A outer s H E s0 Ξ hr tk => ?_
  have hst : ∀ (d0 d1 : D), startD ["self", "other"] [d0, d1] = [some d0, some d1] := fun _ _ => rfl
  refine ⟨_, dss_cons (ds_ret (de_callee c_joined (hr.mono (by decide)) rfl (da_cons (de_var 1) (da_cons (de_str) (da_cons (de_var 0) da_nil))))) dss_nil, ?_⟩
  intro ds m Φ hl h
  obtain ⟨x, y, sx, sy, rfl, h1, h2, h3, h4⟩ := h
  try rw [hst]
  walk_at "go"
  exact ⟨y, x, sy, sx, _, rfl, h2, h1, h3, h4⟩
abbrev s_sub : Stmt := memS 30 3
theorem sc_sub : FnScope ["self", "other"] ["self", "other"] (defScope s_sub) := ⟨rfl, rfl, rfl, by decide +kernel, rfl, by decide +kernel, by decide +kernel⟩
theorem ok_sub (Fu : Fun K "__sub__" "Value.__sub__" s_sub f fd) (c_joined : Callee P w K mg base cl "joined" 5 ["one", "sign", "other"] joinF)  : FnD P w K mg base cl 6 f fd ["self", "other"] (signF "-") := by
  refine okD Fu sc_sub fun cdv A outer s H E s0 Ξ hr tk => ?_
  have hst : ∀ (d0 d1 : D), startD ["self", "other"] [d0, d1] = [some d0, some d1] := fun _ _ => rfl
  refine ⟨_, dss_cons (ds_ret (de_callee c_joined (hr.mono (by decide)) rfl (da_cons (de_var 0) (da_cons (de_str) (da_cons (de_var 1) da_nil))))) dss_nil, ?_⟩
  intro ds m Φ hl h
  obtain ⟨x, y, sx, sy, rfl, h1, h2, h3, h4⟩ := h
  try rw [hst]
  walk_at "go"
  exact ⟨x, y, sx, sy, _, rfl, h1, h2, h3, h4⟩
abbrev s_rsub : Stmt := memS 30 4
theorem sc_rsub : FnScope ["self", "other"] ["self", "other"] (defScope s_rsub) := ⟨rfl, rfl, rfl, by decide +kernel, rfl, by decide +kernel, by decide +kernel⟩
theorem ok_rsub (Fu : Fun K "__rsub__" "Value.__rsub__" s_rsub f fd) (c_joined : Callee P w K mg base cl "joined" 5 ["one", "sign", "other"] joinF)  : FnD P w K mg base cl 6 f fd ["self", "other"] (signR "-") := by
  refine okD Fu sc_rsub fun cdv A outer s H E s0 Ξ hr tk => ?_
  have hst : ∀ (d0 d1 : D), startD ["self", "other"] [d0, d1] = [some d0, some d1] := fun _ _ => rfl
  refine ⟨_, dss_cons (ds_ret (de_callee c_joined (hr.mono (by decide)) rfl (da_cons (de_var 1) (da_cons (de_str) (da_cons (de_var 0) da_nil))))) dss_nil, ?_⟩
  intro ds m Φ hl h
  obtain ⟨x, y, sx, sy, rfl, h1, h2, h3, h4⟩ := h
  try rw [hst]
  walk_at "go"
  exact ⟨y, x, sy, sx, _, rfl, h2, h1, h3, h4⟩
abbrev s_mul : Stmt := memS 30 5
theorem sc_mul : FnScope ["self", "other"] ["self", "other"] (defScope s_mul) := ⟨rfl, rfl, rfl, by decide +kernel, rfl, by decide +kernel, by decide +kernel⟩
theorem ok_mul (Fu : Fun K "__mul__" "Value.__mul__" s_mul f fd) (c_joined : Callee P w K mg base cl "joined" 5 ["one", "sign", "other"] joinF)  : FnD P w K mg base cl 6 f fd ["self", "other"] (signF "*") := by
  refine okD Fu sc_mul fun cdv A outer s H E s0 Ξ hr tk => ?_
  have hst : ∀ (d0 d1 : D), startD ["self", "other"] [d0, d1] = [some d0, some d1] := fun _ _ => rfl
  refine ⟨_, dss_cons (ds_ret (de_callee c_joined (hr.mono (by decide)) rfl (da_cons (de_var 0) (da_cons (de_str) (da_cons (de_var 1) da_nil))))) dss_nil, ?_⟩
  intro ds m Φ hl h
  obtain ⟨x, y, sx, sy, rfl, h1, h2, h3, h4⟩ := h
  try rw [hst]
  walk_at "go"
  exact ⟨x, y, sx, sy, _, rfl, h1, h2, h3, h4⟩
abbrev s_rmul : Stmt := memS 30 6
theorem sc_rmul : FnScope ["self", "other"] ["self", "other"] (defScope s_rmul) := ⟨rfl, rfl, rfl, by decide +kernel, rfl, by decide +kernel, by decide +kernel⟩
theorem ok_rmul (Fu : Fun K "__rmul__" "Value.__rmul__" s_rmul f fd) (c_joined : Callee P w K mg base cl "joined" 5 ["one", "sign", "other"] joinF)  : FnD P w K mg base cl 6 f fd ["self", "other"] (signR "*") := by
  refine okD Fu sc_rmul fun cdv A outer s H E s0 Ξ hr tk => ?_
  have hst : ∀ (d0 d1 : D), startD ["self", "other"] [d0, d1] = [some d0, some d1] := fun _ _ => rfl
  refine ⟨_, dss_cons (ds_ret (de_callee c_joined (hr.mono (by decide)) rfl (da_cons (de_var 1) (da_cons (de_str) (da_cons (de_var 0) da_nil))))) dss_nil, ?_⟩
  intro ds m Φ hl h
  obtain ⟨x, y, sx, sy, rfl, h1, h2, h3, h4⟩ := h
  try rw [hst]
  walk_at "go"
  exact ⟨y, x, sy, sx, _, rfl, h2, h1, h3, h4⟩
abbrev s_floordiv : Stmt := memS 30 7
theorem sc_floordiv : FnScope ["self", "other"] ["self", "other"] (defScope s_floordiv) := ⟨rfl, rfl, rfl, by decide +kernel, rfl, by decide +kernel, by decide +kernel⟩
theorem ok_floordiv (Fu : Fun K "__floordiv__" "Value.__floordiv__" s_floordiv f fd) (c_divided : Callee P w K mg base cl "divided" 6 ["value", "sign", "n"] divF)  : FnD P w K mg base cl 7 f fd ["self", "other"] (restF "//") := by
  refine okD Fu sc_floordiv fun cdv A outer s H E s0 Ξ hr tk => ?_
  have hst : ∀ (d0 d1 : D), startD ["self", "other"] [d0, d1] = [some d0, some d1] := fun _ _ => rfl
  refine ⟨_, dss_cons (ds_ret (de_calleeX tk c_divided (hr.mono (by decide)) rfl (da_cons (de_var 0) (da_cons (de_str) (da_cons (de_var 1) da_nil))))) dss_nil, ?_⟩
  intro ds m Φ hl h
  obtain ⟨x, sx, n, rfl, h1, h3, h4, h5⟩ := h
  try rw [hst]
  walk_at "go"
  exact ⟨x, sx, _, n, rfl, h1, h3, h4, h5⟩
abbrev s_rest : Stmt := memS 30 8
theorem sc_rest : FnScope ["self", "n"] ["self", "n"] (defScope s_rest) := ⟨rfl, rfl, rfl, by decide +kernel, rfl, by decide +kernel, by decide +kernel⟩
theorem ok_rest (Fu : Fun K "rest" "Value.rest" s_rest f fd) (c_divided : Callee P w K mg base cl "divided" 6 ["value", "sign", "n"] divF)  : FnD P w K mg base cl 7 f fd ["self", "n"] (restF "mod") := by
  refine okD Fu sc_rest fun cdv A outer s H E s0 Ξ hr tk => ?_
  have hst : ∀ (d0 d1 : D), startD ["self", "n"] [d0, d1] = [some d0, some d1] := fun _ _ => rfl
  refine ⟨_, dss_cons (ds_ret (de_calleeX tk c_divided (hr.mono (by decide)) rfl (da_cons (de_var 0) (da_cons (de_str) (da_cons (de_var 1) da_nil))))) dss_nil, ?_⟩
  intro ds m Φ hl h
  obtain ⟨x, sx, n, rfl, h1, h3, h4, h5⟩ := h
  try rw [hst]
  walk_at "go"
  exact ⟨x, sx, _, n, rfl, h1, h3, h4, h5⟩
abbrev s_and_ : Stmt := memS 30 9
theorem sc_and_ : FnScope ["self", "other"] ["self", "other"] (defScope s_and_) := ⟨rfl, rfl, rfl, by decide +kernel, rfl, by decide +kernel, by decide +kernel⟩
theorem ok_and_ (Fu : Fun K "__and__" "Value.__and__" s_and_ f fd) (c_joined : Callee P w K mg base cl "joined" 5 ["one", "sign", "other"] joinF)  : FnD P w K mg base cl 6 f fd ["self", "other"] (signF "&") := by
  refine okD Fu sc_and_ fun cdv A outer s H E s0 Ξ hr tk => ?_
  have hst : ∀ (d0 d1 : D), startD ["self", "other"] [d0, d1] = [some d0, some d1] := fun _ _ => rfl
  refine ⟨_, dss_cons (ds_ret (de_callee c_joined (hr.mono (by decide)) rfl (da_cons (de_var 0) (da_cons (de_str) (da_cons (de_var 1) da_nil))))) dss_nil, ?_⟩
  intro ds m Φ hl h
  obtain ⟨x, y, sx, sy, rfl, h1, h2, h3, h4⟩ := h
  try rw [hst]
  walk_at "go"
  exact ⟨x, y, sx, sy, _, rfl, h1, h2, h3, h4⟩
abbrev s_rand_ : Stmt := memS 30 10
theorem sc_rand_ : FnScope ["self", "other"] ["self", "other"] (defScope s_rand_) := ⟨rfl, rfl, rfl, by decide +kernel, rfl, by decide +kernel, by decide +kernel⟩
theorem ok_rand_ (Fu : Fun K "__rand__" "Value.__rand__" s_rand_ f fd) (c_joined : Callee P w K mg base cl "joined" 5 ["one", "sign", "other"] joinF)  : FnD P w K mg base cl 6 f fd ["self", "other"] (signR "&") := by
  refine okD Fu sc_rand_ fun cdv A outer s H E s0 Ξ hr tk => ?_
  have hst : ∀ (d0 d1 : D), startD ["self", "other"] [d0, d1] = [some d0, some d1] := fun _ _ => rfl
  refine ⟨_, dss_cons (ds_ret (de_callee c_joined (hr.mono (by decide)) rfl (da_cons (de_var 1) (da_cons (de_str) (da_cons (de_var 0) da_nil))))) dss_nil, ?_⟩
  intro ds m Φ hl h
  obtain ⟨x, y, sx, sy, rfl, h1, h2, h3, h4⟩ := h
  try rw [hst]
  walk_at "go"
  exact ⟨y, x, sy, sx, _, rfl, h2, h1, h3, h4⟩
abbrev s_or_ : Stmt := memS 30 11
theorem sc_or_ : FnScope ["self", "other"] ["self", "other"] (defScope s_or_) := ⟨rfl, rfl, rfl, by decide +kernel, rfl, by decide +kernel, by decide +kernel⟩
theorem ok_or_ (Fu : Fun K "__or__" "Value.__or__" s_or_ f fd) (c_joined : Callee P w K mg base cl "joined" 5 ["one", "sign", "other"] joinF)  : FnD P w K mg base cl 6 f fd ["self", "other"] (signF "|") := by
  refine okD Fu sc_or_ fun cdv A outer s H E s0 Ξ hr tk => ?_
  have hst : ∀ (d0 d1 : D), startD ["self", "other"] [d0, d1] = [some d0, some d1] := fun _ _ => rfl
  refine ⟨_, dss_cons (ds_ret (de_callee c_joined (hr.mono (by decide)) rfl (da_cons (de_var 0) (da_cons (de_str) (da_cons (de_var 1) da_nil))))) dss_nil, ?_⟩
  intro ds m Φ hl h
  obtain ⟨x, y, sx, sy, rfl, h1, h2, h3, h4⟩ := h
  try rw [hst]
  walk_at "go"
  exact ⟨x, y, sx, sy, _, rfl, h1, h2, h3, h4⟩
abbrev s_ror_ : Stmt := memS 30 12
theorem sc_ror_ : FnScope ["self", "other"] ["self", "other"] (defScope s_ror_) := ⟨rfl, rfl, rfl, by decide +kernel, rfl, by decide +kernel, by decide +kernel⟩
theorem ok_ror_ (Fu : Fun K "__ror__" "Value.__ror__" s_ror_ f fd) (c_joined : Callee P w K mg base cl "joined" 5 ["one", "sign", "other"] joinF)  : FnD P w K mg base cl 6 f fd ["self", "other"] (signR "|") := by
  refine okD Fu sc_ror_ fun cdv A outer s H E s0 Ξ hr tk => ?_
  have hst : ∀ (d0 d1 : D), startD ["self", "other"] [d0, d1] = [some d0, some d1] := fun _ _ => rfl
  refine ⟨_, dss_cons (ds_ret (de_callee c_joined (hr.mono (by decide)) rfl (da_cons (de_var 1) (da_cons (de_str) (da_cons (de_var 0) da_nil))))) dss_nil, ?_⟩
  intro ds m Φ hl h
  obtain ⟨x, y, sx, sy, rfl, h1, h2, h3, h4⟩ := h
  try rw [hst]
  walk_at "go"
  exact ⟨y, x, sy, sx, _, rfl, h2, h1, h3, h4⟩
abbrev s_same : Stmt := memS 30 14
theorem sc_same : FnScope ["self", "other"] ["self", "other"] (defScope s_same) := ⟨rfl, rfl, rfl, by decide +kernel, rfl, by decide +kernel, by decide +kernel⟩
theorem ok_same (Fu : Fun K "same" "Value.same" s_same f fd) (c_joined : Callee P w K mg base cl "joined" 5 ["one", "sign", "other"] joinF)  : FnD P w K mg base cl 6 f fd ["self", "other"] (signF "=") := by
  refine okD Fu sc_same fun cdv A outer s H E s0 Ξ hr tk => ?_
  have hst : ∀ (d0 d1 : D), startD ["self", "other"] [d0, d1] = [some d0, some d1] := fun _ _ => rfl
  refine ⟨_, dss_cons (ds_ret (de_callee c_joined (hr.mono (by decide)) rfl (da_cons (de_var 0) (da_cons (de_str) (da_cons (de_var 1) da_nil))))) dss_nil, ?_⟩
  intro ds m Φ hl h
  obtain ⟨x, y, sx, sy, rfl, h1, h2, h3, h4⟩ := h
  try rw [hst]
  walk_at "go"
  exact ⟨x, y, sx, sy, _, rfl, h1, h2, h3, h4⟩
abbrev s_less : Stmt := memS 30 15
theorem sc_less : FnScope ["self", "other"] ["self", "other"] (defScope s_less) := ⟨rfl, rfl, rfl, by decide +kernel, rfl, by decide +kernel, by decide +kernel⟩
theorem ok_less (Fu : Fun K "less" "Value.less" s_less f fd) (c_joined : Callee P w K mg base cl "joined" 5 ["one", "sign", "other"] joinF)  : FnD P w K mg base cl 6 f fd ["self", "other"] (signF "<") := by
  refine okD Fu sc_less fun cdv A outer s H E s0 Ξ hr tk => ?_
  have hst : ∀ (d0 d1 : D), startD ["self", "other"] [d0, d1] = [some d0, some d1] := fun _ _ => rfl
  refine ⟨_, dss_cons (ds_ret (de_callee c_joined (hr.mono (by decide)) rfl (da_cons (de_var 0) (da_cons (de_str) (da_cons (de_var 1) da_nil))))) dss_nil, ?_⟩
  intro ds m Φ hl h
  obtain ⟨x, y, sx, sy, rfl, h1, h2, h3, h4⟩ := h
  try rw [hst]
  walk_at "go"
  exact ⟨x, y, sx, sy, _, rfl, h1, h2, h3, h4⟩
def invF : DFn := fun ds m Φ _ => ∃ sx, ds = [valD sx] ∧ sx ≠ [] ∧ sx.length ≤ 1000 ∧ Φ (valD (sx ++ [.op "~"])) m
theorem valD_one {sx : List Sg} {o : Str} : valD (sx ++ [Sg.op o]) = .obj 0 ["signs"] [.tup (sx.map sgD ++ [.tup [.v (.str o), .v (.str "")]])] := by
  show D.obj 0 ["signs"] [.tup ((sx ++ [Sg.op o]).map sgD)] = _
  rw [List.map_append]
  rfl
abbrev s_invert : Stmt := memS 30 13
theorem sc_invert : FnScope ["self"] ["self"] (defScope s_invert) := ⟨rfl, rfl, rfl, by decide +kernel, rfl, by decide +kernel, by decide +kernel⟩
theorem ok_invert (Fu : Fun K "__invert__" "Value.__invert__" s_invert f fd) (c_Value : Maker P w K mg base cl "Value" 0 1 ["self", "signs"] initF) (f_Value_signs : FldOk K (cl 0) "signs")  : FnD P w K mg base cl 3 f fd ["self"] invF := by
  refine okD Fu sc_invert fun cdv A outer s H E s0 Ξ hr tk => ?_
  have hst : ∀ (d0 : D), startD ["self"] [d0] = [some d0] := fun _ => rfl
  refine ⟨_, dss_cons (ds_ret (de_make c_Value (hr.mono (by decide)) rfl (da_cons (de_add (de_fld f_Value_signs (de_var 0)) (de_tup (da_cons (de_tup (da_cons (de_str) (da_cons (de_str) da_nil))) da_nil))) da_nil))) dss_nil, ?_⟩
  intro ds m Φ hl h
  obtain ⟨sx, rfl, h1, h2, h3⟩ := h
  try rw [hst]
  walk_at "go"
  refine ⟨⟨map_ne h1, (fun e => nomatch e), by rw [List.length_map, List.length_singleton, sizeLine_eq]; omega⟩, ?_⟩
  walk_at "go"
  rw [valD_one] at h3
  exact h3
end ER

namespace ER
open PySem PySem.Spec PyProof.Rows L2
variable {P : Program} {w : World} {K : PySem.W.Frag} {mg : Str → Option Value} {base : Heap} {cl : Nat → Addr} {f : Addr} {fd : FuncData}
/-! ## signs as data, compared -/
def sgP : Sg → PyData
  | .named z => .tuple [.str "named", .str z]
  | .now z => .tuple [.str "now", .str z]
  | .passed => .tuple [.str "passed", .str ""]
  | .num n => .tuple [.str "number", .int n]
  | .op z => .tuple [.str z, .str ""]
theorem pyof_str {z : Str} : PyOf (.v (.str z)) (.str z) := .v rfl
theorem pyof_int {n : Int} : PyOf (.v (.int n)) (.int n) := .v rfl
theorem pyof_pair {a b : D} {p q : PyData} (h : PyOf a p) (k : PyOf b q) : PyOf (.tup [a, b]) (.tuple [p, q]) := .tup (.cons h (.cons k .nil))
theorem pyof_sg : ∀ s, PyOf (sgD s) (sgP s)
  | .named z => pyof_pair pyof_str pyof_str
  | .now z => pyof_pair pyof_str pyof_str
  | .passed => pyof_pair pyof_str pyof_str
  | .num n => pyof_pair pyof_str pyof_int
  | .op z => pyof_pair pyof_str pyof_str
theorem pyofs_sg : ∀ ss : List Sg, PyOfs (ss.map sgD) (ss.map sgP)
  | [] => .nil
  | s :: ss => .cons (pyof_sg s) (pyofs_sg ss)
def okS : Sg → Prop
  | .op o => o ∉ (["named", "now", "passed", "number"] : List Str)
  | _ => True
/-- its texts are texts -/
def fine : Sg → Prop
  | .named z => PyData.strOk z = true
  | .now z => PyData.strOk z = true
  | .op o => o ∉ (["named", "now", "passed", "number"] : List Str) ∧ PyData.strOk o = true
  | _ => True
theorem fine.ok {s : Sg} (h : fine s) : okS s := by
  cases s <;> first | trivial | exact h.1
theorem low_ok {z : Str} (h : low z) : PyData.strOk z = true := by
  show z.cps.all (· < 0x110000) = true
  rw [Array.all_eq_true']
  intro c hc
  have := h c (Array.mem_toList_iff.mpr hc)
  exact decide_eq_true (by omega)
theorem good_ok {z : Str} (h : goodName z) : PyData.strOk z = true := low_ok h.2.2
theorem lay_sg {s : Sg} (h : fine s) : (sgP s).canLay0 = true ∧ (sgP s).depth ≤ 1 := by
  cases s with
  | named z => exact ⟨by show (PyData.strOk _ && (PyData.strOk z && true)) = true; rw [show PyData.strOk z = true from h]; decide +kernel, Nat.le_refl _⟩
  | now z => exact ⟨by show (PyData.strOk _ && (PyData.strOk z && true)) = true; rw [show PyData.strOk z = true from h]; decide +kernel, Nat.le_refl _⟩
  | passed => exact ⟨by decide +kernel, Nat.le_refl _⟩
  | num n => exact ⟨by show (PyData.strOk _ && (true && true)) = true; decide +kernel, Nat.le_refl _⟩
  | op z => exact ⟨by show (PyData.strOk z && (PyData.strOk _ && true)) = true; rw [h.2]; decide +kernel, Nat.le_refl _⟩
theorem lay_sgs : ∀ ss : List Sg, (∀ s ∈ ss, fine s) → PyData.canLayAll0 (ss.map sgP) = true ∧ PyData.depthAll (ss.map sgP) ≤ 1
  | [], _ => ⟨rfl, Nat.zero_le _⟩
  | s :: ss, h => by
    obtain ⟨h1, h2⟩ := lay_sg (h s List.mem_cons_self)
    obtain ⟨h3, h4⟩ := lay_sgs ss fun s hs => h s (List.mem_cons_of_mem _ hs)
    refine ⟨?_, ?_⟩
    · show ((sgP s).canLay0 && PyData.canLayAll0 (ss.map sgP)) = true
      rw [h1, h3]; rfl
    · show max (sgP s).depth (PyData.depthAll (ss.map sgP)) ≤ 1
      omega
theorem shaped_sgs {ss : List Sg} (h : ∀ s ∈ ss, fine s) : SeqAt.shaped (.tuple (ss.map sgP)) = true := by
  obtain ⟨h1, h2⟩ := lay_sgs ss h
  show (PyData.canLayAll0 (ss.map sgP) && decide (PyData.depthAll (ss.map sgP) + 1 ≤ 64)) = true
  rw [h1, decide_eq_true (by omega)]; rfl
theorem shaped_sgl {ss : List Sg} (h : ∀ s ∈ ss, fine s) : SeqAt.shaped (.list (ss.map sgP)) = true := shaped_sgs h
theorem eqv_pair {a b c d : PyData} : PyData.eqv (.tuple [a, b]) (.tuple [c, d]) = (PyData.eqv a c && (PyData.eqv b d && true)) := rfl
theorem eqv_str {a b : Str} : PyData.eqv (.str a) (.str b) = (a == b) := rfl
theorem eqv_int {a b : Int} : PyData.eqv (.int a) (.int b) = (a == b) := rfl
theorem beq_dec {α : Type} [BEq α] [LawfulBEq α] [DecidableEq α] {a b : α} : (a == b) = decide (a = b) := by
  by_cases h : a = b
  · rw [h, beq_self_eq_true, decide_eq_true rfl]
  · rw [decide_eq_false h, beq_eq_false_iff_ne.mpr h]
theorem beq_no {a b : Str} (h : a ≠ b) : (a == b) = false := beq_eq_false_iff_ne.mpr h
theorem notk {o : Str} (h : o ∉ (["named", "now", "passed", "number"] : List Str)) : o ≠ "named" ∧ o ≠ "now" ∧ o ≠ "passed" ∧ o ≠ "number" := by
  simp only [List.mem_cons, List.not_mem_nil, or_false, not_or] at h
  exact h
theorem sg_eq {a b : Sg} (ha : fine a) (hb : fine b) : PyData.eqv (sgP a) (sgP b) = decide (a = b) := by
  have n1 : (("named" : Str) == "now") = false := by decide +kernel
  have n2 : (("named" : Str) == "passed") = false := by decide +kernel
  have n3 : (("named" : Str) == "number") = false := by decide +kernel
  have n4 : (("now" : Str) == "named") = false := by decide +kernel
  have n5 : (("now" : Str) == "passed") = false := by decide +kernel
  have n6 : (("now" : Str) == "number") = false := by decide +kernel
  have n7 : (("passed" : Str) == "named") = false := by decide +kernel
  have n8 : (("passed" : Str) == "now") = false := by decide +kernel
  have n9 : (("passed" : Str) == "number") = false := by decide +kernel
  have m1 : (("number" : Str) == "named") = false := by decide +kernel
  have m2 : (("number" : Str) == "now") = false := by decide +kernel
  have m3 : (("number" : Str) == "passed") = false := by decide +kernel
  have no : ∀ {p q : PyData} {x y : Str} {a b : Sg}, a ≠ b → (x == y) = false → PyData.eqv (.tuple [.str x, p]) (.tuple [.str y, q]) = decide (a = b) := fun {p q x y a b} h e => by
    rw [eqv_pair, eqv_str, e, decide_eq_false h]; rfl
  cases a with
  | named x => cases b with
    | named y => show PyData.eqv (.tuple [_, _]) (.tuple [_, _]) = _; rw [eqv_pair, eqv_str, eqv_str, beq_self_eq_true]; simp [beq_dec]
    | now y => exact no nofun n1
    | passed => exact no nofun n2
    | num n => exact no nofun n3
    | op o => exact no nofun (beq_no (notk hb.1).1.symm)
  | now x => cases b with
    | named y => exact no nofun n4
    | now y => show PyData.eqv (.tuple [_, _]) (.tuple [_, _]) = _; rw [eqv_pair, eqv_str, eqv_str, beq_self_eq_true]; simp [beq_dec]
    | passed => exact no nofun n5
    | num n => exact no nofun n6
    | op o => exact no nofun (beq_no (notk hb.1).2.1.symm)
  | passed => cases b with
    | named y => exact no nofun n7
    | now y => exact no nofun n8
    | passed => decide +kernel
    | num n => exact no nofun n9
    | op o => exact no nofun (beq_no (notk hb.1).2.2.1.symm)
  | num n => cases b with
    | named y => exact no nofun m1
    | now y => exact no nofun m2
    | passed => exact no nofun m3
    | num k => show PyData.eqv (.tuple [_, _]) (.tuple [_, _]) = _; rw [eqv_pair, eqv_str, eqv_int, beq_self_eq_true]; simp [beq_dec]
    | op o => exact no nofun (beq_no (notk hb.1).2.2.2.symm)
  | op o => cases b with
    | named y => exact no nofun (beq_no (notk ha.1).1)
    | now y => exact no nofun (beq_no (notk ha.1).2.1)
    | passed => exact no nofun (beq_no (notk ha.1).2.2.1)
    | num n => exact no nofun (beq_no (notk ha.1).2.2.2)
    | op p => show PyData.eqv (.tuple [_, _]) (.tuple [_, _]) = _; rw [eqv_pair, eqv_str, eqv_str, beq_self_eq_true]; simp [beq_dec]
theorem sgs_eq : ∀ {a b : List Sg}, (∀ s ∈ a, fine s) → (∀ s ∈ b, fine s) → PyData.eqvAll (a.map sgP) (b.map sgP) = decide (a = b)
  | [], [], _, _ => by simp [PyData.eqvAll]
  | [], _ :: _, _, _ => by simp [PyData.eqvAll]
  | _ :: _, [], _, _ => by simp [PyData.eqvAll]
  | x :: a, y :: b, ha, hb => by
    show (PyData.eqv (sgP x) (sgP y) && PyData.eqvAll (a.map sgP) (b.map sgP)) = _
    rw [sg_eq (ha x List.mem_cons_self) (hb y List.mem_cons_self), sgs_eq (fun s hs => ha s (List.mem_cons_of_mem _ hs)) (fun s hs => hb s (List.mem_cons_of_mem _ hs))]
    simp
def eqF : DFn := fun ds m Φ _ => ∃ a y, ds = [valD a, y] ∧ ((∃ b, y = valD b ∧ (∀ s ∈ a, fine s) ∧ (∀ s ∈ b, fine s) ∧ Φ (.v (.bl (decide (a = b)))) m) ∨ (isCD 0 y = some false ∧ Φ (.v (.bl false)) m))
abbrev s_eq_ : Stmt := memS 30 20
theorem sc_eq_ : FnScope ["self", "other"] ["self", "other"] (defScope s_eq_) := ⟨rfl, rfl, rfl, by decide +kernel, rfl, by decide +kernel, by decide +kernel⟩
theorem ok_eq_ (Fu : Fun K "__eq__" "Value.__eq__" s_eq_ f fd) (f_Value_signs : FldOk K (cl 0) "signs") (b_isinstance : mg "isinstance" = none) (i_Value : IsC K (cl 0)) (g_Value : mg "Value" = some (.ref (cl 0)))  : FnD P w K mg base cl 1 f fd ["self", "other"] eqF := by
  refine okD Fu sc_eq_ fun cdv A outer s H E s0 Ξ hr tk => ?_
  have hu : (A.deeper (envOfC "Value.__eq__" (defScope s_eq_) s.heap.objs.size f cdv)).units + 64 < cLine := by have := hr.un; omega
  have hu1 : (A.deeper (envOfC "Value.__eq__" (defScope s_eq_) s.heap.objs.size f cdv)).units + 1 < cLine := by omega
  have hst : ∀ (d0 d1 : D), startD ["self", "other"] [d0, d1] = [some d0, some d1] := fun _ _ => rfl
  refine ⟨_, dss_cons (ds_ret (de_and (de_isi i_Value rfl b_isinstance (da_cons (de_var 1) (da_cons (de_glob (v := .ref (cl 0)) (x := "Value") rfl g_Value rfl) da_nil))) (de_one (de_eq hu (de_fld f_Value_signs (de_var 0)) (de_fld f_Value_signs (de_var 1)))))) dss_nil, ?_⟩
  intro ds m Φ hl h
  obtain ⟨a, y, rfl, h⟩ := h
  rw [hst]
  rcases h with ⟨b, rfl, h1, h2, h3⟩ | ⟨e, h3⟩
  · try rw [hst]
    walk_at "go"
    refine ⟨_, _, .tup (pyofs_sg a), .tup (pyofs_sg b), shaped_sgs h1, shaped_sgs h2, ?_⟩
    show ngK false _ (PyData.eqvAll (a.map sgP) (b.map sgP)) m
    rw [sgs_eq h1 h2]
    exact h3
  · walk_at "go"
    exact h3
def hasF : DFn := fun ds m Φ _ => ∃ a, ds = [valD a] ∧ (∀ s ∈ a, fine s) ∧ Φ (.v (.bl (decide (Sg.passed ∈ a)))) m
theorem any_passed : ∀ {a : List Sg}, (∀ s ∈ a, fine s) → ((a.map sgP).any fun z => PyData.eqv z (sgP .passed)) = decide (Sg.passed ∈ a)
  | [], _ => rfl
  | s :: a, h => by
    rw [List.map_cons, List.any_cons, any_passed fun s hs => h s (List.mem_cons_of_mem _ hs), sg_eq (h s List.mem_cons_self) (show fine .passed from trivial)]
    by_cases e : s = Sg.passed
    · rw [e]; simp
    · have e2 : ¬ Sg.passed = s := fun q => e q.symm
      simp [e, e2]
def namesF (pick : Str → Sg) : DFn := fun ds m Φ _ => ∃ ss op, ds = [valD ss] ∧ ss.length ≤ 1000 ∧ (∀ s ∈ ss, okS s) ∧
  ∀ ys : List Str, sortedS ys = true → ys.Nodup → ys.length ≤ ss.length → (∀ z, z ∈ ys ↔ pick z ∈ ss) → outL op ((ys.map V.str).map D.v) m Φ
theorem mem_addL {l : List Str} {k z : Str} : z ∈ addL l k ↔ z = k ∨ z ∈ l := by
  unfold addL
  split
  · exact ⟨.inr, fun h => h.elim (fun e => e ▸ by assumption) id⟩
  · exact List.mem_cons
theorem len_addL {l : List Str} {k : Str} : (addL l k).length ≤ l.length + 1 := by
  unfold addL
  split
  · omega
  · rw [List.length_cons]; omega
theorem set_loop {kind : Str} {pick : Str → Sg} (hp : ∀ s, okS s → (∃ z, s = pick z ∧ sgD s = pairD kind (.str z)) ∨ ∃ o v, sgD s = pairD o v ∧ o ≠ kind ∧ ∀ z, s ≠ pick z) {d0 : Option D} {m : Mu} (inj : ∀ a b, pick a = pick b → a = b) :
    ∀ (ss : List Sg) (acc : List Str) (Ψ : List Str → Mu → Prop), (∀ s ∈ ss, okS s) → acc.length + ss.length ≤ 1000 → (∀ acc' : List Str, acc'.length ≤ acc.length + ss.length → (∀ z, z ∈ acc' ↔ z ∈ acc ∨ pick z ∈ ss) → Ψ acc' m) →
      dSetL (dgTup 2 (dgCons (dName 1) (dgCons (dName 2) dgNil))) (dB (dOp (eqD false) (dVar 1) (dC (.v (.str kind))))) (dVar 2) [d0, none, none] (ss.map sgD) acc m Ψ
  | [], acc, Ψ, _, _, h => h acc (by simp) (fun z => by simp)
  | s :: ss, acc, Ψ, ok, hl, h => by
    rw [List.length_cons] at hl h
    show dgTup 2 (dgCons (dName 1) (dgCons (dName 2) dgNil)) (sgD s) [d0, none, none] m _
    rcases hp s (ok s List.mem_cons_self) with ⟨z, e1, e2⟩ | ⟨o, v, e1, e2, e3⟩
    · rw [e2]
      walk_at "go"
      refine i_decT rfl ?_
      walk_at "go"
      refine ⟨z, rfl, by show acc.length + 1 < 4096; omega, set_loop hp inj ss (addL acc z) Ψ (fun s hs => ok s (List.mem_cons_of_mem _ hs)) (by have := len_addL (l := acc) (k := z); omega) fun acc' ha hm => h acc' (by have := len_addL (l := acc) (k := z); omega) fun y => ?_⟩
      rw [hm y, mem_addL, List.mem_cons, e1]
      constructor
      · rintro ((q | q) | q)
        · exact .inr (.inl (by rw [q]))
        · exact .inl q
        · exact .inr (.inr q)
      · rintro (q | q | q)
        · exact .inl (.inr q)
        · exact .inl (.inl (inj _ _ q))
        · exact .inr q
    · rw [e1]
      walk_at "go"
      refine i_decF (fun q => e2 q) ?_
      refine set_loop hp inj ss acc Ψ (fun s hs => ok s (List.mem_cons_of_mem _ hs)) (by omega) fun acc' ha hm => h acc' (by omega) fun y => ?_
      rw [hm y, List.mem_cons]
      exact ⟨fun q => q.elim .inl (fun q => .inr (.inr q)), fun q => q.elim .inl (fun q => q.elim (fun q => absurd q.symm (e3 y)) .inr)⟩
theorem pick_named : ∀ s, okS s → (∃ z, s = .named z ∧ sgD s = pairD "named" (.str z)) ∨ ∃ o v, sgD s = pairD o v ∧ o ≠ "named" ∧ ∀ z, s ≠ .named z
  | .named z, _ => .inl ⟨z, rfl, rfl⟩
  | .now z, _ => .inr ⟨_, _, rfl, by decide +kernel, fun _ => nofun⟩
  | .passed, _ => .inr ⟨_, _, rfl, by decide +kernel, fun _ => nofun⟩
  | .num n, _ => .inr ⟨_, _, rfl, by decide +kernel, fun _ => nofun⟩
  | .op o, h => .inr ⟨_, _, rfl, fun e => h (by rw [e]; exact List.mem_cons_self), fun _ => nofun⟩
theorem pick_now : ∀ s, okS s → (∃ z, s = .now z ∧ sgD s = pairD "now" (.str z)) ∨ ∃ o v, sgD s = pairD o v ∧ o ≠ "now" ∧ ∀ z, s ≠ .now z
  | .named z, _ => .inr ⟨_, _, rfl, by decide +kernel, fun _ => nofun⟩
  | .now z, _ => .inl ⟨z, rfl, rfl⟩
  | .passed, _ => .inr ⟨_, _, rfl, by decide +kernel, fun _ => nofun⟩
  | .num n, _ => .inr ⟨_, _, rfl, by decide +kernel, fun _ => nofun⟩
  | .op o, h => .inr ⟨_, _, rfl, fun e => h (by rw [e]; exact List.mem_cons_of_mem _ List.mem_cons_self), fun _ => nofun⟩
abbrev s_names : Stmt := memS 30 16
theorem sc_names : FnScope ["self", "kind", "word"] ["self"] (defScope s_names) := ⟨rfl, rfl, rfl, by decide +kernel, rfl, by decide +kernel, by decide +kernel⟩
theorem ok_names (Fu : Fun K "names" "Value.names" s_names f fd) (f_Value_signs : FldOk K (cl 0) "signs") (b_sorted : mg "sorted" = none)  : FnD P w K mg base cl 1 f fd ["self"] (namesF .named) := by
  refine okD Fu sc_names fun cdv A outer s H E s0 Ξ hr tk => ?_
  have hu : (A.deeper (envOfC "Value.names" (defScope s_names) s.heap.objs.size f cdv)).units + 64 < cLine := by have := hr.un; omega
  have hu1 : (A.deeper (envOfC "Value.names" (defScope s_names) s.heap.objs.size f cdv)).units + 1 < cLine := by omega
  have nd := sc_names.nd
  have hst : ∀ (d0 : D), startD ["self", "kind", "word"] [d0] = [some d0, none, none] := fun _ => rfl
  refine ⟨_, dss_cons (ds_retO (de_sortSetH (own := [("kind", 1), ("word", 2)]) (gg := gTup K 2 (gCons (gName 1) (gCons (gName 2) (gNil)))) rfl nd rfl b_sorted (di_seq (de_fld f_Value_signs (de_var 0))) (blkOk_by rfl) (fun _ _ _ _ _ => pg_tup rfl (pgs_cons (pg_name (i := 1) nd rfl (Or.inl rfl)) (pgs_cons (pg_name (i := 2) nd rfl (Or.inl rfl)) (pgs_nil)))) (ev_gtup (ev_gcons ev_name (ev_gcons ev_name (ev_gsnil)))) (own_tup (own_cons (by decide) (own_cons (by decide) (own_nil)))) (fun _ _ _ _ _ => dts_one (dt_eq hu (de_var 1) (de_str))) (fun _ _ _ _ _ => de_var 2))) dss_nil, ?_⟩
  intro ds m Φ hl h
  obtain ⟨ss, op, rfl, h1, h2, h3⟩ := h
  try rw [hst]
  walk_at "go"
  refine set_loop pick_named (fun a b e => Sg.named.inj e) ss [] _ h2 (by rw [List.length_nil]; omega) fun acc hl hm => ⟨by show acc.length + 1 < 4096; rw [List.length_nil] at hl; omega, fun ys e1 e2 e3 e4 k hk => ?_⟩
  refine outL_ret hk (h3 ys e4 e3 (by rw [e1]; rw [List.length_nil] at hl; omega) fun z => ?_)
  rw [e2 z, hm z]
  exact ⟨fun q => q.elim (fun q => nomatch q) id, .inr⟩
abbrev s_nows : Stmt := memS 30 17
theorem sc_nows : FnScope ["self", "kind", "word"] ["self"] (defScope s_nows) := ⟨rfl, rfl, rfl, by decide +kernel, rfl, by decide +kernel, by decide +kernel⟩
theorem ok_nows (Fu : Fun K "nows" "Value.nows" s_nows f fd) (f_Value_signs : FldOk K (cl 0) "signs") (b_sorted : mg "sorted" = none)  : FnD P w K mg base cl 1 f fd ["self"] (namesF .now) := by
  refine okD Fu sc_nows fun cdv A outer s H E s0 Ξ hr tk => ?_
  have hu : (A.deeper (envOfC "Value.nows" (defScope s_nows) s.heap.objs.size f cdv)).units + 64 < cLine := by have := hr.un; omega
  have hu1 : (A.deeper (envOfC "Value.nows" (defScope s_nows) s.heap.objs.size f cdv)).units + 1 < cLine := by omega
  have nd := sc_nows.nd
  have hst : ∀ (d0 : D), startD ["self", "kind", "word"] [d0] = [some d0, none, none] := fun _ => rfl
  refine ⟨_, dss_cons (ds_retO (de_sortSetH (own := [("kind", 1), ("word", 2)]) (gg := gTup K 2 (gCons (gName 1) (gCons (gName 2) (gNil)))) rfl nd rfl b_sorted (di_seq (de_fld f_Value_signs (de_var 0))) (blkOk_by rfl) (fun _ _ _ _ _ => pg_tup rfl (pgs_cons (pg_name (i := 1) nd rfl (Or.inl rfl)) (pgs_cons (pg_name (i := 2) nd rfl (Or.inl rfl)) (pgs_nil)))) (ev_gtup (ev_gcons ev_name (ev_gcons ev_name (ev_gsnil)))) (own_tup (own_cons (by decide) (own_cons (by decide) (own_nil)))) (fun _ _ _ _ _ => dts_one (dt_eq hu (de_var 1) (de_str))) (fun _ _ _ _ _ => de_var 2))) dss_nil, ?_⟩
  intro ds m Φ hl h
  obtain ⟨ss, op, rfl, h1, h2, h3⟩ := h
  try rw [hst]
  walk_at "go"
  refine set_loop pick_now (fun a b e => Sg.now.inj e) ss [] _ h2 (by rw [List.length_nil]; omega) fun acc hl hm => ⟨by show acc.length + 1 < 4096; rw [List.length_nil] at hl; omega, fun ys e1 e2 e3 e4 k hk => ?_⟩
  refine outL_ret hk (h3 ys e4 e3 (by rw [e1]; rw [List.length_nil] at hl; omega) fun z => ?_)
  rw [e2 z, hm z]
  exact ⟨fun q => q.elim (fun q => nomatch q) id, .inr⟩
end ER

namespace ER
open PySem PySem.Spec PyProof.Rows L2
/-! ## draws -/
/-- a well: the great number to draw from, the seed, how many were drawn -/
def Well (c : Ct) (n : Nat) : Prop := ∃ a b z : Int, c = .lst [.v (.int a), .v (.int b), .v (.int z)] ∧ 0 ≤ b ∧ b < 2 ^ 62 ∧ 0 ≤ z ∧ z ≤ n
def takeF : DFn := fun ds m Φ _ => ∃ (k : Nat) (q : Int) (n : Nat) (c : Ct), ds = [.hd k, .v (.int q)] ∧ 0 < q ∧ q.natAbs.log2 < 9000 ∧ n < 2 ^ 30 ∧ m k = some c ∧ Well c n ∧
  ∀ (r : Int) (c' : Ct), 0 ≤ r → r < q → Well c' (n + 1) → Φ (.v (.int r)) (setMu m k c')
theorem Well.mono {c : Ct} {n n' : Nat} (h : Well c n) (l : n ≤ n') : Well c n' := by
  obtain ⟨a, b, z, e, b0, b1, z0, z1⟩ := h
  exact ⟨a, b, z, e, b0, b1, z0, by omega⟩
variable {P : Program} {w : World} {K : PySem.W.Frag} {mg : Str → Option Value} {base : Heap} {cl : Nat → Addr} {f : Addr} {fd : FuncData}
abbrev s_take : Stmt := topS 33
theorem sc_take : FnScope ["well", "many", "taken_v", "mixed"] ["well", "many"] (defScope s_take) := ⟨rfl, rfl, rfl, by decide +kernel, rfl, by decide +kernel, by decide +kernel⟩
theorem ok_take (Fu : Fun K "_law_take" "_law_take" s_take f fd) (b_int : mg "int" = none)  : FnD P w K mg base cl 1 f fd ["well", "many"] takeF := by
  refine okD Fu sc_take fun cdv A outer s H E s0 Ξ hr tk => ?_
  have nd := sc_take.nd
  have hst : ∀ (d0 d1 : D), startD ["well", "many", "taken_v", "mixed"] [d0, d1] = [some d0, some d1, none, none] := fun _ _ => rfl
  refine ⟨_, dss_cons (ds_if (dt_gt (de_ix (de_var 0) (de_int)) (de_int)) (dss_cons (ds_set (i := 2) nd rfl (.inl rfl) (de_mod (de_int1 rfl b_int (da_cons (de_ix (de_var 0) (de_int)) da_nil)) (de_var 1))) (dss_cons (ds_asg (de_fdiv (de_ix (de_var 0) (de_int)) (de_var 1)) (dg_sub (de_var 0) (de_int))) (dss_cons (ds_ret (de_var 2)) dss_nil))) (dss_nil)) (dss_cons (ds_asg (de_add (de_ix (de_var 0) (de_int)) (de_int)) (dg_sub (de_var 0) (de_int))) (dss_cons (ds_set (i := 3) nd rfl (.inl rfl) (de_add (de_pow (de_add (de_ix (de_var 0) (de_int)) (de_mul (de_int) (de_ix (de_var 0) (de_int)))) (de_int)) (de_mul (de_int) (de_ix (de_var 0) (de_int))))) (dss_cons (ds_set (i := 3) nd rfl (.inl rfl) (de_add (de_mod (de_int1 rfl b_int (da_cons (de_var 3) da_nil)) (de_int)) (de_mul (de_int) (de_ix (de_var 0) (de_int))))) (dss_cons (ds_set (i := 3) nd rfl (.inl rfl) (de_mod (de_int1 rfl b_int (da_cons (de_pow (de_var 3) (de_int)) da_nil)) (de_int))) (dss_cons (ds_ret (de_mod (de_int1 rfl b_int (da_cons (de_fdiv (de_var 3) (de_int)) da_nil)) (de_var 1))) dss_nil))))), ?_⟩
  intro ds m Φ hl h
  obtain ⟨k, q, n, c, rfl, h1, h2, h3, h4, ⟨a, b, z, rfl, b0, b1, z0, z1⟩, h5⟩ := h
  try rw [hst]
  walk_at "go"
  refine i_dec (fun h => ?_) (fun h => ?_)
  · walk_at "go"
    exact h5 _ _ (Int.emod_nonneg _ (by omega)) (Int.emod_lt_of_pos _ h1) ⟨a / q, b, z, rfl, b0, b1, z0, by omega⟩
  · walk_at "go"
    exact h5 _ _ (Int.emod_nonneg _ (by omega)) (Int.emod_lt_of_pos _ h1) ⟨a, b, z + 1, rfl, b0, b1, by omega, by omega⟩

theorem pick4 (r : Int) (r0 : 0 ≤ r) (r1 : r < 4) : ∃ q : Int, atI [D.v (.int 13), .v (.int 60), .v (.int 1000), .v (.int (10 ^ (15 : Int).toNat))] r = some (.v (.int q)) ∧ 0 < q ∧ q ≤ 10 ^ 15 := by
  have h : r = 0 ∨ r = 1 ∨ r = 2 ∨ r = 3 := by omega
  rcases h with rfl | rfl | rfl | rfl
  · exact ⟨13, rfl, by omega, by omega⟩
  · exact ⟨60, rfl, by omega, by omega⟩
  · exact ⟨1000, rfl, by omega, by omega⟩
  · exact ⟨10 ^ 15, rfl, by omega, by omega⟩
theorem log_small {q : Int} (h0 : 0 < q) (h1 : q ≤ 10 ^ 15) : q.natAbs.log2 < 9000 := by
  have h2 : q.natAbs < 2 ^ 60 := by omega
  have h3 : q.natAbs ≠ 0 := by omega
  have := (Nat.log2_lt h3).mpr h2
  omega
def numbF : DFn := fun ds m Φ _ => ∃ (k n : Nat) (c : Ct), ds = [.hd k] ∧ n < 2 ^ 30 - 10 ∧ m k = some c ∧ Well c n ∧ ∀ (r : Int) (c' : Ct), -(10 ^ 31) < r → r < 10 ^ 31 → Well c' (n + 4) → Φ (.v (.int r)) (setMu m k c')
def greatF : DFn := fun ds m Φ _ => ∃ (k n : Nat) (c : Ct), ds = [.hd k] ∧ n < 2 ^ 30 - 20 ∧ m k = some c ∧ Well c n ∧ ∀ (r : Int) (c' : Ct), -(10 ^ 15) ≤ r → r ≤ 10 ^ 15 → Well c' (n + 5) → Φ (.v (.int r)) (setMu m k c')
end ER

namespace ER
open PySem PySem.Spec PyProof.Rows L2
variable {P : Program} {w : World} {K : PySem.W.Frag} {mg : Str → Option Value} {base : Heap} {cl : Nat → Addr} {f : Addr} {fd : FuncData}
/-! ## a source of draws -/
def wellF : DFn := fun ds m Φ _ => ∃ (ns : List Int) (p : Int), ds = [.scr ns, .v (.int p)] ∧ 0 ≤ p ∧ p < 64 ∧ ∀ k c, m k = none → Well c 0 → Φ (.hd k) (setMu m k c)
abbrev s_well : Stmt := topS 32
theorem sc_well : FnScope ["script", "place", "figure", "seed"] ["script", "place"] (defScope s_well) := ⟨rfl, rfl, rfl, by decide +kernel, rfl, by decide +kernel, by decide +kernel⟩
theorem ok_well (Fu : Fun K "_law_well" "_law_well" s_well f fd) (b_len : mg "len" = none) (b_int : mg "int" = none) (b_abs : mg "abs" = none)  : FnD P w K mg base cl 1 f fd ["script", "place"] wellF := by
  refine okD Fu sc_well fun cdv A outer s H E s0 Ξ hr tk => ?_
  have nd := sc_well.nd
  have hst : ∀ (d0 d1 : D), startD ["script", "place", "figure", "seed"] [d0, d1] = [some d0, some d1, none, none] := fun _ _ => rfl
  refine ⟨_, dss_cons (ds_set (i := 2) nd rfl (.inl rfl) (de_int)) (dss_cons (ds_if (dt_lt (de_var 1) (de_len rfl b_len (da_cons (de_var 0) da_nil))) (dss_cons (ds_set (i := 2) nd rfl (.inl rfl) (de_ix (de_var 0) (de_var 1))) dss_nil) (dss_nil)) (dss_cons (ds_set (i := 3) nd rfl (.inl rfl) (de_mod (de_int1 rfl b_int (da_cons (de_add (de_mul (de_abs rfl b_abs (da_cons (de_var 2) da_nil)) (de_int)) (de_int1 rfl b_int (da_cons (de_lt (de_var 2) (de_int)) da_nil))) da_nil)) (de_int))) (dss_cons (ds_ret (de_new (da_cons (de_mul (de_var 2) (de_int1 rfl b_int (da_cons (de_ge (de_var 2) (de_pow (de_int) (de_int))) da_nil))) (da_cons (de_add (de_var 3) (de_mul (de_int) (de_var 1))) (da_cons (de_int) da_nil))))) dss_nil))), ?_⟩
  intro ds m Φ hl h
  obtain ⟨ns, p, rfl, p0, p1, h5⟩ := h
  try rw [hst]
  walk_at "go"
  have tail : ∀ z : Int, 0 ≤ z % 2305843009213693951 + 1000003 * p ∧ z % 2305843009213693951 + 1000003 * p < 2 ^ 62 := fun z => by
    have h1 := Int.emod_nonneg z (show (2305843009213693951 : Int) ≠ 0 by omega)
    have h2 := Int.emod_lt_of_pos z (show (0 : Int) < 2305843009213693951 by omega)
    constructor <;> omega
  refine i_dec (fun h => ?_) (fun h => ?_)
  · walk_at "go"
    have hj : p.toNat < ns.length := by omega
    have hix : atI ns p = some ns[p.toNat] := by
      unfold L2.atI ixN
      rw [if_pos p0, if_pos h]
      exact List.getElem?_eq_getElem hj
    refine ⟨_, hix, ?_⟩
    walk_at "go"
    exact fun k hk => h5 k _ hk ⟨_, _, 0, rfl, (tail _).1, (tail _).2, by omega, by omega⟩
  · walk_at "go"
    exact fun k hk => h5 k _ hk ⟨_, _, 0, rfl, (tail _).1, (tail _).2, by omega, by omega⟩

end ER

namespace ER
open PySem PySem.Spec PyProof.Rows L2 TL
variable {P : Program} {w : World} {K : PySem.W.Frag} {mg : Str → Option Value} {base : Heap} {cl : Nat → Addr} {f : Addr} {fd : FuncData}
/-! ## names of cells, drawn -/
abbrev sD (z : Str) : D := .v (.str z)
abbrev iD (i : Int) : D := .v (.int i)
def abc : Str := "abcdefghijklmnopqrstuvwxyz"
theorem abc_len : abc.length = 26 := by decide +kernel
theorem abc_low : low abc := by
  have : ∀ c ∈ ("abcdefghijklmnopqrstuvwxyz" : Str).cps.toList, 97 ≤ c ∧ c ≤ 122 := by decide +kernel
  exact this
theorem txt_at {z : Str} {i : Int} (h0 : 0 ≤ i) (h1 : i < z.length) : ∃ c, atI z.cps.toList i = some c ∧ c ∈ z.cps.toList := by
  have hl : z.cps.toList.length = z.length := Array.length_toList
  unfold L2.atI ixN
  rw [if_pos h0, hl, if_pos h1]
  have h2 : i.toNat < z.cps.toList.length := by rw [hl]; omega
  exact ⟨z.cps.toList[i.toNat], List.getElem?_eq_getElem h2, List.getElem_mem h2⟩
theorem one_low {z : Str} {c : Nat} (h : low z) (hc : c ∈ z.cps.toList) : low ⟨#[c]⟩ := fun d hd => by
  have : d = c := by simpa using hd
  rw [this]
  exact h c hc
theorem one_len {c : Nat} : (⟨#[c]⟩ : Str).length = 1 := rfl
theorem lst_at {xs : List D} {i : Int} (h0 : 0 ≤ i) (h1 : i < xs.length) : ∃ d, atI xs i = some d ∧ d ∈ xs := by
  unfold L2.atI ixN
  rw [if_pos h0, if_pos h1]
  have h2 : i.toNat < xs.length := by omega
  exact ⟨xs[i.toNat], List.getElem?_eq_getElem h2, List.getElem_mem h2⟩
def strsD (zs : List Str) : List D := zs.map sD
theorem word_at {r : Int} (h0 : 0 ≤ r) (h1 : r < 12) : ∃ z, atI ([sD "now", sD "on", sD "cells", sD "show", sD "named", sD "handler"] ++ [sD "memo", sD "mod", sD "argument", sD "passed", sD "names", sD "present"]) r = some (sD z) ∧ goodName z := by
  obtain ⟨d, e, hd⟩ := lst_at (xs := [sD "now", sD "on", sD "cells", sD "show", sD "named", sD "handler"] ++ [sD "memo", sD "mod", sD "argument", sD "passed", sD "names", sD "present"]) h0 h1
  have good : ∀ z ∈ (["now", "on", "cells", "show", "named", "handler", "memo", "mod", "argument", "passed", "names", "present"] : List Str), 1 ≤ z.length ∧ z.length ≤ 8 ∧ ∀ c ∈ z.cps.toList, 97 ≤ c ∧ c ≤ 122 := by decide +kernel
  have hd : d ∈ (["now", "on", "cells", "show", "named", "handler", "memo", "mod", "argument", "passed", "names", "present"] : List Str).map sD := hd
  obtain ⟨z, hz, rfl⟩ := List.mem_map.mp hd
  exact ⟨z, e, good z hz⟩
theorem pace_at {r : Int} (h0 : 0 ≤ r) (h1 : r < 5) : ∃ p : Int, atI [iD 1, iD 3, iD 5, iD 7, iD 11] r = some (iD p) ∧ 0 ≤ p ∧ p ≤ 11 := by
  have h : r = 0 ∨ r = 1 ∨ r = 2 ∨ r = 3 ∨ r = 4 := by omega
  rcases h with rfl | rfl | rfl | rfl | rfl
  · exact ⟨1, rfl, by omega, by omega⟩
  · exact ⟨3, rfl, by omega, by omega⟩
  · exact ⟨5, rfl, by omega, by omega⟩
  · exact ⟨7, rfl, by omega, by omega⟩
  · exact ⟨11, rfl, by omega, by omega⟩
theorem strs_two (zs : List Str) (z : Str) : strsD zs ++ [sD z] = strsD (zs ++ [z]) := by
  unfold strsD
  rw [List.map_append]
  rfl
theorem strs_vals (zs : List Str) : strsD zs = (zs.map V.str).map D.v := by
  unfold strsD
  rw [List.map_map]
  rfl
theorem ones_sum : ∀ {ys : List Str}, (∀ y ∈ ys, y.length = 1) → (ys.map (·.length)).sum = ys.length
  | [], _ => rfl
  | y :: ys, h => by
    rw [List.map_cons, List.sum_cons, List.length_cons, ones_sum fun y hy => h y (List.mem_cons_of_mem _ hy), h y List.mem_cons_self]
    omega
def cellsF : DFn := fun ds m Φ _ => ∃ (k n : Nat) (c : Ct) (q : Nat), ds = [.hd k, iD q] ∧ n < 2 ^ 29 ∧ m k = some c ∧ Well c n ∧ q ≤ 8 ∧
  ∀ (zs : List Str) (c' : Ct), zs.length = q → (∀ z ∈ zs, goodName z) → Well c' (n + 20) → Φ (.lst (strsD zs)) (setMu m k c')
abbrev s_cells : Stmt := topS 34
theorem sc_cells : FnScope ["well", "many", "letters", "way", "at", "words", "base", "spot", "pace", "k", "turn"] ["well", "many"] (defScope s_cells) := ⟨rfl, rfl, rfl, by decide +kernel, rfl, by decide +kernel, by decide +kernel⟩
theorem ok_cells (Fu : Fun K "_law_cells" "_law_cells" s_cells f fd) (c_take : Callee P w K mg base cl "_law_take" 1 ["well", "many"] takeF) (b_range : mg "range" = none) (b_int : mg "int" = none) (b_len : mg "len" = none)  : FnD P w K mg base cl 2 f fd ["well", "many"] cellsF := by
  refine okD Fu sc_cells fun cdv A outer s H E s0 Ξ hr tk => ?_
  have hu : (A.deeper (envOfC "_law_cells" (defScope s_cells) s.heap.objs.size f cdv)).units + 64 < cLine := by have := hr.un; omega
  have hu1 : (A.deeper (envOfC "_law_cells" (defScope s_cells) s.heap.objs.size f cdv)).units + 1 < cLine := by omega
  have nd := sc_cells.nd
  have hst : ∀ (d0 d1 : D), startD ["well", "many", "letters", "way", "at", "words", "base", "spot", "pace", "k", "turn"] [d0, d1] = [some d0, some d1, none, none, none, none, none, none, none, none, none] := fun _ _ => rfl
  refine ⟨_, dss_cons (ds_asg (de_tup (da_cons (de_str) (da_cons (de_callee c_take (hr.mono (by decide)) rfl (da_cons (de_var 0) (da_cons (de_int) da_nil))) (da_cons (de_callee c_take (hr.mono (by decide)) rfl (da_cons (de_var 0) (da_cons (de_int) da_nil))) da_nil)))) (dg_tup (n := 3) rfl (dgs_cons (dg_name (i := 2) nd rfl (.inr rfl)) (dgs_cons (dg_name (i := 3) nd rfl (.inl rfl)) (dgs_cons (dg_name (i := 4) nd rfl (.inr rfl)) (dgs_nil)))))) (dss_cons (ds_if (dt_eq hu (de_var 3) (de_int)) (dss_cons (ds_ret (de_lc (own := [("k", 9)]) (gg := gName 9) rfl nd (di_rng1 rfl b_range (da_cons (de_var 1) da_nil)) (blkOk_by rfl) (fun _ _ _ _ _ => pg_name (i := 9) nd rfl (Or.inl rfl)) (ev_name) (own_name (by decide)) (fun _ _ _ _ _ => dts_nil) (fun _ _ _ _ _ => de_mulS (de_ix (de_var 2) (de_var 4)) (de_add (de_var 9) (de_int))))) dss_nil) (dss_nil)) (dss_cons (ds_if (dt_eq hu (de_var 3) (de_int)) (dss_cons (ds_set (i := 5) nd rfl (.inr rfl) (de_lst (da_cons (de_str) (da_cons (de_str) (da_cons (de_str) (da_cons (de_str) (da_cons (de_str) (da_cons (de_str) da_nil)))))))) (dss_cons (ds_set (i := 5) nd rfl (.inr rfl) (de_add (de_var 5) (de_lst (da_cons (de_str) (da_cons (de_str) (da_cons (de_str) (da_cons (de_str) (da_cons (de_str) (da_cons (de_str) da_nil))))))))) (dss_cons (ds_ret (de_lc (own := [("k", 9)]) (gg := gName 9) rfl nd (di_rng1 rfl b_range (da_cons (de_var 1) da_nil)) (blkOk_by rfl) (fun _ _ _ _ _ => pg_name (i := 9) nd rfl (Or.inl rfl)) (ev_name) (own_name (by decide)) (fun _ _ _ _ _ => dts_nil) (fun _ _ _ _ _ => de_ix (de_var 5) (de_mod (de_int1 rfl b_int (da_cons (de_add (de_var 4) (de_var 9)) da_nil)) (de_int))))) dss_nil))) (dss_nil)) (dss_cons (ds_set (i := 6) nd rfl (.inr rfl) (de_join (de_str) (de_lc (own := [("turn", 10)]) (gg := gName 10) rfl nd (di_rng1 rfl b_range (da_cons (de_add (de_int) (de_callee c_take (hr.mono (by decide)) rfl (da_cons (de_var 0) (da_cons (de_int) da_nil)))) da_nil)) (blkOk_by rfl) (fun _ _ _ _ _ => pg_name (i := 10) nd rfl (Or.inl rfl)) (ev_name) (own_name (by decide)) (fun _ _ _ _ _ => dts_nil) (fun _ _ _ _ _ => de_ix (de_var 2) (de_callee c_take (hr.mono (by decide)) rfl (da_cons (de_var 0) (da_cons (de_int) da_nil))))))) (dss_cons (ds_asg (de_tup (da_cons (de_callee c_take (hr.mono (by decide)) rfl (da_cons (de_var 0) (da_cons (de_len rfl b_len (da_cons (de_var 6) da_nil)) da_nil))) (da_cons (de_ix (de_lst (da_cons (de_int) (da_cons (de_int) (da_cons (de_int) (da_cons (de_int) (da_cons (de_int) da_nil)))))) (de_callee c_take (hr.mono (by decide)) rfl (da_cons (de_var 0) (da_cons (de_int) da_nil)))) da_nil))) (dg_tup (n := 2) rfl (dgs_cons (dg_name (i := 7) nd rfl (.inr rfl)) (dgs_cons (dg_name (i := 8) nd rfl (.inr rfl)) (dgs_nil))))) (dss_cons (ds_ret (de_lc (own := [("k", 9)]) (gg := gName 9) rfl nd (di_rng1 rfl b_range (da_cons (de_var 1) da_nil)) (blkOk_by rfl) (fun _ _ _ _ _ => pg_name (i := 9) nd rfl (Or.inl rfl)) (ev_name) (own_name (by decide)) (fun _ _ _ _ _ => dts_nil) (fun _ _ _ _ _ => de_add (de_add (de_slice (de_var 6) (do_none) (do_some (de_var 7))) (de_ix (de_var 2) (de_mod (de_int1 rfl b_int (da_cons (de_add (de_var 4) (de_mul (de_var 8) (de_var 9))) da_nil)) (de_int)))) (de_slice (de_var 6) (do_some (de_add (de_var 7) (de_int))) (do_none))))) dss_nil))))), ?_⟩
  intro ds m Φ hl h
  obtain ⟨k, n, c, q, rfl, hn, hk, hw, hq, h5⟩ := h
  try rw [hst]
  walk_at "go"
  refine ⟨k, 4, n, c, rfl, by omega, by decide, by omega, hk, hw, fun way c1 a0 a1 w1 => ?_⟩
  walk_at "go"
  refine ⟨k, 26, n + 1, c1, rfl, by omega, by decide, by omega, setMu_same, w1, fun at_ c2 b0 b1 w2 => ?_⟩
  walk_at "go"
  have hloop : ∀ (xs : List Nat) (zs : List Str), zs.length + xs.length = q → (strsD zs).length < sizeLine := fun xs zs hz => by
    unfold strsD
    rw [List.length_map, sizeLine_eq]
    omega
  obtain ⟨ch, hch, hmem⟩ := txt_at (z := abc) (i := at_) b0 (by rw [abc_len]; omega)
  refine i_dec (fun h1 => ?_) (fun h1 => ?_)
  · walk_at "go"
    refine lc_inv (fun i : Nat => iD (0 + (i : Int))) (fun xs acc m1 => (∀ i ∈ xs, i < q) ∧ (∃ zs : List Str, acc = strsD zs ∧ zs.length + xs.length = q ∧ ∀ z ∈ zs, goodName z) ∧ m1 = setMu m k c2) ?_ ?_ (List.range _) _ _ ⟨fun i hi => ?_, ⟨[], rfl, ?_, (fun _ h => nomatch h)⟩, ?_⟩
    · rintro i xs acc m1 N next ⟨hi, ⟨zs, rfl, hz, hg⟩, rfl⟩
      walk_at "go"
      have h64 := hi i List.mem_cons_self
      have hl := low_mul (i := 0 + (i : Int) + 1) (one_low abc_low hmem)
      rw [List.length_cons] at hz
      refine ⟨ch, hch, ?_⟩
      walk_at "go"
      refine ⟨(show 1 ≤ 1000 by omega), ?_⟩
      walk_at "go"
      refine ⟨hloop (i :: xs) zs (by rw [List.length_cons]; omega), next _ _ ⟨fun j hj => hi j (List.mem_cons_of_mem _ hj), ⟨zs ++ [Txt.mul ⟨#[ch]⟩ (0 + (i : Int) + 1)], by unfold strsD; rw [List.map_append]; rfl, ?_, fun z hz => ?_⟩, rfl⟩⟩
      · rw [List.length_append, List.length_singleton]; omega
      · rcases List.mem_append.mp hz with hz | hz
        · exact hg z hz
        · cases List.mem_singleton.mp hz
          have e := len_mul (z := ⟨#[ch]⟩) (i := 0 + (i : Int) + 1)
          rw [one_len] at e
          exact ⟨by omega, by omega, hl⟩
    · rintro acc m1 ⟨_, ⟨zs, rfl, hz, hg⟩, rfl⟩
      exact h5 zs _ hz hg (w2.mono (by omega))
    · have := List.mem_range.mp hi
      omega
    · rw [List.length_range]
      show 0 + (q : Int).toNat = q
      omega
    · rw [setMu_set]
  · walk_at "go"
    refine i_dec (fun h2 => ?_) (fun h2 => ?_)
    · walk_at "go"
      refine lc_inv (fun i : Nat => iD (0 + (i : Int))) (fun xs acc m1 => (∀ i ∈ xs, i < q) ∧ (∃ zs : List Str, acc = strsD zs ∧ zs.length + xs.length = q ∧ ∀ z ∈ zs, goodName z) ∧ m1 = setMu m k c2) ?_ ?_ (List.range _) _ _ ⟨fun i hi => ?_, ⟨[], rfl, ?_, (fun _ h => nomatch h)⟩, ?_⟩
      · rintro i xs acc m1 N next ⟨hi, ⟨zs, rfl, hz, hg⟩, rfl⟩
        walk_at "go"
        have h64 := hi i List.mem_cons_self
        obtain ⟨z, hz1, hz2⟩ := word_at (r := (at_ + (0 + (i : Int))) % 12) (Int.emod_nonneg _ (by omega)) (Int.emod_lt_of_pos _ (by omega))
        rw [List.length_cons] at hz
        refine .mk _ hz1 ?_
        walk_at "go"
        refine ⟨hloop (i :: xs) zs (by rw [List.length_cons]; omega), next _ _ ⟨fun j hj => hi j (List.mem_cons_of_mem _ hj), ⟨zs ++ [z], strs_two zs z, by rw [List.length_append, List.length_singleton]; omega, fun y hy => ?_⟩, rfl⟩⟩
        rcases List.mem_append.mp hy with hy | hy
        · exact hg y hy
        · cases List.mem_singleton.mp hy
          exact hz2
      · rintro acc m1 ⟨_, ⟨zs, rfl, hz, hg⟩, rfl⟩
        exact h5 zs _ hz hg (w2.mono (by omega))
      · have := List.mem_range.mp hi
        omega
      · rw [List.length_range]
        show 0 + (q : Int).toNat = q
        omega
      · rw [setMu_set]
    · walk_at "go"
      refine ⟨k, 8, n + 2, c2, rfl, by omega, by decide, by omega, setMu_same, w2, fun cnt c3 d0 d1 w3 => ?_⟩
      walk_at "go"
      refine lc_inv (fun i : Nat => iD (0 + (i : Int))) (fun xs acc m1 => ∃ (ys : List Str) (c' : Ct), acc = strsD ys ∧ (ys.length : Int) + xs.length = 1 + cnt ∧ (∀ y ∈ ys, low y ∧ y.length = 1) ∧ m1 = setMu m k c' ∧ Well c' (n + 3 + ys.length)) ?_ ?_ (List.range _) _ _ ⟨[], c3, rfl, ?_, (fun _ h => nomatch h), ?_, w3⟩
      · rintro i xs acc m1 N next ⟨ys, c', rfl, hz, hg, rfl, wy⟩
        rw [List.length_cons] at hz
        walk_at "go"
        refine ⟨k, 26, n + 3 + ys.length, c', rfl, by omega, by decide, by omega, setMu_same, wy, fun r c4 r0 r1 w4 => ?_⟩
        walk_at "go"
        obtain ⟨ch2, hch2, hmem2⟩ := txt_at (z := abc) (i := r) r0 (by rw [abc_len]; omega)
        refine ⟨ch2, hch2, ?_⟩
        walk_at "go"
        refine ⟨by unfold strsD; rw [List.length_map, sizeLine_eq]; omega, next _ _ ⟨ys ++ [⟨#[ch2]⟩], c4, strs_two _ _, by rw [List.length_append, List.length_singleton]; omega, fun y hy => ?_, setMu_set, by rw [List.length_append, List.length_singleton]; exact w4⟩⟩
        rcases List.mem_append.mp hy with hy | hy
        · exact hg y hy
        · cases List.mem_singleton.mp hy
          exact ⟨one_low abc_low hmem2, rfl⟩
      · rintro acc m1 ⟨ys, c4, rfl, hz, hg, rfl, w4⟩
        walk_at "go"
        have bl : (Txt.join "" ys).length = ys.length := by rw [len_join, ones_sum fun y hy => (hg y hy).2]
        have blow : low (Txt.join "" ys) := low_join fun y hy => (hg y hy).1
        refine .mk ys (strs_vals ys) (by rw [ones_sum fun y hy => (hg y hy).2]; show ys.length + ys.length * 0 ≤ _; rw [List.length_nil] at hz; omega) ?_
        generalize Txt.join "" ys = base at bl blow ⊢
        rw [List.length_nil] at hz
        have bz : base.length ≤ sizeLine := by rw [sizeLine_eq]; omega
        walk_at "go"
        refine ⟨k, base.length, n + 3 + ys.length, c4, rfl, by omega, log_small (by omega) (by omega), by omega, setMu_same, w4, fun spot c5 e0 e1 w5 => ?_⟩
        walk_at "go"
        refine ⟨k, 5, n + 3 + ys.length + 1, c5, rfl, by omega, by decide, by omega, setMu_same, w5, fun pr c6 f0 f1 w6 => ?_⟩
        walk_at "go"
        obtain ⟨pace, hp, p0, p1⟩ := pace_at f0 f1
        refine .mk _ hp ?_
        walk_at "go"
        refine lc_inv (fun i : Nat => iD (0 + (i : Int))) (fun xs acc m1 => (∀ i ∈ xs, i < q) ∧ (∃ zs : List Str, acc = strsD zs ∧ zs.length + xs.length = q ∧ ∀ z ∈ zs, goodName z) ∧ m1 = setMu m k c6) ?_ ?_ (List.range _) _ _ ⟨fun i hi => ?_, ⟨[], rfl, ?_, (fun _ h => nomatch h)⟩, ?_⟩
        · rintro i xs acc m1 N next ⟨hi, ⟨zs, rfl, hz2, hg2⟩, rfl⟩
          have h64 := hi i List.mem_cons_self
          rw [List.length_cons] at hz2
          obtain ⟨ch3, hch3, hmem3⟩ := txt_at (z := abc) (i := (at_ + pace * (0 + (i : Int))) % 26) (Int.emod_nonneg _ (by omega)) (by rw [abc_len]; exact Int.emod_lt_of_pos _ (by omega))
          have l1 := len_to (z := base) e0 (by omega)
          have l2 := len_from (z := base) (i := spot + 1) (by omega) (by omega)
          have la : (cutS base none (some spot) ++ (⟨#[ch3]⟩ : Str)).length = spot.toNat + 1 := by rw [len_app, l1]; rfl
          have lz : (cutS base none (some spot) ++ (⟨#[ch3]⟩ : Str) ++ cutS base (some (spot + 1)) none).length = base.length := by rw [len_app, la, l2]; omega
          have z1 : (cutS base none (some spot)).length + (⟨#[ch3]⟩ : Str).length ≤ sizeLine := by rw [l1, one_len, sizeLine_eq]; omega
          have z2 : (cutS base none (some spot) ++ (⟨#[ch3]⟩ : Str)).length + (cutS base (some (spot + 1)) none).length ≤ sizeLine := by rw [la, l2, sizeLine_eq]; omega
          walk_at "go"
          refine ⟨ch3, hch3, ?_⟩
          walk_at "go"
          refine ⟨hloop (i :: xs) zs (by rw [List.length_cons]; omega), next _ _ ⟨fun j hj => hi j (List.mem_cons_of_mem _ hj), ⟨zs ++ [_], strs_two zs _, by rw [List.length_append, List.length_singleton]; omega, fun y hy => ?_⟩, rfl⟩⟩
          rcases List.mem_append.mp hy with hy | hy
          · exact hg2 y hy
          · cases List.mem_singleton.mp hy
            exact ⟨by rw [lz]; omega, by rw [lz]; omega, low_app (low_app (low_cut blow) (one_low abc_low hmem3)) (low_cut blow)⟩
        · rintro acc m1 ⟨_, ⟨zs, rfl, hz, hg⟩, rfl⟩
          exact h5 zs _ hz hg (w6.mono (by omega))
        · have := List.mem_range.mp hi
          omega
        · rw [List.length_range]
          show 0 + (q : Int).toNat = q
          omega
        · rw [setMu_set, setMu_set]
      · rw [List.length_range, List.length_nil]
        omega
      · rw [setMu_set, setMu_set]
end ER

namespace ER
open PySem PySem.Spec PyProof.Rows L2 TL
/-! ## sorted lists of texts with the same members are one -/
theorem cp_irr : ∀ a : List Nat, ltCps a a = false
  | [] => rfl
  | a :: l => by simp [ltCps, cp_irr l]
theorem cp_trans : ∀ a b c : List Nat, ltCps a b = true → ltCps b c = true → ltCps a c = true
  | a, b, [], _, h => by cases b <;> cases h
  | [], b, c :: cs, _, _ => rfl
  | a :: as, [], c :: cs, h, _ => by cases h
  | a :: as, b :: bs, c :: cs, h, k => by
    simp only [ltCps] at h k ⊢
    have := cp_trans as bs cs
    grind
theorem cp_tri : ∀ a b : List Nat, ltCps a b = false → ltCps b a = false → a = b
  | [], [], _, _ => rfl
  | [], _ :: _, h, _ => by cases h
  | _ :: _, [], _, h => by cases h
  | a :: as, b :: bs, h, k => by
    simp only [ltCps] at h k
    have := cp_tri as bs
    grind
theorem str_cps {a b : Str} (h : a.cps.toList = b.cps.toList) : a = b := by
  cases a; cases b
  simp only at h
  rw [Array.toList_inj.mp h]
theorem rising_lt : ∀ (l : List Str) (x : Str), risingS x l = true → (x :: l).Nodup → ∀ z ∈ l, ltCps x.cps.toList z.cps.toList = true
  | y :: l, x, h, n, z, hz => by
    simp only [risingS, Bool.and_eq_true, Bool.not_eq_true'] at h
    have xy : ltCps x.cps.toList y.cps.toList = true := by
      cases e : ltCps x.cps.toList y.cps.toList with
      | true => rfl
      | false => exact absurd (str_cps (cp_tri _ _ e h.1)) fun q => (List.nodup_cons.mp n).1 (q ▸ List.mem_cons_self)
    rcases List.mem_cons.mp hz with rfl | hz
    · exact xy
    · exact cp_trans _ _ _ xy (rising_lt l y h.2 (List.nodup_cons.mp n).2 z hz)
theorem rising_tail {x : Str} {l : List Str} (h : sortedS (x :: l) = true) : sortedS l = true := by
  cases l with
  | nil => rfl
  | cons y l =>
    have h : risingS x (y :: l) = true := h
    simp only [risingS, Bool.and_eq_true] at h
    exact h.2
theorem sorted_one : ∀ (l1 l2 : List Str), sortedS l1 = true → sortedS l2 = true → l1.Nodup → l2.Nodup → (∀ z, z ∈ l1 ↔ z ∈ l2) → l1 = l2
  | [], [], _, _, _, _, _ => rfl
  | [], b :: _, _, _, _, _, h => nomatch (h b).mpr List.mem_cons_self
  | a :: _, [], _, _, _, _, h => nomatch (h a).mp List.mem_cons_self
  | a :: l1, b :: l2, s1, s2, n1, n2, h => by
    have e : a = b := by
      rcases List.mem_cons.mp ((h a).mp List.mem_cons_self) with e | ha
      · exact e
      · rcases List.mem_cons.mp ((h b).mpr List.mem_cons_self) with e | hb
        · exact e.symm
        · have h1 := rising_lt l1 a s1 n1 b hb
          have h2 := rising_lt l2 b s2 n2 a ha
          have h3 := cp_trans _ _ _ h1 h2
          rw [cp_irr] at h3
          cases h3
    subst e
    rw [sorted_one l1 l2 (rising_tail s1) (rising_tail s2) (List.nodup_cons.mp n1).2 (List.nodup_cons.mp n2).2 fun z => ?_]
    have hz := h z
    rw [List.mem_cons, List.mem_cons] at hz
    constructor
    · intro q
      rcases hz.mp (.inr q) with e | q2
      · exact absurd q (e ▸ (List.nodup_cons.mp n1).1)
      · exact q2
    · intro q
      rcases hz.mpr (.inr q) with e | q2
      · exact absurd q (e ▸ (List.nodup_cons.mp n2).1)
      · exact q2
theorem pyofs_strs : ∀ zs : List Str, PyOfs (zs.map fun z => sD z) (zs.map PyData.str)
  | [] => .nil
  | z :: zs => .cons pyof_s (pyofs_strs zs)
theorem strs_lay : ∀ zs : List Str, (∀ z ∈ zs, PyData.strOk z = true) → PyData.canLayAll0 (zs.map PyData.str) = true ∧ PyData.depthAll (zs.map PyData.str) = 0
  | [], _ => ⟨rfl, rfl⟩
  | z :: zs, h => by
    obtain ⟨h1, h2⟩ := strs_lay zs fun y hy => h y (List.mem_cons_of_mem _ hy)
    refine ⟨?_, ?_⟩
    · show (PyData.strOk z && PyData.canLayAll0 (zs.map PyData.str)) = true
      rw [h1, h z List.mem_cons_self]; rfl
    · show max 0 (PyData.depthAll (zs.map PyData.str)) = 0
      rw [h2]; rfl
theorem strs_shaped {zs : List Str} (h : ∀ z ∈ zs, PyData.strOk z = true) : SeqAt.shaped (.list (zs.map PyData.str)) = true := by
  obtain ⟨h1, h2⟩ := strs_lay zs h
  show (PyData.canLayAll0 (zs.map PyData.str) && decide (PyData.depthAll (zs.map PyData.str) + 1 ≤ 64)) = true
  rw [h1, h2]; rfl
theorem strs_eqv : ∀ a b : List Str, PyData.eqvAll (a.map PyData.str) (b.map PyData.str) = decide (a = b)
  | [], [] => by simp [PyData.eqvAll]
  | [], _ :: _ => by simp [PyData.eqvAll]
  | _ :: _, [] => by simp [PyData.eqvAll]
  | x :: a, y :: b => by
    show ((x == y) && PyData.eqvAll (a.map PyData.str) (b.map PyData.str)) = _
    rw [strs_eqv a b]
    by_cases e : x = y
    · subst e; simp
    · simp [e]
/-- two lists of texts, compared -/
theorem strs_pq {a b : List Str} (ha : ∀ z ∈ a, PyData.strOk z = true) (hb : ∀ z ∈ b, PyData.strOk z = true) : ∃ p q, PyOf (.lst ((a.map V.str).map D.v)) p ∧ PyOf (.lst ((b.map V.str).map D.v)) q ∧ SeqAt.shaped p = true ∧ SeqAt.shaped q = true ∧ PyData.eqv p q = decide (a = b) := by
  rw [List.map_map, List.map_map]
  exact ⟨_, _, .lst (pyofs_strs a), .lst (pyofs_strs b), strs_shaped ha, strs_shaped hb, strs_eqv a b⟩
end ER

namespace ER
open PySem PySem.Spec PyProof.Rows L2 TL
variable {P : Program} {w : World} {K : PySem.W.Frag} {mg : Str → Option Value} {base : Heap} {cl : Nat → Addr} {f : Addr} {fd : FuncData}
/-! ## a def that calls itself -/
theorem fn_none {k : Nat} {ps : List Str} {F : DFn} (h : ∀ ds m Φ Ξ, ¬ F ds m Φ Ξ) : FnD P w K mg base cl k f fd ps F :=
  ⟨fun vs H Q E q => spD_len q, fun A outer s H args us vs Q E _ _ _ _ q => by
    obtain ⟨s1, ds, Φ, Ξ, _, _, _, _, hF, _⟩ := q
    exact absurd hF (h ds s1.mu Φ Ξ)⟩
theorem fn_rec {lv : Nat → Nat} {ps : List Str} {F : Nat → DFn} (h : ∀ ds m Φ Ξ, ¬ F 0 ds m Φ Ξ) (step : ∀ N, FnD P w K mg base cl (lv N) f fd ps (F N) → FnD P w K mg base cl (lv (N + 1)) f fd ps (F (N + 1))) : ∀ N, FnD P w K mg base cl (lv N) f fd ps (F N)
  | 0 => fn_none h
  | N + 1 => step N (fn_rec h step N)
/-! ## recipes -/
inductive Op7 where
  | add | sub | mul | and | or | eq | lt
  deriving DecidableEq
def Op7.z : Op7 → Str
  | .add => "+" | .sub => "-" | .mul => "*" | .and => "&" | .or => "|" | .eq => "=" | .lt => "<"
inductive Rc where
  | c (z : Str)
  | w (z : Str)
  | g
  | n (i : Int)
  | no (r : Rc)
  | dv (q : Bool) (r : Rc) (k : Int)
  | two (o : Op7) (a b : Rc)
  deriving DecidableEq
def dvz (q : Bool) : Str := if q then "//" else "mod"
def Rc.tag : Rc → Str
  | .c _ => "c" | .w _ => "w" | .g => "g" | .n _ => "n" | .no _ => "~" | .dv q _ _ => dvz q | .two o _ _ => o.z
def rcD : Rc → D
  | .c z => .tup [sD "c", sD z]
  | .w z => .tup [sD "w", sD z]
  | .g => .tup [sD "g"]
  | .n i => .tup [sD "n", iD i]
  | .no r => .tup [sD "~", rcD r]
  | .dv q r k => .tup [sD (dvz q), rcD r, iD k]
  | .two o a b => .tup [sD o.z, rcD a, rcD b]
def Rc.rest : Rc → List D
  | .c z => [sD z] | .w z => [sD z] | .g => [] | .n i => [iD i] | .no r => [rcD r] | .dv _ r k => [rcD r, iD k] | .two _ a b => [rcD a, rcD b]
theorem rc_tag (r : Rc) : rcD r = .tup (sD r.tag :: r.rest) := by cases r <;> rfl
def Rc.sgs : Rc → List Sg
  | .c z => [.named z]
  | .w z => [.now z]
  | .g => [.passed]
  | .n i => [.num i]
  | .no r => r.sgs ++ [.op "~"]
  | .dv q r k => r.sgs ++ [.num k] ++ [.op (dvz q)]
  | .two o a b => a.sgs ++ b.sgs ++ [.op o.z]
def Rc.sz : Rc → Nat
  | .no r => r.sz + 1
  | .dv _ r _ => r.sz + 1
  | .two _ a b => a.sz + b.sz + 1
  | _ => 0
/-- its names are pc, those of now are pw, its ints are small -/
def Rc.gd (pc pw : Str → Prop) (B : Int) : Rc → Prop
  | .c z => pc z
  | .w z => pw z
  | .g => True
  | .n i => -B ≤ i ∧ i ≤ B
  | .no r => r.gd pc pw B
  | .dv _ r k => r.gd pc pw B ∧ 1 ≤ k ∧ k ≤ B
  | .two _ a b => a.gd pc pw B ∧ b.gd pc pw B
theorem gd_imp {p q p' q' : Str → Prop} {B : Int} (h : ∀ z, p z → p' z) (k : ∀ z, q z → q' z) : ∀ r : Rc, r.gd p q B → r.gd p' q' B
  | .c z, g => h z g
  | .w z, g => k z g
  | .g, _ => trivial
  | .n _, g => g
  | .no r, g => gd_imp h k r g
  | .dv _ r _, g => ⟨gd_imp h k r g.1, g.2⟩
  | .two _ a b, g => ⟨gd_imp h k a g.1, gd_imp h k b g.2⟩
/-- it is good by what its signs say -/
theorem gd_sgs {p q p' q' : Str → Prop} {B : Int} : ∀ r : Rc, r.gd p q B → (∀ z, Sg.named z ∈ r.sgs → p' z) → (∀ z, Sg.now z ∈ r.sgs → q' z) → r.gd p' q' B
  | .c z, _, h, _ => h z List.mem_cons_self
  | .w z, _, _, k => k z List.mem_cons_self
  | .g, _, _, _ => trivial
  | .n _, g, _, _ => g
  | .no r, g, h, k => gd_sgs r g (fun z hz => h z (List.mem_append_left _ hz)) fun z hz => k z (List.mem_append_left _ hz)
  | .dv _ r _, g, h, k => ⟨gd_sgs r g.1 (fun z hz => h z (List.mem_append_left _ (List.mem_append_left _ hz))) fun z hz => k z (List.mem_append_left _ (List.mem_append_left _ hz)), g.2⟩
  | .two _ a b, g, h, k => ⟨gd_sgs a g.1 (fun z hz => h z (List.mem_append_left _ (List.mem_append_left _ hz))) (fun z hz => k z (List.mem_append_left _ (List.mem_append_left _ hz))),
      gd_sgs b g.2 (fun z hz => h z (List.mem_append_left _ (List.mem_append_right _ hz))) fun z hz => k z (List.mem_append_left _ (List.mem_append_right _ hz))⟩
/-- what its signs name is good -/
theorem gd_at {p q : Str → Prop} {B : Int} : ∀ r : Rc, r.gd p q B → (∀ z, Sg.named z ∈ r.sgs → p z) ∧ (∀ z, Sg.now z ∈ r.sgs → q z)
  | .c z, g => ⟨fun y h => (by cases List.mem_singleton.mp h; exact g), fun y h => (by cases List.mem_singleton.mp h)⟩
  | .w z, g => ⟨fun y h => (by cases List.mem_singleton.mp h), fun y h => (by cases List.mem_singleton.mp h; exact g)⟩
  | .g, _ => ⟨fun y h => (by cases List.mem_singleton.mp h), fun y h => (by cases List.mem_singleton.mp h)⟩
  | .n _, _ => ⟨fun y h => (by cases List.mem_singleton.mp h), fun y h => (by cases List.mem_singleton.mp h)⟩
  | .no r, g => by
    have ih := gd_at r g
    refine ⟨fun y h => ?_, fun y h => ?_⟩
    · rcases List.mem_append.mp h with h | h
      · exact ih.1 y h
      · cases List.mem_singleton.mp h
    · rcases List.mem_append.mp h with h | h
      · exact ih.2 y h
      · cases List.mem_singleton.mp h
  | .dv _ r _, g => by
    have ih := gd_at r g.1
    refine ⟨fun y h => ?_, fun y h => ?_⟩
    · rcases List.mem_append.mp h with h | h
      · rcases List.mem_append.mp h with h | h
        · exact ih.1 y h
        · cases List.mem_singleton.mp h
      · cases List.mem_singleton.mp h
    · rcases List.mem_append.mp h with h | h
      · rcases List.mem_append.mp h with h | h
        · exact ih.2 y h
        · cases List.mem_singleton.mp h
      · cases List.mem_singleton.mp h
  | .two _ a b, g => by
    have ia := gd_at a g.1
    have ib := gd_at b g.2
    refine ⟨fun y h => ?_, fun y h => ?_⟩
    · rcases List.mem_append.mp h with h | h
      · exact (List.mem_append.mp h).elim (ia.1 y) (ib.1 y)
      · cases List.mem_singleton.mp h
    · rcases List.mem_append.mp h with h | h
      · exact (List.mem_append.mp h).elim (ia.2 y) (ib.2 y)
      · cases List.mem_singleton.mp h
theorem Rc.sgs_ne : ∀ r : Rc, r.sgs ≠ []
  | .c _ => nofun | .w _ => nofun | .g => nofun | .n _ => nofun
  | .no r => fun e => Rc.sgs_ne r (List.append_eq_nil_iff.mp e).1
  | .dv _ r _ => fun e => Rc.sgs_ne r (List.append_eq_nil_iff.mp (List.append_eq_nil_iff.mp e).1).1
  | .two _ a _ => fun e => Rc.sgs_ne a (List.append_eq_nil_iff.mp (List.append_eq_nil_iff.mp e).1).1
theorem Rc.sgs_len : ∀ r : Rc, r.sgs.length ≤ 2 * r.sz + 1
  | .c _ => Nat.le_refl _ | .w _ => Nat.le_refl _ | .g => Nat.le_refl _ | .n _ => Nat.le_refl _
  | .no r => by
    have := Rc.sgs_len r
    show (r.sgs ++ [_]).length ≤ 2 * (r.sz + 1) + 1
    rw [List.length_append, List.length_singleton]; omega
  | .dv _ r _ => by
    have := Rc.sgs_len r
    show (r.sgs ++ [_] ++ [_]).length ≤ 2 * (r.sz + 1) + 1
    rw [List.length_append, List.length_append, List.length_singleton, List.length_singleton]; omega
  | .two _ a b => by
    have h1 := Rc.sgs_len a
    have h2 := Rc.sgs_len b
    show (a.sgs ++ b.sgs ++ [_]).length ≤ 2 * (a.sz + b.sz + 1) + 1
    rw [List.length_append, List.length_append, List.length_singleton]; omega
theorem op7_fine (o : Op7) : fine (.op o.z) := by cases o <;> exact ⟨by decide +kernel, by decide +kernel⟩
theorem rc_fine {B : Int} : ∀ r : Rc, r.gd goodName goodName B → ∀ s ∈ r.sgs, fine s
  | .c z, g, s, h => by cases List.mem_singleton.mp h; exact good_ok g
  | .w z, g, s, h => by cases List.mem_singleton.mp h; exact good_ok g
  | .g, _, s, h => by cases List.mem_singleton.mp h; trivial
  | .n _, _, s, h => by cases List.mem_singleton.mp h; trivial
  | .no r, g, s, h => by
    rcases List.mem_append.mp h with h | h
    · exact rc_fine r g s h
    · cases List.mem_singleton.mp h
      exact ⟨by decide +kernel, by decide +kernel⟩
  | .dv q r k, g, s, h => by
    rcases List.mem_append.mp h with h | h
    · rcases List.mem_append.mp h with h | h
      · exact rc_fine r g.1 s h
      · cases List.mem_singleton.mp h
        trivial
    · cases List.mem_singleton.mp h
      cases q <;> exact ⟨by decide +kernel, by decide +kernel⟩
  | .two o a b, g, s, h => by
    rcases List.mem_append.mp h with h | h
    · rcases List.mem_append.mp h with h | h
      · exact rc_fine a g.1 s h
      · exact rc_fine b g.2 s h
    · cases List.mem_singleton.mp h
      exact op7_fine o
/-! ## recipes, drawn -/
theorem log_20 {q : Int} (h0 : 0 < q) (h1 : q ≤ 10 ^ 20) : q.natAbs.log2 < 9000 := by
  have h2 : q.natAbs < 2 ^ 80 := by omega
  have h3 : q.natAbs ≠ 0 := by omega
  have := (Nat.log2_lt h3).mpr h2
  omega

theorem three_at {a b c : Int} {r : Int} (r0 : 0 ≤ r) (r1 : r < 3) : ∃ q, atI [iD a, iD b, iD c] r = some (iD q) ∧ (q = a ∨ q = b ∨ q = c) := by
  have h : r = 0 ∨ r = 1 ∨ r = 2 := by omega
  rcases h with rfl | rfl | rfl
  · exact ⟨a, rfl, .inl rfl⟩
  · exact ⟨b, rfl, .inr (.inl rfl)⟩
  · exact ⟨c, rfl, .inr (.inr rfl)⟩
theorem sign_at {r : Int} (r0 : 0 ≤ r) (r1 : r < 9) : ∃ o : Op7, atI [sD "+", sD "-", sD "*", sD "&", sD "|", sD "=", sD "<", sD "+", sD "*"] r = some (sD o.z) := by
  have h : r = 0 ∨ r = 1 ∨ r = 2 ∨ r = 3 ∨ r = 4 ∨ r = 5 ∨ r = 6 ∨ r = 7 ∨ r = 8 := by omega
  rcases h with rfl | rfl | rfl | rfl | rfl | rfl | rfl | rfl | rfl
  · exact ⟨.add, rfl⟩
  · exact ⟨.sub, rfl⟩
  · exact ⟨.mul, rfl⟩
  · exact ⟨.and, rfl⟩
  · exact ⟨.or, rfl⟩
  · exact ⟨.eq, rfl⟩
  · exact ⟨.lt, rfl⟩
  · exact ⟨.add, rfl⟩
  · exact ⟨.mul, rfl⟩
theorem strs_at {zs : List Str} {i : Int} (h0 : 0 ≤ i) (h1 : i < zs.length) : ∃ z, atI (strsD zs) i = some (sD z) ∧ z ∈ zs := by
  obtain ⟨d, e, hd⟩ := lst_at (xs := strsD zs) h0 (by unfold strsD; rw [List.length_map]; exact h1)
  obtain ⟨z, hz, rfl⟩ := List.mem_map.mp hd
  exact ⟨z, e, hz⟩
theorem strs_none {zs : List Str} (h : ∀ z ∈ zs, PyData.strOk z = true) : ∃ p q, PyOf (.lst (strsD zs)) p ∧ PyOf (.lst []) q ∧ SeqAt.shaped p = true ∧ SeqAt.shaped q = true ∧ PyData.eqv p q = decide (zs = []) := by
  have o : ∀ zs : List Str, PyOfs (strsD zs) (zs.map PyData.str) := fun zs => by
    induction zs with
    | nil => exact .nil
    | cons z zs ih => exact .cons pyof_s ih
  have l : ∀ zs : List Str, (∀ z ∈ zs, PyData.strOk z = true) → PyData.canLayAll0 (zs.map PyData.str) = true ∧ PyData.depthAll (zs.map PyData.str) = 0 := fun zs h => by
    induction zs with
    | nil => exact ⟨rfl, rfl⟩
    | cons z zs ih =>
      obtain ⟨h1, h2⟩ := ih fun y hy => h y (List.mem_cons_of_mem _ hy)
      refine ⟨?_, ?_⟩
      · show (PyData.strOk z && PyData.canLayAll0 (zs.map PyData.str)) = true
        rw [h1, h z List.mem_cons_self]; rfl
      · show max 0 (PyData.depthAll (zs.map PyData.str)) = 0
        rw [h2]; rfl
  refine ⟨_, _, .lst (o zs), .lst .nil, ?_, by decide +kernel, ?_⟩
  · obtain ⟨h1, h2⟩ := l zs h
    show (PyData.canLayAll0 (zs.map PyData.str) && decide (PyData.depthAll (zs.map PyData.str) + 1 ≤ 64)) = true
    rw [h1, h2]; rfl
  · cases zs with
    | nil => rfl
    | cons z zs => rfl
theorem dvz_at {r : Int} (r0 : 0 ≤ r) (r1 : r < 2) : ∃ q, atI [sD "//", sD "mod"] r = some (sD (dvz q)) := by
  have h : r = 0 ∨ r = 1 := by omega
  rcases h with rfl | rfl
  · exact ⟨true, rfl⟩
  · exact ⟨false, rfl⟩
theorem two_at {a b : Int} {r : Int} (r0 : 0 ≤ r) (r1 : r < 2) : ∃ q, atI [iD a, iD b] r = some (iD q) ∧ (q = a ∨ q = b) := by
  have h : r = 0 ∨ r = 1 := by omega
  rcases h with rfl | rfl
  · exact ⟨a, rfl, .inl rfl⟩
  · exact ⟨b, rfl, .inr rfl⟩
def recF (B : Int) (N : Nat) : DFn := fun ds m Φ _ => ∃ (k n most : Nat) (zs : List Str) (c : Ct), ds = [.hd k, .lst (strsD zs), iD most] ∧ most < N ∧ n + 8 * (2 * most + 1) < 2 ^ 29 ∧ m k = some c ∧ Well c n ∧ zs ≠ [] ∧ zs.length ≤ 1000 ∧ (∀ z ∈ zs, goodName z) ∧
  ∀ (r : Rc) (c' : Ct), r.gd (· ∈ zs) (· ∈ zs) B → r.sz ≤ most → Well c' (n + 8 * (2 * most + 1)) → Φ (rcD r) (setMu m k c')
theorem br_merge {H1 H2 A R : Mu → Prop} {b : Bool} (P : Mu → Mu → Prop) (leaf : ∀ m m', H1 m → H2 m → P m m' → A m') (hb : ∀ m, H1 m → H2 m → b = true → P m m)
    (hn : ∀ m, H1 m → H2 m → b = false → (∀ m', P m m' → A m') → R m) : ∀ m, H1 m → H2 m → Br b (A m) (R m) := fun m h1 h2 => by
  cases b with
  | true => exact .t rfl (leaf m m h1 h2 (hb m h1 h2 rfl))
  | false => exact .f rfl (hn m h1 h2 rfl fun m' => leaf m m' h1 h2)
theorem rec_none {B : Int} : ∀ ds m Φ Ξ, ¬ recF B 0 ds m Φ Ξ := by
  rintro ds m Φ Ξ ⟨k, n, most, zs, c, _, h, _⟩
  omega
end ER

namespace ER
open PySem PySem.Spec PyProof.Rows L2 TL
variable {P : Program} {w : World} {K : PySem.W.Frag} {mg : Str → Option Value} {base : Heap} {cl : Nat → Addr} {f : Addr} {fd : FuncData}
/-! ## recipes, drawn -/
def integerF : DFn := fun ds m Φ _ => ∃ (k n : Nat) (c : Ct), ds = [.hd k] ∧ n < 2 ^ 30 - 10 ∧ m k = some c ∧ Well c n ∧ ∀ (r : Int) (c' : Ct), -(10^20) ≤ r → r ≤ 10^20 → Well c' (n + 5) → Φ (iD r) (setMu m k c')
theorem four_at {a b c d : Int} {r : Int} (r0 : 0 ≤ r) (r1 : r < 4) : ∃ q, atI ([iD a, iD b, iD c] ++ [iD d]) r = some (iD q) ∧ (q = a ∨ q = b ∨ q = c ∨ q = d) := by
  have h : r = 0 ∨ r = 1 ∨ r = 2 ∨ r = 3 := by omega
  rcases h with rfl | rfl | rfl | rfl
  · exact ⟨a, rfl, .inl rfl⟩
  · exact ⟨b, rfl, .inr (.inl rfl)⟩
  · exact ⟨c, rfl, .inr (.inr (.inl rfl))⟩
  · exact ⟨d, rfl, .inr (.inr (.inr rfl))⟩
abbrev s_integer : Stmt := topS 35
theorem sc_integer : FnScope ["well", "ways"] ["well"] (defScope s_integer) := ⟨rfl, rfl, rfl, by decide +kernel, rfl, by decide +kernel, by decide +kernel⟩
theorem ok_integer (Fu : Fun K "_law_integer" "_law_integer" s_integer f fd) (c_take : Callee P w K mg base cl "_law_take" 1 ["well", "many"] takeF)  : FnD P w K mg base cl 2 f fd ["well"] integerF := by
  refine okD Fu sc_integer fun cdv A outer s H E s0 Ξ hr tk => ?_
  have nd := sc_integer.nd
  have hst : ∀ (d0 : D), startD ["well", "ways"] [d0] = [some d0, none] := fun _ => rfl
  refine ⟨_, dss_cons (ds_set (i := 1) nd rfl (.inl rfl) (de_lst (da_cons (de_sub (de_callee c_take (hr.mono (by decide)) rfl (da_cons (de_var 0) (da_cons (de_int) da_nil))) (de_int)) (da_cons (de_sub (de_callee c_take (hr.mono (by decide)) rfl (da_cons (de_var 0) (da_cons (de_int) da_nil))) (de_int)) (da_cons (de_sub (de_callee c_take (hr.mono (by decide)) rfl (da_cons (de_var 0) (da_cons (de_int) da_nil))) (de_int)) da_nil))))) (dss_cons (ds_ret (de_ix (de_add (de_var 1) (de_lst (da_cons (de_add (de_sub (de_callee c_take (hr.mono (by decide)) rfl (da_cons (de_var 0) (da_cons (de_sub (de_mul (de_int) (de_pow (de_int) (de_int))) (de_int)) da_nil))) (de_pow (de_int) (de_int))) (de_int)) da_nil))) (de_callee c_take (hr.mono (by decide)) rfl (da_cons (de_var 0) (da_cons (de_int) da_nil))))) dss_nil), ?_⟩
  intro ds m Φ hl h
  obtain ⟨k, n, c, rfl, hn, hk, hw, h5⟩ := h
  try rw [hst]
  walk_at "go"
  refine ⟨k, 7, n, c, rfl, by omega, by decide, by omega, hk, hw, fun r c1 r0 r1 w1 => ?_⟩
  walk_at "go"
  refine ⟨k, 2001, n + 1, c1, rfl, by omega, by decide, by omega, setMu_same, w1, fun r2 c2 r20 r21 w2 => ?_⟩
  walk_at "go"
  refine ⟨k, 21, n + 2, c2, rfl, by omega, by decide, by omega, setMu_same, w2, fun r3 c3 r30 r31 w3 => ?_⟩
  walk_at "go"
  have e20 : (10 : Int) ^ (20 : Int).toNat = 100000000000000000000 := by decide
  refine ⟨k, _, n + 3, c3, rfl, by rw [e20]; omega, by rw [e20]; decide, by omega, setMu_same, w3, fun r5 c5 r50 r51 w5 => ?_⟩
  rw [e20] at r51
  walk_at "go"
  refine ⟨k, 4, n + 4, c5, rfl, by omega, by decide, by omega, setMu_same, w5, fun r4 c4 r40 r41 w4 => ?_⟩
  walk_at "go"
  obtain ⟨q, e, hq⟩ := four_at (a := r - 3) (b := r2 - 1000) (c := r3 - 10) (d := r5 - 10 ^ (20 : Int).toNat + 1) r40 r41
  refine .mk _ e ?_
  walk_at "go"
  rw [setMu_set, setMu_set, setMu_set, setMu_set]
  rw [e20] at hq
  exact h5 _ _ (by omega) (by omega) w4
variable {N : Nat}
abbrev s_recipe : Stmt := topS 36
theorem sc_recipe : FnScope ["well", "cells_here", "most", "pick", "part", "sign", "few"] ["well", "cells_here", "most"] (defScope s_recipe) := ⟨rfl, rfl, rfl, by decide +kernel, rfl, by decide +kernel, by decide +kernel⟩
theorem ok_recipe (Fu : Fun K "_law_recipe" "_law_recipe" s_recipe f fd) (c_take : Callee P w K mg base cl "_law_take" 1 ["well", "many"] takeF) (c_integer : Callee P w K mg base cl "_law_integer" 2 ["well"] integerF) (b_len : mg "len" = none) (c_recipe : Callee P w K mg base cl "_law_recipe" (N+9) ["well", "cells_here", "most"] (recF (10^20) N))  : FnD P w K mg base cl (N+10) f fd ["well", "cells_here", "most"] (recF (10^20) (N+1)) := by
  refine okD Fu sc_recipe fun cdv A outer s H E s0 Ξ hr tk => ?_
  have hu : (A.deeper (envOfC "_law_recipe" (defScope s_recipe) s.heap.objs.size f cdv)).units + 64 < cLine := by have := hr.un; omega
  have hu1 : (A.deeper (envOfC "_law_recipe" (defScope s_recipe) s.heap.objs.size f cdv)).units + 1 < cLine := by omega
  have nd := sc_recipe.nd
  have hst : ∀ (d0 d1 d2 : D), startD ["well", "cells_here", "most", "pick", "part", "sign", "few"] [d0, d1, d2] = [some d0, some d1, some d2, none, none, none, none] := fun _ _ _ => rfl
  refine ⟨_, dss_cons (ds_set (i := 3) nd rfl (.inl rfl) (de_if (DW.dt (dw_or (dt_eq hu (de_var 2) (de_int)) (dw_or1 (dt_eq hu (de_callee c_take (hr.mono (by omega)) rfl (da_cons (de_var 0) (da_cons (de_int) da_nil))) (de_int))))) (de_callee c_take (hr.mono (by omega)) rfl (da_cons (de_var 0) (da_cons (de_int) da_nil))) (de_add (de_int) (de_callee c_take (hr.mono (by omega)) rfl (da_cons (de_var 0) (da_cons (de_int) da_nil)))))) (dss_cons (ds_if (dt_eq hu (de_var 3) (de_int)) (dss_cons (ds_ret (de_tup (da_cons (de_str) da_nil))) dss_nil) (dss_nil)) (dss_cons (ds_if (DW.dt (dw_or (dt_eq hu (de_var 3) (de_int)) (dw_or1 (DW.dt (dw_and (dt_lt (de_var 3) (de_int)) (dw_and1 (dt_eq hu (de_var 1) (de_lst (da_nil))))))))) (dss_cons (ds_ret (de_tup (da_cons (de_str) (da_cons (de_callee c_integer (hr.mono (by omega)) rfl (da_cons (de_var 0) da_nil)) da_nil)))) dss_nil) (dss_nil)) (dss_cons (ds_if (dt_lt (de_var 3) (de_int)) (dss_cons (ds_ret (de_tup (da_cons (de_ix (de_lst (da_cons (de_str) (da_cons (de_str) (da_cons (de_str) da_nil)))) (de_sub (de_var 3) (de_int))) (da_cons (de_ix (de_var 1) (de_callee c_take (hr.mono (by omega)) rfl (da_cons (de_var 0) (da_cons (de_len rfl b_len (da_cons (de_var 1) da_nil)) da_nil)))) da_nil)))) dss_nil) (dss_nil)) (dss_cons (ds_if (dt_eq hu (de_var 3) (de_int)) (dss_cons (ds_ret (de_tup (da_cons (de_str) (da_cons (de_callee c_recipe (hr.mono (by omega)) rfl (da_cons (de_var 0) (da_cons (de_var 1) (da_cons (de_sub (de_var 2) (de_int)) da_nil)))) da_nil)))) dss_nil) (dss_nil)) (dss_cons (ds_if (dt_lt (de_var 3) (de_int)) (dss_cons (ds_set (i := 4) nd rfl (.inl rfl) (de_callee c_recipe (hr.mono (by omega)) rfl (da_cons (de_var 0) (da_cons (de_var 1) (da_cons (de_sub (de_var 2) (de_int)) da_nil))))) (dss_cons (ds_ret (de_tup (da_cons (de_ix (de_lst (da_cons (de_str) (da_cons (de_str) da_nil))) (de_sub (de_var 3) (de_int))) (da_cons (de_var 4) (da_cons (de_add (de_int) (de_callee c_take (hr.mono (by omega)) rfl (da_cons (de_var 0) (da_cons (de_ix (de_lst (da_cons (de_int) (da_cons (de_int) (da_cons (de_sub (de_pow (de_int) (de_int)) (de_int)) da_nil)))) (de_callee c_take (hr.mono (by omega)) rfl (da_cons (de_var 0) (da_cons (de_int) da_nil)))) da_nil)))) da_nil))))) dss_nil)) (dss_nil)) (dss_cons (ds_set (i := 5) nd rfl (.inl rfl) (de_ix (de_lst (da_cons (de_str) (da_cons (de_str) (da_cons (de_str) (da_cons (de_str) (da_cons (de_str) (da_cons (de_str) (da_cons (de_str) (da_cons (de_str) (da_cons (de_str) da_nil)))))))))) (de_sub (de_var 3) (de_int)))) (dss_cons (ds_set (i := 6) nd rfl (.inl rfl) (de_ix (de_lst (da_cons (de_int) (da_cons (de_sub (de_var 2) (de_int)) (da_cons (de_callee c_take (hr.mono (by omega)) rfl (da_cons (de_var 0) (da_cons (de_var 2) da_nil))) da_nil)))) (de_callee c_take (hr.mono (by omega)) rfl (da_cons (de_var 0) (da_cons (de_int) da_nil))))) (dss_cons (ds_set (i := 4) nd rfl (.inl rfl) (de_callee c_recipe (hr.mono (by omega)) rfl (da_cons (de_var 0) (da_cons (de_var 1) (da_cons (de_var 6) da_nil))))) (dss_cons (ds_ret (de_tup (da_cons (de_var 5) (da_cons (de_var 4) (da_cons (de_callee c_recipe (hr.mono (by omega)) rfl (da_cons (de_var 0) (da_cons (de_var 1) (da_cons (de_sub (de_sub (de_var 2) (de_int)) (de_var 6)) da_nil)))) da_nil))))) dss_nil))))))))), ?_⟩
  intro ds m Φ hl h
  obtain ⟨k, n, most, zs, c, rfl, hN, hn, hk, hw, hz, hzl, hg, h5⟩ := h
  try rw [hst]
  walk_at "go"
  revert m
  refine br_merge (fun m m' => ∃ n' c', m' k = some c' ∧ (∀ c2, setMu m' k c2 = setMu m k c2) ∧ n' ≤ n + 1 ∧ Well c' n') (fun m m' hk h5 hP => ?_) (fun m hk _ e => ⟨n, c, hk, fun _ => rfl, by omega, hw⟩) fun m hk h5 e leaf => ?_
  · obtain ⟨n', c', hk', hm', hn', hw'⟩ := hP
    walk_at "go"
    refine ⟨k, 5, n', c', rfl, by omega, by decide, by omega, hk', hw', fun r c1 r0 r1 w1 => ?_⟩
    rw [hm']
    walk_at "go"
    refine i_dec (fun h => ?_) (fun h => ?_)
    · walk_at "go"
      exact h5 .g _ trivial (Nat.zero_le _) (w1.mono (by omega))
    · walk_at "go"
      by_cases h1 : r = 1
      · rw [decide_eq_true h1]
        walk_at "go"
        refine ⟨k, n' + 1, c1, rfl, by omega, setMu_same, w1, fun i c2 i0 i1 w2 => ?_⟩
        walk_at "go"
        rw [setMu_set]
        exact h5 (.n i) _ ⟨i0, i1⟩ (Nat.zero_le _) (w2.mono (by omega))
      · refine i_decF h1 ?_
        walk_at "go"
        refine .t (decide_eq_true r1) ?_
        walk_at "go"
        obtain ⟨p, q, o1, o2, s1, s2, e⟩ := strs_none fun z hz => good_ok (hg z hz)
        refine ⟨p, q, o1, o2, s1, s2, ?_⟩
        rw [e, decide_eq_false hz]
        walk_at "go"
        refine .t (decide_eq_true r1) ?_
        walk_at "go"
        have hp : r = 2 ∨ r = 3 ∨ r = 4 := by omega
        have hlen : (strsD zs).length = zs.length := by unfold strsD; rw [List.length_map]
        have hpos : 0 < zs.length := List.length_pos_iff.mpr hz
        rcases hp with rfl | rfl | rfl
        · walk_at "go"
          refine ⟨k, zs.length, n' + 1, c1, by rw [hlen], by omega, log_small (by omega) (by omega), by omega, setMu_same, w1, fun i c2 i0 i1 w2 => ?_⟩
          rw [setMu_set]
          obtain ⟨z, ez, hz2⟩ := strs_at (zs := zs) i0 i1
          walk_at "go"
          exact h5 (.w z) _ hz2 (Nat.zero_le _) (w2.mono (by omega))
        · walk_at "go"
          refine ⟨k, zs.length, n' + 1, c1, by rw [hlen], by omega, log_small (by omega) (by omega), by omega, setMu_same, w1, fun i c2 i0 i1 w2 => ?_⟩
          rw [setMu_set]
          obtain ⟨z, ez, hz2⟩ := strs_at (zs := zs) i0 i1
          walk_at "go"
          exact h5 (.c z) _ hz2 (Nat.zero_le _) (w2.mono (by omega))
        · walk_at "go"
          refine ⟨k, zs.length, n' + 1, c1, by rw [hlen], by omega, log_small (by omega) (by omega), by omega, setMu_same, w1, fun i c2 i0 i1 w2 => ?_⟩
          rw [setMu_set]
          obtain ⟨z, ez, hz2⟩ := strs_at (zs := zs) i0 i1
          walk_at "go"
          exact h5 (.c z) _ hz2 (Nat.zero_le _) (w2.mono (by omega))
  · have e := of_decide_eq_false e
    have hm1 : ((most : Int) - 1) = ((most - 1 : Nat) : Int) := by omega
    have eqm : [D.hd k, D.lst (strsD zs), iD ((most : Int) - 1)] = [D.hd k, D.lst (strsD zs), iD ((most - 1 : Nat) : Int)] := by rw [hm1]
    have hlen : (strsD zs).length = zs.length := by unfold strsD; rw [List.length_map]
    walk_at "go"
    refine ⟨k, 9, n, c, rfl, by omega, by decide, by omega, hk, hw, fun r c1 r0 r1 w1 => ?_⟩
    walk_at "go"
    by_cases h9 : r = 0
    · rw [decide_eq_true h9]
      exact leaf _ ⟨n + 1, c1, setMu_same, fun _ => setMu_set, by omega, w1⟩
    · refine i_decF h9 ?_
      walk_at "go"
      refine ⟨k, 12, n + 1, c1, rfl, by omega, by decide, by omega, setMu_same, w1, fun r2 c2 r20 r21 w2 => ?_⟩
      rw [setMu_set]
      walk_at "go"
      refine i_decF (by omega) ?_
      walk_at "go"
      refine i_decF (by omega) ?_
      walk_at "go"
      refine .f (decide_eq_false (by omega)) ?_
      walk_at "go"
      refine .f (decide_eq_false (by omega)) ?_
      walk_at "go"
      by_cases h5' : r2 = 0
      · subst h5'
        walk_at "go"
        refine ⟨k, n + 2, most - 1, zs, c2, eqm, by omega, by omega, setMu_same, w2, hz, hzl, hg, fun rc c3 g3 z3 w3 => ?_⟩
        walk_at "go"
        rw [setMu_set]
        exact h5 (.no rc) _ g3 (by show rc.sz + 1 ≤ most; omega) (w3.mono (by omega))
      · refine i_decF (by omega) ?_
        walk_at "go"
        refine i_dec (fun h8 => ?_) (fun h8 => ?_)
        · walk_at "go"
          refine ⟨k, n + 2, most - 1, zs, c2, eqm, by omega, by omega, setMu_same, w2, hz, hzl, hg, fun rc c3 g3 z3 w3 => ?_⟩
          walk_at "go"
          rw [setMu_set]
          obtain ⟨dq, e1⟩ := dvz_at (r := 5 + r2 - 6) (by omega) (by omega)
          refine .mk _ e1 ?_
          walk_at "go"
          refine ⟨k, 3, _, c3, rfl, by omega, by decide, ?_, setMu_same, w3, fun r4 c4 r40 r41 w4 => ?_⟩
          · omega
          rw [setMu_set]
          walk_at "go"
          have e20 : (10 : Int) ^ (20 : Int).toNat = 100000000000000000000 := by decide
          obtain ⟨q, e2, hq⟩ := three_at (a := 7) (b := 1000) (c := 10 ^ (20 : Int).toNat - 1) r40 r41
          rw [e20] at hq
          refine .mk _ e2 ?_
          walk_at "go"
          refine ⟨k, q, _, c4, rfl, by omega, log_20 (by omega) (by omega), ?_, setMu_same, w4, fun r5 c5 r50 r51 w5 => ?_⟩
          · omega
          rw [setMu_set]
          walk_at "go"
          exact h5 (.dv dq rc (1 + r5)) _ ⟨g3, by omega, by omega⟩ (by show rc.sz + 1 ≤ most; omega) (w5.mono (by omega))
        · walk_at "go"
          obtain ⟨o, e1⟩ := sign_at (r := 5 + r2 - 8) (by omega) (by omega)
          refine .mk _ e1 ?_
          walk_at "go"
          refine ⟨k, most, n + 2, c2, rfl, by omega, log_small (by omega) (by omega), by omega, setMu_same, w2, fun r4 c4 r40 r41 w4 => ?_⟩
          rw [setMu_set]
          walk_at "go"
          refine ⟨k, 3, n + 3, c4, rfl, by omega, by decide, by omega, setMu_same, w4, fun r6 c6 r60 r61 w6 => ?_⟩
          rw [setMu_set]
          walk_at "go"
          obtain ⟨q, e2, hq⟩ := three_at (a := 0) (b := (most : Int) - 1) (c := r4) r60 r61
          refine .mk _ e2 ?_
          obtain ⟨few, rfl⟩ : ∃ few : Nat, q = few := ⟨q.toNat, by omega⟩
          have hf : few ≤ most - 1 := by omega
          walk_at "go"
          refine ⟨k, n + 4, few, zs, c6, rfl, by omega, by omega, setMu_same, w6, hz, hzl, hg, fun ra c7 ga za wa => ?_⟩
          rw [setMu_set]
          walk_at "go"
          have eqf : [D.hd k, D.lst (strsD zs), iD ((most : Int) - 1 - few)] = [D.hd k, D.lst (strsD zs), iD ((most - 1 - few : Nat) : Int)] := by
            rw [show ((most : Int) - 1 - few) = ((most - 1 - few : Nat) : Int) by omega]
          refine ⟨k, n + 4 + 8 * (2 * few + 1), most - 1 - few, zs, c7, eqf, by omega, by omega, setMu_same, wa, hz, hzl, hg, fun rb c8 gb zb wb => ?_⟩
          rw [setMu_set]
          walk_at "go"
          exact h5 (.two o ra rb) _ ⟨ga, gb⟩ (by show ra.sz + rb.sz + 1 ≤ most; omega) (wb.mono (by omega))
end ER

namespace ER
open PySem PySem.Spec PyProof.Rows L2 TL
variable {P : Program} {w : World} {K : PySem.W.Frag} {mg : Str → Option Value} {base : Heap} {cl : Nat → Addr} {f : Addr} {fd : FuncData}
theorem in2' {x a b : Str} {neg : Bool} {Φ : DK} {m : Mu} (h : ngK neg Φ (inV (.str x) [.str a, .str b]) m) : ∃ zs, [D.v (.str a), .v (.str b)] = zs.map D.v ∧ flatV (.str x) = true ∧ zs.all flatV = true ∧ ngK neg Φ (inV (.str x) zs) m := ⟨_, rfl, rfl, rfl, h⟩
/-! ## recipes, built -/
local macro_rules | `(tactic| walk_at "gx") => `(tactic| with_reducible first | refine ER.mk_val ?_ | refine ER.in2' ?_)
def joinedF : DFn := fun ds m Φ _ => ∃ (o : Op7) (x y : D) (sx sy : List Sg), ds = [sD o.z, x, y] ∧ VOf x sx ∧ VOf y sy ∧ JOk sx sy ∧ (x = valD sx ∨ (y = valD sy ∧ o ≠ .eq ∧ o ≠ .lt)) ∧ Φ (valD (sx ++ sy ++ [.op o.z])) m
local macro_rules | `(tactic| walk_at "jn") => `(tactic| first
  | exact ⟨_, _, _, _, rfl, .inl rfl, .inl rfl, by assumption, by assumption⟩
  | exact ⟨_, _, _, _, rfl, .inl rfl, .inr ⟨_, rfl, rfl⟩, by assumption, by assumption⟩)
abbrev s_joinedL : Stmt := topS 38
theorem sc_joinedL : FnScope ["sign", "one", "two"] ["sign", "one", "two"] (defScope s_joinedL) := ⟨rfl, rfl, rfl, by decide +kernel, rfl, by decide +kernel, by decide +kernel⟩
theorem ok_joinedL (Fu : Fun K "_law_joined" "_law_joined" s_joinedL f fd) (o_Add : SignOk P w K mg base cl .Add 0 6 (signF "+") (signR "+")) (o_Sub : SignOk P w K mg base cl .Sub 0 6 (signF "-") (signR "-")) (o_Mult : SignOk P w K mg base cl .Mult 0 6 (signF "*") (signR "*")) (o_BitAnd : SignOk P w K mg base cl .BitAnd 0 6 (signF "&") (signR "&")) (o_BitOr : SignOk P w K mg base cl .BitOr 0 6 (signF "|") (signR "|")) (m_same : MethOk P w K mg base cl "same" 0 6 ["self", "other"] (signF "=")) (m_less : MethOk P w K mg base cl "less" 0 6 ["self", "other"] (signF "<"))  : FnD P w K mg base cl 7 f fd ["sign", "one", "two"] joinedF := by
  refine okD Fu sc_joinedL fun cdv A outer s H E s0 Ξ hr tk => ?_
  have hu : (A.deeper (envOfC "_law_joined" (defScope s_joinedL) s.heap.objs.size f cdv)).units + 64 < cLine := by have := hr.un; omega
  have hu1 : (A.deeper (envOfC "_law_joined" (defScope s_joinedL) s.heap.objs.size f cdv)).units + 1 < cLine := by omega
  have hst : ∀ (d0 d1 d2 : D), startD ["sign", "one", "two"] [d0, d1, d2] = [some d0, some d1, some d2] := fun _ _ _ => rfl
  refine ⟨_, dss_cons (ds_if (dt_in hu1 (de_var 0) (de_tup (da_cons (de_str) (da_cons (de_str) da_nil)))) (dss_cons (ds_ret (de_if (dt_eq hu (de_var 0) (de_str)) (de_addO o_Add (hr.mono (by decide)) (de_var 1) (de_var 2)) (de_subO o_Sub (hr.mono (by decide)) (de_var 1) (de_var 2)))) dss_nil) (dss_nil)) (dss_cons (ds_if (dt_eq hu (de_var 0) (de_str)) (dss_cons (ds_ret (de_mulO o_Mult (hr.mono (by decide)) (de_var 1) (de_var 2))) dss_nil) (dss_nil)) (dss_cons (ds_if (dt_in hu1 (de_var 0) (de_tup (da_cons (de_str) (da_cons (de_str) da_nil)))) (dss_cons (ds_ret (de_if (dt_eq hu (de_var 0) (de_str)) (de_andO o_BitAnd (hr.mono (by decide)) (de_var 1) (de_var 2)) (de_orO o_BitOr (hr.mono (by decide)) (de_var 1) (de_var 2)))) dss_nil) (dss_nil)) (dss_cons (ds_ret (de_if (dt_eq hu (de_var 0) (de_str)) (de_meth m_same (hr.mono (by decide)) (de_var 1) (da_cons (de_var 2) da_nil)) (de_meth m_less (hr.mono (by decide)) (de_var 1) (da_cons (de_var 2) da_nil)))) dss_nil))), ?_⟩
  intro ds m Φ hl h
  obtain ⟨o, x, y, sx, sy, rfl, h1, h2, h3, h4, h5⟩ := h
  rw [hst]
  have hc : (x = valD sx ∧ y = valD sy) ∨ (x = valD sx ∧ ∃ i, y = iD i ∧ sy = [.num i]) ∨ ((∃ i, x = iD i ∧ sx = [.num i]) ∧ y = valD sy ∧ o ≠ .eq ∧ o ≠ .lt) := by
    rcases h4 with h4 | h4
    · rcases h2 with h2 | ⟨i, h2, h2'⟩
      · exact .inl ⟨h4, h2⟩
      · exact .inr (.inl ⟨h4, i, h2, h2'⟩)
    · rcases h1 with h1 | ⟨i, h1, h1'⟩
      · exact .inl ⟨h1, h4.1⟩
      · exact .inr (.inr ⟨⟨i, h1, h1'⟩, h4⟩)
  rcases hc with ⟨rfl, rfl⟩ | ⟨rfl, i, rfl, rfl⟩ | ⟨⟨i, rfl, rfl⟩, rfl, n1, n2⟩
  · cases o <;> (walk_at "go"; exact ⟨_, _, sx, sy, rfl, .inl rfl, .inl rfl, h3, h5⟩)
  · cases o <;> (walk_at "go"; exact ⟨_, _, sx, _, rfl, .inl rfl, .inr ⟨i, rfl, rfl⟩, h3, h5⟩)
  · cases o <;> first | exact absurd rfl n1 | exact absurd rfl n2 | (walk_at "go"; exact ⟨_, _, sy, _, rfl, .inl rfl, .inr ⟨i, rfl, rfl⟩, h3, h5⟩)
def builtF (N : Nat) : DFn := fun ds m Φ _ => ∃ (r : Rc) (st : Int), ds = [rcD r, iD st] ∧ (st = 0 ∨ st = 1) ∧ (∃ B, r.gd goodName goodName B) ∧ r.sz < N ∧ r.sz ≤ 100 ∧ Φ (valD r.sgs) m
def sideF (N : Nat) : DFn := fun ds m Φ _ => ∃ (r : Rc) (st : Int), ds = [rcD r, iD st] ∧ (st = 0 ∨ st = 1) ∧ (∃ B, r.gd goodName goodName B) ∧ r.sz < N ∧ r.sz ≤ 100 ∧ ∀ x, VOf x r.sgs → Φ x m
theorem built_none : ∀ ds m Φ Ξ, ¬ builtF 0 ds m Φ Ξ := by
  rintro ds m Φ Ξ ⟨r, st, _, _, _, h, _⟩
  omega
theorem at0 {α : Type} {x : α} {xs : List α} : atI (x :: xs) 0 = some x := by
  unfold L2.atI ixN
  rw [if_pos (by omega), if_pos (by rw [List.length_cons]; omega)]
  rfl
theorem tag_n {r : Rc} (h : r.tag = "n") : ∃ i, r = .n i := by
  have d : ∀ q, ¬ dvz q = "n" := fun q => by cases q <;> decide +kernel
  have p : ∀ o : Op7, ¬ o.z = "n" := fun o => by cases o <;> decide +kernel
  cases r with
  | n i => exact ⟨i, rfl⟩
  | c z => exact absurd (show ("c" : Str) = "n" from h) (by decide +kernel)
  | w z => exact absurd (show ("w" : Str) = "n" from h) (by decide +kernel)
  | g => exact absurd (show ("g" : Str) = "n" from h) (by decide +kernel)
  | no r => exact absurd (show ("~" : Str) = "n" from h) (by decide +kernel)
  | dv q r k => exact absurd h (d q)
  | two o a b => exact absurd h (p o)
theorem op_cw (o : Op7) : inV (.str o.z) [.str "c", .str "w"] = false := by cases o <;> decide +kernel
theorem op_dv (o : Op7) : inV (.str o.z) [.str "//", .str "mod"] = false := by cases o <;> decide +kernel
theorem op_ne {o : Op7} (h : inV (.str o.z) [.str "=", .str "<"] = false) : o ≠ .eq ∧ o ≠ .lt := by
  refine ⟨?_, ?_⟩ <;> (rintro rfl; revert h; decide +kernel)
theorem op_g (o : Op7) : o.z ≠ "g" ∧ o.z ≠ "n" ∧ o.z ≠ "~" := by cases o <;> decide +kernel
variable {N : Nat}
abbrev s_sideL : Stmt := topS 39
theorem sc_sideL : FnScope ["recipe", "style"] ["recipe", "style"] (defScope s_sideL) := ⟨rfl, rfl, rfl, by decide +kernel, rfl, by decide +kernel, by decide +kernel⟩
theorem ok_sideL (Fu : Fun K "_law_side" "_law_side" s_sideL f fd) (c_builtL : Callee P w K mg base cl "_law_built" (2*N+9) ["recipe", "style"] (builtF N))  : FnD P w K mg base cl (2*N+10) f fd ["recipe", "style"] (sideF N) := by
  refine okD Fu sc_sideL fun cdv A outer s H E s0 Ξ hr tk => ?_
  have hu : (A.deeper (envOfC "_law_side" (defScope s_sideL) s.heap.objs.size f cdv)).units + 64 < cLine := by have := hr.un; omega
  have hu1 : (A.deeper (envOfC "_law_side" (defScope s_sideL) s.heap.objs.size f cdv)).units + 1 < cLine := by omega
  have hst : ∀ (d0 d1 : D), startD ["recipe", "style"] [d0, d1] = [some d0, some d1] := fun _ _ => rfl
  refine ⟨_, dss_cons (ds_ret (de_if (DW.dt (dw_and (dt_eq hu (de_ix (de_var 0) (de_int)) (de_str)) (dw_and1 (dt_eq hu (de_var 1) (de_int))))) (de_ix (de_var 0) (de_int)) (de_callee c_builtL (hr.mono (by omega)) rfl (da_cons (de_var 0) (da_cons (de_var 1) da_nil))))) dss_nil, ?_⟩
  intro ds m Φ hl h
  obtain ⟨r, st, rfl, h1, h2, h3, h4, h5⟩ := h
  rw [hst, rc_tag]
  try rw [hst]
  walk_at "go"
  refine .mk _ at0 ?_
  walk_at "go"
  by_cases e : r.tag = "n"
  · refine i_decT e ?_
    walk_at "go"
    obtain ⟨i, rfl⟩ := tag_n e
    rcases h1 with rfl | rfl
    · walk_at "go"
      refine ⟨.n i, 0, rfl, .inl rfl, h2, h3, h4, h5 _ (.inl rfl)⟩
    · walk_at "go"
      exact h5 _ (.inr ⟨i, rfl, rfl⟩)
  · refine i_decF e ?_
    walk_at "go"
    exact ⟨r, st, by rw [rc_tag], h1, h2, h3, h4, h5 _ (.inl rfl)⟩
abbrev s_builtL : Stmt := topS 40
theorem sc_builtL : FnScope ["recipe", "style", "part"] ["recipe", "style"] (defScope s_builtL) := ⟨rfl, rfl, rfl, by decide +kernel, rfl, by decide +kernel, by decide +kernel⟩
theorem ok_builtL (Fu : Fun K "_law_built" "_law_built" s_builtL f fd) (c_named : Callee P w K mg base cl "named" 4 ["name"] (namedF .named)) (c_now : Callee P w K mg base cl "now" 4 ["name"] (namedF .now)) (c_passed : Callee P w K mg base cl "passed" 3 [] passedF) (c_number : Callee P w K mg base cl "number" 3 ["n"] numberF) (o_Invert : UnOk P w K mg base cl 0 3 invF) (c_builtL : Callee P w K mg base cl "_law_built" (2*N+9) ["recipe", "style"] (builtF N)) (o_FloorDiv : SignL P w K mg base cl .FloorDiv 0 7 (restF "//")) (m_rest : MethOk P w K mg base cl "rest" 0 7 ["self", "n"] (restF "mod")) (c_joinedL : Callee P w K mg base cl "_law_joined" 7 ["sign", "one", "two"] joinedF) (c_sideL : Callee P w K mg base cl "_law_side" (2*N+10) ["recipe", "style"] (sideF N))  : FnD P w K mg base cl (2*N+11) f fd ["recipe", "style"] (builtF (N+1)) := by
  refine okD Fu sc_builtL fun cdv A outer s H E s0 Ξ hr tk => ?_
  have hu : (A.deeper (envOfC "_law_built" (defScope s_builtL) s.heap.objs.size f cdv)).units + 64 < cLine := by have := hr.un; omega
  have hu1 : (A.deeper (envOfC "_law_built" (defScope s_builtL) s.heap.objs.size f cdv)).units + 1 < cLine := by omega
  have nd := sc_builtL.nd
  have hst : ∀ (d0 d1 : D), startD ["recipe", "style", "part"] [d0, d1] = [some d0, some d1, none] := fun _ _ => rfl
  refine ⟨_, dss_cons (ds_if (dt_in hu1 (de_ix (de_var 0) (de_int)) (de_tup (da_cons (de_str) (da_cons (de_str) da_nil)))) (dss_cons (ds_ret (de_if (dt_eq hu (de_ix (de_var 0) (de_int)) (de_str)) (de_callee c_named (hr.mono (by omega)) rfl (da_cons (de_ix (de_var 0) (de_int)) da_nil)) (de_callee c_now (hr.mono (by omega)) rfl (da_cons (de_ix (de_var 0) (de_int)) da_nil)))) dss_nil) (dss_nil)) (dss_cons (ds_if (dt_eq hu (de_ix (de_var 0) (de_int)) (de_str)) (dss_cons (ds_ret (de_callee0 c_passed (hr.mono (by omega)) rfl)) dss_nil) (dss_nil)) (dss_cons (ds_if (dt_eq hu (de_ix (de_var 0) (de_int)) (de_str)) (dss_cons (ds_ret (de_callee c_number (hr.mono (by omega)) rfl (da_cons (de_ix (de_var 0) (de_int)) da_nil))) dss_nil) (dss_nil)) (dss_cons (ds_if (dt_eq hu (de_ix (de_var 0) (de_int)) (de_str)) (dss_cons (ds_ret (de_inv o_Invert (hr.mono (by omega)) (de_callee c_builtL (hr.mono (by omega)) rfl (da_cons (de_ix (de_var 0) (de_int)) (da_cons (de_var 1) da_nil))))) dss_nil) (dss_nil)) (dss_cons (ds_if (dt_in hu1 (de_ix (de_var 0) (de_int)) (de_tup (da_cons (de_str) (da_cons (de_str) da_nil)))) (dss_cons (ds_set (i := 2) nd rfl (.inl rfl) (de_callee c_builtL (hr.mono (by omega)) rfl (da_cons (de_ix (de_var 0) (de_int)) (da_cons (de_var 1) da_nil)))) (dss_cons (ds_ret (de_if (dt_eq hu (de_ix (de_var 0) (de_int)) (de_str)) (de_binL o_FloorDiv (hr.mono (by omega)) (de_var 2) (de_ix (de_var 0) (de_int))) (de_meth m_rest (hr.mono (by omega)) (de_var 2) (da_cons (de_ix (de_var 0) (de_int)) da_nil)))) dss_nil)) (dss_nil)) (dss_cons (ds_if (DW.dt (dw_or (dt_eq hu (de_ix (de_ix (de_var 0) (de_int)) (de_int)) (de_str)) (dw_or1 (dt_in hu1 (de_ix (de_var 0) (de_int)) (de_tup (da_cons (de_str) (da_cons (de_str) da_nil))))))) (dss_cons (ds_ret (de_callee c_joinedL (hr.mono (by omega)) rfl (da_cons (de_ix (de_var 0) (de_int)) (da_cons (de_callee c_builtL (hr.mono (by omega)) rfl (da_cons (de_ix (de_var 0) (de_int)) (da_cons (de_var 1) da_nil))) (da_cons (de_callee c_sideL (hr.mono (by omega)) rfl (da_cons (de_ix (de_var 0) (de_int)) (da_cons (de_var 1) da_nil))) da_nil))))) dss_nil) (dss_nil)) (dss_cons (ds_ret (de_callee c_joinedL (hr.mono (by omega)) rfl (da_cons (de_ix (de_var 0) (de_int)) (da_cons (de_callee c_sideL (hr.mono (by omega)) rfl (da_cons (de_ix (de_var 0) (de_int)) (da_cons (de_var 1) da_nil))) (da_cons (de_callee c_builtL (hr.mono (by omega)) rfl (da_cons (de_ix (de_var 0) (de_int)) (da_cons (de_var 1) da_nil))) da_nil))))) dss_nil)))))), ?_⟩
  intro ds m Φ hl h
  obtain ⟨r, st, rfl, h1, ⟨B, h2⟩, h3, h4, h5⟩ := h
  rw [hst]
  cases r with
  | c z =>
    have hz : z.length ≤ sizeLine := by have := h2.2.1; rw [sizeLine_eq]; omega
    try rw [hst]
    walk_at "go"
    exact ⟨z, rfl, hz, fun _ => h5, fun q => absurd h2 q⟩
  | w z =>
    have hz : z.length ≤ sizeLine := by have := h2.2.1; rw [sizeLine_eq]; omega
    walk_at "go"
    exact ⟨z, rfl, hz, fun _ => h5, fun q => absurd h2 q⟩
  | g =>
    walk_at "go"
    exact ⟨rfl, h5⟩
  | n i =>
    walk_at "go"
    exact ⟨i, rfl, h5⟩
  | no r =>
    have hlen := r.sgs_len
    have hz : r.sz + 1 < N + 1 := h3
    have hz2 : r.sz + 1 ≤ 100 := h4
    walk_at "go"
    refine ⟨r, st, rfl, h1, ⟨B, h2⟩, by omega, by omega, ?_⟩
    walk_at "go"
    exact ⟨r.sgs, rfl, r.sgs_ne, by omega, h5⟩
  | dv q r k =>
    have hlen := r.sgs_len
    have hz : r.sz + 1 < N + 1 := h3
    have hz2 : r.sz + 1 ≤ 100 := h4
    have hk : 1 ≤ k := h2.2.1
    have hj : JOk r.sgs [.num k] := ⟨r.sgs_ne, nofun, by rw [List.length_singleton]; omega⟩
    cases q with
    | true =>
      walk_at "go"
      refine ⟨r, st, rfl, h1, ⟨B, h2.1⟩, by omega, by omega, ?_⟩
      walk_at "go"
      exact ⟨_, r.sgs, k, rfl, .inl rfl, hj, fun _ => h5, fun q => by omega⟩
    | false =>
      walk_at "go"
      refine ⟨r, st, rfl, h1, ⟨B, h2.1⟩, by omega, by omega, ?_⟩
      walk_at "go"
      exact ⟨_, r.sgs, k, rfl, .inl rfl, hj, fun _ => h5, fun q => by omega⟩
  | two o a b =>
    have la := a.sgs_len
    have lb := b.sgs_len
    have hz : a.sz + b.sz + 1 < N + 1 := h3
    have hz2 : a.sz + b.sz + 1 ≤ 100 := h4
    have hj : JOk a.sgs b.sgs := ⟨a.sgs_ne, b.sgs_ne, by omega⟩
    have eb : rcD b = .tup (sD b.tag :: b.rest) := rc_tag b
    walk_at "go"
    refine .f (op_cw o) ?_
    walk_at "go"
    refine i_decF (op_g o).1 ?_
    walk_at "go"
    refine i_decF (op_g o).2.1 ?_
    walk_at "go"
    refine i_decF (op_g o).2.2 ?_
    walk_at "go"
    refine .f (op_dv o) ?_
    walk_at "go"
    rw [eb]
    refine .mk _ at0 ?_
    walk_at "go"
    have first : ∀ x, VOf x b.sgs → Go joinedF [sD o.z, valD a.sgs, x] m Φ noX := fun x hx => ⟨o, _, x, _, _, rfl, .inl rfl, hx, hj, .inl rfl, h5⟩
    have last : inV (.str o.z) [.str "=", .str "<"] = false → ∀ x, VOf x a.sgs → Go joinedF [sD o.z, x, valD b.sgs] m Φ noX := fun hn x hx => ⟨o, x, _, _, _, rfl, hx, .inl rfl, hj, .inr ⟨rfl, op_ne hn⟩, h5⟩
    by_cases e : b.tag = "n"
    · refine i_decT e ?_
      walk_at "go"
      refine ⟨a, st, rfl, h1, ⟨B, h2.1⟩, by omega, by omega, ?_⟩
      walk_at "go"
      refine ⟨b, st, rfl, h1, ⟨B, h2.2⟩, by omega, by omega, fun x hx => ?_⟩
      walk_at "go"
      exact first x hx
    · refine i_decF e ?_
      walk_at "go"
      cases e2 : inV (.str o.z) [.str "=", .str "<"] with
      | true =>
        refine .t rfl ?_
        walk_at "go"
        refine ⟨a, st, rfl, h1, ⟨B, h2.1⟩, by omega, by omega, ?_⟩
        walk_at "go"
        refine ⟨b, st, rfl, h1, ⟨B, h2.2⟩, by omega, by omega, fun x hx => ?_⟩
        walk_at "go"
        exact first x hx
      | false =>
        refine .f rfl ?_
        walk_at "go"
        refine ⟨a, st, rfl, h1, ⟨B, h2.1⟩, by omega, by omega, fun x hx => ?_⟩
        walk_at "go"
        refine ⟨b, st, rfl, h1, ⟨B, h2.2⟩, by omega, by omega, ?_⟩
        walk_at "go"
        exact last e2 x hx
end ER

namespace ER
open PySem PySem.Spec PyProof.Rows L2
/-! ## a list, so many times -/
def mulLD : D → D → Mu → DK → Prop
  | .lst xs, .v (.int k), m, Φ => (0 ≤ k ∧ k ≤ 1000 ∧ xs.length ≤ 1000) ∧ Φ (.lst (List.replicate k.toNat xs).flatten) m
  | _, _, _, _ => False
section
variable {cl : Nat → Addr} {s0 : Sn} {X : Cx} {a b : Expr} {ta tb : DTE} {pos : Pos}
theorem reps_rep {s : Sn} {ds : List D} {vs : List V} (r : Reps cl s ds vs) : ∀ n : Nat, Reps cl s (List.replicate n ds).flatten (List.replicate n vs).flatten
  | 0 => .nil
  | n + 1 => by
    rw [List.replicate_succ, List.replicate_succ, List.flatten_cons, List.flatten_cons]
    exact r.append (reps_rep r n)
theorem opd_rep : OpD cl rRep mulLD := fun s x y dx dy Φ Q g rx ry h k => by
  unfold mulLD at h
  split at h
  · rename_i xs n
    obtain ⟨⟨h0, h1, h2⟩, q⟩ := h
    cases rx with
    | lst n1 e1 r1 =>
      cases ry
      have hz : xs.length * n.toNat ≤ 1000 * 1000 := Nat.mul_le_mul h2 (by omega)
      refine ⟨_, n, _, rfl, rfl, e1, by omega, by omega, by rw [← r1.length, sizeLine_eq]; omega, fun p hp => ?_⟩
      exact k _ _ _ (Le.lay g hp) (g.lay hp) (Rep.laid g hp (reps_rep r1 _)) q
  · exact h.elim
theorem de_mulL (ha : DE cl s0 X a ta) (hb : DE cl s0 X b tb) : DE cl s0 X (.BinOp a .Mult b pos) (dOp mulLD ta tb) := de_bin op_rep opd_rep ha hb
end
/-! ## sum(xs), ints -/
def intsOf : List D → Option (List Int)
  | [] => some []
  | .v (.int i) :: xs => match intsOf xs with
    | some ns => some (i :: ns)
    | none => none
  | _ :: _ => none
def sumD (ds : List D) (m : Mu) (Φ : DK) : Prop := match ds with
  | [.lst xs] => Sm (intsOf xs) fun ns => Φ (.v (.int ns.sum)) m
  | _ => False
section
variable {cl : Nat → Addr} {s0 : Sn} {X : Cx} {e : Expr} {tds : DTA} {pos p : Pos}
theorem intsOf_reps {s : Sn} : ∀ {xs : List D} {ns : List Int} {vs : List V}, intsOf xs = some ns → Reps cl s xs vs → vs = ns.map V.int
  | [], _, _, h, .nil => by cases h; rfl
  | .v (.int i) :: xs, ns, _, h, .cons (.v _) r => by
    unfold intsOf at h
    split at h
    · rename_i ns' e
      cases h
      rw [intsOf_reps e r]; rfl
    · cases h
theorem cad_sum {K : PySem.W.Frag} : CaD cl (rSum K) sumD := fun s xs ds Φ Q g r h k => by
  unfold sumD at h
  split at h
  · obtain ⟨ns, e, q⟩ := h.to
    cases r with
    | cons r1 r2 => cases r2; cases r1 with
      | lst n1 h1 r1 =>
        rw [intsOf_reps e r1] at h1
        exact ⟨_, ns, rfl, SqL.of h1, k _ _ s (Le.refl s) g (.v _) q⟩
  · exact h.elim
theorem de_sum (hg : Gl X "sum") (hm : X.mg "sum" = none) (ha : DA cl s0 X [e] tds) (hc : X.calm = true := by rfl) (he : starEach [e] X.env = (false, eval e X.env) :: starEach [] X.env := by rfl) (hpl : (backTo pos (starEach [] X.env)).any (·.1) = false := by rfl) :
    DE cl s0 X (.Call (.Name "sum" p) [e] [] pos) (dCa sumD tds) := de_callB (cr_sum hc) cad_sum hg hm (by decide +kernel) ha (by decide) (by decide) he hpl
end
end ER

namespace ER
open PySem PySem.Spec PyProof.Rows L2 TL
variable {P : Program} {w : World} {K : PySem.W.Frag} {mg : Str → Option Value} {base : Heap} {cl : Nat → Addr} {f : Addr} {fd : FuncData}
theorem ty_rc (r : Rc) (m : Mu) : tyD (rcD r) m = some .tup := by rw [rc_tag]; rfl
theorem in4' {x a b c d : Str} {neg : Bool} {Φ : DK} {m : Mu} (h : ngK neg Φ (inV (.str x) [.str a, .str b, .str c, .str d]) m) : ∃ zs, [D.v (.str a), .v (.str b), .v (.str c), .v (.str d)] = zs.map D.v ∧ flatV (.str x) = true ∧ zs.all flatV = true ∧ ngK neg Φ (inV (.str x) zs) m := ⟨_, rfl, rfl, rfl, h⟩
local macro_rules | `(tactic| walk_at "gx") => `(tactic| with_reducible first | refine ER.mk_val ?_ | refine ER.in2' ?_ | refine ER.in4' ?_)
/-! ## how many signs a recipe has; whether the argument stands in it -/
def signsF (N : Nat) : DFn := fun ds m Φ _ => ∃ r : Rc, ds = [rcD r] ∧ r.sz < N ∧ r.sz ≤ 100 ∧ Φ (iD r.sz) m
theorem signs_none : ∀ ds m Φ Ξ, ¬ signsF 0 ds m Φ Ξ := by
  rintro ds m Φ Ξ ⟨r, _, h, _⟩
  omega
theorem op_cwgn (o : Op7) : inV (.str o.z) [.str "c", .str "w", .str "g", .str "n"] = false := by cases o <;> decide +kernel
variable {N : Nat}
abbrev s_signs : Stmt := topS 37
theorem sc_signs : FnScope ["recipe", "parts", "part"] ["recipe"] (defScope s_signs) := ⟨rfl, rfl, rfl, by decide +kernel, rfl, by decide +kernel, by decide +kernel⟩
theorem ok_signs (Fu : Fun K "_law_signs" "_law_signs" s_signs f fd) (b_isinstance : mg "isinstance" = none) (b_tuple : mg "tuple" = none) (c_signs : Callee P w K mg base cl "_law_signs" (N+9) ["recipe"] (signsF N)) (b_int : mg "int" = none) (b_sum : mg "sum" = none)  : FnD P w K mg base cl (N+10) f fd ["recipe"] (signsF (N+1)) := by
  refine okD Fu sc_signs fun cdv A outer s H E s0 Ξ hr tk => ?_
  have hu : (A.deeper (envOfC "_law_signs" (defScope s_signs) s.heap.objs.size f cdv)).units + 64 < cLine := by have := hr.un; omega
  have hu1 : (A.deeper (envOfC "_law_signs" (defScope s_signs) s.heap.objs.size f cdv)).units + 1 < cLine := by omega
  have nd := sc_signs.nd
  have hst : ∀ (d0 : D), startD ["recipe", "parts", "part"] [d0] = [some d0, none, none] := fun _ => rfl
  refine ⟨_, dss_cons (ds_setLc (i := 1) (own := [("part", 2)]) (gg := gName 2) rfl nd rfl rfl (sw_true rfl rfl rfl (by decide +kernel)) (di_seq (de_var 0)) (blkOk_by rfl) (fun _ _ _ _ _ => pg_name (i := 2) nd rfl (Or.inl rfl)) (ev_name) (own_name (by decide)) (fun _ _ _ _ _ => dts_one (dt_val (de_isiT .tup (by nofun) rfl b_isinstance rfl b_tuple (by decide +kernel) (de_var 2)))) (fun _ _ _ _ _ => de_callee c_signs (hr.mono (by omega)) rfl (da_cons (de_var 2) da_nil))) (dss_cons (ds_ret (de_add (de_int1 rfl b_int (da_cons (de_notIn hu1 (de_ix (de_var 0) (de_int)) (de_tup (da_cons (de_str) (da_cons (de_str) (da_cons (de_str) (da_cons (de_str) da_nil)))))) da_nil)) (de_sum rfl b_sum (da_cons (de_var 1) da_nil)))) dss_nil), ?_⟩
  intro ds m Φ hl h
  obtain ⟨r, rfl, hN, hs, h5⟩ := h
  rw [hst]
  cases r with
  | c z => walk_at "go"; exact h5
  | w z => walk_at "go"; exact h5
  | g => walk_at "go"; exact h5
  | n i => walk_at "go"; exact h5
  | no r =>
    have hz : r.sz + 1 < N + 1 := hN
    have hs : r.sz + 1 ≤ 100 := hs
    have h5 : Φ (iD ((r.sz + 1 : Nat) : Int)) m := h5
    have ta := ty_rc r m
    try rw [hst]
    walk_at "go"
    refine ⟨r, rfl, by omega, by omega, ?_⟩
    walk_at "go"
    have e : (1 : Int) + [(r.sz : Int)].sum = ((r.sz + 1 : Nat) : Int) := by simp only [List.sum_cons, List.sum_nil]; omega
    show Φ (iD (1 + [(r.sz : Int)].sum)) m
    rw [e]
    exact h5
  | dv q r k =>
    have hz : r.sz + 1 < N + 1 := hN
    have hs : r.sz + 1 ≤ 100 := hs
    have h5 : Φ (iD ((r.sz + 1 : Nat) : Int)) m := h5
    have ta := ty_rc r m
    have e : (1 : Int) + [(r.sz : Int)].sum = ((r.sz + 1 : Nat) : Int) := by simp only [List.sum_cons, List.sum_nil]; omega
    cases q <;> (walk_at "go"; refine ⟨r, rfl, by omega, by omega, ?_⟩; walk_at "go"; show Φ (iD (1 + [(r.sz : Int)].sum)) m; rw [e]; exact h5)
  | two o a b =>
    have hz : a.sz + b.sz + 1 < N + 1 := hN
    have hs : a.sz + b.sz + 1 ≤ 100 := hs
    have h5 : Φ (iD ((a.sz + b.sz + 1 : Nat) : Int)) m := h5
    have ta := ty_rc a m
    have tb := ty_rc b m
    have e : (1 : Int) + [(a.sz : Int), (b.sz : Int)].sum = ((a.sz + b.sz + 1 : Nat) : Int) := by simp only [List.sum_cons, List.sum_nil]; omega
    walk_at "go"
    refine ⟨a, rfl, by omega, by omega, ?_⟩
    walk_at "go"
    refine ⟨b, rfl, by omega, by omega, ?_⟩
    walk_at "go"
    rw [op_cwgn o]
    walk_at "go"
    show Φ (iD (1 + [(a.sz : Int), (b.sz : Int)].sum)) m
    rw [e]
    exact h5
end ER

namespace ER
open PySem PySem.Spec PyProof.Rows L2 TL
variable {P : Program} {w : World} {K : PySem.W.Frag} {mg : Str → Option Value} {base : Heap} {cl : Nat → Addr} {f : Addr} {fd : FuncData}
local macro_rules | `(tactic| walk_at "gx") => `(tactic| with_reducible first | refine ER.mk_val ?_ | refine ER.in2' ?_ | refine ER.in4' ?_)
/-! ## recipes: their signs say them -/
def Rc.pre : Rc → List Sg
  | .no r => r.sgs
  | .dv _ r k => r.sgs ++ [.num k]
  | .two _ a b => a.sgs ++ b.sgs
  | _ => []
def Rc.last : Rc → Sg
  | .c z => .named z
  | .w z => .now z
  | .g => .passed
  | .n i => .num i
  | .no _ => .op "~"
  | .dv q _ _ => .op (dvz q)
  | .two o _ _ => .op o.z
theorem sgs_last (r : Rc) : r.sgs = r.pre ++ [r.last] := by cases r <;> rfl
theorem snoc_inj {α : Type} {x y : List α} {a b : α} (h : x ++ [a] = y ++ [b]) : x = y ∧ a = b := by
  have := List.append_inj' h rfl
  exact ⟨this.1, List.cons.inj this.2 |>.1⟩
theorem dvz_inj {p q : Bool} (h : dvz p = dvz q) : p = q := by
  cases p <;> cases q <;> first | rfl | exact absurd h (by decide +kernel)
theorem opz_inj {o p : Op7} (h : o.z = p.z) : o = p := by
  cases o <;> cases p <;> first | rfl | exact absurd h (by decide +kernel)
theorem dvz_no (q : Bool) : dvz q ≠ "~" := by cases q <;> decide +kernel
theorem opz_no (o : Op7) : o.z ≠ "~" := by cases o <;> decide +kernel
theorem opz_dvz (o : Op7) (q : Bool) : o.z ≠ dvz q := by cases o <;> cases q <;> decide +kernel
theorem sgs_uniq (r : Rc) : ∀ (s : Rc) (x y : List Sg), x ++ r.sgs = y ++ s.sgs → x = y ∧ r = s := by
  induction r with
  | c z =>
    intro s x y h
    rw [sgs_last, sgs_last s, ← List.append_assoc, ← List.append_assoc] at h
    obtain ⟨h1, h2⟩ := snoc_inj h
    cases s <;> first | (cases h2; done) | (cases h2; exact ⟨by simpa [Rc.pre] using h1, rfl⟩)
  | w z =>
    intro s x y h
    rw [sgs_last, sgs_last s, ← List.append_assoc, ← List.append_assoc] at h
    obtain ⟨h1, h2⟩ := snoc_inj h
    cases s <;> first | (cases h2; done) | (cases h2; exact ⟨by simpa [Rc.pre] using h1, rfl⟩)
  | g =>
    intro s x y h
    rw [sgs_last, sgs_last s, ← List.append_assoc, ← List.append_assoc] at h
    obtain ⟨h1, h2⟩ := snoc_inj h
    cases s <;> first | (cases h2; done) | exact ⟨by simpa [Rc.pre] using h1, rfl⟩
  | n i =>
    intro s x y h
    rw [sgs_last, sgs_last s, ← List.append_assoc, ← List.append_assoc] at h
    obtain ⟨h1, h2⟩ := snoc_inj h
    cases s <;> first | (cases h2; done) | (cases h2; exact ⟨by simpa [Rc.pre] using h1, rfl⟩)
  | no r ih =>
    intro s x y h
    rw [sgs_last, sgs_last s, ← List.append_assoc, ← List.append_assoc] at h
    obtain ⟨h1, h2⟩ := snoc_inj h
    cases s with
    | no s => obtain ⟨e1, e2⟩ := ih s x y h1; exact ⟨e1, by rw [e2]⟩
    | dv q s k => exact absurd (Sg.op.inj h2).symm (dvz_no q)
    | two o a b => exact absurd (Sg.op.inj h2).symm (opz_no o)
    | _ => cases h2
  | dv q r k ih =>
    intro s x y h
    rw [sgs_last, sgs_last s, ← List.append_assoc, ← List.append_assoc] at h
    obtain ⟨h1, h2⟩ := snoc_inj h
    cases s with
    | no s => exact absurd (Sg.op.inj h2) (dvz_no q)
    | dv q' s k' =>
      have h1 : x ++ (r.sgs ++ [.num k]) = y ++ (s.sgs ++ [.num k']) := h1
      rw [← List.append_assoc, ← List.append_assoc] at h1
      obtain ⟨h3, h4⟩ := snoc_inj h1
      obtain ⟨e1, e2⟩ := ih s x y h3
      exact ⟨e1, by rw [e2, dvz_inj (Sg.op.inj h2), Sg.num.inj h4]⟩
    | two o a b => exact absurd (Sg.op.inj h2).symm (opz_dvz o q)
    | _ => cases h2
  | two o a b iha ihb =>
    intro s x y h
    rw [sgs_last, sgs_last s, ← List.append_assoc, ← List.append_assoc] at h
    obtain ⟨h1, h2⟩ := snoc_inj h
    cases s with
    | no s => exact absurd (Sg.op.inj h2) (opz_no o)
    | dv q' s k' => exact absurd (Sg.op.inj h2) (opz_dvz o q')
    | two o' a' b' =>
      have h1 : x ++ (a.sgs ++ b.sgs) = y ++ (a'.sgs ++ b'.sgs) := h1
      rw [← List.append_assoc, ← List.append_assoc] at h1
      obtain ⟨h3, e4⟩ := ihb b' _ _ h1
      obtain ⟨e1, e2⟩ := iha a' x y h3
      exact ⟨e1, by rw [e2, e4, opz_inj (Sg.op.inj h2)]⟩
    | _ => cases h2
theorem sgs_iff {r s : Rc} : r.sgs = s.sgs ↔ r = s := ⟨fun h => (sgs_uniq r s [] [] h).2, fun h => h ▸ rfl⟩
/-! ## recipes as data, compared -/
def rcP : Rc → PyData
  | .c z => .tuple [.str "c", .str z]
  | .w z => .tuple [.str "w", .str z]
  | .g => .tuple [.str "g"]
  | .n i => .tuple [.str "n", .int i]
  | .no r => .tuple [.str "~", rcP r]
  | .dv q r k => .tuple [.str (dvz q), rcP r, .int k]
  | .two o a b => .tuple [.str o.z, rcP a, rcP b]
def Rc.restP : Rc → List PyData
  | .c z => [.str z] | .w z => [.str z] | .g => [] | .n i => [.int i] | .no r => [rcP r] | .dv _ r k => [rcP r, .int k] | .two _ a b => [rcP a, rcP b]
theorem rcP_tag (r : Rc) : rcP r = .tuple (.str r.tag :: r.restP) := by cases r <;> rfl
theorem pyof_rc : ∀ r : Rc, PyOf (rcD r) (rcP r)
  | .c _ => .tup (.cons pyof_str (.cons pyof_str .nil))
  | .w _ => .tup (.cons pyof_str (.cons pyof_str .nil))
  | .g => .tup (.cons pyof_str .nil)
  | .n _ => .tup (.cons pyof_str (.cons pyof_int .nil))
  | .no r => .tup (.cons pyof_str (.cons (pyof_rc r) .nil))
  | .dv _ r _ => .tup (.cons pyof_str (.cons (pyof_rc r) (.cons pyof_int .nil)))
  | .two _ a b => .tup (.cons pyof_str (.cons (pyof_rc a) (.cons (pyof_rc b) .nil)))
theorem eqv_tup {a b : Str} {p q : List PyData} : PyData.eqv (.tuple (.str a :: p)) (.tuple (.str b :: q)) = ((a == b) && PyData.eqvAll p q) := rfl
theorem eqvAll_cons {a b : PyData} {p q : List PyData} : PyData.eqvAll (a :: p) (b :: q) = (PyData.eqv a b && PyData.eqvAll p q) := rfl
theorem eqvAll_nil : PyData.eqvAll [] [] = true := rfl
theorem tag_cases {r s : Rc} (h : r.tag = s.tag) : (∃ z y, r = .c z ∧ s = .c y) ∨ (∃ z y, r = .w z ∧ s = .w y) ∨ (r = .g ∧ s = .g) ∨ (∃ i j, r = .n i ∧ s = .n j) ∨ (∃ a b, r = .no a ∧ s = .no b) ∨ (∃ q a k b j, r = .dv q a k ∧ s = .dv q b j) ∨ (∃ o a b c d, r = .two o a b ∧ s = .two o c d) := by
  have d1 : ∀ q, dvz q ≠ "c" ∧ dvz q ≠ "w" ∧ dvz q ≠ "g" ∧ dvz q ≠ "n" := fun q => by cases q <;> decide +kernel
  have d2 : ∀ o : Op7, o.z ≠ "c" ∧ o.z ≠ "w" ∧ o.z ≠ "g" ∧ o.z ≠ "n" := fun o => by cases o <;> decide +kernel
  cases r with
  | c z => cases s with
    | c y => exact .inl ⟨z, y, rfl, rfl⟩
    | dv q => exact absurd h.symm (d1 q).1
    | two o => exact absurd h.symm (d2 o).1
    | _ => simp only [Rc.tag] at h; exact absurd h (by decide +kernel)
  | w z => cases s with
    | w y => exact .inr (.inl ⟨z, y, rfl, rfl⟩)
    | dv q => exact absurd h.symm (d1 q).2.1
    | two o => exact absurd h.symm (d2 o).2.1
    | _ => simp only [Rc.tag] at h; exact absurd h (by decide +kernel)
  | g => cases s with
    | g => exact .inr (.inr (.inl ⟨rfl, rfl⟩))
    | dv q => exact absurd h.symm (d1 q).2.2.1
    | two o => exact absurd h.symm (d2 o).2.2.1
    | _ => simp only [Rc.tag] at h; exact absurd h (by decide +kernel)
  | n i => cases s with
    | n j => exact .inr (.inr (.inr (.inl ⟨i, j, rfl, rfl⟩)))
    | dv q => exact absurd h.symm (d1 q).2.2.2
    | two o => exact absurd h.symm (d2 o).2.2.2
    | _ => simp only [Rc.tag] at h; exact absurd h (by decide +kernel)
  | no a => cases s with
    | no b => exact .inr (.inr (.inr (.inr (.inl ⟨a, b, rfl, rfl⟩))))
    | dv q => exact absurd h.symm (dvz_no q)
    | two o => exact absurd h.symm (opz_no o)
    | _ => simp only [Rc.tag] at h; exact absurd h (by decide +kernel)
  | dv q a k => cases s with
    | dv q' b j => exact .inr (.inr (.inr (.inr (.inr (.inl ⟨q, a, k, b, j, rfl, by rw [dvz_inj (show dvz q = dvz q' from h)]⟩)))))
    | two o => exact absurd h.symm (opz_dvz o q)
    | no => exact absurd h (dvz_no q)
    | c => exact absurd h (d1 q).1
    | w => exact absurd h (d1 q).2.1
    | g => exact absurd h (d1 q).2.2.1
    | n => exact absurd h (d1 q).2.2.2
  | two o a b => cases s with
    | two o' c d => exact .inr (.inr (.inr (.inr (.inr (.inr ⟨o, a, b, c, d, rfl, by rw [opz_inj (show o.z = o'.z from h)]⟩)))))
    | dv q => exact absurd h (opz_dvz o q)
    | no => exact absurd h (opz_no o)
    | c => exact absurd h (d2 o).1
    | w => exact absurd h (d2 o).2.1
    | g => exact absurd h (d2 o).2.2.1
    | n => exact absurd h (d2 o).2.2.2
theorem rc_eqv : ∀ r s : Rc, PyData.eqv (rcP r) (rcP s) = decide (r = s) := by
  have no : ∀ {r s : Rc}, r.tag ≠ s.tag → PyData.eqv (rcP r) (rcP s) = decide (r = s) := fun {r s} h => by
    rw [rcP_tag, rcP_tag s, eqv_tup, beq_no h, decide_eq_false fun e : r = s => h (congrArg Rc.tag e)]; rfl
  intro r
  induction r with
  | c z => intro s; by_cases h : (Rc.c z).tag = s.tag
           · rcases tag_cases h with ⟨_, y, e, rfl⟩ | ⟨_, _, e, _⟩ | ⟨e, _⟩ | ⟨_, _, e, _⟩ | ⟨_, _, e, _⟩ | ⟨_, _, _, _, _, e, _⟩ | ⟨_, _, _, _, _, e, _⟩ <;> cases e
             rw [rcP_tag, rcP_tag (.c y), eqv_tup, h, beq_self_eq_true]
             simp [Rc.restP, eqvAll_cons, eqvAll_nil, eqv_str, beq_dec]
           · exact no h
  | w z => intro s; by_cases h : (Rc.w z).tag = s.tag
           · rcases tag_cases h with ⟨_, _, e, _⟩ | ⟨_, y, e, rfl⟩ | ⟨e, _⟩ | ⟨_, _, e, _⟩ | ⟨_, _, e, _⟩ | ⟨_, _, _, _, _, e, _⟩ | ⟨_, _, _, _, _, e, _⟩ <;> cases e
             rw [rcP_tag, rcP_tag (.w y), eqv_tup, h, beq_self_eq_true]
             simp [Rc.restP, eqvAll_cons, eqvAll_nil, eqv_str, beq_dec]
           · exact no h
  | g => intro s; by_cases h : (Rc.g).tag = s.tag
         · rcases tag_cases h with ⟨_, _, e, _⟩ | ⟨_, _, e, _⟩ | ⟨e, rfl⟩ | ⟨_, _, e, _⟩ | ⟨_, _, e, _⟩ | ⟨_, _, _, _, _, e, _⟩ | ⟨_, _, _, _, _, e, _⟩ <;> cases e
           rw [decide_eq_true rfl]; decide +kernel
         · exact no h
  | n i => intro s; by_cases h : (Rc.n i).tag = s.tag
           · rcases tag_cases h with ⟨_, _, e, _⟩ | ⟨_, _, e, _⟩ | ⟨e, _⟩ | ⟨_, j, e, rfl⟩ | ⟨_, _, e, _⟩ | ⟨_, _, _, _, _, e, _⟩ | ⟨_, _, _, _, _, e, _⟩ <;> cases e
             rw [rcP_tag, rcP_tag (.n j), eqv_tup, h, beq_self_eq_true]
             simp [Rc.restP, eqvAll_cons, eqvAll_nil, eqv_int, beq_dec]
           · exact no h
  | no a ih => intro s; by_cases h : (Rc.no a).tag = s.tag
               · rcases tag_cases h with ⟨_, _, e, _⟩ | ⟨_, _, e, _⟩ | ⟨e, _⟩ | ⟨_, _, e, _⟩ | ⟨_, b, e, rfl⟩ | ⟨_, _, _, _, _, e, _⟩ | ⟨_, _, _, _, _, e, _⟩ <;> cases e
                 rw [rcP_tag, rcP_tag (.no b), eqv_tup, h, beq_self_eq_true]
                 simp [Rc.restP, eqvAll_cons, eqvAll_nil, ih]
               · exact no h
  | dv q a k ih => intro s; by_cases h : (Rc.dv q a k).tag = s.tag
                   · rcases tag_cases h with ⟨_, _, e, _⟩ | ⟨_, _, e, _⟩ | ⟨e, _⟩ | ⟨_, _, e, _⟩ | ⟨_, _, e, _⟩ | ⟨_, _, _, b, j, e, rfl⟩ | ⟨_, _, _, _, _, e, _⟩ <;> cases e
                     rw [rcP_tag, rcP_tag (.dv q b j), eqv_tup, h, beq_self_eq_true]
                     simp [Rc.restP, eqvAll_cons, eqvAll_nil, ih, eqv_int, beq_dec]
                   · exact no h
  | two o a b iha ihb => intro s; by_cases h : (Rc.two o a b).tag = s.tag
                         · rcases tag_cases h with ⟨_, _, e, _⟩ | ⟨_, _, e, _⟩ | ⟨e, _⟩ | ⟨_, _, e, _⟩ | ⟨_, _, e, _⟩ | ⟨_, _, _, _, _, e, _⟩ | ⟨_, _, _, c, d, e, rfl⟩ <;> cases e
                           rw [rcP_tag, rcP_tag (.two o c d), eqv_tup, h, beq_self_eq_true]
                           simp [Rc.restP, eqvAll_cons, eqvAll_nil, iha, ihb]
                         · exact no h
theorem lay_rc {B : Int} : ∀ r : Rc, r.gd goodName goodName B → (rcP r).canLay0 = true ∧ (rcP r).depth ≤ r.sz + 1
  | .c z, g => ⟨by show (PyData.strOk _ && (PyData.strOk z && true)) = true; rw [good_ok g]; decide +kernel, Nat.le_refl _⟩
  | .w z, g => ⟨by show (PyData.strOk _ && (PyData.strOk z && true)) = true; rw [good_ok g]; decide +kernel, Nat.le_refl _⟩
  | .g, _ => ⟨by decide +kernel, Nat.le_refl _⟩
  | .n i, _ => ⟨by show (PyData.strOk _ && (true && true)) = true; decide +kernel, Nat.le_refl _⟩
  | .no r, g => by
    obtain ⟨h1, h2⟩ := lay_rc r g
    refine ⟨?_, ?_⟩
    · show (PyData.strOk _ && ((rcP r).canLay0 && true)) = true
      rw [h1]; decide +kernel
    · show max 0 (max (rcP r).depth 0) + 1 ≤ r.sz + 1 + 1
      omega
  | .dv q r k, g => by
    obtain ⟨h1, h2⟩ := lay_rc r g.1
    refine ⟨?_, ?_⟩
    · show (PyData.strOk _ && ((rcP r).canLay0 && (true && true))) = true
      rw [h1]; cases q <;> decide +kernel
    · show max 0 (max (rcP r).depth (max 0 0)) + 1 ≤ r.sz + 1 + 1
      omega
  | .two o a b, g => by
    obtain ⟨h1, h2⟩ := lay_rc a g.1
    obtain ⟨h3, h4⟩ := lay_rc b g.2
    refine ⟨?_, ?_⟩
    · show (PyData.strOk _ && ((rcP a).canLay0 && ((rcP b).canLay0 && true))) = true
      rw [h1, h3]; cases o <;> decide +kernel
    · show max 0 (max (rcP a).depth (max (rcP b).depth 0)) + 1 ≤ a.sz + b.sz + 1 + 1
      omega
theorem shaped_rc {B : Int} {r : Rc} (h : r.gd goodName goodName B) (hs : r.sz ≤ 60) : SeqAt.shaped (rcP r) = true := by
  obtain ⟨h1, h2⟩ := lay_rc r h
  rw [rcP_tag] at h1 h2 ⊢
  show (PyData.canLayAll0 (.str r.tag :: r.restP) && decide (PyData.depthAll (.str r.tag :: r.restP) + 1 ≤ 64)) = true
  have h1' : PyData.canLayAll0 (.str r.tag :: r.restP) = true := h1
  have h2' : PyData.depthAll (.str r.tag :: r.restP) + 1 ≤ r.sz + 1 := h2
  rw [h1', decide_eq_true (by omega)]; rfl
/-! ## what == and != say, shown -/
theorem show4 {a b c d : Bool} {Φ : Str → Prop} (h : Φ (PyData.list [.bool a, .bool b, .bool c, .bool d]).shown) : Shw (.lst [.v (.bl a), .v (.bl b), .v (.bl c), .v (.bl d)]) Φ := by
  refine show_sh (.lst (.cons pyof_b (.cons pyof_b (.cons pyof_b (.cons pyof_b .nil))))) (Sh.lst (d := 0) (ShA.of (n := 0) fun p hp => ?_)) (by omega) (by simp only [List.length_cons, List.length_nil]; omega) h
  simp only [List.mem_cons, List.not_mem_nil, or_false] at hp
  rcases hp with rfl | rfl | rfl | rfl <;> exact Sh.bl
def alikeT : Str := (PyData.list [.bool true, .bool true, .bool false, .bool false]).shown
def unlikeT : Str := (PyData.list [.bool false, .bool false, .bool true, .bool true]).shown
end ER

namespace ER
open PySem PySem.Spec PyProof.Rows L2 TL
variable {P : Program} {w : World} {K : PySem.W.Frag} {mg : Str → Option Value} {base : Heap} {cl : Nat → Addr} {f : Addr} {fd : FuncData}
local macro_rules | `(tactic| walk_at "gx") => `(tactic| with_reducible first | refine ER.mk_val ?_ | refine ER.in2' ?_ | refine ER.in4' ?_)
local macro_rules | `(tactic| walk_at "ot") => `(tactic| (
    walk_at "go"
    refine ⟨_, _, rfl, .inr ⟨rfl, ?_⟩⟩
    walk_at "go"
    refine ⟨_, _, rfl, .inr ⟨rfl, ?_⟩⟩
    walk_at "go"
    refine ⟨_, _, rfl, .inr ⟨rfl, ?_⟩⟩
    walk_at "go"
    refine ⟨_, _, rfl, .inr ⟨rfl, ?_⟩⟩
    walk_at "go"
    exact show4 (by assumption)))
/-! ## both ways about -/
def Fn (s : List Sg) : Prop := ∀ g ∈ s, fine g
def othD (y : D) (m : Mu) : Prop := isCD 0 y = some false ∧ ∃ t, tyD y m = some t ∧ noBl t = true
def bothF : DFn := fun ds m Φ _ => ∃ a y, ds = [valD a, y] ∧ ((∃ b, y = valD b ∧ Fn a ∧ Fn b ∧ Φ (.v (.str (if a = b then alikeT else unlikeT))) m) ∨ (othD y m ∧ Φ (.v (.str unlikeT)) m))
abbrev s_both : Stmt := topS 43
theorem sc_both : FnScope ["one", "two"] ["one", "two"] (defScope s_both) := ⟨rfl, rfl, rfl, by decide +kernel, rfl, by decide +kernel, by decide +kernel⟩
theorem ok_both (Fu : Fun K "_law_both" "_law_both" s_both f fd) (b_repr : mg "repr" = none) (rc_Value : RevC K (cl 0)) (i_Value : IsC K (cl 0)) (o_eq : EqOk P w K mg base cl 0 1 eqF)  : FnG P w K mg base 3 f fd ["one", "two"] (spD cl 2 bothF) := by
  refine okG Fu sc_both fun cdv A outer s H E s0 Ξ hgd hr tk => ?_
  have hu : (A.deeper (envOfC "_law_both" (defScope s_both) s.heap.objs.size f cdv)).units + 64 < cLine := by have := hr.un; omega
  have hu1 : (A.deeper (envOfC "_law_both" (defScope s_both) s.heap.objs.size f cdv)).units + 1 < cLine := by omega
  have hst : ∀ (d0 d1 : D), startD ["one", "two"] [d0, d1] = [some d0, some d1] := fun _ _ => rfl
  refine ⟨_, dss_cons (ds_ret (de_repr hgd (hr.mono (by decide)) rfl b_repr (da_cons (de_lst (da_cons (de_eqOwn3 rc_Value i_Value o_eq (hr.mono (by decide)) hu (de_var 0) (de_var 1)) (da_cons (de_eqOwn3 rc_Value i_Value o_eq (hr.mono (by decide)) hu (de_var 1) (de_var 0)) (da_cons (de_neOwn3 rc_Value i_Value o_eq (hr.mono (by decide)) hu (de_var 0) (de_var 1)) (da_cons (de_neOwn3 rc_Value i_Value o_eq (hr.mono (by decide)) hu (de_var 1) (de_var 0)) da_nil))))) da_nil))) dss_nil, ?_⟩
  intro ds m Φ hl h
  obtain ⟨a, y, rfl, h⟩ := h
  rw [hst]
  rcases h with ⟨b, rfl, ha, hb, h5⟩ | ⟨⟨h1, t, h2, h3⟩, h5⟩
  · try rw [hst]
    walk_at "go"
    refine ⟨_, _, rfl, .inl ⟨_, rfl, ha, hb, ?_⟩⟩
    walk_at "go"
    refine ⟨_, _, rfl, .inl ⟨_, rfl, hb, ha, ?_⟩⟩
    walk_at "go"
    refine ⟨_, _, rfl, .inl ⟨_, rfl, ha, hb, ?_⟩⟩
    walk_at "go"
    refine ⟨_, _, rfl, .inl ⟨_, rfl, hb, ha, ?_⟩⟩
    walk_at "go"
    refine show4 ?_
    by_cases e : a = b
    · have e2 : b = a := e.symm
      rw [decide_eq_true e, decide_eq_true e2]
      rw [if_pos e] at h5
      exact h5
    · have e2 : ¬ b = a := fun q => e q.symm
      rw [decide_eq_false e, decide_eq_false e2]
      rw [if_neg e] at h5
      exact h5
  · cases y with
    | v x =>
      cases x with
      | non => walk_at "ot"
      | int i => walk_at "ot"
      | str z => walk_at "ot"
      | bl b => cases h2; cases h3
      | _ => cases h2
    | hd k => cases h1
    | lst xs => walk_at "ot"
    | tup xs => walk_at "ot"
    | scr xs => walk_at "ot"
    | dct ks xs => walk_at "ot"
    | obj c ns xs => exfalso; by_cases e : c = 0 <;> simp [isCD, e] at h1
/-! ## changes -/
abbrev zsD (zs : List Str) : D := .lst (strsD zs)
abbrev BB : Int := 10 ^ 20
def leafF : DFn := fun ds m Φ _ => ∃ (k n : Nat) (r : Rc) (zs : List Str) (c : Ct), ds = [.hd k, rcD r, zsD zs] ∧ r.sz = 0 ∧ r.gd (· ∈ zs) (· ∈ zs) (10 ^ 20) ∧ n < 2 ^ 29 ∧ m k = some c ∧ Well c n ∧ zs ≠ [] ∧ zs.length ≤ 1000 ∧
  ∀ (r' : Rc) (c' : Ct), r'.gd (· ∈ zs) (· ∈ zs) (10 ^ 20) → r'.sz = 0 → Well c' (n + 2) → Φ (rcD r') (setMu m k c')
abbrev s_leafL : Stmt := topS 41
theorem sc_leafL : FnScope ["well", "recipe", "cells_here", "ways", "other_one"] ["well", "recipe", "cells_here"] (defScope s_leafL) := ⟨rfl, rfl, rfl, by decide +kernel, rfl, by decide +kernel, by decide +kernel⟩
theorem ok_leafL (Fu : Fun K "_law_leaf" "_law_leaf" s_leafL f fd) (c_take : Callee P w K mg base cl "_law_take" 1 ["well", "many"] takeF) (b_int : mg "int" = none) (b_len : mg "len" = none)  : FnD P w K mg base cl 2 f fd ["well", "recipe", "cells_here"] leafF := by
  refine okD Fu sc_leafL fun cdv A outer s H E s0 Ξ hr tk => ?_
  have hu : (A.deeper (envOfC "_law_leaf" (defScope s_leafL) s.heap.objs.size f cdv)).units + 64 < cLine := by have := hr.un; omega
  have hu1 : (A.deeper (envOfC "_law_leaf" (defScope s_leafL) s.heap.objs.size f cdv)).units + 1 < cLine := by omega
  have nd := sc_leafL.nd
  have hst : ∀ (d0 d1 d2 : D), startD ["well", "recipe", "cells_here", "ways", "other_one"] [d0, d1, d2] = [some d0, some d1, some d2, none, none] := fun _ _ _ => rfl
  refine ⟨_, dss_cons (ds_if (dt_eq hu (de_ix (de_var 1) (de_int)) (de_str)) (dss_cons (ds_set (i := 3) nd rfl (.inl rfl) (de_lst (da_cons (de_if (dt_lt (de_ix (de_var 1) (de_int)) (de_sub (de_pow (de_int) (de_int)) (de_int))) (de_add (de_ix (de_var 1) (de_int)) (de_int)) (de_int)) (da_cons (de_neg (de_ix (de_var 1) (de_int))) (da_cons (de_fdiv (de_ix (de_var 1) (de_int)) (de_int)) da_nil))))) (dss_cons (ds_ret (de_ix (de_lst (da_cons (de_tup (da_cons (de_str) (da_cons (de_ix (de_var 3) (de_callee c_take (hr.mono (by decide)) rfl (da_cons (de_var 0) (da_cons (de_int) da_nil)))) da_nil))) (da_cons (de_tup (da_cons (de_str) da_nil)) da_nil))) (de_int1 rfl b_int (da_cons (de_eq hu (de_callee c_take (hr.mono (by decide)) rfl (da_cons (de_var 0) (da_cons (de_int) da_nil))) (de_int)) da_nil)))) dss_nil)) (dss_nil)) (dss_cons (ds_if (dt_eq hu (de_ix (de_var 1) (de_int)) (de_str)) (dss_cons (ds_ret (de_ix (de_lst (da_cons (de_tup (da_cons (de_str) (da_cons (de_int) da_nil))) (da_cons (de_tup (da_cons (de_str) (da_cons (de_ix (de_var 2) (de_int)) da_nil))) (da_cons (de_tup (da_cons (de_str) (da_cons (de_ix (de_var 2) (de_int)) da_nil))) da_nil)))) (de_callee c_take (hr.mono (by decide)) rfl (da_cons (de_var 0) (da_cons (de_int) da_nil))))) dss_nil) (dss_nil)) (dss_cons (ds_set (i := 4) nd rfl (.inl rfl) (de_ix (de_var 2) (de_callee c_take (hr.mono (by decide)) rfl (da_cons (de_var 0) (da_cons (de_len rfl b_len (da_cons (de_var 2) da_nil)) da_nil))))) (dss_cons (ds_set (i := 3) nd rfl (.inl rfl) (de_lst (da_cons (de_tup (da_cons (de_ix (de_var 1) (de_int)) (da_cons (de_var 4) da_nil))) (da_cons (de_tup (da_cons (de_str) (da_cons (de_ix (de_var 1) (de_int)) da_nil))) (da_cons (de_tup (da_cons (de_str) (da_cons (de_ix (de_var 1) (de_int)) da_nil))) da_nil))))) (dss_cons (ds_ret (de_ix (de_add (de_var 3) (de_lst (da_cons (de_tup (da_cons (de_str) da_nil)) (da_cons (de_tup (da_cons (de_str) (da_cons (de_int) da_nil))) da_nil)))) (de_callee c_take (hr.mono (by decide)) rfl (da_cons (de_var 0) (da_cons (de_int) da_nil))))) dss_nil)))), ?_⟩
  intro ds m Φ hl h
  obtain ⟨k, n, r, zs, c, rfl, hz, hg, hn, hk, hw, hne, hzl, h5⟩ := h
  have hpos : 0 < zs.length := List.length_pos_iff.mpr hne
  have hlen : (strsD zs).length = zs.length := by unfold strsD; rw [List.length_map]
  obtain ⟨z0, e0, m0⟩ := strs_at (zs := zs) (i := 0) (by omega) (by omega)
  rw [hst]
  cases r with
  | n i =>
    have hi : -(10 ^ 20) ≤ i ∧ i ≤ 10 ^ 20 := hg
    have e20 : (10 : Int) ^ (20 : Int).toNat = 100000000000000000000 := by decide
    try rw [hst]
    walk_at "go"
    by_cases hb : i < 10 ^ (20 : Int).toNat - 1
    · refine .t (decide_eq_true hb) ?_
      walk_at "go"
      refine ⟨k, 3, n, c, rfl, by omega, by decide, by omega, hk, hw, fun r1 c1 r10 r11 w1 => ?_⟩
      walk_at "go"
      obtain ⟨q, e2, hq⟩ := three_at (a := i + 1) (b := -i) (c := i / 10) r10 r11
      refine .mk _ e2 ?_
      walk_at "go"
      refine ⟨k, 4, n + 1, c1, rfl, by omega, by decide, by omega, setMu_same, w1, fun r2 c2 r20 r21 w2 => ?_⟩
      rw [setMu_set]
      walk_at "go"
      rw [e20] at hb
      by_cases e : r2 = 0
      · rw [decide_eq_true e]
        walk_at "go"
        exact h5 .g _ trivial rfl w2
      · rw [decide_eq_false e]
        walk_at "go"
        exact h5 (.n q) _ ⟨by omega, by omega⟩ rfl w2
    · refine .f (decide_eq_false hb) ?_
      walk_at "go"
      refine ⟨k, 3, n, c, rfl, by omega, by decide, by omega, hk, hw, fun r1 c1 r10 r11 w1 => ?_⟩
      walk_at "go"
      obtain ⟨q, e2, hq⟩ := three_at (a := 0) (b := -i) (c := i / 10) r10 r11
      refine .mk _ e2 ?_
      walk_at "go"
      refine ⟨k, 4, n + 1, c1, rfl, by omega, by decide, by omega, setMu_same, w1, fun r2 c2 r20 r21 w2 => ?_⟩
      rw [setMu_set]
      walk_at "go"
      by_cases e : r2 = 0
      · rw [decide_eq_true e]
        walk_at "go"
        exact h5 .g _ trivial rfl w2
      · rw [decide_eq_false e]
        walk_at "go"
        exact h5 (.n q) _ ⟨by omega, by omega⟩ rfl w2
  | g =>
    walk_at "go"
    refine ⟨k, 3, n, c, rfl, by omega, by decide, by omega, hk, hw, fun r1 c1 r10 r11 w1 => ?_⟩
    have hr : r1 = 0 ∨ r1 = 1 ∨ r1 = 2 := by omega
    rcases hr with rfl | rfl | rfl
    · walk_at "go"
      exact h5 (.n 0) _ ⟨by omega, by omega⟩ rfl (w1.mono (by omega))
    · walk_at "go"
      exact h5 (.c z0) _ m0 rfl (w1.mono (by omega))
    · walk_at "go"
      exact h5 (.w z0) _ m0 rfl (w1.mono (by omega))
  | c z =>
    walk_at "go"
    refine ⟨k, zs.length, n, c, by rw [hlen], by omega, log_small (by omega) (by omega), by omega, hk, hw, fun i c1 i0 i1 w1 => ?_⟩
    obtain ⟨y, ey, my⟩ := strs_at (zs := zs) i0 i1
    walk_at "go"
    refine ⟨k, 5, n + 1, c1, rfl, by omega, by decide, by omega, setMu_same, w1, fun r2 c2 r20 r21 w2 => ?_⟩
    rw [setMu_set]
    have hr : r2 = 0 ∨ r2 = 1 ∨ r2 = 2 ∨ r2 = 3 ∨ r2 = 4 := by omega
    rcases hr with rfl | rfl | rfl | rfl | rfl
    · walk_at "go"
      exact h5 (.c y) _ my rfl w2
    · walk_at "go"
      exact h5 (.c z) _ hg rfl w2
    · walk_at "go"
      exact h5 (.w z) _ hg rfl w2
    · walk_at "go"
      exact h5 .g _ trivial rfl w2
    · walk_at "go"
      exact h5 (.n 1) _ ⟨by omega, by omega⟩ rfl w2
  | w z =>
    walk_at "go"
    refine ⟨k, zs.length, n, c, by rw [hlen], by omega, log_small (by omega) (by omega), by omega, hk, hw, fun i c1 i0 i1 w1 => ?_⟩
    obtain ⟨y, ey, my⟩ := strs_at (zs := zs) i0 i1
    walk_at "go"
    refine ⟨k, 5, n + 1, c1, rfl, by omega, by decide, by omega, setMu_same, w1, fun r2 c2 r20 r21 w2 => ?_⟩
    rw [setMu_set]
    have hr : r2 = 0 ∨ r2 = 1 ∨ r2 = 2 ∨ r2 = 3 ∨ r2 = 4 := by omega
    rcases hr with rfl | rfl | rfl | rfl | rfl
    · walk_at "go"
      exact h5 (.w y) _ my rfl w2
    · walk_at "go"
      exact h5 (.c z) _ hg rfl w2
    · walk_at "go"
      exact h5 (.w z) _ hg rfl w2
    · walk_at "go"
      exact h5 .g _ trivial rfl w2
    · walk_at "go"
      exact h5 (.n 1) _ ⟨by omega, by omega⟩ rfl w2
  | no r => cases hz
  | dv q r k => cases hz
  | two o a b => cases hz
end ER

namespace ER
open PySem PySem.Spec PyProof.Rows L2 TL
variable {P : Program} {w : World} {K : PySem.W.Frag} {mg : Str → Option Value} {base : Heap} {cl : Nat → Addr} {f : Addr} {fd : FuncData}
local macro_rules | `(tactic| walk_at "gx") => `(tactic| with_reducible first | refine ER.mk_val ?_ | refine ER.in2' ?_ | refine ER.in4' ?_)
local macro_rules | `(tactic| walk_at "sl") => `(tactic| with_unfolding_all first
  | refine And.intro (fun e => absurd (show (1 : Nat) = 2 from e.2) (by decide)) ?_
  | refine And.intro (fun e => absurd (show (1 : Nat) = 3 from e.2) (by decide)) ?_
  | refine And.intro (fun e => absurd (show (2 : Nat) = 3 from e.2) (by decide)) ?_
  | refine And.intro (fun e => absurd (show (2 : Nat) = 0 from e.1) (by decide)) ?_
  | refine And.intro (fun e => absurd (show (3 : Nat) = 0 from e.1) (by decide)) ?_)
local macro_rules | `(tactic| walk_at "ad") => `(tactic| with_unfolding_all first
  | refine And.intro ⟨List.cons_ne_nil _ _, List.cons_ne_nil _ _, by rw [PySem.sizeLine_eq]; exact Nat.le_of_ble_eq_true rfl⟩ ?_
  | refine And.intro (List.cons_ne_nil _ _) (And.intro (by rw [PySem.sizeLine_eq]; exact Nat.le_of_ble_eq_true rfl) ?_))
local macro_rules | `(tactic| walk_at "hk") => `(tactic| exact (ER.setMu_ne (by assumption)).trans ER.setMu_same)
/-! ## a recipe with one change -/
def changedF (N : Nat) : DFn := fun ds m Φ _ => ∃ (k n : Nat) (r : Rc) (zs : List Str) (c : Ct), ds = [.hd k, rcD r, zsD zs] ∧ r.sz < N ∧ r.sz ≤ 12 ∧ r.gd (· ∈ zs) (· ∈ zs) (10 ^ 20) ∧ n + 3 * (r.sz + 1) < 2 ^ 28 ∧ m k = some c ∧ Well c n ∧ zs ≠ [] ∧ zs.length ≤ 1000 ∧
  ∀ (r' : Rc) (c' : Ct), r'.gd (· ∈ zs) (· ∈ zs) (10 ^ 20) → r'.sz ≤ r.sz + 1 → Well c' (n + 3 * (r.sz + 1)) → Φ (rcD r') (setMu m k c')
theorem changed_none : ∀ ds m Φ Ξ, ¬ changedF 0 ds m Φ Ξ := by
  rintro ds m Φ Ξ ⟨k, n, r, zs, c, _, h, _⟩
  omega
theorem sign7_at {r : Int} (r0 : 0 ≤ r) (r1 : r < 7) : ∃ o : Op7, atI [sD "+", sD "-", sD "*", sD "&", sD "|", sD "=", sD "<"] r = some (sD o.z) := by
  have h : r = 0 ∨ r = 1 ∨ r = 2 ∨ r = 3 ∨ r = 4 ∨ r = 5 ∨ r = 6 := by omega
  rcases h with rfl | rfl | rfl | rfl | rfl | rfl | rfl
  · exact ⟨.add, rfl⟩
  · exact ⟨.sub, rfl⟩
  · exact ⟨.mul, rfl⟩
  · exact ⟨.and, rfl⟩
  · exact ⟨.or, rfl⟩
  · exact ⟨.eq, rfl⟩
  · exact ⟨.lt, rfl⟩
variable {N : Nat}
abbrev s_changed : Stmt := topS 42
theorem sc_changed : FnScope ["well", "recipe", "cells_here", "at", "spot", "part", "turned", "by_here", "ways", "sign", "place"] ["well", "recipe", "cells_here"] (defScope s_changed) := ⟨rfl, rfl, rfl, by decide +kernel, rfl, by decide +kernel, by decide +kernel⟩
theorem ok_changed (Fu : Fun K "_law_changed" "_law_changed" s_changed f fd) (c_signs : Callee P w K mg base cl "_law_signs" 23 ["recipe"] (signsF 14)) (c_leafL : Callee P w K mg base cl "_law_leaf" 2 ["well", "recipe", "cells_here"] leafF) (b_enumerate : mg "enumerate" = none) (b_isinstance : mg "isinstance" = none) (b_tuple : mg "tuple" = none) (c_take : Callee P w K mg base cl "_law_take" 1 ["well", "many"] takeF) (b_len : mg "len" = none) (c_changed : Callee P w K mg base cl "_law_changed" (N+40) ["well", "recipe", "cells_here"] (changedF N))  : FnD P w K mg base cl (N+41) f fd ["well", "recipe", "cells_here"] (changedF (N+1)) := by
  refine okDL Fu sc_changed fun cdv A outer s H E s0 Ξ hr tk => ?_
  have hu : (A.deeper (envOfC "_law_changed" (defScope s_changed) s.heap.objs.size f cdv)).units + 64 < cLine := by have := hr.un; omega
  have hu1 : (A.deeper (envOfC "_law_changed" (defScope s_changed) s.heap.objs.size f cdv)).units + 1 < cLine := by omega
  have nd := sc_changed.nd
  have hst : ∀ (d0 d1 d2 : D), startD ["well", "recipe", "cells_here", "at", "spot", "part", "turned", "by_here", "ways", "sign", "place"] [d0, d1, d2] = [some d0, some d1, some d2, none, none, none, none, none, none, none, none] := fun _ _ _ => rfl
  refine ⟨_, dss_cons (ds_if (dt_eq hu (de_callee c_signs (hr.mono (by omega)) rfl (da_cons (de_var 1) da_nil)) (de_int)) (dss_cons (ds_ret (de_callee c_leafL (hr.mono (by omega)) rfl (da_cons (de_var 0) (da_cons (de_var 1) (da_cons (de_var 2) da_nil))))) dss_nil) (dss_nil)) (dss_cons (ds_setLc (i := 3) (own := [("place", 10), ("part", 5)]) (gg := gTup K 2 (gCons (gName 10) (gCons (gName 5) (gNil)))) rfl nd rfl rfl (sw_true rfl rfl rfl (by decide +kernel)) (di_enumerate rfl b_enumerate (da_cons (de_var 1) da_nil)) (blkOk_by rfl) (fun _ _ _ _ _ => pg_tup rfl (pgs_cons (pg_name (i := 10) nd rfl (Or.inl rfl)) (pgs_cons (pg_name (i := 5) nd rfl (Or.inl rfl)) (pgs_nil)))) (ev_gtup (ev_gcons ev_name (ev_gcons ev_name (ev_gsnil)))) (own_tup (own_cons (by decide) (own_cons (by decide) (own_nil)))) (fun _ _ _ _ _ => dts_one (dt_val (de_isiT .tup (by nofun) rfl b_isinstance rfl b_tuple (by decide +kernel) (de_var 5)))) (fun _ _ _ _ _ => de_var 10)) (dss_cons (ds_if (dt_gt (de_callee c_take (hr.mono (by omega)) rfl (da_cons (de_var 0) (da_cons (de_int) da_nil))) (de_int)) (dss_cons (ds_set (i := 4) nd rfl (.inl rfl) (de_ix (de_var 3) (de_callee c_take (hr.mono (by omega)) rfl (da_cons (de_var 0) (da_cons (de_len rfl b_len (da_cons (de_var 3) da_nil)) da_nil))))) (dss_cons (ds_set (i := 5) nd rfl (.inl rfl) (de_callee c_changed (hr.mono (by omega)) rfl (da_cons (de_var 0) (da_cons (de_ix (de_var 1) (de_var 4)) (da_cons (de_var 2) da_nil))))) (dss_cons (ds_ret (de_addT (de_add (de_slice (de_var 1) (do_none) (do_some (de_var 4))) (de_tup (da_cons (de_var 5) da_nil))) (de_slice (de_var 1) (do_some (de_add (de_var 4) (de_int))) (do_none)))) dss_nil))) (dss_nil)) (dss_cons (ds_if (dt_eq hu (de_ix (de_var 1) (de_int)) (de_str)) (dss_cons (ds_ret (de_ix (de_lst (da_cons (de_ix (de_var 1) (de_int)) (da_cons (de_tup (da_cons (de_str) (da_cons (de_var 1) da_nil))) da_nil))) (de_callee c_take (hr.mono (by omega)) rfl (da_cons (de_var 0) (da_cons (de_int) da_nil))))) dss_nil) (dss_nil)) (dss_cons (ds_if (dt_in hu1 (de_ix (de_var 1) (de_int)) (de_tup (da_cons (de_str) (da_cons (de_str) da_nil)))) (dss_cons (ds_set (i := 6) nd rfl (.inl rfl) (de_if (dt_eq hu (de_ix (de_var 1) (de_int)) (de_str)) (de_str) (de_str))) (dss_cons (ds_set (i := 7) nd rfl (.inl rfl) (de_if (dt_lt (de_ix (de_var 1) (de_int)) (de_sub (de_pow (de_int) (de_int)) (de_int))) (de_add (de_ix (de_var 1) (de_int)) (de_int)) (de_int))) (dss_cons (ds_set (i := 8) nd rfl (.inl rfl) (de_new (da_cons (de_tup (da_cons (de_var 6) (da_cons (de_ix (de_var 1) (de_int)) (da_cons (de_ix (de_var 1) (de_int)) da_nil)))) (da_cons (de_ix (de_var 1) (de_int)) da_nil)))) (dss_cons (ds_expr (de_append (de_var 8) (da_cons (de_tup (da_cons (de_ix (de_var 1) (de_int)) (da_cons (de_ix (de_var 1) (de_int)) (da_cons (de_var 7) da_nil)))) da_nil))) (dss_cons (ds_ret (de_ix (de_var 8) (de_callee c_take (hr.mono (by omega)) rfl (da_cons (de_var 0) (da_cons (de_int) da_nil))))) dss_nil))))) (dss_nil)) (dss_cons (ds_set (i := 9) nd rfl (.inl rfl) (de_ix (de_lst (da_cons (de_str) (da_cons (de_str) (da_cons (de_str) (da_cons (de_str) (da_cons (de_str) (da_cons (de_str) (da_cons (de_str) da_nil)))))))) (de_callee c_take (hr.mono (by omega)) rfl (da_cons (de_var 0) (da_cons (de_int) da_nil))))) (dss_cons (ds_set (i := 8) nd rfl (.inl rfl) (de_new (da_cons (de_tup (da_cons (de_ix (de_var 1) (de_int)) (da_cons (de_ix (de_var 1) (de_int)) (da_cons (de_ix (de_var 1) (de_int)) da_nil)))) da_nil))) (dss_cons (ds_expr (de_append (de_var 8) (da_cons (de_tup (da_cons (de_var 9) (da_cons (de_ix (de_var 1) (de_int)) (da_cons (de_ix (de_var 1) (de_int)) da_nil)))) da_nil))) (dss_cons (ds_ret (de_ix (de_addH (de_var 8) (de_lst (da_cons (de_ix (de_var 1) (de_int)) (da_cons (de_ix (de_var 1) (de_int)) (da_cons (de_tup (da_cons (de_str) (da_cons (de_var 1) da_nil))) da_nil))))) (de_callee c_take (hr.mono (by omega)) rfl (da_cons (de_var 0) (da_cons (de_int) da_nil))))) dss_nil)))))))), ?_⟩
  intro ds m Φ hl h
  obtain ⟨k, n, r, zs, c, rfl, hN, hs, hg, hn, hk, hw, hne, hzl, h5⟩ := h
  have kp : ∀ c', keepMu m (setMu m k c') = setMu m k c' := fun c' => keep_eq hk setMu_same fun j hj _ => setMu_ne hj
  have kq : ∀ {h : Nat} {L c1 c2 : Ct}, h ≠ k → m h = none → keepMu m (setMu (setMu (setMu m k c1) h L) k c2) = setMu m k c2 := fun {h L c1 c2} nh mh => keep_eq hk setMu_same fun j hj hs =>
    (setMu_ne hj).trans ((setMu_ne fun e => by rw [e, mh] at hs; cases hs).trans (setMu_ne hj))
  rw [hst]
  try rw [hst]
  walk_at "go"
  refine ⟨r, rfl, by omega, by omega, ?_⟩
  walk_at "go"
  by_cases hz : r.sz = 0
  · refine i_decT (by omega) ?_
    walk_at "go"
    refine ⟨k, n, r, zs, c, rfl, hz, hg, by omega, hk, hw, hne, hzl, fun r' c' g' z' w' => ?_⟩
    walk_at "go"
    rw [kp]
    exact h5 r' c' g' (by omega) (w'.mono (by omega))
  · refine i_decF (by omega) ?_
    cases r with
    | c z => exact absurd rfl hz
    | w z => exact absurd rfl hz
    | g => exact absurd rfl hz
    | n i => exact absurd rfl hz
    | no a =>
      have ta := ty_rc a m
      have hsz : a.sz + 1 < N + 1 := hN
      have hs2 : a.sz + 1 ≤ 12 := hs
      have hn : n + 3 * (a.sz + 1 + 1) < 2 ^ 28 := hn
      have h5 : ∀ (r' : Rc) (c' : Ct), r'.gd (· ∈ zs) (· ∈ zs) (10 ^ 20) → r'.sz ≤ a.sz + 1 + 1 → Well c' (n + 3 * (a.sz + 1 + 1)) → Φ (rcD r') (setMu m k c') := h5
      walk_at "go"
      refine ⟨k, 4, n, c, rfl, by omega, by decide, by omega, hk, hw, fun r1 c1 r10 r11 w1 => ?_⟩
      walk_at "go"
      by_cases h0 : r1 > 0
      · refine .t (decide_eq_true h0) ?_
        walk_at "go"
        refine ⟨k, 1, n + 1, c1, rfl, by omega, by decide, by omega, setMu_same, w1, fun r2 c2 r20 r21 w2 => ?_⟩
        rw [setMu_set]
        obtain rfl : r2 = 0 := by omega
        walk_at "go"
        refine ⟨k, n + 2, a, zs, c2, rfl, by omega, by omega, hg, by omega, setMu_same, w2, hne, hzl, fun a' c3 g3 z3 w3 => ?_⟩
        rw [setMu_set]
        walk_at "go"
        walk_at "sl"
        walk_at "go"
        walk_at "ad"
        walk_at "go"
        walk_at "sl"
        walk_at "go"
        walk_at "ad"
        walk_at "go"
        rw [kp]
        exact h5 (.no a') c3 g3 (by show a'.sz + 1 ≤ _; omega) (w3.mono (by omega))
      · refine .f (decide_eq_false h0) ?_
        walk_at "go"
        refine ⟨k, 2, n + 1, c1, rfl, by omega, by decide, by omega, setMu_same, w1, fun r2 c2 r20 r21 w2 => ?_⟩
        rw [setMu_set]
        have hr : r2 = 0 ∨ r2 = 1 := by omega
        rcases hr with rfl | rfl
        · walk_at "go"
          rw [kp]
          exact h5 a c2 hg (by omega) (w2.mono (by omega))
        · walk_at "go"
          rw [kp]
          exact h5 (.no (.no a)) c2 hg (by show a.sz + 1 + 1 ≤ _; omega) (w2.mono (by omega))
    | dv q a j =>
      have ta := ty_rc a m
      have hsz : a.sz + 1 < N + 1 := hN
      have hs2 : a.sz + 1 ≤ 12 := hs
      have hn : n + 3 * (a.sz + 1 + 1) < 2 ^ 28 := hn
      have h6 : ∀ (r' : Rc) (c' : Ct), r'.gd (· ∈ zs) (· ∈ zs) (10 ^ 20) → r'.sz ≤ a.sz + 1 + 1 → Well c' (n + 3 * (a.sz + 1 + 1)) → Φ (rcD r') (setMu m k c') := h5
      have hj := hg.2
      have e20 : (10 : Int) ^ (20 : Int).toNat = 100000000000000000000 := by decide
      cases q
      all_goals
        walk_at "go"
        refine ⟨k, 4, n, c, rfl, by omega, by decide, by omega, hk, hw, fun r1 c1 r10 r11 w1 => ?_⟩
        walk_at "go"
        by_cases h0 : r1 > 0
        · refine .t (decide_eq_true h0) ?_
          walk_at "go"
          refine ⟨k, 1, n + 1, c1, rfl, by omega, by decide, by omega, setMu_same, w1, fun r2 c2 r20 r21 w2 => ?_⟩
          rw [setMu_set]
          obtain rfl : r2 = 0 := by omega
          walk_at "go"
          refine ⟨k, n + 2, a, zs, c2, rfl, by omega, by omega, hg.1, by omega, setMu_same, w2, hne, hzl, fun a' c3 g3 z3 w3 => ?_⟩
          rw [setMu_set]
          walk_at "go"
          walk_at "sl"
          walk_at "go"
          walk_at "ad"
          walk_at "go"
          walk_at "sl"
          walk_at "go"
          walk_at "ad"
          walk_at "go"
          rw [kp]
          exact h6 (.dv _ a' j) c3 ⟨g3, hj⟩ (by show a'.sz + 1 ≤ _; omega) (w3.mono (by omega))
        · refine .f (decide_eq_false h0) ?_
          walk_at "go"
          rw [e20]
          have hb : (j < 100000000000000000000 - 1) ∨ ¬ (j < 100000000000000000000 - 1) := Classical.em _
          rcases hb with hb | hb
          · refine .t (decide_eq_true hb) ?_
            walk_at "go"
            refine fun h hh => ?_
            have nhk : h ≠ k := fun e => by rw [e, setMu_same] at hh; cases hh
            have mh : m h = none := (setMu_ne nhk).symm.trans hh
            walk_at "go"
            refine ⟨k, 3, n + 1, c1, rfl, by omega, by decide, by omega, by simp only [setMu_ne (Ne.symm nhk), setMu_same], w1, fun r2 c2 r20 r21 w2 => ?_⟩
            have hr : r2 = 0 ∨ r2 = 1 ∨ r2 = 2 := by omega
            rcases hr with rfl | rfl | rfl
            · walk_at "go"
              rw [setMu_set, kq nhk mh]
              first
                | exact h6 (.dv true a j) c2 ⟨hg.1, hj⟩ (by show a.sz + 1 ≤ _; omega) (w2.mono (by omega))
                | exact h6 (.dv false a j) c2 ⟨hg.1, hj⟩ (by show a.sz + 1 ≤ _; omega) (w2.mono (by omega))
            · walk_at "go"
              rw [setMu_set, kq nhk mh]
              exact h6 a c2 hg.1 (by omega) (w2.mono (by omega))
            · walk_at "go"
              rw [setMu_set, kq nhk mh]
              exact h6 (.dv _ a (j + 1)) c2 ⟨hg.1, by omega, by omega⟩ (by show a.sz + 1 ≤ _; omega) (w2.mono (by omega))
          · refine .f (decide_eq_false hb) ?_
            walk_at "go"
            refine fun h hh => ?_
            have nhk : h ≠ k := fun e => by rw [e, setMu_same] at hh; cases hh
            have mh : m h = none := (setMu_ne nhk).symm.trans hh
            walk_at "go"
            refine ⟨k, 3, n + 1, c1, rfl, by omega, by decide, by omega, by simp only [setMu_ne (Ne.symm nhk), setMu_same], w1, fun r2 c2 r20 r21 w2 => ?_⟩
            have hr : r2 = 0 ∨ r2 = 1 ∨ r2 = 2 := by omega
            rcases hr with rfl | rfl | rfl
            · walk_at "go"
              rw [setMu_set, kq nhk mh]
              first
                | exact h6 (.dv true a j) c2 ⟨hg.1, hj⟩ (by show a.sz + 1 ≤ _; omega) (w2.mono (by omega))
                | exact h6 (.dv false a j) c2 ⟨hg.1, hj⟩ (by show a.sz + 1 ≤ _; omega) (w2.mono (by omega))
            · walk_at "go"
              rw [setMu_set, kq nhk mh]
              exact h6 a c2 hg.1 (by omega) (w2.mono (by omega))
            · walk_at "go"
              rw [setMu_set, kq nhk mh]
              exact h6 (.dv _ a (1)) c2 ⟨hg.1, by omega, by omega⟩ (by show a.sz + 1 ≤ _; omega) (w2.mono (by omega))
    | two o a b =>
      have ta := ty_rc a m
      have tb := ty_rc b m
      have hsz : a.sz + b.sz + 1 < N + 1 := hN
      have hs2 : a.sz + b.sz + 1 ≤ 12 := hs
      have hn : n + 3 * (a.sz + b.sz + 1 + 1) < 2 ^ 28 := hn
      have h5 : ∀ (r' : Rc) (c' : Ct), r'.gd (· ∈ zs) (· ∈ zs) (10 ^ 20) → r'.sz ≤ a.sz + b.sz + 1 + 1 → Well c' (n + 3 * (a.sz + b.sz + 1 + 1)) → Φ (rcD r') (setMu m k c') := h5
      walk_at "go"
      refine ⟨k, 4, n, c, rfl, by omega, by decide, by omega, hk, hw, fun r1 c1 r10 r11 w1 => ?_⟩
      walk_at "go"
      by_cases h0 : r1 > 0
      · refine .t (decide_eq_true h0) ?_
        walk_at "go"
        refine ⟨k, 2, n + 1, c1, rfl, by omega, by decide, by omega, setMu_same, w1, fun r2 c2 r20 r21 w2 => ?_⟩
        rw [setMu_set]
        have hr : r2 = 0 ∨ r2 = 1 := by omega
        rcases hr with rfl | rfl
        · walk_at "go"
          refine ⟨k, n + 2, a, zs, c2, rfl, by omega, by omega, hg.1, by omega, setMu_same, w2, hne, hzl, fun a' c3 g3 z3 w3 => ?_⟩
          rw [setMu_set]
          walk_at "go"
          walk_at "sl"
          walk_at "go"
          walk_at "ad"
          walk_at "go"
          walk_at "sl"
          walk_at "go"
          walk_at "ad"
          walk_at "go"
          rw [kp]
          exact h5 (.two o a' b) c3 ⟨g3, hg.2⟩ (by show a'.sz + b.sz + 1 ≤ _; omega) (w3.mono (by omega))
        · walk_at "go"
          refine ⟨k, n + 2, b, zs, c2, rfl, by omega, by omega, hg.2, by omega, setMu_same, w2, hne, hzl, fun b' c3 g3 z3 w3 => ?_⟩
          rw [setMu_set]
          walk_at "go"
          walk_at "sl"
          walk_at "go"
          walk_at "ad"
          walk_at "go"
          walk_at "sl"
          walk_at "go"
          walk_at "ad"
          walk_at "go"
          rw [kp]
          exact h5 (.two o a b') c3 ⟨hg.1, g3⟩ (by show a.sz + b'.sz + 1 ≤ _; omega) (w3.mono (by omega))
      · refine .f (decide_eq_false h0) ?_
        walk_at "go"
        refine i_decF (opz_no o) ?_
        walk_at "go"
        refine .f (op_dv o) ?_
        walk_at "go"
        refine ⟨k, 7, n + 1, c1, rfl, by omega, by decide, by omega, setMu_same, w1, fun r2 c2 r20 r21 w2 => ?_⟩
        rw [setMu_set]
        obtain ⟨o2, e2⟩ := sign7_at r20 r21
        walk_at "go"
        refine fun h hh => ?_
        have nhk : h ≠ k := fun e => by rw [e, setMu_same] at hh; cases hh
        have mh : m h = none := (setMu_ne nhk).symm.trans hh
        walk_at "go"
        refine ⟨k, 5, n + 2, c2, rfl, by omega, by decide, by omega, by simp only [setMu_ne (Ne.symm nhk), setMu_same], w2, fun r3 c3 r30 r31 w3 => ?_⟩
        have hr : r3 = 0 ∨ r3 = 1 ∨ r3 = 2 ∨ r3 = 3 ∨ r3 = 4 := by omega
        rcases hr with rfl | rfl | rfl | rfl | rfl
        · walk_at "go"
          rw [setMu_set, kq nhk mh]
          exact h5 (.two o b a) c3 ⟨hg.2, hg.1⟩ (by show b.sz + a.sz + 1 ≤ _; omega) (w3.mono (by omega))
        · walk_at "go"
          rw [setMu_set, kq nhk mh]
          exact h5 (.two o2 a b) c3 hg (by show a.sz + b.sz + 1 ≤ _; omega) (w3.mono (by omega))
        · walk_at "go"
          rw [setMu_set, kq nhk mh]
          exact h5 a c3 hg.1 (by omega) (w3.mono (by omega))
        · walk_at "go"
          rw [setMu_set, kq nhk mh]
          exact h5 b c3 hg.2 (by omega) (w3.mono (by omega))
        · walk_at "go"
          rw [setMu_set, kq nhk mh]
          exact h5 (.no (.two o a b)) c3 hg (by show a.sz + b.sz + 1 + 1 ≤ _; omega) (w3.mono (by omega))
end ER

namespace ER
open PySem PySem.Spec PyProof.Rows L2 TL
variable {P : Program} {w : World} {K : PySem.W.Frag} {mg : Str → Option Value} {base : Heap} {cl : Nat → Addr} {f : Addr} {fd : FuncData}
local macro_rules | `(tactic| walk_at "gx") => `(tactic| with_reducible first | refine ER.mk_val ?_ | refine ER.in2' ?_)
/-! ## the law k04 -/
theorem Fn_op {s : List Sg} {o : Str} (h : Fn s) (ho : fine (.op o)) : Fn (s ++ [.op o]) := fun g hg => by
  rcases List.mem_append.mp hg with hg | hg
  · exact h g hg
  · cases List.mem_singleton.mp hg; exact ho
theorem Fn_num {s : List Sg} {i : Int} (h : Fn s) : Fn (s ++ [.num i]) := fun g hg => by
  rcases List.mem_append.mp hg with hg | hg
  · exact h g hg
  · cases List.mem_singleton.mp hg; trivial
theorem f_no : fine (.op "~") := ⟨by decide +kernel, by decide +kernel⟩
theorem f_mod : fine (.op "mod") := ⟨by decide +kernel, by decide +kernel⟩
theorem eqD_rc {B : Int} {r s : Rc} {m : Mu} {Φ : DK} (hr : r.gd goodName goodName B) (hs : s.gd goodName goodName B) (zr : r.sz ≤ 60) (zs : s.sz ≤ 60) (h : Φ (.v (.bl (decide (r = s)))) m) : eqD false (rcD r) (rcD s) m Φ := by
  have pr := pyof_rc r
  have ps := pyof_rc s
  rw [rc_tag] at pr ps ⊢
  rw [rc_tag s]
  exact ⟨rcP r, rcP s, pr, ps, shaped_rc hr zr, shaped_rc hs zs, by rw [rc_eqv]; exact h⟩
theorem oth_rc (r : Rc) (m : Mu) : othD (rcD r) m := ⟨by rw [rc_tag]; rfl, .tup, ty_rc r m, rfl⟩
def fitsF : DFn := fun ds m Φ _ => ∃ (k n : Nat) (c : Ct), ds = [.hd k] ∧ n ≤ 2 ^ 20 ∧ m k = some c ∧ Well c n ∧ ∀ (m' : Mu) (c' : Ct), m' k = some c' → Well c' (n + 800) → Φ (.v (.bl true)) m'
abbrev s_fits : Stmt := topS 44
theorem sc_fits : FnScope ["well", "cells_here", "recipe", "changed", "one", "two", "alike", "unlike", "owed", "things", "thing"] ["well"] (defScope s_fits) := ⟨rfl, rfl, rfl, by decide +kernel, rfl, by decide +kernel, by decide +kernel⟩
theorem ok_fits (Fu : Fun K "_law_fits" "_law_fits" s_fits f fd) (c_cells : Callee P w K mg base cl "_law_cells" 2 ["well", "many"] cellsF) (c_take : Callee P w K mg base cl "_law_take" 1 ["well", "many"] takeF) (c_recipe : Callee P w K mg base cl "_law_recipe" 23 ["well", "cells_here", "most"] (recF (10^20) 14)) (c_changed : Callee P w K mg base cl "_law_changed" 54 ["well", "recipe", "cells_here"] (changedF 14)) (c_signs : Callee P w K mg base cl "_law_signs" 23 ["recipe"] (signsF 14)) (c_builtL : Callee P w K mg base cl "_law_built" 37 ["recipe", "style"] (builtF 14)) (b_repr : mg "repr" = none) (c_both : CalleeG P w K mg base cl "_law_both" 3 ["one", "two"] bothF) (m_rest : MethOk P w K mg base cl "rest" 0 7 ["self", "n"] (restF "mod")) (o_Invert : UnOk P w K mg base cl 0 3 invF)  : FnG P w K mg base 55 f fd ["well"] (spD cl 1 fitsF) := by
  refine okG Fu sc_fits fun cdv A outer s H E s0 Ξ hgd hr tk => ?_
  have hu : (A.deeper (envOfC "_law_fits" (defScope s_fits) s.heap.objs.size f cdv)).units + 64 < cLine := by have := hr.un; omega
  have hu1 : (A.deeper (envOfC "_law_fits" (defScope s_fits) s.heap.objs.size f cdv)).units + 1 < cLine := by omega
  have nd := sc_fits.nd
  have hst : ∀ (d0 : D), startD ["well", "cells_here", "recipe", "changed", "one", "two", "alike", "unlike", "owed", "things", "thing"] [d0] = [some d0, none, none, none, none, none, none, none, none, none, none] := fun _ => rfl
  refine ⟨_, dss_cons (ds_set (i := 1) nd rfl (.inl rfl) (de_callee c_cells (hr.mono (by decide)) rfl (da_cons (de_var 0) (da_cons (de_add (de_int) (de_callee c_take (hr.mono (by decide)) rfl (da_cons (de_var 0) (da_cons (de_int) da_nil)))) da_nil)))) (dss_cons (ds_set (i := 2) nd rfl (.inl rfl) (de_callee c_recipe (hr.mono (by decide)) rfl (da_cons (de_var 0) (da_cons (de_var 1) (da_cons (de_callee c_take (hr.mono (by decide)) rfl (da_cons (de_var 0) (da_cons (de_ix (de_lst (da_cons (de_int) (da_cons (de_int) da_nil))) (de_callee c_take (hr.mono (by decide)) rfl (da_cons (de_var 0) (da_cons (de_int) da_nil)))) da_nil))) da_nil))))) (dss_cons (ds_set (i := 3) nd rfl (.inl rfl) (de_callee c_changed (hr.mono (by decide)) rfl (da_cons (de_var 0) (da_cons (de_var 2) (da_cons (de_var 1) da_nil))))) (dss_cons (ds_if (dt_gt (de_callee c_signs (hr.mono (by decide)) rfl (da_cons (de_var 3) da_nil)) (de_int)) (dss_cons (ds_set (i := 3) nd rfl (.inl rfl) (de_var 2)) dss_nil) (dss_nil)) (dss_cons (ds_set (i := 4) nd rfl (.inr rfl) (de_callee c_builtL (hr.mono (by decide)) rfl (da_cons (de_var 2) (da_cons (de_callee c_take (hr.mono (by decide)) rfl (da_cons (de_var 0) (da_cons (de_int) da_nil))) da_nil)))) (dss_cons (ds_set (i := 5) nd rfl (.inl rfl) (de_callee c_builtL (hr.mono (by decide)) rfl (da_cons (de_var 3) (da_cons (de_callee c_take (hr.mono (by decide)) rfl (da_cons (de_var 0) (da_cons (de_int) da_nil))) da_nil)))) (dss_cons (ds_asg (de_tup (da_cons (de_repr hgd (hr.mono (by decide)) rfl b_repr (da_cons (de_lst (da_cons (de_bl) (da_cons (de_bl) (da_cons (de_bl) (da_cons (de_bl) da_nil))))) da_nil)) (da_cons (de_repr hgd (hr.mono (by decide)) rfl b_repr (da_cons (de_lst (da_cons (de_bl) (da_cons (de_bl) (da_cons (de_bl) (da_cons (de_bl) da_nil))))) da_nil)) da_nil))) (dg_tup (n := 2) rfl (dgs_cons (dg_name (i := 6) nd rfl (.inl rfl)) (dgs_cons (dg_name (i := 7) nd rfl (.inr rfl)) (dgs_nil))))) (dss_cons (ds_set (i := 8) nd rfl (.inl rfl) (de_if (dt_eq hu (de_var 2) (de_var 3)) (de_var 6) (de_var 7))) (dss_cons (ds_if (DW.dt (dw_or (dt_ne hu (de_calleeG c_both hgd (hr.mono (by decide)) rfl (da_cons (de_var 4) (da_cons (de_var 5) da_nil))) (de_var 8)) (dw_or1 (dt_ne hu (de_calleeG c_both hgd (hr.mono (by decide)) rfl (da_cons (de_var 4) (da_cons (de_callee c_builtL (hr.mono (by decide)) rfl (da_cons (de_var 2) (da_cons (de_int) da_nil))) da_nil))) (de_var 6))))) (dss_cons (ds_ret (de_bl)) dss_nil) (dss_nil)) (dss_cons (ds_if (DW.dt (dw_or (dt_ne hu (de_calleeG c_both hgd (hr.mono (by decide)) rfl (da_cons (de_inv o_Invert (hr.mono (by decide)) (de_var 4)) (da_cons (de_inv o_Invert (hr.mono (by decide)) (de_var 5)) da_nil))) (de_var 8)) (dw_or1 (dt_ne hu (de_calleeG c_both hgd (hr.mono (by decide)) rfl (da_cons (de_meth m_rest (hr.mono (by decide)) (de_var 4) (da_cons (de_int) da_nil)) (da_cons (de_meth m_rest (hr.mono (by decide)) (de_var 5) (da_cons (de_int) da_nil)) da_nil))) (de_var 8))))) (dss_cons (ds_ret (de_bl)) dss_nil) (dss_nil)) (dss_cons (ds_set (i := 9) nd rfl (.inl rfl) (de_lst (da_cons (de_non) (da_cons (de_int) (da_cons (de_int) (da_cons (de_str) (da_cons (de_ix (de_var 1) (de_int)) (da_cons (de_lst (da_cons (de_var 4) da_nil)) (da_cons (de_tup (da_cons (de_var 4) (da_cons (de_var 5) da_nil))) (da_cons (de_var 1) (da_cons (de_dict0) (da_cons (de_var 2) da_nil)))))))))))) (dss_cons (ds_ret (de_eq hu (de_lc (own := [("thing", 10)]) (gg := gName 10) rfl nd (di_seq (de_var 9)) (blkOk_by rfl) (fun _ _ _ _ _ => pg_name (i := 10) nd rfl (Or.inl rfl)) (ev_name) (own_name (by decide)) (fun _ _ _ _ _ => dts_one (dt_ne hu (de_calleeG c_both hgd (hr.mono (by decide)) rfl (da_cons (de_var 4) (da_cons (de_var 10) da_nil))) (de_var 7))) (fun _ _ _ _ _ => de_int)) (de_lst (da_nil)))) dss_nil))))))))))), ?_⟩
  intro ds m Φ hl h
  obtain ⟨k, n, c, rfl, hn, hk, hw, h5⟩ := h
  try rw [hst]
  walk_at "go"
  refine ⟨k, 8, n, c, rfl, by omega, by decide, by omega, hk, hw, fun r c1 r0 r1 w1 => ?_⟩
  walk_at "go"
  obtain ⟨q, hq⟩ : ∃ q : Nat, 1 + r = q := ⟨(1 + r).toNat, by omega⟩
  rw [hq]
  refine ⟨k, n + 1, c1, q, rfl, by omega, setMu_same, w1, by omega, fun zs c2 hz hg w2 => ?_⟩
  rw [setMu_set]
  have hne : zs ≠ [] := fun e => by rw [e] at hz; simp at hz; omega
  walk_at "go"
  refine ⟨k, 2, _, c2, rfl, by omega, by decide, ?_, setMu_same, w2, fun r3 c3 r30 r31 w3 => ?_⟩
  · omega
  rw [setMu_set]
  walk_at "go"
  obtain ⟨q2, e2, hq2⟩ := two_at (a := 9) (b := 13) r30 r31
  refine .mk _ e2 ?_
  walk_at "go"
  refine ⟨k, q2, _, c3, rfl, by omega, log_small (by omega) (by omega), ?_, setMu_same, w3, fun most c4 m0 m1 w4 => ?_⟩
  · omega
  obtain ⟨mo, rfl⟩ : ∃ mo : Nat, most = mo := ⟨most.toNat, by omega⟩
  rw [setMu_set]
  walk_at "go"
  refine ⟨k, _, mo, zs, c4, rfl, by omega, ?_, setMu_same, w4, hne, by omega, hg, fun rc c5 g5 z5 w5 => ?_⟩
  · omega
  rw [setMu_set]
  have hgood : rc.gd goodName goodName (10 ^ 20) := gd_imp hg hg rc g5
  walk_at "go"
  refine ⟨k, _, rc, zs, c5, rfl, by omega, by omega, g5, ?_, setMu_same, w5, hne, by omega, fun sc c6 g6 z6 w6 => ?_⟩
  · omega
  rw [setMu_set]
  have hgood2 : sc.gd goodName goodName (10 ^ 20) := gd_imp hg hg sc g6
  walk_at "go"
  refine ⟨sc, rfl, by omega, by omega, ?_⟩
  have hfr : Fn rc.sgs := rc_fine rc hgood
  have hfs : Fn sc.sgs := rc_fine sc hgood2
  have lr := rc.sgs_len
  have ls := sc.sgs_len
  obtain ⟨z0, e0, mz0⟩ := strs_at (zs := zs) (i := 0) (by omega) (by omega)
  walk_at "go"
  by_cases hb : sc.sz > 12
  · refine .t (decide_eq_true (by omega)) ?_
    walk_at "go"
    refine ⟨k, 2, _, c6, rfl, by omega, by decide, ?_, setMu_same, w6, fun s1 c7 s10 s11 w7 => ?_⟩
    · omega
    rw [setMu_set]
    walk_at "go"
    refine ⟨rc, s1, rfl, by omega, ⟨_, hgood⟩, by omega, by omega, ?_⟩
    walk_at "go"
    refine ⟨k, 2, _, c7, rfl, by omega, by decide, ?_, setMu_same, w7, fun s2 c8 s20 s21 w8 => ?_⟩
    · omega
    rw [setMu_set]
    walk_at "go"
    refine ⟨rc, s2, rfl, by omega, ⟨_, by assumption⟩, by omega, by omega, ?_⟩
    walk_at "go"
    refine show4 ?_
    walk_at "go"
    refine show4 ?_
    walk_at "go"
    refine eqD_rc (s := rc) hgood (by assumption) (by omega) (by omega) ?_
    rw [decide_eq_true rfl]
    walk_at "go"
    refine ⟨_, _, rfl, .inl ⟨_, rfl, by assumption, by assumption, ?_⟩⟩
    rw [if_pos rfl]
    walk_at "go"
    refine ⟨rc, 0, rfl, .inl rfl, ⟨_, hgood⟩, by omega, by omega, ?_⟩
    walk_at "go"
    refine ⟨_, _, rfl, .inl ⟨_, rfl, hfr, hfr, ?_⟩⟩
    rw [if_pos rfl]
    walk_at "go"
    refine ⟨rc.sgs, rfl, rc.sgs_ne, by omega, ?_⟩
    walk_at "go"
    refine ⟨rc.sgs, rfl, rc.sgs_ne, by omega, ?_⟩
    walk_at "go"
    refine ⟨_, _, rfl, .inl ⟨_, rfl, Fn_op hfr f_no, Fn_op (by assumption) f_no, ?_⟩⟩
    rw [if_pos rfl]
    walk_at "go"
    refine ⟨_, rc.sgs, 3, rfl, .inl rfl, ⟨rc.sgs_ne, nofun, by rw [List.length_singleton]; omega⟩, fun _ => ?_, fun q => absurd q (by omega)⟩
    walk_at "go"
    refine ⟨_, rc.sgs, 3, rfl, .inl rfl, ⟨rc.sgs_ne, nofun, by rw [List.length_singleton]; omega⟩, fun _ => ?_, fun q => absurd q (by omega)⟩
    walk_at "go"
    refine ⟨_, _, rfl, .inl ⟨_, rfl, Fn_op (Fn_num hfr) f_mod, Fn_op (Fn_num (by assumption)) f_mod, ?_⟩⟩
    rw [if_pos rfl]
    walk_at "go"
    iterate 9
      refine ⟨_, _, rfl, .inr ⟨⟨rfl, _, rfl, rfl⟩, ?_⟩⟩
      walk_at "go"
    refine ⟨_, _, rfl, .inr ⟨oth_rc rc _, ?_⟩⟩
    walk_at "go"
    refine ⟨_, _, .lst .nil, .lst .nil, by decide +kernel, by decide +kernel, ?_⟩
    exact h5 _ _ setMu_same (w8.mono (by omega))
  · refine .f (decide_eq_false (by omega)) ?_
    walk_at "go"
    refine ⟨k, 2, _, c6, rfl, by omega, by decide, ?_, setMu_same, w6, fun s1 c7 s10 s11 w7 => ?_⟩
    · omega
    rw [setMu_set]
    walk_at "go"
    refine ⟨rc, s1, rfl, by omega, ⟨_, hgood⟩, by omega, by omega, ?_⟩
    walk_at "go"
    refine ⟨k, 2, _, c7, rfl, by omega, by decide, ?_, setMu_same, w7, fun s2 c8 s20 s21 w8 => ?_⟩
    · omega
    rw [setMu_set]
    walk_at "go"
    refine ⟨sc, s2, rfl, by omega, ⟨_, by assumption⟩, by omega, by omega, ?_⟩
    walk_at "go"
    refine show4 ?_
    walk_at "go"
    refine show4 ?_
    walk_at "go"
    refine eqD_rc (s := sc) hgood (by assumption) (by omega) (by omega) ?_
    by_cases hq3 : rc = sc
    · rw [decide_eq_true hq3]
      subst hq3
      walk_at "go"
      refine ⟨_, _, rfl, .inl ⟨_, rfl, by assumption, by assumption, ?_⟩⟩
      rw [if_pos rfl]
      walk_at "go"
      refine ⟨rc, 0, rfl, .inl rfl, ⟨_, hgood⟩, by omega, by omega, ?_⟩
      walk_at "go"
      refine ⟨_, _, rfl, .inl ⟨_, rfl, hfr, hfr, ?_⟩⟩
      rw [if_pos rfl]
      walk_at "go"
      refine ⟨rc.sgs, rfl, rc.sgs_ne, by omega, ?_⟩
      walk_at "go"
      refine ⟨rc.sgs, rfl, rc.sgs_ne, by omega, ?_⟩
      walk_at "go"
      refine ⟨_, _, rfl, .inl ⟨_, rfl, Fn_op hfr f_no, Fn_op (by assumption) f_no, ?_⟩⟩
      rw [if_pos rfl]
      walk_at "go"
      refine ⟨_, rc.sgs, 3, rfl, .inl rfl, ⟨rc.sgs_ne, nofun, by rw [List.length_singleton]; omega⟩, fun _ => ?_, fun q => absurd q (by omega)⟩
      walk_at "go"
      refine ⟨_, rc.sgs, 3, rfl, .inl rfl, ⟨rc.sgs_ne, nofun, by rw [List.length_singleton]; omega⟩, fun _ => ?_, fun q => absurd q (by omega)⟩
      walk_at "go"
      refine ⟨_, _, rfl, .inl ⟨_, rfl, Fn_op (Fn_num hfr) f_mod, Fn_op (Fn_num (by assumption)) f_mod, ?_⟩⟩
      rw [if_pos rfl]
      walk_at "go"
      iterate 9
        refine ⟨_, _, rfl, .inr ⟨⟨rfl, _, rfl, rfl⟩, ?_⟩⟩
        walk_at "go"
      refine ⟨_, _, rfl, .inr ⟨oth_rc rc _, ?_⟩⟩
      walk_at "go"
      refine ⟨_, _, .lst .nil, .lst .nil, by decide +kernel, by decide +kernel, ?_⟩
      exact h5 _ _ setMu_same (w8.mono (by omega))
    · rw [decide_eq_false hq3]
      walk_at "go"
      refine ⟨_, _, rfl, .inl ⟨_, rfl, by assumption, by assumption, ?_⟩⟩
      rw [if_neg (fun e : rc.sgs = sc.sgs => hq3 (sgs_iff.mp e))]
      walk_at "go"
      refine ⟨rc, 0, rfl, .inl rfl, ⟨_, hgood⟩, by omega, by omega, ?_⟩
      walk_at "go"
      refine ⟨_, _, rfl, .inl ⟨_, rfl, hfr, hfr, ?_⟩⟩
      rw [if_pos rfl]
      walk_at "go"
      refine ⟨rc.sgs, rfl, rc.sgs_ne, by omega, ?_⟩
      walk_at "go"
      refine ⟨sc.sgs, rfl, sc.sgs_ne, by omega, ?_⟩
      walk_at "go"
      refine ⟨_, _, rfl, .inl ⟨_, rfl, Fn_op hfr f_no, Fn_op (by assumption) f_no, ?_⟩⟩
      rw [if_neg (fun e : rc.sgs ++ [Sg.op "~"] = sc.sgs ++ [Sg.op "~"] => hq3 (sgs_iff.mp (snoc_inj e).1))]
      walk_at "go"
      refine ⟨_, rc.sgs, 3, rfl, .inl rfl, ⟨rc.sgs_ne, nofun, by rw [List.length_singleton]; omega⟩, fun _ => ?_, fun q => absurd q (by omega)⟩
      walk_at "go"
      refine ⟨_, sc.sgs, 3, rfl, .inl rfl, ⟨sc.sgs_ne, nofun, by rw [List.length_singleton]; omega⟩, fun _ => ?_, fun q => absurd q (by omega)⟩
      walk_at "go"
      refine ⟨_, _, rfl, .inl ⟨_, rfl, Fn_op (Fn_num hfr) f_mod, Fn_op (Fn_num (by assumption)) f_mod, ?_⟩⟩
      rw [if_neg (fun e : rc.sgs ++ [Sg.num 3] ++ [Sg.op "mod"] = sc.sgs ++ [Sg.num 3] ++ [Sg.op "mod"] => hq3 (sgs_iff.mp (snoc_inj (snoc_inj e).1).1))]
      walk_at "go"
      iterate 9
        refine ⟨_, _, rfl, .inr ⟨⟨rfl, _, rfl, rfl⟩, ?_⟩⟩
        walk_at "go"
      refine ⟨_, _, rfl, .inr ⟨oth_rc rc _, ?_⟩⟩
      walk_at "go"
      refine ⟨_, _, .lst .nil, .lst .nil, by decide +kernel, by decide +kernel, ?_⟩
      exact h5 _ _ setMu_same (w8.mono (by omega))
end ER

namespace ER
open PySem PySem.Spec PyProof.Rows L2 TL
variable {P : Program} {w : World} {K : PySem.W.Frag} {mg : Str → Option Value} {base : Heap} {cl : Nat → Addr} {f : Addr} {fd : FuncData}
def lawF : DFn := fun ds m Φ _ => ∃ ns : List Int, ds = [.scr ns] ∧ ns.length ≤ 63 ∧ ∀ m', Φ (.v (.bl true)) m'
theorem turns_le (l : Nat) (b : Int) (hb : b ≤ 60) : 1 ≤ (fun i j : Int => if j > i then j else i) 1 ((fun i j : Int => if j < i then j else i) b l) ∧ (fun i j : Int => if j > i then j else i) 1 ((fun i j : Int => if j < i then j else i) b l) ≤ 60 := by
  dsimp only
  split <;> split <;> omega
abbrev s_law : Stmt := topS 45
theorem sc_law : FnScope ["script", "place", "well", "turn"] ["script"] (defScope s_law) := ⟨rfl, rfl, rfl, by decide +kernel, rfl, by decide +kernel, by decide +kernel⟩
theorem ok_law (Fu : Fun K "law" "law" s_law f fd) (b_range : mg "range" = none) (b_max : mg "max" = none) (b_min : mg "min" = none) (b_len : mg "len" = none) (c_well : Callee P w K mg base cl "_law_well" 1 ["script", "place"] wellF) (c_fits : CalleeG P w K mg base cl "_law_fits" 55 ["well"] fitsF)  : FnG P w K mg base 56 f fd ["script"] (spD cl 1 lawF) := by
  refine okG Fu sc_law fun cdv A outer s H E s0 Ξ hgd hr tk => ?_
  have nd := sc_law.nd
  have hst : ∀ (d0 : D), startD ["script", "place", "well", "turn"] [d0] = [some d0, none, none, none] := fun _ => rfl
  refine ⟨_, dss_cons (ds_for (passes_of rfl) rfl (di_rng1 rfl b_range (da_cons (de_max rfl rfl b_max (da_cons (de_int) (da_cons (de_min rfl rfl b_min (da_cons (de_int) (da_cons (de_len rfl b_len (da_cons (de_var 0) da_nil)) da_nil))) da_nil))) da_nil)) (dg_name (i := 1) nd rfl (.inl rfl)) (dss_cons (ds_set (i := 2) nd rfl (.inl rfl) (de_callee c_well (hr.mono (by decide)) rfl (da_cons (de_var 0) (da_cons (de_var 1) da_nil)))) (dss_cons (ds_for (passes_of rfl) rfl (di_rng1 rfl b_range (da_cons (de_int) da_nil)) (dg_name (i := 3) nd rfl (.inl rfl)) (dss_cons (ds_if (dt_not (dt_val (de_calleeG c_fits hgd (hr.mono (by decide)) rfl (da_cons (de_var 2) da_nil)))) (dss_cons (ds_ret (de_bl)) dss_nil) (dss_nil)) dss_nil)) dss_nil))) (dss_cons (ds_ret (de_bl)) dss_nil), ?_⟩
  intro ds m Φ hl h
  obtain ⟨ns, rfl, hn, h5⟩ := h
  try rw [hst]
  walk_at "go"
  have tb := turns_le ns.length 24 (by omega)
  refine ⟨⟨by omega, by omega⟩, ?_⟩
  refine for_inv (fun i : Nat => D.v (.int (0 + (i : Int)))) (fun xs r _ => (∀ i ∈ xs, i < 64) ∧ ∃ e1 e2 e3 : Option D, r = [some (.scr ns), e1, e2, e3]) ?_ ?_ (List.range _) _ _ ⟨fun i hi => ?_, _, _, _, rfl⟩
  · rintro i xs N r m1 next ⟨hi, e1, e2, e3, rfl⟩
    have h64 := hi i List.mem_cons_self
    walk_at "go"
    refine ⟨ns, 0 + i, rfl, by omega, by omega, fun k c hk w0 => ?_⟩
    walk_at "go"
    refine ⟨k, 0, c, rfl, by omega, setMu_same, w0, fun m2 c1 hk1 w1 => ?_⟩
    walk_at "go"
    refine ⟨k, 800, c1, rfl, by omega, hk1, w1, fun m3 c2 hk2 w2 => ?_⟩
    walk_at "go"
    exact next _ _ ⟨fun j hj => hi j (List.mem_cons_of_mem _ hj), _, _, _, rfl⟩
  · rintro r m1 ⟨_, e1, e2, e3, rfl⟩
    walk_at "go"
    exact h5 _
  · have := List.mem_range.mp hi
    omega
end ER

namespace ER
open PySem PySem.Spec PyProof.Rows L2
theorem all_mk {l : PySem.W.OpenLaw} {w : World} {K : PySem.W.Frag} {h : Heap} {mg : Str → Option Value} {fa C_Value C_RunError C_InvalidName C_UnknownName C_InvalidDivisor f_Value_init f_check_name f_named f_now f_passed f_number f_as_value f_joined f_divided f_add f_radd f_sub f_rsub f_mul f_rmul f_floordiv f_rest f_and_ f_rand_ f_or_ f_ror_ f_same f_less f_invert f_eq_ f_names q_names f_nows q_nows f_take f_well f_cells f_integer f_recipe f_joinedL f_sideL f_builtL f_signs f_both f_leafL f_changed f_fits f_law f_Err_init : Addr} (X : K.In h) (G : h.Ns mainGlobals mg) (hfa : mg "law" = some (.ref fa))
    {od_Value_init an_Value_init : Option Addr} {sl_Value_init : Array (Option Value)} {oc_Value_init kV_Value_init dc_Value_init pm_Value_init cd_Value_init ct_Value_init : Value} {od_check_name an_check_name : Option Addr} {sl_check_name : Array (Option Value)} {oc_check_name kV_check_name dc_check_name pm_check_name cd_check_name ct_check_name : Value} {od_named an_named : Option Addr} {sl_named : Array (Option Value)} {oc_named kV_named dc_named pm_named cd_named ct_named : Value} {od_now an_now : Option Addr} {sl_now : Array (Option Value)} {oc_now kV_now dc_now pm_now cd_now ct_now : Value} {od_passed an_passed : Option Addr} {sl_passed : Array (Option Value)} {oc_passed kV_passed dc_passed pm_passed cd_passed ct_passed : Value} {od_number an_number : Option Addr} {sl_number : Array (Option Value)} {oc_number kV_number dc_number pm_number cd_number ct_number : Value} {od_as_value an_as_value : Option Addr} {sl_as_value : Array (Option Value)} {oc_as_value kV_as_value dc_as_value pm_as_value cd_as_value ct_as_value : Value} {od_joined an_joined : Option Addr} {sl_joined : Array (Option Value)} {oc_joined kV_joined dc_joined pm_joined cd_joined ct_joined : Value} {od_divided an_divided : Option Addr} {sl_divided : Array (Option Value)} {oc_divided kV_divided dc_divided pm_divided cd_divided ct_divided : Value} {od_add an_add : Option Addr} {sl_add : Array (Option Value)} {oc_add kV_add dc_add pm_add cd_add ct_add : Value} {od_radd an_radd : Option Addr} {sl_radd : Array (Option Value)} {oc_radd kV_radd dc_radd pm_radd cd_radd ct_radd : Value} {od_sub an_sub : Option Addr} {sl_sub : Array (Option Value)} {oc_sub kV_sub dc_sub pm_sub cd_sub ct_sub : Value} {od_rsub an_rsub : Option Addr} {sl_rsub : Array (Option Value)} {oc_rsub kV_rsub dc_rsub pm_rsub cd_rsub ct_rsub : Value} {od_mul an_mul : Option Addr} {sl_mul : Array (Option Value)} {oc_mul kV_mul dc_mul pm_mul cd_mul ct_mul : Value} {od_rmul an_rmul : Option Addr} {sl_rmul : Array (Option Value)} {oc_rmul kV_rmul dc_rmul pm_rmul cd_rmul ct_rmul : Value} {od_floordiv an_floordiv : Option Addr} {sl_floordiv : Array (Option Value)} {oc_floordiv kV_floordiv dc_floordiv pm_floordiv cd_floordiv ct_floordiv : Value} {od_rest an_rest : Option Addr} {sl_rest : Array (Option Value)} {oc_rest kV_rest dc_rest pm_rest cd_rest ct_rest : Value} {od_and_ an_and_ : Option Addr} {sl_and_ : Array (Option Value)} {oc_and_ kV_and_ dc_and_ pm_and_ cd_and_ ct_and_ : Value} {od_rand_ an_rand_ : Option Addr} {sl_rand_ : Array (Option Value)} {oc_rand_ kV_rand_ dc_rand_ pm_rand_ cd_rand_ ct_rand_ : Value} {od_or_ an_or_ : Option Addr} {sl_or_ : Array (Option Value)} {oc_or_ kV_or_ dc_or_ pm_or_ cd_or_ ct_or_ : Value} {od_ror_ an_ror_ : Option Addr} {sl_ror_ : Array (Option Value)} {oc_ror_ kV_ror_ dc_ror_ pm_ror_ cd_ror_ ct_ror_ : Value} {od_same an_same : Option Addr} {sl_same : Array (Option Value)} {oc_same kV_same dc_same pm_same cd_same ct_same : Value} {od_less an_less : Option Addr} {sl_less : Array (Option Value)} {oc_less kV_less dc_less pm_less cd_less ct_less : Value} {od_invert an_invert : Option Addr} {sl_invert : Array (Option Value)} {oc_invert kV_invert dc_invert pm_invert cd_invert ct_invert : Value} {od_eq_ an_eq_ : Option Addr} {sl_eq_ : Array (Option Value)} {oc_eq_ kV_eq_ dc_eq_ pm_eq_ cd_eq_ ct_eq_ : Value} {re_names : List Value} {od_names an_names : Option Addr} {sl_names : Array (Option Value)} {oc_names kV_names dc_names pm_names cd_names ct_names : Value} {re_nows : List Value} {od_nows an_nows : Option Addr} {sl_nows : Array (Option Value)} {oc_nows kV_nows dc_nows pm_nows cd_nows ct_nows : Value} {od_take an_take : Option Addr} {sl_take : Array (Option Value)} {oc_take kV_take dc_take pm_take cd_take ct_take : Value} {od_well an_well : Option Addr} {sl_well : Array (Option Value)} {oc_well kV_well dc_well pm_well cd_well ct_well : Value} {od_cells an_cells : Option Addr} {sl_cells : Array (Option Value)} {oc_cells kV_cells dc_cells pm_cells cd_cells ct_cells : Value} {od_integer an_integer : Option Addr} {sl_integer : Array (Option Value)} {oc_integer kV_integer dc_integer pm_integer cd_integer ct_integer : Value} {od_recipe an_recipe : Option Addr} {sl_recipe : Array (Option Value)} {oc_recipe kV_recipe dc_recipe pm_recipe cd_recipe ct_recipe : Value} {od_joinedL an_joinedL : Option Addr} {sl_joinedL : Array (Option Value)} {oc_joinedL kV_joinedL dc_joinedL pm_joinedL cd_joinedL ct_joinedL : Value} {od_sideL an_sideL : Option Addr} {sl_sideL : Array (Option Value)} {oc_sideL kV_sideL dc_sideL pm_sideL cd_sideL ct_sideL : Value} {od_builtL an_builtL : Option Addr} {sl_builtL : Array (Option Value)} {oc_builtL kV_builtL dc_builtL pm_builtL cd_builtL ct_builtL : Value} {od_signs an_signs : Option Addr} {sl_signs : Array (Option Value)} {oc_signs kV_signs dc_signs pm_signs cd_signs ct_signs : Value} {od_both an_both : Option Addr} {sl_both : Array (Option Value)} {oc_both kV_both dc_both pm_both cd_both ct_both : Value} {od_leafL an_leafL : Option Addr} {sl_leafL : Array (Option Value)} {oc_leafL kV_leafL dc_leafL pm_leafL cd_leafL ct_leafL : Value} {od_changed an_changed : Option Addr} {sl_changed : Array (Option Value)} {oc_changed kV_changed dc_changed pm_changed cd_changed ct_changed : Value} {od_fits an_fits : Option Addr} {sl_fits : Array (Option Value)} {oc_fits kV_fits dc_fits pm_fits cd_fits ct_fits : Value} {od_law an_law : Option Addr} {sl_law : Array (Option Value)} {oc_law kV_law dc_law pm_law cd_law ct_law : Value} {od_Err an_Err : Option Addr} {sl_Err : Array (Option Value)} {oc_Err kV_Err dc_Err pm_Err cd_Err ct_Err : Value} {t8 : Tok} {nm_InvalidName q_InvalidName : Str} {N_InvalidName : Addr} {bs_InvalidName : List Value} {sn_InvalidName : List Str} {sub_InvalidName : List Value} {ab_InvalidName : Bool} {col_InvalidName : Option Bool} {dd_InvalidName : Option Addr} {m0_InvalidName m1_InvalidName m2_InvalidName m3_InvalidName m5_InvalidName : Option Value} {nm_InvalidDivisor q_InvalidDivisor : Str} {N_InvalidDivisor : Addr} {bs_InvalidDivisor : List Value} {sn_InvalidDivisor : List Str} {sub_InvalidDivisor : List Value} {ab_InvalidDivisor : Bool} {col_InvalidDivisor : Option Bool} {dd_InvalidDivisor : Option Addr} {m0_InvalidDivisor m1_InvalidDivisor m2_InvalidDivisor m3_InvalidDivisor m5_InvalidDivisor : Option Value} {fo_Add ro_Add : Option Value} {fo_Sub ro_Sub : Option Value} {fo_Mult ro_Mult : Option Value} {fo_BitAnd ro_BitAnd : Option Value} {fo_BitOr ro_BitOr : Option Value} {fo_FloorDiv ro_FloorDiv : Option Value}
    (aC_Value : PySem.W.nsIn K mainGlobals "Value" = some (some (.ref C_Value)))
    (pg_Value : PySem.W.plainGet K C_Value Str.empty = true)
    (hd_Value : PySem.W.hasDictIn K C_Value = true)
    (po_Value : PySem.W.plainOver K C_Value = true)
    (sa_Value : PySem.W.findIn K (.ref C_Value) "__setattr__" = some (some (.builtin "object.__setattr__")))
    (mk_Value : PySem.W.makesIn K C_Value = true)
    (kc_Value : PySem.W.keepIn K (.ref C_Value) = true)
    (aC_RunError : PySem.W.nsIn K mainGlobals "RunError" = some (some (.ref C_RunError)))
    (aC_InvalidName : PySem.W.nsIn K mainGlobals "InvalidName" = some (some (.ref C_InvalidName)))
    (aC_UnknownName : PySem.W.nsIn K mainGlobals "UnknownName" = some (some (.ref C_UnknownName)))
    (aC_InvalidDivisor : PySem.W.nsIn K mainGlobals "InvalidDivisor" = some (some (.ref C_InvalidDivisor)))
    (a_Value_init : PySem.W.findIn K (.ref C_Value) "__init__" = some (some (.ref f_Value_init)))
    (i_Value_init : PySem.W.isFn K (.ref f_Value_init) = true)
    (l_Value_init : K.lookup f_Value_init = some ⟨oc_Value_init, od_Value_init, .func (PySem.W.fnOf "__init__" "Value.__init__" (defArgs s_Value_init) (defBody s_Value_init) (defScope s_Value_init) .none kV_Value_init dc_Value_init pm_Value_init an_Value_init cd_Value_init ct_Value_init), sl_Value_init⟩)
    (c_Value_init : PySem.W.codeIn K cd_Value_init "Value.__init__" = true)
    (k_Value_init : PySem.W.keepIn K (.ref f_Value_init) = true)
    (a_check_name : PySem.W.nsIn K mainGlobals "check_name" = some (some (.ref f_check_name)))
    (l_check_name : K.lookup f_check_name = some ⟨oc_check_name, od_check_name, .func (PySem.W.fnOf "check_name" "check_name" (defArgs s_check_name) (defBody s_check_name) (defScope s_check_name) .none kV_check_name dc_check_name pm_check_name an_check_name cd_check_name ct_check_name), sl_check_name⟩)
    (c_check_name : PySem.W.codeIn K cd_check_name "check_name" = true)
    (k_check_name : PySem.W.keepIn K (.ref f_check_name) = true)
    (a_named : PySem.W.nsIn K mainGlobals "named" = some (some (.ref f_named)))
    (l_named : K.lookup f_named = some ⟨oc_named, od_named, .func (PySem.W.fnOf "named" "named" (defArgs s_named) (defBody s_named) (defScope s_named) .none kV_named dc_named pm_named an_named cd_named ct_named), sl_named⟩)
    (c_named : PySem.W.codeIn K cd_named "named" = true)
    (k_named : PySem.W.keepIn K (.ref f_named) = true)
    (a_now : PySem.W.nsIn K mainGlobals "now" = some (some (.ref f_now)))
    (l_now : K.lookup f_now = some ⟨oc_now, od_now, .func (PySem.W.fnOf "now" "now" (defArgs s_now) (defBody s_now) (defScope s_now) .none kV_now dc_now pm_now an_now cd_now ct_now), sl_now⟩)
    (c_now : PySem.W.codeIn K cd_now "now" = true)
    (k_now : PySem.W.keepIn K (.ref f_now) = true)
    (a_passed : PySem.W.nsIn K mainGlobals "passed" = some (some (.ref f_passed)))
    (l_passed : K.lookup f_passed = some ⟨oc_passed, od_passed, .func (PySem.W.fnOf "passed" "passed" (defArgs s_passed) (defBody s_passed) (defScope s_passed) .none kV_passed dc_passed pm_passed an_passed cd_passed ct_passed), sl_passed⟩)
    (c_passed : PySem.W.codeIn K cd_passed "passed" = true)
    (k_passed : PySem.W.keepIn K (.ref f_passed) = true)
    (a_number : PySem.W.nsIn K mainGlobals "number" = some (some (.ref f_number)))
    (l_number : K.lookup f_number = some ⟨oc_number, od_number, .func (PySem.W.fnOf "number" "number" (defArgs s_number) (defBody s_number) (defScope s_number) .none kV_number dc_number pm_number an_number cd_number ct_number), sl_number⟩)
    (c_number : PySem.W.codeIn K cd_number "number" = true)
    (k_number : PySem.W.keepIn K (.ref f_number) = true)
    (a_as_value : PySem.W.nsIn K mainGlobals "as_value" = some (some (.ref f_as_value)))
    (l_as_value : K.lookup f_as_value = some ⟨oc_as_value, od_as_value, .func (PySem.W.fnOf "as_value" "as_value" (defArgs s_as_value) (defBody s_as_value) (defScope s_as_value) .none kV_as_value dc_as_value pm_as_value an_as_value cd_as_value ct_as_value), sl_as_value⟩)
    (c_as_value : PySem.W.codeIn K cd_as_value "as_value" = true)
    (k_as_value : PySem.W.keepIn K (.ref f_as_value) = true)
    (a_joined : PySem.W.nsIn K mainGlobals "joined" = some (some (.ref f_joined)))
    (l_joined : K.lookup f_joined = some ⟨oc_joined, od_joined, .func (PySem.W.fnOf "joined" "joined" (defArgs s_joined) (defBody s_joined) (defScope s_joined) .none kV_joined dc_joined pm_joined an_joined cd_joined ct_joined), sl_joined⟩)
    (c_joined : PySem.W.codeIn K cd_joined "joined" = true)
    (k_joined : PySem.W.keepIn K (.ref f_joined) = true)
    (a_divided : PySem.W.nsIn K mainGlobals "divided" = some (some (.ref f_divided)))
    (l_divided : K.lookup f_divided = some ⟨oc_divided, od_divided, .func (PySem.W.fnOf "divided" "divided" (defArgs s_divided) (defBody s_divided) (defScope s_divided) .none kV_divided dc_divided pm_divided an_divided cd_divided ct_divided), sl_divided⟩)
    (c_divided : PySem.W.codeIn K cd_divided "divided" = true)
    (k_divided : PySem.W.keepIn K (.ref f_divided) = true)
    (a_add : PySem.W.findIn K (.ref C_Value) "__add__" = some (some (.ref f_add)))
    (i_add : PySem.W.isFn K (.ref f_add) = true)
    (l_add : K.lookup f_add = some ⟨oc_add, od_add, .func (PySem.W.fnOf "__add__" "Value.__add__" (defArgs s_add) (defBody s_add) (defScope s_add) .none kV_add dc_add pm_add an_add cd_add ct_add), sl_add⟩)
    (c_add : PySem.W.codeIn K cd_add "Value.__add__" = true)
    (k_add : PySem.W.keepIn K (.ref f_add) = true)
    (a_radd : PySem.W.findIn K (.ref C_Value) "__radd__" = some (some (.ref f_radd)))
    (i_radd : PySem.W.isFn K (.ref f_radd) = true)
    (l_radd : K.lookup f_radd = some ⟨oc_radd, od_radd, .func (PySem.W.fnOf "__radd__" "Value.__radd__" (defArgs s_radd) (defBody s_radd) (defScope s_radd) .none kV_radd dc_radd pm_radd an_radd cd_radd ct_radd), sl_radd⟩)
    (c_radd : PySem.W.codeIn K cd_radd "Value.__radd__" = true)
    (k_radd : PySem.W.keepIn K (.ref f_radd) = true)
    (a_sub : PySem.W.findIn K (.ref C_Value) "__sub__" = some (some (.ref f_sub)))
    (i_sub : PySem.W.isFn K (.ref f_sub) = true)
    (l_sub : K.lookup f_sub = some ⟨oc_sub, od_sub, .func (PySem.W.fnOf "__sub__" "Value.__sub__" (defArgs s_sub) (defBody s_sub) (defScope s_sub) .none kV_sub dc_sub pm_sub an_sub cd_sub ct_sub), sl_sub⟩)
    (c_sub : PySem.W.codeIn K cd_sub "Value.__sub__" = true)
    (k_sub : PySem.W.keepIn K (.ref f_sub) = true)
    (a_rsub : PySem.W.findIn K (.ref C_Value) "__rsub__" = some (some (.ref f_rsub)))
    (i_rsub : PySem.W.isFn K (.ref f_rsub) = true)
    (l_rsub : K.lookup f_rsub = some ⟨oc_rsub, od_rsub, .func (PySem.W.fnOf "__rsub__" "Value.__rsub__" (defArgs s_rsub) (defBody s_rsub) (defScope s_rsub) .none kV_rsub dc_rsub pm_rsub an_rsub cd_rsub ct_rsub), sl_rsub⟩)
    (c_rsub : PySem.W.codeIn K cd_rsub "Value.__rsub__" = true)
    (k_rsub : PySem.W.keepIn K (.ref f_rsub) = true)
    (a_mul : PySem.W.findIn K (.ref C_Value) "__mul__" = some (some (.ref f_mul)))
    (i_mul : PySem.W.isFn K (.ref f_mul) = true)
    (l_mul : K.lookup f_mul = some ⟨oc_mul, od_mul, .func (PySem.W.fnOf "__mul__" "Value.__mul__" (defArgs s_mul) (defBody s_mul) (defScope s_mul) .none kV_mul dc_mul pm_mul an_mul cd_mul ct_mul), sl_mul⟩)
    (c_mul : PySem.W.codeIn K cd_mul "Value.__mul__" = true)
    (k_mul : PySem.W.keepIn K (.ref f_mul) = true)
    (a_rmul : PySem.W.findIn K (.ref C_Value) "__rmul__" = some (some (.ref f_rmul)))
    (i_rmul : PySem.W.isFn K (.ref f_rmul) = true)
    (l_rmul : K.lookup f_rmul = some ⟨oc_rmul, od_rmul, .func (PySem.W.fnOf "__rmul__" "Value.__rmul__" (defArgs s_rmul) (defBody s_rmul) (defScope s_rmul) .none kV_rmul dc_rmul pm_rmul an_rmul cd_rmul ct_rmul), sl_rmul⟩)
    (c_rmul : PySem.W.codeIn K cd_rmul "Value.__rmul__" = true)
    (k_rmul : PySem.W.keepIn K (.ref f_rmul) = true)
    (a_floordiv : PySem.W.findIn K (.ref C_Value) "__floordiv__" = some (some (.ref f_floordiv)))
    (i_floordiv : PySem.W.isFn K (.ref f_floordiv) = true)
    (l_floordiv : K.lookup f_floordiv = some ⟨oc_floordiv, od_floordiv, .func (PySem.W.fnOf "__floordiv__" "Value.__floordiv__" (defArgs s_floordiv) (defBody s_floordiv) (defScope s_floordiv) .none kV_floordiv dc_floordiv pm_floordiv an_floordiv cd_floordiv ct_floordiv), sl_floordiv⟩)
    (c_floordiv : PySem.W.codeIn K cd_floordiv "Value.__floordiv__" = true)
    (k_floordiv : PySem.W.keepIn K (.ref f_floordiv) = true)
    (a_rest : PySem.W.findIn K (.ref C_Value) "rest" = some (some (.ref f_rest)))
    (i_rest : PySem.W.isFn K (.ref f_rest) = true)
    (l_rest : K.lookup f_rest = some ⟨oc_rest, od_rest, .func (PySem.W.fnOf "rest" "Value.rest" (defArgs s_rest) (defBody s_rest) (defScope s_rest) .none kV_rest dc_rest pm_rest an_rest cd_rest ct_rest), sl_rest⟩)
    (c_rest : PySem.W.codeIn K cd_rest "Value.rest" = true)
    (k_rest : PySem.W.keepIn K (.ref f_rest) = true)
    (a_and_ : PySem.W.findIn K (.ref C_Value) "__and__" = some (some (.ref f_and_)))
    (i_and_ : PySem.W.isFn K (.ref f_and_) = true)
    (l_and_ : K.lookup f_and_ = some ⟨oc_and_, od_and_, .func (PySem.W.fnOf "__and__" "Value.__and__" (defArgs s_and_) (defBody s_and_) (defScope s_and_) .none kV_and_ dc_and_ pm_and_ an_and_ cd_and_ ct_and_), sl_and_⟩)
    (c_and_ : PySem.W.codeIn K cd_and_ "Value.__and__" = true)
    (k_and_ : PySem.W.keepIn K (.ref f_and_) = true)
    (a_rand_ : PySem.W.findIn K (.ref C_Value) "__rand__" = some (some (.ref f_rand_)))
    (i_rand_ : PySem.W.isFn K (.ref f_rand_) = true)
    (l_rand_ : K.lookup f_rand_ = some ⟨oc_rand_, od_rand_, .func (PySem.W.fnOf "__rand__" "Value.__rand__" (defArgs s_rand_) (defBody s_rand_) (defScope s_rand_) .none kV_rand_ dc_rand_ pm_rand_ an_rand_ cd_rand_ ct_rand_), sl_rand_⟩)
    (c_rand_ : PySem.W.codeIn K cd_rand_ "Value.__rand__" = true)
    (k_rand_ : PySem.W.keepIn K (.ref f_rand_) = true)
    (a_or_ : PySem.W.findIn K (.ref C_Value) "__or__" = some (some (.ref f_or_)))
    (i_or_ : PySem.W.isFn K (.ref f_or_) = true)
    (l_or_ : K.lookup f_or_ = some ⟨oc_or_, od_or_, .func (PySem.W.fnOf "__or__" "Value.__or__" (defArgs s_or_) (defBody s_or_) (defScope s_or_) .none kV_or_ dc_or_ pm_or_ an_or_ cd_or_ ct_or_), sl_or_⟩)
    (c_or_ : PySem.W.codeIn K cd_or_ "Value.__or__" = true)
    (k_or_ : PySem.W.keepIn K (.ref f_or_) = true)
    (a_ror_ : PySem.W.findIn K (.ref C_Value) "__ror__" = some (some (.ref f_ror_)))
    (i_ror_ : PySem.W.isFn K (.ref f_ror_) = true)
    (l_ror_ : K.lookup f_ror_ = some ⟨oc_ror_, od_ror_, .func (PySem.W.fnOf "__ror__" "Value.__ror__" (defArgs s_ror_) (defBody s_ror_) (defScope s_ror_) .none kV_ror_ dc_ror_ pm_ror_ an_ror_ cd_ror_ ct_ror_), sl_ror_⟩)
    (c_ror_ : PySem.W.codeIn K cd_ror_ "Value.__ror__" = true)
    (k_ror_ : PySem.W.keepIn K (.ref f_ror_) = true)
    (a_same : PySem.W.findIn K (.ref C_Value) "same" = some (some (.ref f_same)))
    (i_same : PySem.W.isFn K (.ref f_same) = true)
    (l_same : K.lookup f_same = some ⟨oc_same, od_same, .func (PySem.W.fnOf "same" "Value.same" (defArgs s_same) (defBody s_same) (defScope s_same) .none kV_same dc_same pm_same an_same cd_same ct_same), sl_same⟩)
    (c_same : PySem.W.codeIn K cd_same "Value.same" = true)
    (k_same : PySem.W.keepIn K (.ref f_same) = true)
    (a_less : PySem.W.findIn K (.ref C_Value) "less" = some (some (.ref f_less)))
    (i_less : PySem.W.isFn K (.ref f_less) = true)
    (l_less : K.lookup f_less = some ⟨oc_less, od_less, .func (PySem.W.fnOf "less" "Value.less" (defArgs s_less) (defBody s_less) (defScope s_less) .none kV_less dc_less pm_less an_less cd_less ct_less), sl_less⟩)
    (c_less : PySem.W.codeIn K cd_less "Value.less" = true)
    (k_less : PySem.W.keepIn K (.ref f_less) = true)
    (a_invert : PySem.W.findIn K (.ref C_Value) "__invert__" = some (some (.ref f_invert)))
    (i_invert : PySem.W.isFn K (.ref f_invert) = true)
    (l_invert : K.lookup f_invert = some ⟨oc_invert, od_invert, .func (PySem.W.fnOf "__invert__" "Value.__invert__" (defArgs s_invert) (defBody s_invert) (defScope s_invert) .none kV_invert dc_invert pm_invert an_invert cd_invert ct_invert), sl_invert⟩)
    (c_invert : PySem.W.codeIn K cd_invert "Value.__invert__" = true)
    (k_invert : PySem.W.keepIn K (.ref f_invert) = true)
    (a_eq_ : PySem.W.findIn K (.ref C_Value) "__eq__" = some (some (.ref f_eq_)))
    (i_eq_ : PySem.W.isFn K (.ref f_eq_) = true)
    (l_eq_ : K.lookup f_eq_ = some ⟨oc_eq_, od_eq_, .func (PySem.W.fnOf "__eq__" "Value.__eq__" (defArgs s_eq_) (defBody s_eq_) (defScope s_eq_) .none kV_eq_ dc_eq_ pm_eq_ an_eq_ cd_eq_ ct_eq_), sl_eq_⟩)
    (c_eq_ : PySem.W.codeIn K cd_eq_ "Value.__eq__" = true)
    (k_eq_ : PySem.W.keepIn K (.ref f_eq_) = true)
    (pa_names : PySem.W.findIn K (.ref C_Value) "names" = some (some (.ref q_names)))
    (pt_names : PySem.W.specialIn K (.ref q_names) "__get__" = some (some (.builtin "property.__get__")))
    (pk_names : PySem.W.takesIn K (.ref q_names) = some true)
    (pr_names : PySem.W.recIn K q_names "property" = some (.ref f_names :: re_names))
    (l_names : K.lookup f_names = some ⟨oc_names, od_names, .func (PySem.W.fnOf "names" "Value.names" (defArgs s_names) (defBody s_names) (defScope s_names) .none kV_names dc_names pm_names an_names cd_names ct_names), sl_names⟩)
    (c_names : PySem.W.codeIn K cd_names "Value.names" = true)
    (k_names : PySem.W.keepIn K (.ref f_names) = true)
    (pa_nows : PySem.W.findIn K (.ref C_Value) "nows" = some (some (.ref q_nows)))
    (pt_nows : PySem.W.specialIn K (.ref q_nows) "__get__" = some (some (.builtin "property.__get__")))
    (pk_nows : PySem.W.takesIn K (.ref q_nows) = some true)
    (pr_nows : PySem.W.recIn K q_nows "property" = some (.ref f_nows :: re_nows))
    (l_nows : K.lookup f_nows = some ⟨oc_nows, od_nows, .func (PySem.W.fnOf "nows" "Value.nows" (defArgs s_nows) (defBody s_nows) (defScope s_nows) .none kV_nows dc_nows pm_nows an_nows cd_nows ct_nows), sl_nows⟩)
    (c_nows : PySem.W.codeIn K cd_nows "Value.nows" = true)
    (k_nows : PySem.W.keepIn K (.ref f_nows) = true)
    (a_take : PySem.W.nsIn K mainGlobals "_law_take" = some (some (.ref f_take)))
    (l_take : K.lookup f_take = some ⟨oc_take, od_take, .func (PySem.W.fnOf "_law_take" "_law_take" (defArgs s_take) (defBody s_take) (defScope s_take) .none kV_take dc_take pm_take an_take cd_take ct_take), sl_take⟩)
    (c_take : PySem.W.codeIn K cd_take "_law_take" = true)
    (k_take : PySem.W.keepIn K (.ref f_take) = true)
    (a_well : PySem.W.nsIn K mainGlobals "_law_well" = some (some (.ref f_well)))
    (l_well : K.lookup f_well = some ⟨oc_well, od_well, .func (PySem.W.fnOf "_law_well" "_law_well" (defArgs s_well) (defBody s_well) (defScope s_well) .none kV_well dc_well pm_well an_well cd_well ct_well), sl_well⟩)
    (c_well : PySem.W.codeIn K cd_well "_law_well" = true)
    (k_well : PySem.W.keepIn K (.ref f_well) = true)
    (a_cells : PySem.W.nsIn K mainGlobals "_law_cells" = some (some (.ref f_cells)))
    (l_cells : K.lookup f_cells = some ⟨oc_cells, od_cells, .func (PySem.W.fnOf "_law_cells" "_law_cells" (defArgs s_cells) (defBody s_cells) (defScope s_cells) .none kV_cells dc_cells pm_cells an_cells cd_cells ct_cells), sl_cells⟩)
    (c_cells : PySem.W.codeIn K cd_cells "_law_cells" = true)
    (k_cells : PySem.W.keepIn K (.ref f_cells) = true)
    (a_integer : PySem.W.nsIn K mainGlobals "_law_integer" = some (some (.ref f_integer)))
    (l_integer : K.lookup f_integer = some ⟨oc_integer, od_integer, .func (PySem.W.fnOf "_law_integer" "_law_integer" (defArgs s_integer) (defBody s_integer) (defScope s_integer) .none kV_integer dc_integer pm_integer an_integer cd_integer ct_integer), sl_integer⟩)
    (c_integer : PySem.W.codeIn K cd_integer "_law_integer" = true)
    (k_integer : PySem.W.keepIn K (.ref f_integer) = true)
    (a_recipe : PySem.W.nsIn K mainGlobals "_law_recipe" = some (some (.ref f_recipe)))
    (l_recipe : K.lookup f_recipe = some ⟨oc_recipe, od_recipe, .func (PySem.W.fnOf "_law_recipe" "_law_recipe" (defArgs s_recipe) (defBody s_recipe) (defScope s_recipe) .none kV_recipe dc_recipe pm_recipe an_recipe cd_recipe ct_recipe), sl_recipe⟩)
    (c_recipe : PySem.W.codeIn K cd_recipe "_law_recipe" = true)
    (k_recipe : PySem.W.keepIn K (.ref f_recipe) = true)
    (a_joinedL : PySem.W.nsIn K mainGlobals "_law_joined" = some (some (.ref f_joinedL)))
    (l_joinedL : K.lookup f_joinedL = some ⟨oc_joinedL, od_joinedL, .func (PySem.W.fnOf "_law_joined" "_law_joined" (defArgs s_joinedL) (defBody s_joinedL) (defScope s_joinedL) .none kV_joinedL dc_joinedL pm_joinedL an_joinedL cd_joinedL ct_joinedL), sl_joinedL⟩)
    (c_joinedL : PySem.W.codeIn K cd_joinedL "_law_joined" = true)
    (k_joinedL : PySem.W.keepIn K (.ref f_joinedL) = true)
    (a_sideL : PySem.W.nsIn K mainGlobals "_law_side" = some (some (.ref f_sideL)))
    (l_sideL : K.lookup f_sideL = some ⟨oc_sideL, od_sideL, .func (PySem.W.fnOf "_law_side" "_law_side" (defArgs s_sideL) (defBody s_sideL) (defScope s_sideL) .none kV_sideL dc_sideL pm_sideL an_sideL cd_sideL ct_sideL), sl_sideL⟩)
    (c_sideL : PySem.W.codeIn K cd_sideL "_law_side" = true)
    (k_sideL : PySem.W.keepIn K (.ref f_sideL) = true)
    (a_builtL : PySem.W.nsIn K mainGlobals "_law_built" = some (some (.ref f_builtL)))
    (l_builtL : K.lookup f_builtL = some ⟨oc_builtL, od_builtL, .func (PySem.W.fnOf "_law_built" "_law_built" (defArgs s_builtL) (defBody s_builtL) (defScope s_builtL) .none kV_builtL dc_builtL pm_builtL an_builtL cd_builtL ct_builtL), sl_builtL⟩)
    (c_builtL : PySem.W.codeIn K cd_builtL "_law_built" = true)
    (k_builtL : PySem.W.keepIn K (.ref f_builtL) = true)
    (a_signs : PySem.W.nsIn K mainGlobals "_law_signs" = some (some (.ref f_signs)))
    (l_signs : K.lookup f_signs = some ⟨oc_signs, od_signs, .func (PySem.W.fnOf "_law_signs" "_law_signs" (defArgs s_signs) (defBody s_signs) (defScope s_signs) .none kV_signs dc_signs pm_signs an_signs cd_signs ct_signs), sl_signs⟩)
    (c_signs : PySem.W.codeIn K cd_signs "_law_signs" = true)
    (k_signs : PySem.W.keepIn K (.ref f_signs) = true)
    (a_both : PySem.W.nsIn K mainGlobals "_law_both" = some (some (.ref f_both)))
    (l_both : K.lookup f_both = some ⟨oc_both, od_both, .func (PySem.W.fnOf "_law_both" "_law_both" (defArgs s_both) (defBody s_both) (defScope s_both) .none kV_both dc_both pm_both an_both cd_both ct_both), sl_both⟩)
    (c_both : PySem.W.codeIn K cd_both "_law_both" = true)
    (k_both : PySem.W.keepIn K (.ref f_both) = true)
    (a_leafL : PySem.W.nsIn K mainGlobals "_law_leaf" = some (some (.ref f_leafL)))
    (l_leafL : K.lookup f_leafL = some ⟨oc_leafL, od_leafL, .func (PySem.W.fnOf "_law_leaf" "_law_leaf" (defArgs s_leafL) (defBody s_leafL) (defScope s_leafL) .none kV_leafL dc_leafL pm_leafL an_leafL cd_leafL ct_leafL), sl_leafL⟩)
    (c_leafL : PySem.W.codeIn K cd_leafL "_law_leaf" = true)
    (k_leafL : PySem.W.keepIn K (.ref f_leafL) = true)
    (a_changed : PySem.W.nsIn K mainGlobals "_law_changed" = some (some (.ref f_changed)))
    (l_changed : K.lookup f_changed = some ⟨oc_changed, od_changed, .func (PySem.W.fnOf "_law_changed" "_law_changed" (defArgs s_changed) (defBody s_changed) (defScope s_changed) .none kV_changed dc_changed pm_changed an_changed cd_changed ct_changed), sl_changed⟩)
    (c_changed : PySem.W.codeIn K cd_changed "_law_changed" = true)
    (k_changed : PySem.W.keepIn K (.ref f_changed) = true)
    (a_fits : PySem.W.nsIn K mainGlobals "_law_fits" = some (some (.ref f_fits)))
    (l_fits : K.lookup f_fits = some ⟨oc_fits, od_fits, .func (PySem.W.fnOf "_law_fits" "_law_fits" (defArgs s_fits) (defBody s_fits) (defScope s_fits) .none kV_fits dc_fits pm_fits an_fits cd_fits ct_fits), sl_fits⟩)
    (c_fits : PySem.W.codeIn K cd_fits "_law_fits" = true)
    (k_fits : PySem.W.keepIn K (.ref f_fits) = true)
    (a_law : PySem.W.nsIn K mainGlobals "law" = some (some (.ref f_law)))
    (l_law : K.lookup f_law = some ⟨oc_law, od_law, .func (PySem.W.fnOf "law" "law" (defArgs s_law) (defBody s_law) (defScope s_law) .none kV_law dc_law pm_law an_law cd_law ct_law), sl_law⟩)
    (c_law : PySem.W.codeIn K cd_law "law" = true)
    (k_law : PySem.W.keepIn K (.ref f_law) = true)
    (in_RunError : PySem.W.findIn K (.ref C_RunError) "__init__" = some (some (.ref f_Err_init)))
    (l_Err : K.lookup f_Err_init = some ⟨oc_Err, od_Err, .func (PySem.W.fnOf "__init__" "RunError.__init__" (defArgs s_Err_init) (defBody s_Err_init) (defScope s_Err_init) .none kV_Err dc_Err pm_Err an_Err cd_Err ct_Err), sl_Err⟩)
    (c_Err : PySem.W.codeIn K cd_Err "RunError.__init__" = true)
    (k_Err : PySem.W.keepIn K (.ref f_Err_init) = true)
    (n_Value_signs : PySem.W.findIn K (.ref C_Value) "signs" = some none)
    (z_len : PySem.W.nsIn K mainGlobals "len" = some none)
    (a_MOST : PySem.W.nsIn K mainGlobals "MOST_LETTERS" = some (some (.int 8 t8)))
    (nv_InvalidName : PySem.W.findIn K (.ref C_InvalidName) "value" = some none)
    (in_InvalidName : PySem.W.findIn K (.ref C_InvalidName) "__init__" = some (some (.ref f_Err_init)))
    (tf_Err : PySem.W.typeIn K (.ref f_Err_init) = some (.type "function"))
    (xL_InvalidName : K.lookup C_InvalidName = some (excClassObj nm_InvalidName q_InvalidName C_InvalidName N_InvalidName bs_InvalidName [.ref C_RunError, .type "ValueError", .type "Exception", .type "BaseException", .type "object"] true sn_InvalidName sub_InvalidName ab_InvalidName col_InvalidName dd_InvalidName m0_InvalidName m1_InvalidName m2_InvalidName m3_InvalidName m5_InvalidName "ValueError.__new__"))
    (sa_InvalidName : PySem.W.findIn K (.ref C_InvalidName) "__setattr__" = some (some (.builtin "object.__setattr__")))
    (kC_InvalidName : PySem.W.keepIn K (.ref C_InvalidName) = true)
    (eC_InvalidName : PySem.W.subIn K (.ref C_InvalidName) (.type "BaseException") = some true)
    (tC_InvalidName : PySem.W.typeIn K (.ref C_InvalidName) = some (.type "type"))
    (hC_InvalidName : PySem.W.hasDictIn K C_InvalidName = true)
    (z_isinstance : PySem.W.nsIn K mainGlobals "isinstance" = some none)
    (ia_Value : PySem.W.findIn K (.ref C_Value) "__class__" = some (some (.builtin "object.__class__")))
    (ib : PySem.W.specialIn K (.builtin "object.__class__") "__get__" = some (some (.builtin "getset_descriptor.__get__")))
    (ic : PySem.W.takesIn K (.builtin "object.__class__") = some true)
    (im_Value : PySem.W.mroIn K C_Value (.type "object") = some true)
    (in_Value_NoneType : PySem.W.kitOne K (.type "NoneType") (.ref C_Value) = some false)
    (in_Value_bool : PySem.W.kitOne K (.type "bool") (.ref C_Value) = some false)
    (in_Value_int : PySem.W.kitOne K (.type "int") (.ref C_Value) = some false)
    (in_Value_str : PySem.W.kitOne K (.type "str") (.ref C_Value) = some false)
    (in_Value_list : PySem.W.kitOne K (.type "list") (.ref C_Value) = some false)
    (in_Value_tuple : PySem.W.kitOne K (.type "tuple") (.ref C_Value) = some false)
    (in_Value_dict : PySem.W.kitOne K (.type "dict") (.ref C_Value) = some false)
    (nv_InvalidDivisor : PySem.W.findIn K (.ref C_InvalidDivisor) "value" = some none)
    (in_InvalidDivisor : PySem.W.findIn K (.ref C_InvalidDivisor) "__init__" = some (some (.ref f_Err_init)))
    (xL_InvalidDivisor : K.lookup C_InvalidDivisor = some (excClassObj nm_InvalidDivisor q_InvalidDivisor C_InvalidDivisor N_InvalidDivisor bs_InvalidDivisor [.ref C_RunError, .type "ValueError", .type "Exception", .type "BaseException", .type "object"] true sn_InvalidDivisor sub_InvalidDivisor ab_InvalidDivisor col_InvalidDivisor dd_InvalidDivisor m0_InvalidDivisor m1_InvalidDivisor m2_InvalidDivisor m3_InvalidDivisor m5_InvalidDivisor "ValueError.__new__"))
    (sa_InvalidDivisor : PySem.W.findIn K (.ref C_InvalidDivisor) "__setattr__" = some (some (.builtin "object.__setattr__")))
    (kC_InvalidDivisor : PySem.W.keepIn K (.ref C_InvalidDivisor) = true)
    (eC_InvalidDivisor : PySem.W.subIn K (.ref C_InvalidDivisor) (.type "BaseException") = some true)
    (tC_InvalidDivisor : PySem.W.typeIn K (.ref C_InvalidDivisor) = some (.type "type"))
    (hC_InvalidDivisor : PySem.W.hasDictIn K C_InvalidDivisor = true)
    (z_sorted : PySem.W.nsIn K mainGlobals "sorted" = some none)
    (z_int : PySem.W.nsIn K mainGlobals "int" = some none)
    (z_abs : PySem.W.nsIn K mainGlobals "abs" = some none)
    (z_range : PySem.W.nsIn K mainGlobals "range" = some none)
    (sf_Value : PySem.W.selfFirst K C_Value = true)
    (si_Value : PySem.W.subIn K (.type "int") (.ref C_Value) = some false)
    (sj_Value : PySem.W.subIn K (.ref C_Value) (.type "int") = some false)
    (t1_Add : PySem.W.findIn K (.type "int") "__add__" = some fo_Add)
    (t2_Add : PySem.W.findIn K (.type "int") "__radd__" = some ro_Add)
    (t1_Sub : PySem.W.findIn K (.type "int") "__sub__" = some fo_Sub)
    (t2_Sub : PySem.W.findIn K (.type "int") "__rsub__" = some ro_Sub)
    (t1_Mult : PySem.W.findIn K (.type "int") "__mul__" = some fo_Mult)
    (t2_Mult : PySem.W.findIn K (.type "int") "__rmul__" = some ro_Mult)
    (t1_BitAnd : PySem.W.findIn K (.type "int") "__and__" = some fo_BitAnd)
    (t2_BitAnd : PySem.W.findIn K (.type "int") "__rand__" = some ro_BitAnd)
    (t1_BitOr : PySem.W.findIn K (.type "int") "__or__" = some fo_BitOr)
    (t2_BitOr : PySem.W.findIn K (.type "int") "__ror__" = some ro_BitOr)
    (t1_FloorDiv : PySem.W.findIn K (.type "int") "__floordiv__" = some fo_FloorDiv)
    (t2_FloorDiv : PySem.W.findIn K (.type "int") "__rfloordiv__" = some ro_FloorDiv)
    (rn_FloorDiv : PySem.W.findIn K (.ref C_Value) "__rfloordiv__" = some none)
    (z_tuple : PySem.W.nsIn K mainGlobals "tuple" = some none)
    (z_sum : PySem.W.nsIn K mainGlobals "sum" = some none)
    (z_repr : PySem.W.nsIn K mainGlobals "repr" = some none)
    (rv_Value_NoneType : PySem.W.subIn K (.ref C_Value) (.type "NoneType") = some false)
    (rv_Value_str : PySem.W.subIn K (.ref C_Value) (.type "str") = some false)
    (rv_Value_list : PySem.W.subIn K (.ref C_Value) (.type "list") = some false)
    (rv_Value_tuple : PySem.W.subIn K (.ref C_Value) (.type "tuple") = some false)
    (rv_Value_dict : PySem.W.subIn K (.ref C_Value) (.type "dict") = some false)
    (ne_Value : PySem.W.findIn K (.ref C_Value) "__ne__" = some (some (.builtin "object.__ne__")))
    (z_enumerate : PySem.W.nsIn K mainGlobals "enumerate" = some none)
    (z_max : PySem.W.nsIn K mainGlobals "max" = some none)
    (z_min : PySem.W.nsIn K mainGlobals "min" = some none)
    : ∃ (fd : FuncData), (∀ (s : Shared) (v : Value), BindsTo s fd ⟨[v], []⟩ [("script", v)]) ∧ ∀ base : Heap, K.In base → base.Ns mainGlobals mg → FnG l.prog w K mg base 56 fa fd ["script"] spLaw := by
  have e := hfa.symm.trans (PySem.W.mg_of X G a_law)
  cases e
  have Cls_Value : Cls K C_Value := ⟨pg_Value, hd_Value, po_Value, sa_Value⟩
  have mgC_Value : mg "Value" = some (.ref C_Value) := PySem.W.mg_of X G aC_Value
  have mgC_RunError : mg "RunError" = some (.ref C_RunError) := PySem.W.mg_of X G aC_RunError
  have mgC_InvalidName : mg "InvalidName" = some (.ref C_InvalidName) := PySem.W.mg_of X G aC_InvalidName
  have mgC_UnknownName : mg "UnknownName" = some (.ref C_UnknownName) := PySem.W.mg_of X G aC_UnknownName
  have mgC_InvalidDivisor : mg "InvalidDivisor" = some (.ref C_InvalidDivisor) := PySem.W.mg_of X G aC_InvalidDivisor
  have F_Value_init := fun_mk (st := s_Value_init) l_Value_init c_Value_init k_Value_init
  have B_Value_init := F_Value_init.binds (ps := ["self", "signs"]) fun _ _ _ _ _ _ us hl => match us, hl with | [_, _], _ => rfl
  have F_check_name := fun_mk (st := s_check_name) l_check_name c_check_name k_check_name
  have B_check_name := F_check_name.binds (ps := ["name"]) fun _ _ _ _ _ _ us hl => match us, hl with | [_], _ => rfl
  have F_named := fun_mk (st := s_named) l_named c_named k_named
  have B_named := F_named.binds (ps := ["name"]) fun _ _ _ _ _ _ us hl => match us, hl with | [_], _ => rfl
  have F_now := fun_mk (st := s_now) l_now c_now k_now
  have B_now := F_now.binds (ps := ["name"]) fun _ _ _ _ _ _ us hl => match us, hl with | [_], _ => rfl
  have F_passed := fun_mk (st := s_passed) l_passed c_passed k_passed
  have B_passed := F_passed.binds (ps := []) fun _ _ _ _ _ _ us hl => match us, hl with | [], _ => rfl
  have F_number := fun_mk (st := s_number) l_number c_number k_number
  have B_number := F_number.binds (ps := ["n"]) fun _ _ _ _ _ _ us hl => match us, hl with | [_], _ => rfl
  have F_as_value := fun_mk (st := s_as_value) l_as_value c_as_value k_as_value
  have B_as_value := F_as_value.binds (ps := ["thing"]) fun _ _ _ _ _ _ us hl => match us, hl with | [_], _ => rfl
  have F_joined := fun_mk (st := s_joined) l_joined c_joined k_joined
  have B_joined := F_joined.binds (ps := ["one", "sign", "other"]) fun _ _ _ _ _ _ us hl => match us, hl with | [_, _, _], _ => rfl
  have F_divided := fun_mk (st := s_divided) l_divided c_divided k_divided
  have B_divided := F_divided.binds (ps := ["value", "sign", "n"]) fun _ _ _ _ _ _ us hl => match us, hl with | [_, _, _], _ => rfl
  have F_add := fun_mk (st := s_add) l_add c_add k_add
  have B_add := F_add.binds (ps := ["self", "other"]) fun _ _ _ _ _ _ us hl => match us, hl with | [_, _], _ => rfl
  have F_radd := fun_mk (st := s_radd) l_radd c_radd k_radd
  have B_radd := F_radd.binds (ps := ["self", "other"]) fun _ _ _ _ _ _ us hl => match us, hl with | [_, _], _ => rfl
  have F_sub := fun_mk (st := s_sub) l_sub c_sub k_sub
  have B_sub := F_sub.binds (ps := ["self", "other"]) fun _ _ _ _ _ _ us hl => match us, hl with | [_, _], _ => rfl
  have F_rsub := fun_mk (st := s_rsub) l_rsub c_rsub k_rsub
  have B_rsub := F_rsub.binds (ps := ["self", "other"]) fun _ _ _ _ _ _ us hl => match us, hl with | [_, _], _ => rfl
  have F_mul := fun_mk (st := s_mul) l_mul c_mul k_mul
  have B_mul := F_mul.binds (ps := ["self", "other"]) fun _ _ _ _ _ _ us hl => match us, hl with | [_, _], _ => rfl
  have F_rmul := fun_mk (st := s_rmul) l_rmul c_rmul k_rmul
  have B_rmul := F_rmul.binds (ps := ["self", "other"]) fun _ _ _ _ _ _ us hl => match us, hl with | [_, _], _ => rfl
  have F_floordiv := fun_mk (st := s_floordiv) l_floordiv c_floordiv k_floordiv
  have B_floordiv := F_floordiv.binds (ps := ["self", "other"]) fun _ _ _ _ _ _ us hl => match us, hl with | [_, _], _ => rfl
  have F_rest := fun_mk (st := s_rest) l_rest c_rest k_rest
  have B_rest := F_rest.binds (ps := ["self", "n"]) fun _ _ _ _ _ _ us hl => match us, hl with | [_, _], _ => rfl
  have F_and_ := fun_mk (st := s_and_) l_and_ c_and_ k_and_
  have B_and_ := F_and_.binds (ps := ["self", "other"]) fun _ _ _ _ _ _ us hl => match us, hl with | [_, _], _ => rfl
  have F_rand_ := fun_mk (st := s_rand_) l_rand_ c_rand_ k_rand_
  have B_rand_ := F_rand_.binds (ps := ["self", "other"]) fun _ _ _ _ _ _ us hl => match us, hl with | [_, _], _ => rfl
  have F_or_ := fun_mk (st := s_or_) l_or_ c_or_ k_or_
  have B_or_ := F_or_.binds (ps := ["self", "other"]) fun _ _ _ _ _ _ us hl => match us, hl with | [_, _], _ => rfl
  have F_ror_ := fun_mk (st := s_ror_) l_ror_ c_ror_ k_ror_
  have B_ror_ := F_ror_.binds (ps := ["self", "other"]) fun _ _ _ _ _ _ us hl => match us, hl with | [_, _], _ => rfl
  have F_same := fun_mk (st := s_same) l_same c_same k_same
  have B_same := F_same.binds (ps := ["self", "other"]) fun _ _ _ _ _ _ us hl => match us, hl with | [_, _], _ => rfl
  have F_less := fun_mk (st := s_less) l_less c_less k_less
  have B_less := F_less.binds (ps := ["self", "other"]) fun _ _ _ _ _ _ us hl => match us, hl with | [_, _], _ => rfl
  have F_invert := fun_mk (st := s_invert) l_invert c_invert k_invert
  have B_invert := F_invert.binds (ps := ["self"]) fun _ _ _ _ _ _ us hl => match us, hl with | [_], _ => rfl
  have F_eq_ := fun_mk (st := s_eq_) l_eq_ c_eq_ k_eq_
  have B_eq_ := F_eq_.binds (ps := ["self", "other"]) fun _ _ _ _ _ _ us hl => match us, hl with | [_, _], _ => rfl
  have F_names := fun_mk (st := s_names) l_names c_names k_names
  have B_names := F_names.binds (ps := ["self"]) fun _ _ _ _ _ _ us hl => match us, hl with | [_], _ => rfl
  have F_nows := fun_mk (st := s_nows) l_nows c_nows k_nows
  have B_nows := F_nows.binds (ps := ["self"]) fun _ _ _ _ _ _ us hl => match us, hl with | [_], _ => rfl
  have F_take := fun_mk (st := s_take) l_take c_take k_take
  have B_take := F_take.binds (ps := ["well", "many"]) fun _ _ _ _ _ _ us hl => match us, hl with | [_, _], _ => rfl
  have F_well := fun_mk (st := s_well) l_well c_well k_well
  have B_well := F_well.binds (ps := ["script", "place"]) fun _ _ _ _ _ _ us hl => match us, hl with | [_, _], _ => rfl
  have F_cells := fun_mk (st := s_cells) l_cells c_cells k_cells
  have B_cells := F_cells.binds (ps := ["well", "many"]) fun _ _ _ _ _ _ us hl => match us, hl with | [_, _], _ => rfl
  have F_integer := fun_mk (st := s_integer) l_integer c_integer k_integer
  have B_integer := F_integer.binds (ps := ["well"]) fun _ _ _ _ _ _ us hl => match us, hl with | [_], _ => rfl
  have F_recipe := fun_mk (st := s_recipe) l_recipe c_recipe k_recipe
  have B_recipe := F_recipe.binds (ps := ["well", "cells_here", "most"]) fun _ _ _ _ _ _ us hl => match us, hl with | [_, _, _], _ => rfl
  have F_joinedL := fun_mk (st := s_joinedL) l_joinedL c_joinedL k_joinedL
  have B_joinedL := F_joinedL.binds (ps := ["sign", "one", "two"]) fun _ _ _ _ _ _ us hl => match us, hl with | [_, _, _], _ => rfl
  have F_sideL := fun_mk (st := s_sideL) l_sideL c_sideL k_sideL
  have B_sideL := F_sideL.binds (ps := ["recipe", "style"]) fun _ _ _ _ _ _ us hl => match us, hl with | [_, _], _ => rfl
  have F_builtL := fun_mk (st := s_builtL) l_builtL c_builtL k_builtL
  have B_builtL := F_builtL.binds (ps := ["recipe", "style"]) fun _ _ _ _ _ _ us hl => match us, hl with | [_, _], _ => rfl
  have F_signs := fun_mk (st := s_signs) l_signs c_signs k_signs
  have B_signs := F_signs.binds (ps := ["recipe"]) fun _ _ _ _ _ _ us hl => match us, hl with | [_], _ => rfl
  have F_both := fun_mk (st := s_both) l_both c_both k_both
  have B_both := F_both.binds (ps := ["one", "two"]) fun _ _ _ _ _ _ us hl => match us, hl with | [_, _], _ => rfl
  have F_leafL := fun_mk (st := s_leafL) l_leafL c_leafL k_leafL
  have B_leafL := F_leafL.binds (ps := ["well", "recipe", "cells_here"]) fun _ _ _ _ _ _ us hl => match us, hl with | [_, _, _], _ => rfl
  have F_changed := fun_mk (st := s_changed) l_changed c_changed k_changed
  have B_changed := F_changed.binds (ps := ["well", "recipe", "cells_here"]) fun _ _ _ _ _ _ us hl => match us, hl with | [_, _, _], _ => rfl
  have F_fits := fun_mk (st := s_fits) l_fits c_fits k_fits
  have B_fits := F_fits.binds (ps := ["well"]) fun _ _ _ _ _ _ us hl => match us, hl with | [_], _ => rfl
  have F_law := fun_mk (st := s_law) l_law c_law k_law
  have B_law := F_law.binds (ps := ["script"]) fun _ _ _ _ _ _ us hl => match us, hl with | [_], _ => rfl
  have F_Err_init := fun_mk (st := s_Err_init) l_Err c_Err k_Err
  have B_Err_init := F_Err_init.binds (ps := ["self", "value"]) fun _ _ _ _ _ _ us hl => match us, hl with | [_, _], _ => rfl
  refine ⟨PySem.W.fnOf "law" "law" (defArgs s_law) (defBody s_law) (defScope s_law) .none kV_law dc_law pm_law an_law cd_law ct_law, fun s v => .of_eq rfl, fun base _ _ => ?_⟩
  obtain ⟨cl, hcl⟩ : ∃ cl : Nat → Addr, cl = (fun n => match n with | 0 => C_Value | 10 => C_RunError | 11 => C_InvalidName | 14 => C_UnknownName | _ => C_InvalidDivisor) := ⟨_, rfl⟩
  have hc0 : C_Value = cl 0 := (congrFun hcl 0).symm
  have hc10 : C_RunError = cl 10 := (congrFun hcl 10).symm
  have hc11 : C_InvalidName = cl 11 := (congrFun hcl 11).symm
  have hc14 : C_UnknownName = cl 14 := (congrFun hcl 14).symm
  have hc15 : C_InvalidDivisor = cl 15 := (congrFun hcl 15).symm
  clear hcl
  subst hc0
  subst hc10
  subst hc11
  subst hc14
  subst hc15
  have okErr_init : FnOk l.prog w K mg base (L2.CX l.prog w) 1 f_Err_init _ ["self", "value"] (spXi K) := ok_Err_init F_Err_init
  have okValue_init : FnD l.prog w K mg base cl 1 f_Value_init _ ["self", "signs"] initF := ok_Value_init F_Value_init ⟨Cls_Value, n_Value_signs⟩
  have okcheck_name : FnD l.prog w K mg base cl 3 f_check_name _ ["name"] nameF := ok_check_name F_check_name (PySem.W.mg_none_of X G z_len) ⟨t8, PySem.W.mg_of X G a_MOST⟩ ⟨f_Err_init, _, ⟨⟨_, _, _, _, _, _, _, _, _, _, _, _, _, _, _, xL_InvalidName, rfl⟩, sa_InvalidName, eC_InvalidName, tC_InvalidName, kC_InvalidName⟩, nv_InvalidName, in_InvalidName, tf_Err, okErr_init, B_Err_init, mgC_InvalidName⟩
  have oknamed : FnD l.prog w K mg base cl 4 f_named _ ["name"] (namedF .named) := ok_named F_named (mk_callee okcheck_name (PySem.W.mg_of X G a_check_name) k_check_name B_check_name) ⟨f_Value_init, _, okValue_init, ⟨mk_Value, a_Value_init, i_Value_init, kc_Value⟩, mgC_Value, B_Value_init⟩
  have oknow : FnD l.prog w K mg base cl 4 f_now _ ["name"] (namedF .now) := ok_now F_now (mk_callee okcheck_name (PySem.W.mg_of X G a_check_name) k_check_name B_check_name) ⟨f_Value_init, _, okValue_init, ⟨mk_Value, a_Value_init, i_Value_init, kc_Value⟩, mgC_Value, B_Value_init⟩
  have okpassed : FnD l.prog w K mg base cl 3 f_passed _ [] passedF := ok_passed F_passed ⟨f_Value_init, _, okValue_init, ⟨mk_Value, a_Value_init, i_Value_init, kc_Value⟩, mgC_Value, B_Value_init⟩
  have oknumber : FnD l.prog w K mg base cl 3 f_number _ ["n"] numberF := ok_number F_number ⟨f_Value_init, _, okValue_init, ⟨mk_Value, a_Value_init, i_Value_init, kc_Value⟩, mgC_Value, B_Value_init⟩
  have okas_value : FnD l.prog w K mg base cl 4 f_as_value _ ["thing"] asF := ok_as_value F_as_value (PySem.W.mg_none_of X G z_isinstance) (isC_mk Cls_Value ia_Value ib ic im_Value in_Value_NoneType in_Value_bool in_Value_int in_Value_str in_Value_list in_Value_tuple in_Value_dict) mgC_Value (mk_callee oknumber (PySem.W.mg_of X G a_number) k_number B_number)
  have okjoined : FnD l.prog w K mg base cl 5 f_joined _ ["one", "sign", "other"] joinF := ok_joined F_joined ⟨f_Value_init, _, okValue_init, ⟨mk_Value, a_Value_init, i_Value_init, kc_Value⟩, mgC_Value, B_Value_init⟩ ⟨Cls_Value, n_Value_signs⟩ (mk_callee okas_value (PySem.W.mg_of X G a_as_value) k_as_value B_as_value)
  have okdivided : FnD l.prog w K mg base cl 6 f_divided _ ["value", "sign", "n"] divF := ok_divided F_divided ⟨f_Err_init, _, ⟨⟨_, _, _, _, _, _, _, _, _, _, _, _, _, _, _, xL_InvalidDivisor, rfl⟩, sa_InvalidDivisor, eC_InvalidDivisor, tC_InvalidDivisor, kC_InvalidDivisor⟩, nv_InvalidDivisor, in_InvalidDivisor, tf_Err, okErr_init, B_Err_init, mgC_InvalidDivisor⟩ (mk_callee okjoined (PySem.W.mg_of X G a_joined) k_joined B_joined)
  have okadd : FnD l.prog w K mg base cl 6 f_add _ ["self", "other"] (signF "+") := ok_add F_add (mk_callee okjoined (PySem.W.mg_of X G a_joined) k_joined B_joined)
  have okradd : FnD l.prog w K mg base cl 6 f_radd _ ["self", "other"] (signR "+") := ok_radd F_radd (mk_callee okjoined (PySem.W.mg_of X G a_joined) k_joined B_joined)
  have oksub : FnD l.prog w K mg base cl 6 f_sub _ ["self", "other"] (signF "-") := ok_sub F_sub (mk_callee okjoined (PySem.W.mg_of X G a_joined) k_joined B_joined)
  have okrsub : FnD l.prog w K mg base cl 6 f_rsub _ ["self", "other"] (signR "-") := ok_rsub F_rsub (mk_callee okjoined (PySem.W.mg_of X G a_joined) k_joined B_joined)
  have okmul : FnD l.prog w K mg base cl 6 f_mul _ ["self", "other"] (signF "*") := ok_mul F_mul (mk_callee okjoined (PySem.W.mg_of X G a_joined) k_joined B_joined)
  have okrmul : FnD l.prog w K mg base cl 6 f_rmul _ ["self", "other"] (signR "*") := ok_rmul F_rmul (mk_callee okjoined (PySem.W.mg_of X G a_joined) k_joined B_joined)
  have okfloordiv : FnD l.prog w K mg base cl 7 f_floordiv _ ["self", "other"] (restF "//") := ok_floordiv F_floordiv (mk_callee okdivided (PySem.W.mg_of X G a_divided) k_divided B_divided)
  have okrest : FnD l.prog w K mg base cl 7 f_rest _ ["self", "n"] (restF "mod") := ok_rest F_rest (mk_callee okdivided (PySem.W.mg_of X G a_divided) k_divided B_divided)
  have okand_ : FnD l.prog w K mg base cl 6 f_and_ _ ["self", "other"] (signF "&") := ok_and_ F_and_ (mk_callee okjoined (PySem.W.mg_of X G a_joined) k_joined B_joined)
  have okrand_ : FnD l.prog w K mg base cl 6 f_rand_ _ ["self", "other"] (signR "&") := ok_rand_ F_rand_ (mk_callee okjoined (PySem.W.mg_of X G a_joined) k_joined B_joined)
  have okor_ : FnD l.prog w K mg base cl 6 f_or_ _ ["self", "other"] (signF "|") := ok_or_ F_or_ (mk_callee okjoined (PySem.W.mg_of X G a_joined) k_joined B_joined)
  have okror_ : FnD l.prog w K mg base cl 6 f_ror_ _ ["self", "other"] (signR "|") := ok_ror_ F_ror_ (mk_callee okjoined (PySem.W.mg_of X G a_joined) k_joined B_joined)
  have oksame : FnD l.prog w K mg base cl 6 f_same _ ["self", "other"] (signF "=") := ok_same F_same (mk_callee okjoined (PySem.W.mg_of X G a_joined) k_joined B_joined)
  have okless : FnD l.prog w K mg base cl 6 f_less _ ["self", "other"] (signF "<") := ok_less F_less (mk_callee okjoined (PySem.W.mg_of X G a_joined) k_joined B_joined)
  have okinvert : FnD l.prog w K mg base cl 3 f_invert _ ["self"] invF := ok_invert F_invert ⟨f_Value_init, _, okValue_init, ⟨mk_Value, a_Value_init, i_Value_init, kc_Value⟩, mgC_Value, B_Value_init⟩ ⟨Cls_Value, n_Value_signs⟩
  have okeq_ : FnD l.prog w K mg base cl 1 f_eq_ _ ["self", "other"] eqF := ok_eq_ F_eq_ ⟨Cls_Value, n_Value_signs⟩ (PySem.W.mg_none_of X G z_isinstance) (isC_mk Cls_Value ia_Value ib ic im_Value in_Value_NoneType in_Value_bool in_Value_int in_Value_str in_Value_list in_Value_tuple in_Value_dict) mgC_Value
  have oknames : FnD l.prog w K mg base cl 1 f_names _ ["self"] (namesF .named) := ok_names F_names ⟨Cls_Value, n_Value_signs⟩ (PySem.W.mg_none_of X G z_sorted)
  have oknows : FnD l.prog w K mg base cl 1 f_nows _ ["self"] (namesF .now) := ok_nows F_nows ⟨Cls_Value, n_Value_signs⟩ (PySem.W.mg_none_of X G z_sorted)
  have oktake : FnD l.prog w K mg base cl 1 f_take _ ["well", "many"] takeF := ok_take F_take (PySem.W.mg_none_of X G z_int)
  have okwell : FnD l.prog w K mg base cl 1 f_well _ ["script", "place"] wellF := ok_well F_well (PySem.W.mg_none_of X G z_len) (PySem.W.mg_none_of X G z_int) (PySem.W.mg_none_of X G z_abs)
  have okcells : FnD l.prog w K mg base cl 2 f_cells _ ["well", "many"] cellsF := ok_cells F_cells (mk_callee oktake (PySem.W.mg_of X G a_take) k_take B_take) (PySem.W.mg_none_of X G z_range) (PySem.W.mg_none_of X G z_int) (PySem.W.mg_none_of X G z_len)
  have okinteger : FnD l.prog w K mg base cl 2 f_integer _ ["well"] integerF := ok_integer F_integer (mk_callee oktake (PySem.W.mg_of X G a_take) k_take B_take)
  have okrecipe : ∀ N, FnD l.prog w K mg base cl (N+9) f_recipe (PySem.W.fnOf "_law_recipe" "_law_recipe" (defArgs s_recipe) (defBody s_recipe) (defScope s_recipe) .none kV_recipe dc_recipe pm_recipe an_recipe cd_recipe ct_recipe) ["well", "cells_here", "most"] (recF (10^20) N) := fn_rec (lv := fun N => (N+9)) (F := fun N => (recF (10^20) N)) rec_none fun N okrecipe => by
    exact ok_recipe F_recipe (mk_callee oktake (PySem.W.mg_of X G a_take) k_take B_take) (mk_callee okinteger (PySem.W.mg_of X G a_integer) k_integer B_integer) (PySem.W.mg_none_of X G z_len) (mk_callee okrecipe (PySem.W.mg_of X G a_recipe) k_recipe B_recipe)
  have okrecipe : FnD l.prog w K mg base cl 23 f_recipe _ ["well", "cells_here", "most"] (recF (10^20) 14) := okrecipe 14
  have okjoinedL : FnD l.prog w K mg base cl 7 f_joinedL _ ["sign", "one", "two"] joinedF := ok_joinedL F_joinedL ⟨⟨f_add, _, ⟨sf_Value, a_add, i_add⟩, okadd, B_add⟩, ⟨⟨_, a_radd, .inr ⟨_, rfl⟩⟩, ⟨_, _, t1_Add, t2_Add⟩, si_Value⟩, ⟨f_radd, _, ⟨a_radd, i_radd, sj_Value⟩, okradd, B_radd⟩⟩ ⟨⟨f_sub, _, ⟨sf_Value, a_sub, i_sub⟩, oksub, B_sub⟩, ⟨⟨_, a_rsub, .inr ⟨_, rfl⟩⟩, ⟨_, _, t1_Sub, t2_Sub⟩, si_Value⟩, ⟨f_rsub, _, ⟨a_rsub, i_rsub, sj_Value⟩, okrsub, B_rsub⟩⟩ ⟨⟨f_mul, _, ⟨sf_Value, a_mul, i_mul⟩, okmul, B_mul⟩, ⟨⟨_, a_rmul, .inr ⟨_, rfl⟩⟩, ⟨_, _, t1_Mult, t2_Mult⟩, si_Value⟩, ⟨f_rmul, _, ⟨a_rmul, i_rmul, sj_Value⟩, okrmul, B_rmul⟩⟩ ⟨⟨f_and_, _, ⟨sf_Value, a_and_, i_and_⟩, okand_, B_and_⟩, ⟨⟨_, a_rand_, .inr ⟨_, rfl⟩⟩, ⟨_, _, t1_BitAnd, t2_BitAnd⟩, si_Value⟩, ⟨f_rand_, _, ⟨a_rand_, i_rand_, sj_Value⟩, okrand_, B_rand_⟩⟩ ⟨⟨f_or_, _, ⟨sf_Value, a_or_, i_or_⟩, okor_, B_or_⟩, ⟨⟨_, a_ror_, .inr ⟨_, rfl⟩⟩, ⟨_, _, t1_BitOr, t2_BitOr⟩, si_Value⟩, ⟨f_ror_, _, ⟨a_ror_, i_ror_, sj_Value⟩, okror_, B_ror_⟩⟩ ⟨f_same, _, oksame, Cls_Value, ⟨a_same, i_same, k_same⟩, B_same⟩ ⟨f_less, _, okless, Cls_Value, ⟨a_less, i_less, k_less⟩, B_less⟩
  have okbuiltL : ∀ N, FnD l.prog w K mg base cl (2*N+9) f_builtL (PySem.W.fnOf "_law_built" "_law_built" (defArgs s_builtL) (defBody s_builtL) (defScope s_builtL) .none kV_builtL dc_builtL pm_builtL an_builtL cd_builtL ct_builtL) ["recipe", "style"] (builtF N) := fn_rec (lv := fun N => (2*N+9)) (F := fun N => (builtF N)) built_none fun N okbuiltL => by
    have oksideL : FnD l.prog w K mg base cl (2*N+10) f_sideL _ ["recipe", "style"] (sideF N) := ok_sideL F_sideL (mk_callee okbuiltL (PySem.W.mg_of X G a_builtL) k_builtL B_builtL)
    exact ok_builtL F_builtL (mk_callee oknamed (PySem.W.mg_of X G a_named) k_named B_named) (mk_callee oknow (PySem.W.mg_of X G a_now) k_now B_now) (mk_callee okpassed (PySem.W.mg_of X G a_passed) k_passed B_passed) (mk_callee oknumber (PySem.W.mg_of X G a_number) k_number B_number) ⟨f_invert, _, ⟨a_invert, i_invert⟩, okinvert, B_invert⟩ (mk_callee okbuiltL (PySem.W.mg_of X G a_builtL) k_builtL B_builtL) ⟨⟨f_floordiv, _, ⟨sf_Value, a_floordiv, i_floordiv⟩, okfloordiv, B_floordiv⟩, ⟨⟨_, rn_FloorDiv, .inl rfl⟩, ⟨_, _, t1_FloorDiv, t2_FloorDiv⟩, si_Value⟩⟩ ⟨f_rest, _, okrest, Cls_Value, ⟨a_rest, i_rest, k_rest⟩, B_rest⟩ (mk_callee okjoinedL (PySem.W.mg_of X G a_joinedL) k_joinedL B_joinedL) (mk_callee oksideL (PySem.W.mg_of X G a_sideL) k_sideL B_sideL)
  have okbuiltL : FnD l.prog w K mg base cl 37 f_builtL _ ["recipe", "style"] (builtF 14) := okbuiltL 14
  have oksigns : ∀ N, FnD l.prog w K mg base cl (N+9) f_signs (PySem.W.fnOf "_law_signs" "_law_signs" (defArgs s_signs) (defBody s_signs) (defScope s_signs) .none kV_signs dc_signs pm_signs an_signs cd_signs ct_signs) ["recipe"] (signsF N) := fn_rec (lv := fun N => (N+9)) (F := fun N => (signsF N)) signs_none fun N oksigns => by
    exact ok_signs F_signs (PySem.W.mg_none_of X G z_isinstance) (PySem.W.mg_none_of X G z_tuple) (mk_callee oksigns (PySem.W.mg_of X G a_signs) k_signs B_signs) (PySem.W.mg_none_of X G z_int) (PySem.W.mg_none_of X G z_sum)
  have oksigns : FnD l.prog w K mg base cl 23 f_signs _ ["recipe"] (signsF 14) := oksigns 14
  have okboth : FnG l.prog w K mg base 3 f_both _ ["one", "two"] (spD cl 2 bothF) := ok_both F_both (PySem.W.mg_none_of X G z_repr) (revC_mk rv_Value_NoneType sj_Value rv_Value_str rv_Value_list rv_Value_tuple rv_Value_dict) (isC_mk Cls_Value ia_Value ib ic im_Value in_Value_NoneType in_Value_bool in_Value_int in_Value_str in_Value_list in_Value_tuple in_Value_dict) ⟨f_eq_, _, ⟨a_eq_, i_eq_, ne_Value, im_Value⟩, okeq_, B_eq_⟩
  have okleafL : FnD l.prog w K mg base cl 2 f_leafL _ ["well", "recipe", "cells_here"] leafF := ok_leafL F_leafL (mk_callee oktake (PySem.W.mg_of X G a_take) k_take B_take) (PySem.W.mg_none_of X G z_int) (PySem.W.mg_none_of X G z_len)
  have okchanged : ∀ N, FnD l.prog w K mg base cl (N+40) f_changed (PySem.W.fnOf "_law_changed" "_law_changed" (defArgs s_changed) (defBody s_changed) (defScope s_changed) .none kV_changed dc_changed pm_changed an_changed cd_changed ct_changed) ["well", "recipe", "cells_here"] (changedF N) := fn_rec (lv := fun N => (N+40)) (F := fun N => (changedF N)) changed_none fun N okchanged => by
    exact ok_changed F_changed (mk_callee oksigns (PySem.W.mg_of X G a_signs) k_signs B_signs) (mk_callee okleafL (PySem.W.mg_of X G a_leafL) k_leafL B_leafL) (PySem.W.mg_none_of X G z_enumerate) (PySem.W.mg_none_of X G z_isinstance) (PySem.W.mg_none_of X G z_tuple) (mk_callee oktake (PySem.W.mg_of X G a_take) k_take B_take) (PySem.W.mg_none_of X G z_len) (mk_callee okchanged (PySem.W.mg_of X G a_changed) k_changed B_changed)
  have okchanged : FnD l.prog w K mg base cl 54 f_changed _ ["well", "recipe", "cells_here"] (changedF 14) := okchanged 14
  have okfits : FnG l.prog w K mg base 55 f_fits _ ["well"] (spD cl 1 fitsF) := ok_fits F_fits (mk_callee okcells (PySem.W.mg_of X G a_cells) k_cells B_cells) (mk_callee oktake (PySem.W.mg_of X G a_take) k_take B_take) (mk_callee okrecipe (PySem.W.mg_of X G a_recipe) k_recipe B_recipe) (mk_callee okchanged (PySem.W.mg_of X G a_changed) k_changed B_changed) (mk_callee oksigns (PySem.W.mg_of X G a_signs) k_signs B_signs) (mk_callee okbuiltL (PySem.W.mg_of X G a_builtL) k_builtL B_builtL) (PySem.W.mg_none_of X G z_repr) (mk_calleeG okboth (PySem.W.mg_of X G a_both) k_both B_both) ⟨f_rest, _, okrest, Cls_Value, ⟨a_rest, i_rest, k_rest⟩, B_rest⟩ ⟨f_invert, _, ⟨a_invert, i_invert⟩, okinvert, B_invert⟩
  have oklaw : FnG l.prog w K mg base 56 fa _ ["script"] (spD cl 1 lawF) := ok_law F_law (PySem.W.mg_none_of X G z_range) (PySem.W.mg_none_of X G z_max) (PySem.W.mg_none_of X G z_min) (PySem.W.mg_none_of X G z_len) (mk_callee okwell (PySem.W.mg_of X G a_well) k_well B_well) (mk_calleeG okfits (PySem.W.mg_of X G a_fits) k_fits B_fits)
  exact FnG.imp oklaw (law_enter fun ns m Φ h1 h2 => ⟨ns, rfl, h1, h2⟩)
end ER
open PySem PySem.W PyProof.Rows
set_option maxRecDepth 100000 in
set_option maxHeartbeats 0 in
theorem PySem.Challenge.cw_elderruns_k04_values_built_unlike_holds : PySem.Challenge.rw_elderruns_k04_values_built_unlike.Holds := by
  w_on; o_law; k_head; (case hw => w_witness2)
  k_fill
  refine ER.walkG (l := PySem.Challenge.rw_elderruns_k04_values_built_unlike) (n := 63) (k := 56) (x := "script") (sp := fun _ => ER.spLaw) rfl (by decide) rfl ⟨rfl, by decide, by decide⟩ (fun w h Y => PySem.W.kIn_of Y) ?F ?S
  case F =>
    intro w mg fa h KX G hmg
    refine' ER.all_mk KX G hmg ?aC_Value ?pg_Value ?hd_Value ?po_Value ?sa_Value ?mk_Value ?kc_Value ?aC_RunError ?aC_InvalidName ?aC_UnknownName ?aC_InvalidDivisor ?a_Value_init ?i_Value_init ?l_Value_init ?c_Value_init ?k_Value_init ?a_check_name ?l_check_name ?c_check_name ?k_check_name ?a_named ?l_named ?c_named ?k_named ?a_now ?l_now ?c_now ?k_now ?a_passed ?l_passed ?c_passed ?k_passed ?a_number ?l_number ?c_number ?k_number ?a_as_value ?l_as_value ?c_as_value ?k_as_value ?a_joined ?l_joined ?c_joined ?k_joined ?a_divided ?l_divided ?c_divided ?k_divided ?a_add ?i_add ?l_add ?c_add ?k_add ?a_radd ?i_radd ?l_radd ?c_radd ?k_radd ?a_sub ?i_sub ?l_sub ?c_sub ?k_sub ?a_rsub ?i_rsub ?l_rsub ?c_rsub ?k_rsub ?a_mul ?i_mul ?l_mul ?c_mul ?k_mul ?a_rmul ?i_rmul ?l_rmul ?c_rmul ?k_rmul ?a_floordiv ?i_floordiv ?l_floordiv ?c_floordiv ?k_floordiv ?a_rest ?i_rest ?l_rest ?c_rest ?k_rest ?a_and_ ?i_and_ ?l_and_ ?c_and_ ?k_and_ ?a_rand_ ?i_rand_ ?l_rand_ ?c_rand_ ?k_rand_ ?a_or_ ?i_or_ ?l_or_ ?c_or_ ?k_or_ ?a_ror_ ?i_ror_ ?l_ror_ ?c_ror_ ?k_ror_ ?a_same ?i_same ?l_same ?c_same ?k_same ?a_less ?i_less ?l_less ?c_less ?k_less ?a_invert ?i_invert ?l_invert ?c_invert ?k_invert ?a_eq_ ?i_eq_ ?l_eq_ ?c_eq_ ?k_eq_ ?pa_names ?pt_names ?pk_names ?pr_names ?l_names ?c_names ?k_names ?pa_nows ?pt_nows ?pk_nows ?pr_nows ?l_nows ?c_nows ?k_nows ?a_take ?l_take ?c_take ?k_take ?a_well ?l_well ?c_well ?k_well ?a_cells ?l_cells ?c_cells ?k_cells ?a_integer ?l_integer ?c_integer ?k_integer ?a_recipe ?l_recipe ?c_recipe ?k_recipe ?a_joinedL ?l_joinedL ?c_joinedL ?k_joinedL ?a_sideL ?l_sideL ?c_sideL ?k_sideL ?a_builtL ?l_builtL ?c_builtL ?k_builtL ?a_signs ?l_signs ?c_signs ?k_signs ?a_both ?l_both ?c_both ?k_both ?a_leafL ?l_leafL ?c_leafL ?k_leafL ?a_changed ?l_changed ?c_changed ?k_changed ?a_fits ?l_fits ?c_fits ?k_fits ?a_law ?l_law ?c_law ?k_law ?in_RunError ?l_Err ?c_Err ?k_Err ?n_Value_signs ?z_len ?a_MOST ?nv_InvalidName ?in_InvalidName ?tf_Err ?xL_InvalidName ?sa_InvalidName ?kC_InvalidName ?eC_InvalidName ?tC_InvalidName ?hC_InvalidName ?z_isinstance ?ia_Value ?ib ?ic ?im_Value ?in_Value_NoneType ?in_Value_bool ?in_Value_int ?in_Value_str ?in_Value_list ?in_Value_tuple ?in_Value_dict ?nv_InvalidDivisor ?in_InvalidDivisor ?xL_InvalidDivisor ?sa_InvalidDivisor ?kC_InvalidDivisor ?eC_InvalidDivisor ?tC_InvalidDivisor ?hC_InvalidDivisor ?z_sorted ?z_int ?z_abs ?z_range ?sf_Value ?si_Value ?sj_Value ?t1_Add ?t2_Add ?t1_Sub ?t2_Sub ?t1_Mult ?t2_Mult ?t1_BitAnd ?t2_BitAnd ?t1_BitOr ?t2_BitOr ?t1_FloorDiv ?t2_FloorDiv ?rn_FloorDiv ?z_tuple ?z_sum ?z_repr ?rv_Value_NoneType ?rv_Value_str ?rv_Value_list ?rv_Value_tuple ?rv_Value_dict ?ne_Value ?z_enumerate ?z_max ?z_min
    (case aC_Value => k_is)
    (case pg_Value => k_is)
    (case hd_Value => k_is)
    (case po_Value => k_is)
    (case sa_Value => k_is)
    (case mk_Value => k_is)
    (case kc_Value => k_is)
    (case aC_RunError => k_is)
    (case aC_InvalidName => k_is)
    (case aC_UnknownName => k_is)
    (case aC_InvalidDivisor => k_is)
    (case a_Value_init => k_is)
    (case i_Value_init => k_is)
    (case l_Value_init => k_is)
    (case c_Value_init => k_is)
    (case k_Value_init => k_is)
    (case a_check_name => k_is)
    (case l_check_name => k_is)
    (case c_check_name => k_is)
    (case k_check_name => k_is)
    (case a_named => k_is)
    (case l_named => k_is)
    (case c_named => k_is)
    (case k_named => k_is)
    (case a_now => k_is)
    (case l_now => k_is)
    (case c_now => k_is)
    (case k_now => k_is)
    (case a_passed => k_is)
    (case l_passed => k_is)
    (case c_passed => k_is)
    (case k_passed => k_is)
    (case a_number => k_is)
    (case l_number => k_is)
    (case c_number => k_is)
    (case k_number => k_is)
    (case a_as_value => k_is)
    (case l_as_value => k_is)
    (case c_as_value => k_is)
    (case k_as_value => k_is)
    (case a_joined => k_is)
    (case l_joined => k_is)
    (case c_joined => k_is)
    (case k_joined => k_is)
    (case a_divided => k_is)
    (case l_divided => k_is)
    (case c_divided => k_is)
    (case k_divided => k_is)
    (case a_add => k_is)
    (case i_add => k_is)
    (case l_add => k_is)
    (case c_add => k_is)
    (case k_add => k_is)
    (case a_radd => k_is)
    (case i_radd => k_is)
    (case l_radd => k_is)
    (case c_radd => k_is)
    (case k_radd => k_is)
    (case a_sub => k_is)
    (case i_sub => k_is)
    (case l_sub => k_is)
    (case c_sub => k_is)
    (case k_sub => k_is)
    (case a_rsub => k_is)
    (case i_rsub => k_is)
    (case l_rsub => k_is)
    (case c_rsub => k_is)
    (case k_rsub => k_is)
    (case a_mul => k_is)
    (case i_mul => k_is)
    (case l_mul => k_is)
    (case c_mul => k_is)
    (case k_mul => k_is)
    (case a_rmul => k_is)
    (case i_rmul => k_is)
    (case l_rmul => k_is)
    (case c_rmul => k_is)
    (case k_rmul => k_is)
    (case a_floordiv => k_is)
    (case i_floordiv => k_is)
    (case l_floordiv => k_is)
    (case c_floordiv => k_is)
    (case k_floordiv => k_is)
    (case a_rest => k_is)
    (case i_rest => k_is)
    (case l_rest => k_is)
    (case c_rest => k_is)
    (case k_rest => k_is)
    (case a_and_ => k_is)
    (case i_and_ => k_is)
    (case l_and_ => k_is)
    (case c_and_ => k_is)
    (case k_and_ => k_is)
    (case a_rand_ => k_is)
    (case i_rand_ => k_is)
    (case l_rand_ => k_is)
    (case c_rand_ => k_is)
    (case k_rand_ => k_is)
    (case a_or_ => k_is)
    (case i_or_ => k_is)
    (case l_or_ => k_is)
    (case c_or_ => k_is)
    (case k_or_ => k_is)
    (case a_ror_ => k_is)
    (case i_ror_ => k_is)
    (case l_ror_ => k_is)
    (case c_ror_ => k_is)
    (case k_ror_ => k_is)
    (case a_same => k_is)
    (case i_same => k_is)
    (case l_same => k_is)
    (case c_same => k_is)
    (case k_same => k_is)
    (case a_less => k_is)
    (case i_less => k_is)
    (case l_less => k_is)
    (case c_less => k_is)
    (case k_less => k_is)
    (case a_invert => k_is)
    (case i_invert => k_is)
    (case l_invert => k_is)
    (case c_invert => k_is)
    (case k_invert => k_is)
    (case a_eq_ => k_is)
    (case i_eq_ => k_is)
    (case l_eq_ => k_is)
    (case c_eq_ => k_is)
    (case k_eq_ => k_is)
    (case pa_names => k_is)
    (case pt_names => k_is)
    (case pk_names => k_is)
    (case pr_names => k_is)
    (case l_names => k_is)
    (case c_names => k_is)
    (case k_names => k_is)
    (case pa_nows => k_is)
    (case pt_nows => k_is)
    (case pk_nows => k_is)
    (case pr_nows => k_is)
    (case l_nows => k_is)
    (case c_nows => k_is)
    (case k_nows => k_is)
    (case a_take => k_is)
    (case l_take => k_is)
    (case c_take => k_is)
    (case k_take => k_is)
    (case a_well => k_is)
    (case l_well => k_is)
    (case c_well => k_is)
    (case k_well => k_is)
    (case a_cells => k_is)
    (case l_cells => k_is)
    (case c_cells => k_is)
    (case k_cells => k_is)
    (case a_integer => k_is)
    (case l_integer => k_is)
    (case c_integer => k_is)
    (case k_integer => k_is)
    (case a_recipe => k_is)
    (case l_recipe => k_is)
    (case c_recipe => k_is)
    (case k_recipe => k_is)
    (case a_joinedL => k_is)
    (case l_joinedL => k_is)
    (case c_joinedL => k_is)
    (case k_joinedL => k_is)
    (case a_sideL => k_is)
    (case l_sideL => k_is)
    (case c_sideL => k_is)
    (case k_sideL => k_is)
    (case a_builtL => k_is)
    (case l_builtL => k_is)
    (case c_builtL => k_is)
    (case k_builtL => k_is)
    (case a_signs => k_is)
    (case l_signs => k_is)
    (case c_signs => k_is)
    (case k_signs => k_is)
    (case a_both => k_is)
    (case l_both => k_is)
    (case c_both => k_is)
    (case k_both => k_is)
    (case a_leafL => k_is)
    (case l_leafL => k_is)
    (case c_leafL => k_is)
    (case k_leafL => k_is)
    (case a_changed => k_is)
    (case l_changed => k_is)
    (case c_changed => k_is)
    (case k_changed => k_is)
    (case a_fits => k_is)
    (case l_fits => k_is)
    (case c_fits => k_is)
    (case k_fits => k_is)
    (case a_law => k_is)
    (case l_law => k_is)
    (case c_law => k_is)
    (case k_law => k_is)
    (case in_RunError => k_is)
    (case l_Err => k_is)
    (case c_Err => k_is)
    (case k_Err => k_is)
    (case n_Value_signs => k_is)
    (case z_len => k_is)
    (case a_MOST => k_is)
    (case nv_InvalidName => k_is)
    (case in_InvalidName => k_is)
    (case tf_Err => k_is)
    (case xL_InvalidName => k_is)
    (case sa_InvalidName => k_is)
    (case kC_InvalidName => k_is)
    (case eC_InvalidName => k_is)
    (case tC_InvalidName => k_is)
    (case hC_InvalidName => k_is)
    (case z_isinstance => k_is)
    (case ia_Value => k_is)
    (case ib => k_is)
    (case ic => k_is)
    (case im_Value => k_is)
    (case in_Value_NoneType => kernel_rfl)
    (case in_Value_bool => kernel_rfl)
    (case in_Value_int => kernel_rfl)
    (case in_Value_str => kernel_rfl)
    (case in_Value_list => kernel_rfl)
    (case in_Value_tuple => kernel_rfl)
    (case in_Value_dict => kernel_rfl)
    (case nv_InvalidDivisor => k_is)
    (case in_InvalidDivisor => k_is)
    (case xL_InvalidDivisor => k_is)
    (case sa_InvalidDivisor => k_is)
    (case kC_InvalidDivisor => k_is)
    (case eC_InvalidDivisor => k_is)
    (case tC_InvalidDivisor => k_is)
    (case hC_InvalidDivisor => k_is)
    (case z_sorted => k_is)
    (case z_int => k_is)
    (case z_abs => k_is)
    (case z_range => k_is)
    (case sf_Value => k_is)
    (case si_Value => k_is)
    (case sj_Value => k_is)
    (case t1_Add => k_is)
    (case t2_Add => k_is)
    (case t1_Sub => k_is)
    (case t2_Sub => k_is)
    (case t1_Mult => k_is)
    (case t2_Mult => k_is)
    (case t1_BitAnd => k_is)
    (case t2_BitAnd => k_is)
    (case t1_BitOr => k_is)
    (case t2_BitOr => k_is)
    (case t1_FloorDiv => k_is)
    (case t2_FloorDiv => k_is)
    (case rn_FloorDiv => k_is)
    (case z_tuple => k_is)
    (case z_sum => k_is)
    (case z_repr => k_is)
    (case rv_Value_NoneType => k_is)
    (case rv_Value_str => k_is)
    (case rv_Value_list => k_is)
    (case rv_Value_tuple => k_is)
    (case rv_Value_dict => k_is)
    (case ne_Value => k_is)
    (case z_enumerate => k_is)
    (case z_max => k_is)
    (case z_min => k_is)
  case S =>
    intro w H a ns hl hO hS
    refine ER.law_sp ?nl hl hO hS
    (case nl => kernel_rfl)

