import PyProof.Rows.All
import Wide.All
import OpenK.AllK
import Wide.FinOn
import PyProof.EqAt
import PyProof.EqKinds
import PyProof.TupleCall
import HandS.ForMost
import HandS.Evl
import HandS.IsInst
import HandS.Conv
import HandS.TupAny
import HandS.Style
import HandS.NoneIn
import HandS.Zip
import HandS.Flow
import HandS.Steps
import HandS.TupMul
import HandS.ExcInit
import HandS.ExcField
import HandS.ExcIs
import HandS.ExcValue
import KE.KExcIs
import PyProof.NeKinds
import PySem.Challenge.RW_numberwall_k00_errors
section
set_option Elab.async false
set_option linter.all false
set_option maxRecDepth 100000
set_option maxHeartbeats 2000000
/-! RS: what a reading comes to, told over plain data. G: the part of the abstract heap that stays for ever (data); H: all of it. -/
namespace RS
open PySem L2

abbrev Sub (G H : Hp) : Prop := ∀ a o, G a = some o → H a = some o
theorem Sub.refl (H : Hp) : Sub H H := fun _ _ h => h
theorem Sub.trans {G H I : Hp} (a : Sub G H) (b : Sub H I) : Sub G I := fun x o h => b x o (a x o h)
theorem Sub.none {G H : Hp} (a : Sub G H) {x : Addr} (h : H x = Option.none) : G x = Option.none := by
  cases e : G x with
  | none => rfl
  | some o => rw [a x o e] at h; cases h

mutual
/-- the value stands for the data -/
inductive DA (K : PySem.W.Frag) (G : Hp) : V → PyData → Prop
  | non : DA K G .non .none
  | bl (b : Bool) : DA K G (.bl b) (.bool b)
  | int (i : Int) : DA K G (.int i) (.int i)
  | str (x : Str) : DA K G (.str x) (.str x)
  | lst {a : Addr} {xs : List V} {ds : List PyData} : G a = some (.lst xs) → DAs K G xs ds → DA K G (.ref a) (.list ds)
  | tup {a : Addr} {xs : List V} {ds : List PyData} : SqT K G a xs → DAs K G xs ds → DA K G (.ref a) (.tuple ds)
  | opq {a : Addr} {kvs : List (Key × V)} : G a = some (.dK kvs) → DA K G (.ref a) (.dict [(.str Str.empty, .int (a : Int))])
  | obj {a C dx : Addr} {fs : List (Str × V)} {kvs : List (PyData × PyData)} : G a = some (.ins C dx fs) → Cls K C → DFs K G fs kvs → DA K G (.ref a) (.dict ((.none, .int (C : Int)) :: kvs))
  | exc {a C d : Addr} {fs : List (Str × V)} {kvs : List (PyData × PyData)} : G a = some (exo a C (some d)) → G d = some (exd d fs) → DFs K G fs kvs → DA K G (.ref a) (.dict ((.bool true, .int (C : Int)) :: kvs))
  | exn {a C : Addr} : G a = some (exo a C none) → DA K G (.ref a) (.dict [(.bool false, .int (C : Int))])
inductive DAs (K : PySem.W.Frag) (G : Hp) : List V → List PyData → Prop
  | nil : DAs K G [] []
  | cons {v : V} {vs : List V} {d : PyData} {ds : List PyData} : DA K G v d → DAs K G vs ds → DAs K G (v :: vs) (d :: ds)
inductive DFs (K : PySem.W.Frag) (G : Hp) : List (Str × V) → List (PyData × PyData) → Prop
  | nil : DFs K G [] []
  | cons {f : Str} {v : V} {fs : List (Str × V)} {d : PyData} {kvs : List (PyData × PyData)} : DA K G v d → DFs K G fs kvs → DFs K G ((f, v) :: fs) ((.str f, d) :: kvs)
end

theorem sub_rd {G H : Hp} {a : Addr} {u : HO} (e : Sub G H) (h : Rd G a u) : Rd H a u := Evl.ex_rd e h
theorem sub_t {K : PySem.W.Frag} {G H : Hp} {a : Addr} {xs : List V} (e : Sub G H) (h : SqT K G a xs) : SqT K H a xs := Evl.ex_t e h

section
variable {K : PySem.W.Frag} {G H : Hp}
mutual
theorem DA.mono (e : Sub G H) : ∀ {v : V} {d : PyData}, DA K G v d → DA K H v d
  | _, _, .non => .non
  | _, _, .bl b => .bl b
  | _, _, .int i => .int i
  | _, _, .str x => .str x
  | _, _, .lst h r => .lst (e _ _ h) (DAs.mono e r)
  | _, _, .tup h r => .tup (sub_t e h) (DAs.mono e r)
  | _, _, .opq h => .opq (e _ _ h)
  | _, _, .obj h c r => .obj (e _ _ h) c (DFs.mono e r)
  | _, _, .exc h c r => .exc (e _ _ h) (e _ _ c) (DFs.mono e r)
  | _, _, .exn h => .exn (e _ _ h)
theorem DAs.mono (e : Sub G H) : ∀ {vs : List V} {ds : List PyData}, DAs K G vs ds → DAs K H vs ds
  | _, _, .nil => .nil
  | _, _, .cons h r => .cons (DA.mono e h) (DAs.mono e r)
theorem DFs.mono (e : Sub G H) : ∀ {fs : List (Str × V)} {ds : List (PyData × PyData)}, DFs K G fs ds → DFs K H fs ds
  | _, _, .nil => .nil
  | _, _, .cons h r => .cons (DA.mono e h) (DFs.mono e r)
end
theorem DAs.length : ∀ {vs : List V} {ds : List PyData}, DAs K G vs ds → vs.length = ds.length
  | _, _, .nil => rfl
  | _, _, .cons _ r => by rw [List.length_cons, List.length_cons, DAs.length r]
theorem DAs.get : ∀ {vs : List V} {ds : List PyData} {i : Nat} {d : PyData}, DAs K G vs ds → ds[i]? = some d → ∃ v, vs[i]? = some v ∧ DA K G v d
  | _, _, _, _, .nil, e => by simp at e
  | _, _, 0, _, .cons r _, e => by simp at e; subst e; exact ⟨_, rfl, r⟩
  | _, _, i + 1, x, .cons _ t, e => by
    obtain ⟨u, h1, h2⟩ := DAs.get (i := i) (d := x) t (by simpa using e)
    exact ⟨u, by simpa using h1, h2⟩
theorem DAs.getV : ∀ {vs : List V} {ds : List PyData} {i : Nat} {v : V}, DAs K G vs ds → vs[i]? = some v → ∃ d, ds[i]? = some d ∧ DA K G v d
  | _, _, _, _, .nil, e => by simp at e
  | _, _, 0, _, .cons r _, e => by simp at e; subst e; exact ⟨_, rfl, r⟩
  | _, _, i + 1, x, .cons _ t, e => by
    obtain ⟨u, h1, h2⟩ := DAs.getV (i := i) (v := x) t (by simpa using e)
    exact ⟨u, by simpa using h1, h2⟩
theorem DAs.append : ∀ {vs ws : List V} {ds es : List PyData}, DAs K G vs ds → DAs K G ws es → DAs K G (vs ++ ws) (ds ++ es)
  | _, _, _, _, .nil, s => s
  | _, _, _, _, .cons h r, s => .cons h (DAs.append r s)
theorem DAs.take : ∀ (n : Nat) {vs : List V} {ds : List PyData}, DAs K G vs ds → DAs K G (vs.take n) (ds.take n)
  | 0, _, _, _ => .nil
  | _ + 1, _, _, .nil => .nil
  | n + 1, _, _, .cons h r => .cons h (DAs.take n r)
theorem DAs.drop : ∀ (n : Nat) {vs : List V} {ds : List PyData}, DAs K G vs ds → DAs K G (vs.drop n) (ds.drop n)
  | 0, _, _, h => h
  | _ + 1, _, _, .nil => .nil
  | n + 1, _, _, .cons _ r => DAs.drop n r
theorem DAs.reverse : ∀ {vs : List V} {ds : List PyData}, DAs K G vs ds → DAs K G vs.reverse ds.reverse
  | _, _, .nil => .nil
  | _, _, .cons h r => by
    rw [List.reverse_cons, List.reverse_cons]
    exact DAs.append (DAs.reverse r) (.cons h .nil)
theorem DAs.set : ∀ (i : Nat) {vs : List V} {ds : List PyData} {v : V} {d : PyData}, DA K G v d → DAs K G vs ds → DAs K G (vs.set i v) (ds.set i d)
  | _, _, _, _, _, _, .nil => .nil
  | 0, _, _, _, _, h, .cons _ r => .cons h r
  | i + 1, _, _, _, _, h, .cons q r => .cons q (DAs.set i h r)
theorem DAs.dropLast {vs : List V} {ds : List PyData} (h : DAs K G vs ds) : DAs K G vs.dropLast ds.dropLast := by
  rw [List.dropLast_eq_take, List.dropLast_eq_take, h.length]
  exact h.take _
theorem DAs.rep {vs : List V} {ds : List PyData} (h : DAs K G vs ds) : ∀ k : Nat, DAs K G (List.replicate k vs).flatten (List.replicate k ds).flatten
  | 0 => .nil
  | k + 1 => by
    rw [List.replicate_succ, List.replicate_succ, List.flatten_cons, List.flatten_cons]
    exact h.append (h.rep k)
theorem DAs.nil_iff {vs : List V} {ds : List PyData} (h : DAs K G vs ds) : vs = [] ↔ ds = [] := by
  cases h with
  | nil => simp
  | cons _ _ => simp
theorem DAs.ints : ∀ {ns : List Int}, DAs K G (ns.map V.int) (ns.map PyData.int)
  | [] => .nil
  | n :: r => .cons (.int n) DAs.ints
theorem DAs.of_ints : ∀ {ns : List Int} {vs : List V}, DAs K G vs (ns.map PyData.int) → vs = ns.map V.int
  | [], _, .nil => rfl
  | n :: r, _, .cons h t => by
    cases h
    rw [DAs.of_ints t]
    rfl
theorem DAs.of_bls : ∀ {ns : List Bool} {vs : List V}, DAs K G vs (ns.map PyData.bool) → vs = ns.map V.bl
  | [], _, .nil => rfl
  | n :: r, _, .cons h t => by
    cases h
    rw [DAs.of_bls t]
    rfl
end

/-! ### the state at hand -/
inductive Sl where
  | d (x : PyData)
  | own (xs : List PyData)
  | pen (c : Nat)
abbrev En := List (Option Sl)

/-- what a pen's dict holds -/
structure PenD (kvs : List (Key × V)) (ca : Addr) (at_ dg ct bl : Int) : Prop where
  len : kvs.length = 5
  cells : valV kvs (Sum.inr "cells" : Key) = some (.ref ca)
  at_ : valV kvs (Sum.inr "at" : Key) = some (.int at_)
  digits : valV kvs (Sum.inr "digits" : Key) = some (.int dg)
  count : valV kvs (Sum.inr "count" : Key) = some (.int ct)
  blend : valV kvs (Sum.inr "blend" : Key) = some (.int bl)
/-- the law's pen, at p, at most c draws behind it -/
structure PenAt (K : PySem.W.Frag) (G H : Hp) (p : Addr) (c : Nat) : Prop where
  ex : ∃ (kvs : List (Key × V)) (ca : Addr) (ns : List Int) (at_ dg ct bl : Int), H p = some (.dK kvs) ∧ PenD kvs ca at_ dg ct bl ∧
    G ca = some (.lst (ns.map V.int)) ∧ ns.length ≤ 63 ∧ 0 ≤ at_ ∧ 0 ≤ dg ∧ 0 ≤ ct ∧ ct ≤ c ∧ 0 ≤ bl ∧ bl < 2147483648
theorem PenAt.mono {K : PySem.W.Frag} {G G' H H' : Hp} {p : Addr} {c c' : Nat} (h : PenAt K G H p c) (g : Sub G G') (k : ∀ o, H p = some o → H' p = some o) (hc : c ≤ c') : PenAt K G' H' p c' := by
  obtain ⟨kvs, ca, ns, a, d, t, b, h1, hp, h2, h3, h4, h5, h6, h7, h8⟩ := h.ex
  exact ⟨kvs, ca, ns, a, d, t, b, k _ h1, hp, g _ _ h2, h3, h4, h5, h6, by omega, h8⟩
theorem PenAt.there {K : PySem.W.Frag} {G H : Hp} {p : Addr} {c : Nat} (h : PenAt K G H p c) : ∃ kvs, H p = some (.dK kvs) := by
  obtain ⟨_, _, _, _, _, _, _, h1, _⟩ := h.ex
  exact ⟨_, h1⟩

/-- where a piece of code began: G0 what stood for ever, P what it must leave as it is, T what was tracked -/
structure Bs where
  G0 : Hp
  P : Hp
  T : Addr → Prop
  pp : Addr

structure SA (K : PySem.W.Frag) (b : Bs) (G H : Hp) (σ : L2.St) (ρ : En) : Prop where
  sub : Sub G H
  gg : Sub b.G0 G
  new : ∀ a, b.G0 a = none → b.T a → G a = none
  keep : Sub b.P H
  trk : ∀ a, b.T a → H a ≠ none
  ptr : ∀ a, b.P a ≠ none → b.T a
  gtr : ∀ a, b.G0 a ≠ none → b.T a
  dat : ∀ (i : Nat) (x : PyData), ρ[i]? = some (some (Sl.d x)) → ∃ v, σ[i]? = some (some v) ∧ DA K G v x
  own : ∀ (i : Nat) (xs : List PyData), ρ[i]? = some (some (Sl.own xs)) → ∃ a vs, σ[i]? = some (some (.ref a)) ∧ G a = none ∧ b.P a = none ∧ H a = some (.lst vs) ∧ DAs K G vs xs ∧ ¬ b.T a
  sep : ∀ (i j : Nat) (xs ys : List PyData) (a : Addr), ρ[i]? = some (some (Sl.own xs)) → ρ[j]? = some (some (Sl.own ys)) → i ≠ j → σ[i]? = some (some (.ref a)) → σ[j]? ≠ some (some (.ref a))
  pen : ∀ (i c : Nat), ρ[i]? = some (some (Sl.pen c)) → ∃ p, σ[i]? = some (some (.ref p)) ∧ G p = none ∧ b.P p = none ∧ PenAt K G H p c
  penp : ∀ (i c : Nat), ρ[i]? = some (some (Sl.pen c)) → σ[i]? = some (some (.ref b.pp))
  onep : ∀ (i j c c' : Nat), ρ[i]? = some (some (Sl.pen c)) → ρ[j]? = some (some (Sl.pen c')) → i = j
  len : σ.length = ρ.length

/-- one step that only lays new things -/
structure Step (G H G2 H2 : Hp) : Prop where
  gg : Sub G G2
  sub : Sub G2 H2
  hh : Sub H H2
  new : ∀ a, G a = none → H a ≠ none → G2 a = none
theorem Step.refl {G H : Hp} (s : Sub G H) : Step G H G H := ⟨Sub.refl G, s, Sub.refl H, fun _ h _ => h⟩
theorem Step.trans {G H G1 H1 G2 H2 : Hp} (a : Step G H G1 H1) (b : Step G1 H1 G2 H2) : Step G H G2 H2 :=
  ⟨a.gg.trans b.gg, b.sub, a.hh.trans b.hh, fun x h t => b.new x (a.new x h t) fun z => t ((a.hh).none z)⟩
theorem Step.lay {G H : Hp} (s : Sub G H) {p : Addr} (o : HO) (h : H p = none) : Step G H (upd G p o) (upd H p o) := by
  have hg : G p = none := s.none h
  refine ⟨fun a u e => ?_, fun a u e => ?_, fun a u e => ?_, fun a e t => ?_⟩
  · rw [upd_ne (ne_of_none e hg)]; exact e
  · by_cases ha : a = p
    · subst ha; rw [upd_same] at e ⊢; exact e
    · rw [upd_ne ha] at e ⊢; exact s a u e
  · rw [upd_ne (ne_of_none e h)]; exact e
  · by_cases ha : a = p
    · subst ha; exact absurd h t
    · rw [upd_ne ha]; exact e
/-- a thing laid that is not for ever -/
theorem Step.layH {G H : Hp} (s : Sub G H) {p : Addr} (o : HO) (h : H p = none) : Step G H G (upd H p o) := by
  refine ⟨Sub.refl G, fun a u e => ?_, fun a u e => ?_, fun a e t => e⟩
  · rw [upd_ne (ne_of_none (s a u e) h)]; exact s a u e
  · rw [upd_ne (ne_of_none e h)]; exact e

section
variable {K : PySem.W.Frag} {b : Bs} {G H G2 H2 : Hp} {σ : L2.St} {ρ : En}
theorem SA.step (S : SA K b G H σ ρ) (t : Step G H G2 H2) : SA K b G2 H2 σ ρ where
  sub := t.sub
  gg := S.gg.trans t.gg
  new := fun a h q => t.new a (S.new a h q) (S.trk a q)
  keep := S.keep.trans t.hh
  trk := fun a q z => S.trk a q (t.hh.none z)
  ptr := S.ptr
  gtr := S.gtr
  dat := fun i x e => let ⟨v, h1, h2⟩ := S.dat i x e; ⟨v, h1, h2.mono t.gg⟩
  own := fun i xs e => let ⟨a, vs, h1, h2, h3, h4, h5, h6⟩ := S.own i xs e; ⟨a, vs, h1, t.new a h2 (by rw [h4]; exact fun z => nomatch z), h3, t.hh _ _ h4, h5.mono t.gg, h6⟩
  sep := S.sep
  pen := fun i c e => let ⟨p, h1, h2, h3, h4⟩ := S.pen i c e; ⟨p, h1, t.new p h2 (by obtain ⟨_, q⟩ := h4.there; rw [q]; exact fun z => nomatch z), h3, h4.mono t.gg (fun o q => t.hh _ _ q) (Nat.le_refl _)⟩
  penp := S.penp
  onep := S.onep
  len := S.len
/-- no list of one's own stands at a -/
def NoOwn (σ : L2.St) (ρ : En) (a : Addr) : Prop := ∀ (i : Nat) (xs : List PyData), ρ[i]? = some (some (Sl.own xs)) → σ[i]? ≠ some (some (V.ref a))
/-- the same state, told from here on -/
abbrev Bs.here (b : Bs) (G H : Hp) (σ : L2.St) (ρ : En) : Bs := ⟨G, b.P, fun a => H a ≠ none ∧ NoOwn σ ρ a, b.pp⟩
theorem SA.noG (S : SA K b G H σ ρ) {a : Addr} (h : G a ≠ none) : NoOwn σ ρ a := fun i xs e z => by
  obtain ⟨a', _, h1, h2, _⟩ := S.own i xs e
  rw [z] at h1
  cases h1
  exact h h2
theorem SA.noP (S : SA K b G H σ ρ) {a : Addr} (h : b.P a ≠ none) : NoOwn σ ρ a := fun i xs e z => by
  obtain ⟨a', _, h1, _, h2, _⟩ := S.own i xs e
  rw [z] at h1
  cases h1
  exact h h2
theorem SA.noT (S : SA K b G H σ ρ) {a : Addr} (h : b.T a) : NoOwn σ ρ a := fun i xs e z => by
  obtain ⟨a', _, h1, _, _, _, _, h2⟩ := S.own i xs e
  rw [z] at h1
  cases h1
  exact h2 h
theorem SA.here (S : SA K b G H σ ρ) : SA K (b.here G H σ ρ) G H σ ρ where
  sub := S.sub
  gg := Sub.refl G
  new := fun a h _ => h
  keep := S.keep
  trk := fun a h => h.1
  ptr := fun a h => by
    refine ⟨?_, S.noP h⟩
    cases e : b.P a with
    | none => exact absurd e h
    | some o =>
      rw [S.keep a o e]
      exact fun z => nomatch z
  gtr := fun a h => by
    refine ⟨?_, S.noG h⟩
    cases e : G a with
    | none => exact absurd e h
    | some o =>
      rw [S.sub a o e]
      exact fun z => nomatch z
  dat := S.dat
  own := fun i xs e => by
    obtain ⟨a, vs, h1, h2, h3, h4, h5, _⟩ := S.own i xs e
    exact ⟨a, vs, h1, h2, h3, h4, h5, fun z => z.2 i xs e h1⟩
  sep := S.sep
  pen := S.pen
  penp := S.penp
  onep := S.onep
  len := S.len
theorem SA.back {σ' : L2.St} {ρ' : En} (S : SA K b G H σ ρ) (S' : SA K (b.here G H σ ρ) G2 H2 σ' ρ') : SA K b G2 H2 σ' ρ' where
  sub := S'.sub
  gg := S.gg.trans S'.gg
  new := fun a h q => S'.new a (S.new a h q) ⟨S.trk a q, S.noT q⟩
  keep := S'.keep
  trk := fun a q => S'.trk a ⟨S.trk a q, S.noT q⟩
  ptr := S.ptr
  gtr := S.gtr
  dat := S'.dat
  own := fun i xs e => by
    obtain ⟨a, vs, h1, h2, h3, h4, h5, h6⟩ := S'.own i xs e
    exact ⟨a, vs, h1, h2, h3, h4, h5, fun z => h6 ⟨S.trk a z, S.noT z⟩⟩
  sep := S'.sep
  pen := S'.pen
  penp := S'.penp
  onep := S'.onep
  len := S'.len
end

/-! ### readings that come to data -/
def Ev (K : PySem.W.Frag) (te : TE) (ρ : En) (R : En → PyData → Prop) : Prop :=
  ∀ b G H σ, SA K b G H σ ρ → ∀ Q : VK, (∀ v x ρ' G2 H2, R ρ' x → SA K b G2 H2 σ ρ' → DA K G2 v x → Q v H2) → te σ H Q
def EvT (K : PySem.W.Frag) (tt : TT) (ρ : En) (R : En → Bool → Prop) : Prop :=
  ∀ b G H σ, SA K b G H σ ρ → ∀ Q : Bool → Hp → Prop, (∀ x ρ' G2 H2, R ρ' x → SA K b G2 H2 σ ρ' → Q x H2) → tt σ H Q
def EvA (K : PySem.W.Frag) (ta : TA) (ρ : En) (R : En → List PyData → Prop) : Prop :=
  ∀ b G H σ, SA K b G H σ ρ → ∀ Q : List V → Hp → Prop, (∀ vs xs ρ' G2 H2, R ρ' xs → SA K b G2 H2 σ ρ' → DAs K G2 vs xs → Q vs H2) → ta σ H Q
abbrev Ed (K : PySem.W.Frag) (te : TE) (ρ : En) (x : PyData) : Prop := Ev K te ρ fun ρ' y => ρ' = ρ ∧ y = x
abbrev Eb (K : PySem.W.Frag) (tt : TT) (ρ : En) (x : Bool) : Prop := EvT K tt ρ fun ρ' y => ρ' = ρ ∧ y = x
abbrev Ea (K : PySem.W.Frag) (ta : TA) (ρ : En) (xs : List PyData) : Prop := EvA K ta ρ fun ρ' ys => ρ' = ρ ∧ ys = xs
/-- a two-place operation on values -/
def RD (K : PySem.W.Frag) (r : R2) (x y z : PyData) : Prop := ∀ G H v w, Sub G H → DA K G v x → DA K G w y → ∀ Q : VK, (∀ u G2 H2, Step G H G2 H2 → DA K G2 u z → Q u H2) → r v w H Q
/-- a one-place one; a call on values -/
def RU (K : PySem.W.Frag) (r : V → Hp → VK → Prop) (x z : PyData) : Prop := ∀ G H v, Sub G H → DA K G v x → ∀ Q : VK, (∀ u G2 H2, Step G H G2 H2 → DA K G2 u z → Q u H2) → r v H Q
def RC (K : PySem.W.Frag) (r : List V → Hp → VK → Prop) (xs : List PyData) (z : PyData) : Prop := ∀ G H vs, Sub G H → DAs K G vs xs → ∀ Q : VK, (∀ u G2 H2, Step G H G2 H2 → DA K G2 u z → Q u H2) → r vs H Q

section
variable {K : PySem.W.Frag} {ta tb te : TE} {t u : TT} {tl : TA} {ρ : En} {x y z : PyData} {r : R2}
/-- with what stood kept for ever -/
theorem Ev.runG {R : En → PyData → Prop} (h : Ev K te ρ R) {b : Bs} {G H : Hp} {σ : L2.St} (S : SA K b G H σ ρ) {Q : VK}
    (q : ∀ v x ρ' G2 H2, R ρ' x → SA K b G2 H2 σ ρ' → Sub G G2 → DA K G2 v x → Q v H2) : te σ H Q :=
  h _ G H σ S.here Q fun v x ρ' G2 H2 hr S2 hd => q v x ρ' G2 H2 hr (S.back S2) S2.gg hd
theorem EvT.runG {R : En → Bool → Prop} (h : EvT K t ρ R) {b : Bs} {G H : Hp} {σ : L2.St} (S : SA K b G H σ ρ) {Q : Bool → Hp → Prop}
    (q : ∀ x ρ' G2 H2, R ρ' x → SA K b G2 H2 σ ρ' → Sub G G2 → Q x H2) : t σ H Q :=
  h _ G H σ S.here Q fun x ρ' G2 H2 hr S2 => q x ρ' G2 H2 hr (S.back S2) S2.gg
theorem EvA.runG {R : En → List PyData → Prop} (h : EvA K tl ρ R) {b : Bs} {G H : Hp} {σ : L2.St} (S : SA K b G H σ ρ) {Q : List V → Hp → Prop}
    (q : ∀ vs xs ρ' G2 H2, R ρ' xs → SA K b G2 H2 σ ρ' → Sub G G2 → DAs K G2 vs xs → Q vs H2) : tl σ H Q :=
  h _ G H σ S.here Q fun v x ρ' G2 H2 hr S2 hd => q v x ρ' G2 H2 hr (S.back S2) S2.gg hd
theorem Ev.imp {R R' : En → PyData → Prop} (h : Ev K te ρ R) (i : ∀ ρ' x, R ρ' x → R' ρ' x) : Ev K te ρ R' := fun b G H σ S Q q => h b G H σ S Q fun v x ρ' G2 H2 hr S2 hd => q v x ρ' G2 H2 (i _ _ hr) S2 hd
theorem EvT.imp {R R' : En → Bool → Prop} (h : EvT K t ρ R) (i : ∀ ρ' x, R ρ' x → R' ρ' x) : EvT K t ρ R' := fun b G H σ S Q q => h b G H σ S Q fun x ρ' G2 H2 hr S2 => q x ρ' G2 H2 (i _ _ hr) S2
theorem EvA.imp {R R' : En → List PyData → Prop} (h : EvA K tl ρ R) (i : ∀ ρ' x, R ρ' x → R' ρ' x) : EvA K tl ρ R' := fun b G H σ S Q q => h b G H σ S Q fun v x ρ' G2 H2 hr S2 hd => q v x ρ' G2 H2 (i _ _ hr) S2 hd
theorem ed_var {i : Nat} (h : ρ[i]? = some (some (Sl.d x))) : Ed K (tVar i) ρ x := fun b G H σ S Q q => by
  obtain ⟨v, hv, hd⟩ := S.dat i x h
  exact ⟨v, hv, q v x ρ G H ⟨rfl, rfl⟩ S hd⟩
theorem ed_int {i : Int} : Ed K (tC (.int i)) ρ (.int i) := fun b G H σ S Q q => q _ _ ρ G H ⟨rfl, rfl⟩ S (.int i)
theorem ed_bl {i : Bool} : Ed K (tC (.bl i)) ρ (.bool i) := fun b G H σ S Q q => q _ _ ρ G H ⟨rfl, rfl⟩ S (.bl i)
theorem ed_non : Ed K (tC .non) ρ .none := fun b G H σ S Q q => q _ _ ρ G H ⟨rfl, rfl⟩ S .non
theorem ed_str {i : Str} : Ed K (tC (.str i)) ρ (.str i) := fun b G H σ S Q q => q _ _ ρ G H ⟨rfl, rfl⟩ S (.str i)
theorem Ed.to (h : Ed K te ρ x) (e : x = y) : Ed K te ρ y := e ▸ h
theorem Eb.to {c d : Bool} (h : Eb K t ρ c) (e : c = d) : Eb K t ρ d := e ▸ h

/-! two places -/
theorem ev_op {R1 : En → PyData → Prop} {R : En → PyData → Prop} {R2 : PyData → En → PyData → Prop} (ha : Ev K ta ρ R1) (hb : ∀ ρ1 x, R1 ρ1 x → Ev K tb ρ1 (R2 x))
    (hr : ∀ ρ1 x ρ2 y, R1 ρ1 x → R2 x ρ2 y → ∃ z, RD K r x y z ∧ R ρ2 z) : Ev K (tOp r ta tb) ρ R := fun b G H σ S Q q =>
  ha _ G H σ S _ fun v x ρ1 G1 H1 h1 S1 d1 => (hb ρ1 x h1).runG S1 fun w y ρ2 G2 H2 h2 S2 g d2 => by
    obtain ⟨z, rd, rz⟩ := hr ρ1 x ρ2 y h1 h2
    exact rd G2 H2 v w S2.sub (d1.mono g) d2 Q fun u G3 H3 st d3 => q u z ρ2 G3 H3 rz (S2.step st) d3
theorem ed_op (ha : Ed K ta ρ x) (hb : Ed K tb ρ y) (hr : RD K r x y z) : Ed K (tOp r ta tb) ρ z :=
  ev_op ha (R2 := fun _ ρ' y' => ρ' = ρ ∧ y' = y) (fun ρ1 x1 h => by obtain ⟨rfl, rfl⟩ := h; exact hb) fun ρ1 x1 ρ2 y1 h1 h2 => by
    obtain ⟨rfl, rfl⟩ := h1
    obtain ⟨rfl, rfl⟩ := h2
    exact ⟨z, hr, rfl, rfl⟩
theorem ev_un {R1 R : En → PyData → Prop} {r : V → Hp → VK → Prop} (ha : Ev K ta ρ R1) (hr : ∀ ρ1 x, R1 ρ1 x → ∃ z, RU K r x z ∧ R ρ1 z) : Ev K (tUn r ta) ρ R := fun b G H σ S Q q =>
  ha _ G H σ S _ fun v x ρ1 G1 H1 h1 S1 d1 => by
    obtain ⟨z, rd, rz⟩ := hr ρ1 x h1
    exact rd G1 H1 v S1.sub d1 Q fun u G3 H3 st d3 => q u z ρ1 G3 H3 rz (S1.step st) d3
theorem ed_un {r : V → Hp → VK → Prop} (ha : Ed K ta ρ x) (hr : RU K r x z) : Ed K (tUn r ta) ρ z := ev_un ha fun ρ1 x1 h => by
  obtain ⟨rfl, rfl⟩ := h
  exact ⟨z, hr, rfl, rfl⟩

/-! arguments -/
theorem ea_nil : Ea K tNil ρ [] := fun b G H σ S Q q => q _ _ ρ G H ⟨rfl, rfl⟩ S .nil
theorem eva_nil {R : En → List PyData → Prop} (h : R ρ []) : EvA K tNil ρ R := fun b G H σ S Q q => q _ _ ρ G H h S .nil
theorem eva_cons {R1 : En → PyData → Prop} {R2 : PyData → En → List PyData → Prop} {R : En → List PyData → Prop} (ha : Ev K ta ρ R1) (hb : ∀ ρ1 x, R1 ρ1 x → EvA K tl ρ1 (R2 x))
    (hr : ∀ ρ1 x ρ2 xs, R1 ρ1 x → R2 x ρ2 xs → R ρ2 (x :: xs)) : EvA K (tCons ta tl) ρ R := fun b G H σ S Q q =>
  ha _ G H σ S _ fun v x ρ1 G1 H1 h1 S1 d1 => (hb ρ1 x h1).runG S1 fun vs xs ρ2 G2 H2 h2 S2 g d2 => q (v :: vs) (x :: xs) ρ2 G2 H2 (hr _ _ _ _ h1 h2) S2 (.cons (d1.mono g) d2)
theorem ea_cons {xs : List PyData} (ha : Ed K ta ρ x) (hb : Ea K tl ρ xs) : Ea K (tCons ta tl) ρ (x :: xs) :=
  eva_cons ha (R2 := fun _ ρ' ys => ρ' = ρ ∧ ys = xs) (fun ρ1 x1 h => by obtain ⟨rfl, rfl⟩ := h; exact hb) fun ρ1 x1 ρ2 y1 h1 h2 => by
    obtain ⟨rfl, rfl⟩ := h1
    obtain ⟨rfl, rfl⟩ := h2
    exact ⟨rfl, rfl⟩
theorem ev_tup {R1 : En → List PyData → Prop} {R : En → PyData → Prop} (h : EvA K tl ρ R1) (hr : ∀ ρ1 xs, R1 ρ1 xs → xs.length ≤ 1000 ∧ R ρ1 (.tuple xs)) : Ev K (tTup tl) ρ R := fun b G H σ S Q q =>
  h _ G H σ S _ fun vs xs ρ1 G1 H1 h1 S1 d1 => ⟨by
    rw [d1.length]
    exact Nat.le_of_lt (small1000 (hr _ _ h1).1), fun p hp => q (.ref p) (.tuple xs) ρ1 _ _ (hr _ _ h1).2 (S1.step (Step.lay S1.sub (.tup vs) hp)) (.tup (SqT.of upd_same) (d1.mono (Step.lay S1.sub (.tup vs) hp).gg))⟩
theorem ed_tup {xs : List PyData} (h : Ea K tl ρ xs) (hl : xs.length ≤ 1000) : Ed K (tTup tl) ρ (.tuple xs) := ev_tup h fun ρ1 ys e => by
  obtain ⟨rfl, rfl⟩ := e
  exact ⟨hl, rfl, rfl⟩
theorem ev_lst {R1 : En → List PyData → Prop} {R : En → PyData → Prop} (h : EvA K tl ρ R1) (hr : ∀ ρ1 xs, R1 ρ1 xs → xs.length ≤ 1000 ∧ R ρ1 (.list xs)) : Ev K (tLst tl) ρ R := fun b G H σ S Q q =>
  h _ G H σ S _ fun vs xs ρ1 G1 H1 h1 S1 d1 => ⟨by
    rw [d1.length]
    exact Nat.le_of_lt (small1000 (hr _ _ h1).1), fun p hp => q (.ref p) (.list xs) ρ1 _ _ (hr _ _ h1).2 (S1.step (Step.lay S1.sub (.lst vs) hp)) (.lst upd_same (d1.mono (Step.lay S1.sub (.lst vs) hp).gg))⟩
theorem ed_lst {xs : List PyData} (h : Ea K tl ρ xs) (hl : xs.length ≤ 1000) : Ed K (tLst tl) ρ (.list xs) := ev_lst h fun ρ1 ys e => by
  obtain ⟨rfl, rfl⟩ := e
  exact ⟨hl, rfl, rfl⟩
/-- a built-in called -/
theorem ev_cb {R1 : En → List PyData → Prop} {R : En → PyData → Prop} {r : List V → Hp → VK → Prop} (h : EvA K tl ρ R1) (hr : ∀ ρ1 xs, R1 ρ1 xs → ∃ z, RC K r xs z ∧ R ρ1 z) : Ev K (tCB r tl) ρ R := fun b G H σ S Q q =>
  h _ G H σ S _ fun vs xs ρ1 G1 H1 h1 S1 d1 => by
    obtain ⟨z, rc, rz⟩ := hr _ _ h1
    exact rc G1 H1 vs S1.sub d1 Q fun u G3 H3 st d3 => q u z ρ1 G3 H3 rz (S1.step st) d3
theorem ed_cb {r : List V → Hp → VK → Prop} {xs : List PyData} (h : Ea K tl ρ xs) (hr : RC K r xs z) : Ed K (tCB r tl) ρ z := ev_cb h fun ρ1 ys e => by
  obtain ⟨rfl, rfl⟩ := e
  exact ⟨z, hr, rfl, rfl⟩

/-! tests -/
theorem evt_test {R1 : En → PyData → Prop} {R : En → Bool → Prop} (h : Ev K te ρ R1) (hr : ∀ ρ1 x, R1 ρ1 x → ∃ c, x = .bool c ∧ R ρ1 c) : EvT K (tTest te) ρ R := fun b G H σ S Q q =>
  h _ G H σ S _ fun v x ρ1 G1 H1 h1 S1 d1 => by
    obtain ⟨c, rfl, hc⟩ := hr _ _ h1
    cases d1
    exact ⟨c, rfl, q c ρ1 G1 H1 hc S1⟩
theorem eb_test {c : Bool} (h : Ed K te ρ (.bool c)) : Eb K (tTest te) ρ c := evt_test h fun ρ1 y e => by
  obtain ⟨rfl, rfl⟩ := e
  exact ⟨c, rfl, rfl, rfl⟩
theorem eb_B {c : Bool} (h : Ed K te ρ (.bool c)) : Eb K (tB te) ρ c := eb_test h
theorem eb_not {c : Bool} (h : Eb K t ρ c) : Eb K (tNot t) ρ (!c) := fun b G H σ S Q q => h _ G H σ S _ fun x ρ1 G1 H1 h1 S1 => by
  obtain ⟨rfl, rfl⟩ := h1
  exact q _ _ G1 H1 ⟨rfl, rfl⟩ S1
theorem eb_and {c d : Bool} (h : Eb K t ρ c) (h2 : c = true → Eb K u ρ d) : Eb K (tAnd t u) ρ (c && d) := fun b G H σ S Q q => h _ G H σ S _ fun x ρ1 G1 H1 h1 S1 => by
  obtain ⟨rfl, rfl⟩ := h1
  cases x with
  | true =>
    show u σ H1 Q
    exact h2 rfl _ G1 H1 σ S1 Q fun x ρ2 G2 H2 e S2 => q x ρ2 G2 H2 e S2
  | false =>
    show Q false H1
    exact q _ _ G1 H1 ⟨rfl, rfl⟩ S1
theorem eb_or {c d : Bool} (h : Eb K t ρ c) (h2 : c = false → Eb K u ρ d) : Eb K (tOr t u) ρ (c || d) := fun b G H σ S Q q => h _ G H σ S _ fun x ρ1 G1 H1 h1 S1 => by
  obtain ⟨rfl, rfl⟩ := h1
  cases x with
  | true =>
    show Q true H1
    exact q _ _ G1 H1 ⟨rfl, rfl⟩ S1
  | false =>
    show u σ H1 Q
    exact h2 rfl _ G1 H1 σ S1 Q fun x ρ2 G2 H2 e S2 => q x ρ2 G2 H2 e S2
theorem ed_andV {c d : Bool} (h : Ed K ta ρ (.bool c)) (h2 : c = true → Ed K tb ρ (.bool d)) : Ed K (tAndV ta tb) ρ (.bool (c && d)) := fun b G H σ S Q q => h _ G H σ S _ fun v x ρ1 G1 H1 h1 S1 d1 => by
  obtain ⟨rfl, rfl⟩ := h1
  cases d1
  refine ⟨c, rfl, ?_⟩
  cases c with
  | true =>
    show tb σ H1 Q
    exact h2 rfl _ G1 H1 σ S1 Q q
  | false =>
    show Q (.bl false) H1
    exact q _ _ _ G1 H1 ⟨rfl, rfl⟩ S1 (.bl false)
theorem ed_orV {c d : Bool} (h : Ed K ta ρ (.bool c)) (h2 : c = false → Ed K tb ρ (.bool d)) : Ed K (tOrV ta tb) ρ (.bool (c || d)) := fun b G H σ S Q q => h _ G H σ S _ fun v x ρ1 G1 H1 h1 S1 d1 => by
  obtain ⟨rfl, rfl⟩ := h1
  cases d1
  refine ⟨c, rfl, ?_⟩
  cases c with
  | true =>
    show Q (.bl true) H1
    exact q _ _ _ G1 H1 ⟨rfl, rfl⟩ S1 (.bl true)
  | false =>
    show tb σ H1 Q
    exact h2 rfl _ G1 H1 σ S1 Q q
theorem ed_notV {c : Bool} (h : Ed K ta ρ (.bool c)) : Ed K (tNotV ta) ρ (.bool (!c)) := fun b G H σ S Q q => h _ G H σ S _ fun v x ρ1 G1 H1 h1 S1 d1 => by
  obtain ⟨rfl, rfl⟩ := h1
  cases d1
  exact ⟨c, rfl, q _ _ _ G1 H1 ⟨rfl, rfl⟩ S1 (.bl _)⟩
theorem ev_if {R : En → PyData → Prop} {c : Bool} (h : Eb K t ρ c) (h1 : c = true → Ev K ta ρ R) (h2 : c = false → Ev K tb ρ R) : Ev K (tIf t ta tb) ρ R := fun b G H σ S Q q => h _ G H σ S _ fun x ρ1 G1 H1 e S1 => by
  obtain ⟨rfl, rfl⟩ := e
  cases x with
  | true =>
    show ta σ H1 Q
    exact h1 rfl _ G1 H1 σ S1 Q q
  | false =>
    show tb σ H1 Q
    exact h2 rfl _ G1 H1 σ S1 Q q
end
end RS
end
section
set_option Elab.async false
set_option linter.all false
set_option autoImplicit false
set_option maxRecDepth 100000
set_option maxHeartbeats 2000000
/-! RS2: operations over data -/
namespace RS
open PySem L2
section
variable {K : PySem.W.Frag} {ta tb te : TE} {t u : TT} {tl : TA} {ρ : En} {x y z : PyData} {r r' : R2} {i j : Int}
theorem RD.val {r : R2} {x y z : PyData} (h : ∀ G H v w, Sub G H → DA K G v x → DA K G w y → ∃ u, DA K G u z ∧ ∀ Q : VK, Q u H → r v w H Q) : RD K r x y z := fun G H v w s d1 d2 Q q => by
  obtain ⟨u, du, k⟩ := h G H v w s d1 d2
  exact k Q (q u G H (Step.refl s) du)
theorem rd_I0 {g : Int → Int → V} {g' : Int → Int → PyData} (hg : ∀ G i j, DA K G (g i j) (g' i j)) : RD K (rI0 g) (.int i) (.int j) (g' i j) := RD.val fun G H v w s d1 d2 => by
  cases d1; cases d2
  exact ⟨_, hg G i j, fun Q q => ⟨i, j, rfl, rfl, q⟩⟩
theorem rd_I {C : Int → Int → Prop} {g : Int → Int → V} {g' : Int → Int → PyData} (hg : ∀ G i j, DA K G (g i j) (g' i j)) (hc : C i j) : RD K (rI C g) (.int i) (.int j) (g' i j) := RD.val fun G H v w s d1 d2 => by
  cases d1; cases d2
  exact ⟨_, hg G i j, fun Q q => ⟨i, j, rfl, rfl, hc, q⟩⟩
theorem rd_add : RD K (rI0 fun i j => .int (i + j)) (.int i) (.int j) (.int (i + j)) := rd_I0 (g' := fun i j => .int (i + j)) fun _ _ _ => .int _
theorem rd_sub : RD K (rI0 fun i j => .int (i - j)) (.int i) (.int j) (.int (i - j)) := rd_I0 (g' := fun i j => .int (i - j)) fun _ _ _ => .int _
theorem rd_mul (hc : CMul i j) : RD K (rI CMul fun i j => .int (i * j)) (.int i) (.int j) (.int (i * j)) := rd_I (g' := fun i j => .int (i * j)) (fun _ _ _ => .int _) hc
theorem rd_mod (hc : 0 < j) : RD K (rI (fun _ j => 0 < j) fun i j => .int (i % j)) (.int i) (.int j) (.int (i % j)) := rd_I (C := fun _ j => 0 < j) (g' := fun i j => .int (i % j)) (fun _ _ _ => .int _) hc
theorem rd_fdiv (hc : CDiv i j) : RD K (rI CDiv fun i j => .int (i / j)) (.int i) (.int j) (.int (i / j)) := rd_I (g' := fun i j => .int (i / j)) (fun _ _ _ => .int _) hc
theorem rd_pow (hc : CPow i j) : RD K (rI CPow fun i j => .int (i ^ j.toNat)) (.int i) (.int j) (.int (i ^ j.toNat)) := rd_I (g' := fun i j => .int (i ^ j.toNat)) (fun _ _ _ => .int _) hc
theorem rd_lt : RD K (rI0 fun i j => .bl (decide (i < j))) (.int i) (.int j) (.bool (decide (i < j))) := rd_I0 (g' := fun i j => .bool (decide (i < j))) fun _ _ _ => .bl _
theorem rd_le : RD K (rI0 fun i j => .bl (decide (i ≤ j))) (.int i) (.int j) (.bool (decide (i ≤ j))) := rd_I0 (g' := fun i j => .bool (decide (i ≤ j))) fun _ _ _ => .bl _
theorem rd_gt : RD K (rI0 fun i j => .bl (decide (j < i))) (.int i) (.int j) (.bool (decide (j < i))) := rd_I0 (g' := fun i j => .bool (decide (j < i))) fun _ _ _ => .bl _
theorem rd_ge : RD K (rI0 fun i j => .bl (decide (j ≤ i))) (.int i) (.int j) (.bool (decide (j ≤ i))) := rd_I0 (g' := fun i j => .bool (decide (j ≤ i))) fun _ _ _ => .bl _
theorem RD.left (h : RD K r x y z) : RD K (fun x y H Q => r x y H Q ∨ r' x y H Q) x y z := fun G H v w s d1 d2 Q q => .inl (h G H v w s d1 d2 Q q)
theorem RD.right (h : RD K r' x y z) : RD K (fun x y H Q => r x y H Q ∨ r' x y H Q) x y z := fun G H v w s d1 d2 Q q => .inr (h G H v w s d1 d2 Q q)
theorem RU.left {r r' : V → Hp → VK → Prop} (h : RU K r x z) : RU K (fun x H Q => r x H Q ∨ r' x H Q) x z := fun G H v s d1 Q q => .inl (h G H v s d1 Q q)
theorem RC.left {r r' : List V → Hp → VK → Prop} {xs : List PyData} (h : RC K r xs z) : RC K (fun x H Q => r x H Q ∨ r' x H Q) xs z := fun G H v s d1 Q q => .inl (h G H v s d1 Q q)
theorem RC.right {r r' : List V → Hp → VK → Prop} {xs : List PyData} (h : RC K r' xs z) : RC K (fun x H Q => r x H Q ∨ r' x H Q) xs z := fun G H v s d1 Q q => .inr (h G H v s d1 Q q)

/-! deep equality -/
mutual
theorem DA.dp {G : Hp} : ∀ (d : PyData) (v : V), d.canLay0 = true → DA K G v d → Dp K G v d
  | .none, _, _, h => by cases h; exact .non
  | .bool b, _, _, h => by cases h; exact .bl b
  | .int i, _, _, h => by cases h; exact .int i
  | .str x, _, _, h => by cases h; exact .str x
  | .list ds, _, c, h => by
    cases h with
    | lst hs ha => exact .lst (SqL.of hs) (DAs.dp ds _ (by simpa only [PyData.canLay0] using c) ha)
  | .tuple ds, _, c, h => by
    cases h with
    | tup hs ha => exact .tup hs (DAs.dp ds _ (by simpa only [PyData.canLay0] using c) ha)
  | .dict _, _, c, _ => by simp [PyData.canLay0] at c
theorem DAs.dp {G : Hp} : ∀ (ds : List PyData) (vs : List V), PyData.canLayAll0 ds = true → DAs K G vs ds → DpAll K G vs ds
  | [], _, _, h => by cases h; exact .nil
  | d :: ds, _, c, h => by
    cases h with
    | cons h1 h2 =>
      have c' : (d.canLay0 && PyData.canLayAll0 ds) = true := by simpa only [PyData.canLayAll0] using c
      obtain ⟨c1, c2⟩ := Bool.and_eq_true_iff.mp c'
      exact .cons (DA.dp d _ c1 h1) (DAs.dp ds _ c2 h2)
end
mutual
theorem dp_mono {G H : Hp} (e : Sub G H) : ∀ (d : PyData) (v : V), Dp K G v d → Dp K H v d
  | .none, _, h => by cases h; exact .non
  | .bool b, _, h => by cases h; exact .bl b
  | .int i, _, h => by cases h; exact .int i
  | .str x, _, h => by cases h; exact .str x
  | .list ds, _, h => by
    cases h with
    | lst hs ha => exact .lst (Evl.ex_l e hs) (dps_mono e ds _ ha)
  | .tuple ds, _, h => by
    cases h with
    | tup hs ha => exact .tup (sub_t e hs) (dps_mono e ds _ ha)
  | .dict _, _, h => by cases h
theorem dps_mono {G H : Hp} (e : Sub G H) : ∀ (ds : List PyData) (vs : List V), DpAll K G vs ds → DpAll K H vs ds
  | [], _, h => by cases h; exact .nil
  | d :: ds, _, h => by
    cases h with
    | cons h1 h2 => exact .cons (dp_mono e d _ h1) (dps_mono e ds _ h2)
end
theorem DA.dpH {G H : Hp} {v : V} (s : Sub G H) (h : DA K G v x) (c : SeqAt.shaped x = true) : Dp K H v x := dp_mono s x v (DA.dp x v (SeqAt.canLay_of_shaped c) h)
theorem rd_eq (hx : SeqAt.shaped x = true) (hy : SeqAt.shaped y = true) : RD K (rEqD K) x y (.bool (PyData.eqv x y)) := RD.val fun G H v w s d1 d2 =>
  ⟨_, .bl _, fun Q q => ⟨x, y, d1.dpH s hx, d2.dpH s hy, hx, hy, q⟩⟩
theorem rd_ne (hx : SeqAt.shaped x = true) (hy : SeqAt.shaped y = true) : RD K (rNeD K) x y (.bool (!PyData.eqv x y)) := RD.val fun G H v w s d1 d2 =>
  ⟨_, .bl _, fun Q q => ⟨x, y, d1.dpH s hx, d2.dpH s hy, hx, hy, q⟩⟩
def isNon : PyData → Bool
  | .none => true
  | _ => false
theorem DA.isNon {G : Hp} {v : V} (h : DA K G v x) : decide (v = .non) = isNon x := by
  cases h <;> rfl
theorem rd_isN : RD K rIsN x .none (.bool (isNon x)) := RD.val fun G H v w s d1 d2 => by
  cases d2
  exact ⟨_, .bl _, fun Q q => ⟨rfl, by rw [← d1.isNon] at q; exact q⟩⟩
theorem rd_notN : RD K rNotN x .none (.bool (!isNon x)) := RD.val fun G H v w s d1 d2 => by
  cases d2
  exact ⟨_, .bl _, fun Q q => ⟨rfl, by rw [← d1.isNon] at q; exact q⟩⟩
theorem rd_isB {a b : Bool} : RD K rIsB (.bool a) (.bool b) (.bool (decide (a = b))) := RD.val fun G H v w s d1 d2 => by
  cases d1; cases d2
  exact ⟨_, .bl _, fun Q q => ⟨a, b, rfl, rfl, q⟩⟩
theorem rd_notB {a b : Bool} : RD K rNotB (.bool a) (.bool b) (.bool (!decide (a = b))) := RD.val fun G H v w s d1 d2 => by
  cases d1; cases d2
  exact ⟨_, .bl _, fun Q q => ⟨a, b, rfl, rfl, q⟩⟩

/-! sequences -/
theorem DA.tupH {G H : Hp} {v : V} {xs : List PyData} (s : Sub G H) (h : DA K G v (.tuple xs)) : ∃ a vs, v = .ref a ∧ SqT K H a vs ∧ SqT K G a vs ∧ DAs K G vs xs := by
  cases h with
  | tup hs ha => exact ⟨_, _, rfl, sub_t s hs, hs, ha⟩
theorem DA.lstH {G H : Hp} {v : V} {xs : List PyData} (s : Sub G H) (h : DA K G v (.list xs)) : ∃ a vs, v = .ref a ∧ H a = some (.lst vs) ∧ G a = some (.lst vs) ∧ DAs K G vs xs := by
  cases h with
  | lst hs ha => exact ⟨_, _, rfl, s _ _ hs, hs, ha⟩
theorem szK {n : Nat} (h : n ≤ 1000000) : n ≤ sizeLine := Nat.le_trans h (by decide)
theorem szK' {n : Nat} (h : n ≤ 1000000) : n < sizeLine := Nat.lt_of_le_of_lt h (by decide)
theorem rd_catT {xs ys : List PyData} (hl : xs.length + ys.length ≤ 1000000) : RD K (rCatA K) (.tuple xs) (.tuple ys) (.tuple (xs ++ ys)) := fun G H v w s d1 d2 Q q => by
  obtain ⟨a, vs, rfl, ha, hg, da⟩ := d1.tupH s
  obtain ⟨b, ws, rfl, hb, hgb, db⟩ := d2.tupH s
  refine ⟨a, b, vs, ws, rfl, rfl, ha, hb, szK (by rw [da.length, db.length]; exact hl), fun e => ?_, fun _ e => ?_, fun _ _ p hp => ?_⟩
  · have e' := da.nil_iff.mp e
    subst e'
    exact q _ G H (Step.refl s) (.tup hgb db)
  · have e' := db.nil_iff.mp e
    subst e'
    rw [List.append_nil] at q
    exact q _ G H (Step.refl s) (.tup hg da)
  · have st := Step.lay s (.tup (vs ++ ws)) hp
    exact q _ _ _ st (.tup (SqT.of upd_same) ((da.append db).mono st.gg))
theorem rd_catL {xs ys : List PyData} (hl : xs.length + ys.length ≤ 1000000) : RD K rCat (.list xs) (.list ys) (.list (xs ++ ys)) := fun G H v w s d1 d2 Q q => by
  obtain ⟨a, vs, rfl, ha, hg, da⟩ := d1.lstH s
  obtain ⟨b, ws, rfl, hb, hgb, db⟩ := d2.lstH s
  refine ⟨a, b, vs, ws, rfl, rfl, ha, hb, szK (by rw [da.length, db.length]; exact hl), fun p hp => ?_⟩
  have st := Step.lay s (.lst (vs ++ ws)) hp
  exact q _ _ _ st (.lst upd_same ((da.append db).mono st.gg))
theorem atI_DA {G : Hp} {vs : List V} {xs : List PyData} (h : DAs K G vs xs) {i : Int} {x : PyData} (e : atI xs i = some x) : ∃ v, atI vs i = some v ∧ DA K G v x := by
  unfold atI at e ⊢
  rw [h.length]
  cases hj : ixN xs.length i with
  | none => rw [hj] at e; cases e
  | some j =>
    rw [hj] at e
    exact h.get e
theorem rd_ixT {xs : List PyData} (e : atI xs i = some x) : RD K (rIx K) (.tuple xs) (.int i) x := RD.val fun G H v w s d1 d2 => by
  obtain ⟨a, vs, rfl, ha, hg, da⟩ := d1.tupH s
  cases d2
  obtain ⟨u, hu, du⟩ := atI_DA da e
  exact ⟨u, du, fun Q q => .inr (.inl ⟨a, vs, i, u, rfl, rfl, ha, hu, q⟩)⟩
theorem rd_ixL {xs : List PyData} (e : atI xs i = some x) : RD K (rIx K) (.list xs) (.int i) x := RD.val fun G H v w s d1 d2 => by
  obtain ⟨a, vs, rfl, ha, hg, da⟩ := d1.lstH s
  cases d2
  obtain ⟨u, hu, du⟩ := atI_DA da e
  exact ⟨u, du, fun Q q => .inl ⟨a, vs, i, u, rfl, rfl, SqL.of ha, hu, q⟩⟩
/-! calls -/
theorem DAs.one {G : Hp} {vs : List V} (h : DAs K G vs [x]) : ∃ v, vs = [v] ∧ DA K G v x := by
  cases h with
  | cons h1 h2 => cases h2; exact ⟨_, rfl, h1⟩
theorem rc_lenT {xs : List PyData} : RC K (fun vs H Q => ∃ p ys, vs = [.ref p] ∧ (SqL K H p ys ∨ SqT K H p ys) ∧ Q (.int ys.length) H) [.tuple xs] (.int xs.length) := fun G H vs s d Q q => by
  obtain ⟨v, rfl, d1⟩ := d.one
  obtain ⟨a, ws, rfl, ha, hg, da⟩ := d1.tupH s
  exact ⟨a, ws, rfl, .inr ha, by rw [da.length]; exact q _ G H (Step.refl s) (.int _)⟩
theorem rc_lenL {xs : List PyData} : RC K (fun vs H Q => ∃ p ys, vs = [.ref p] ∧ (SqL K H p ys ∨ SqT K H p ys) ∧ Q (.int ys.length) H) [.list xs] (.int xs.length) := fun G H vs s d Q q => by
  obtain ⟨v, rfl, d1⟩ := d.one
  obtain ⟨a, ws, rfl, ha, hg, da⟩ := d1.lstH s
  exact ⟨a, ws, rfl, .inl (SqL.of ha), by rw [da.length]; exact q _ G H (Step.refl s) (.int _)⟩
theorem rc_tupleL {xs : List PyData} : RC K (fun vs H Q => ∃ p ys, vs = [.ref p] ∧ ((SqL K H p ys ∧ ∀ l, H l = none → Q (.ref l) (upd H l (.tup ys))) ∨ (SqT K H p ys ∧ Q (.ref p) H))) [.list xs] (.tuple xs) := fun G H vs s d Q q => by
  obtain ⟨v, rfl, d1⟩ := d.one
  obtain ⟨a, ws, rfl, ha, hg, da⟩ := d1.lstH s
  refine ⟨a, ws, rfl, .inl ⟨SqL.of ha, fun l hl => ?_⟩⟩
  have st := Step.lay s (.tup ws) hl
  exact q _ _ _ st (.tup (SqT.of upd_same) (da.mono st.gg))
theorem rc_tupleT {xs : List PyData} : RC K (fun vs H Q => ∃ p ys, vs = [.ref p] ∧ ((SqL K H p ys ∧ ∀ l, H l = none → Q (.ref l) (upd H l (.tup ys))) ∨ (SqT K H p ys ∧ Q (.ref p) H))) [.tuple xs] (.tuple xs) := fun G H vs s d Q q => by
  obtain ⟨v, rfl, d1⟩ := d.one
  obtain ⟨a, ws, rfl, ha, hg, da⟩ := d1.tupH s
  exact ⟨a, ws, rfl, .inr ⟨ha, q _ G H (Step.refl s) (.tup hg da)⟩⟩
theorem rc_listT {xs : List PyData} : RC K (fun vs H Q => ∃ p ys, vs = [.ref p] ∧ (SqL K H p ys ∨ SqT K H p ys) ∧ ∀ l, H l = none → Q (.ref l) (upd H l (.lst ys))) [.tuple xs] (.list xs) := fun G H vs s d Q q => by
  obtain ⟨v, rfl, d1⟩ := d.one
  obtain ⟨a, ws, rfl, ha, hg, da⟩ := d1.tupH s
  refine ⟨a, ws, rfl, .inr ha, fun l hl => ?_⟩
  have st := Step.lay s (.lst ws) hl
  exact q _ _ _ st (.lst upd_same (da.mono st.gg))
theorem rc_listL {xs : List PyData} : RC K (fun vs H Q => ∃ p ys, vs = [.ref p] ∧ (SqL K H p ys ∨ SqT K H p ys) ∧ ∀ l, H l = none → Q (.ref l) (upd H l (.lst ys))) [.list xs] (.list xs) := fun G H vs s d Q q => by
  obtain ⟨v, rfl, d1⟩ := d.one
  obtain ⟨a, ws, rfl, ha, hg, da⟩ := d1.lstH s
  refine ⟨a, ws, rfl, .inl (SqL.of ha), fun l hl => ?_⟩
  have st := Step.lay s (.lst ws) hl
  exact q _ _ _ st (.lst upd_same (da.mono st.gg))
theorem rc_all {bs : List Bool} : RC K (rAll K) [.list (bs.map PyData.bool)] (.bool (bs.all id)) := fun G H vs s d Q q => by
  obtain ⟨v, rfl, d1⟩ := d.one
  obtain ⟨a, ws, rfl, ha, hg, da⟩ := d1.lstH s
  have e := da.of_bls
  subst e
  exact ⟨a, bs, rfl, SqL.of ha, q _ G H (Step.refl s) (.bl _)⟩
theorem rc_any {bs : List Bool} : RC K (rAny K) [.list (bs.map PyData.bool)] (.bool (bs.any id)) := fun G H vs s d Q q => by
  obtain ⟨v, rfl, d1⟩ := d.one
  obtain ⟨a, ws, rfl, ha, hg, da⟩ := d1.lstH s
  have e := da.of_bls
  subst e
  exact ⟨a, bs, rfl, SqL.of ha, q _ G H (Step.refl s) (.bl _)⟩
theorem rc_int : RC K (fun xs H Q => (∃ i, xs = [.int i] ∧ Q (.int i) H) ∨ ∃ k, xs = [.bl k] ∧ Q (.int (if k then 1 else 0)) H) [.int i] (.int i) := fun G H vs s d Q q => by
  obtain ⟨v, rfl, d1⟩ := d.one
  cases d1
  exact .inl ⟨i, rfl, q _ G H (Step.refl s) (.int _)⟩

/-! isinstance -/
def tyD : PyData → Option Value
  | .none => some (.type "NoneType")
  | .bool _ => some (.type "bool")
  | .int _ => some (.type "int")
  | .str _ => some (.type "str")
  | .list _ => some (.type "list")
  | .tuple _ => some (.type "tuple")
  | .dict [(.str _, .int _)] => some (.type "dict")
  | .dict _ => none
theorem sqT_ty {H : Hp} {a : Addr} {xs : List V} (h : SqT K H a xs) : TyX K H (.ref a) (.type "tuple") := by
  rcases h with (h | ⟨o, h⟩) | h
  · exact .base (.tup h)
  · exact .fTuple h
  · obtain ⟨o, its, n, hk, hc, _⟩ := h
    exact .kTuple hk hc
theorem DA.ty {G H : Hp} {v : V} {T : Value} (s : Sub G H) (h : DA K G v x) (e : tyD x = some T) : TyX K H v T := by
  cases h with
  | non => cases e; exact .base .non
  | bl b => cases e; exact .base (.bl b)
  | int i => cases e; exact .base (.int i)
  | str z => cases e; exact .base (.str z)
  | lst h1 _ => cases e; exact .base (.lst (s _ _ h1))
  | tup h1 _ => cases e; exact sqT_ty (sub_t s h1)
  | opq h1 => cases e; exact .base (.dK (s _ _ h1))
  | obj _ _ _ => cases e
  | exc _ _ _ => cases e
  | exn _ => cases e
/-- isinstance(x, T) -/
theorem ev_isi {R1 R : En → PyData → Prop} {n : String} (h : Ev K te ρ R1) (hr : ∀ ρ1 x, R1 ρ1 x → ∃ T b, tyD x = some T ∧ PySem.W.kitOne K T (.type n) = some b ∧ R ρ1 (.bool b)) : Ev K (tCB (rIsi K) (tCons te (tCons (tC (.ty n)) tNil))) ρ R := fun b G H σ S Q q =>
  h _ G H σ S _ fun v x ρ1 G1 H1 h1 S1 d1 => by
    obtain ⟨T, b, e1, e2, e3⟩ := hr ρ1 x h1
    exact ⟨v, .ty n, T, .type n, b, rfl, .ty n, d1.ty S1.sub e1, e2, q _ _ ρ1 G1 H1 e3 S1 (.bl b)⟩
theorem ed_isi {n : String} {T : Value} {b : Bool} (h : Ed K te ρ x) (e1 : tyD x = some T) (e2 : PySem.W.kitOne K T (.type n) = some b) : Ed K (tCB (rIsi K) (tCons te (tCons (tC (.ty n)) tNil))) ρ (.bool b) := ev_isi h fun ρ1 y e => by
  obtain ⟨rfl, rfl⟩ := e
  exact ⟨T, b, e1, e2, rfl, rfl⟩
/-- isinstance(x, (T, U)) -/
theorem ed_isi2 {n m : String} {T : Value} {b : Bool} (h : Ed K te ρ x) (e1 : tyD x = some T) (e2 : PySem.W.kitAny K T [.type n, .type m] = some b) : Ed K (tCB (rIsiT K) (tCons te (tCons (tTup (tCons (tC (.ty n)) (tCons (tC (.ty m)) tNil))) tNil))) ρ (.bool b) := fun bs G H σ S Q q =>
  h _ G H σ S _ fun v y ρ1 G1 H1 h1 S1 d1 => by
    obtain ⟨rfl, rfl⟩ := h1
    refine ⟨by show 2 ≤ sizeLine; decide, fun p hp => ?_⟩
    have st := Step.layH S1.sub (.tup [.ty n, .ty m]) hp
    exact ⟨v, p, [.ty n, .ty m], T, [.type n, .type m], b, rfl, upd_same, .cons (.ty n) (.cons (.ty m) .nil), d1.ty st.sub e1, e2, q _ _ _ G1 _ ⟨rfl, rfl⟩ (S1.step st) (.bl b)⟩

/-! slices -/
theorem cutD {G : Hp} {vs : List V} {xs : List PyData} (h : DAs K G vs xs) (lo hi : Option Int) : DAs K G (cutV vs lo hi) ((xs.drop (HT.sIx xs.length 0 lo)).take (HT.sIx xs.length xs.length hi - HT.sIx xs.length 0 lo)) := by
  unfold cutV
  rw [h.length]
  exact (h.drop _).take _
def cutP (xs : List PyData) (lo hi : Option Int) : List PyData := (xs.drop (HT.sIx xs.length 0 lo)).take (HT.sIx xs.length xs.length hi - HT.sIx xs.length 0 lo)
def EvO (K : PySem.W.Frag) (to : TO) (ρ : En) (o : Option Int) : Prop :=
  ∀ b G H σ, SA K b G H σ ρ → ∀ Q : Option Int → Hp → Prop, (∀ G2 H2, SA K b G2 H2 σ ρ → Q o H2) → to σ H Q
theorem eo_none : EvO K tNoPart ρ none := fun b G H σ S Q q => q G H S
theorem eo_some {i : Int} (h : Ed K te ρ (.int i)) : EvO K (tPart te) ρ (some i) := fun b G H σ S Q q => h _ G H σ S _ fun v y ρ1 G1 H1 h1 S1 d1 => by
  obtain ⟨rfl, rfl⟩ := h1
  cases d1
  exact ⟨i, rfl, q G1 H1 S1⟩
theorem EvO.runG {to : TO} {o : Option Int} (h : EvO K to ρ o) {b : Bs} {G H : Hp} {σ : L2.St} (S : SA K b G H σ ρ) {Q : Option Int → Hp → Prop}
    (q : ∀ G2 H2, SA K b G2 H2 σ ρ → Sub G G2 → Q o H2) : to σ H Q :=
  h _ G H σ S.here Q fun G2 H2 S2 => q G2 H2 (S.back S2) S2.gg
theorem ed_slT {xs : List PyData} {tlo thi : TO} {lo hi : Option Int} (h : Ed K te ρ (.tuple xs)) (h1 : EvO K tlo ρ lo) (h2 : EvO K thi ρ hi) : Ed K (tSl (rSlA K) te tlo thi) ρ (.tuple (cutP xs lo hi)) := fun b G H σ S Q q =>
  h _ G H σ S _ fun v y ρ1 G1 H1 e1 S1 d1 => by
    obtain ⟨rfl, rfl⟩ := e1
    refine h1.runG S1 fun G2 H2 S2 g2 => h2.runG S2 fun G3 H3 S3 g3 => ?_
    obtain ⟨a, vs, rfl, ha, hg, da⟩ := ((d1.mono g2).mono g3).tupH S3.sub
    refine ⟨a, vs, rfl, ha, fun hw => ?_, fun _ p hp => ?_⟩
    · have e : cutP xs lo hi = xs := by
        unfold cutP
        rw [← da.length, hw.1, hw.2, da.length]
        simp
      rw [e] at q
      exact q _ _ _ G3 H3 ⟨rfl, rfl⟩ S3 (.tup hg da)
    · have st := Step.lay S3.sub (.tup (cutV vs lo hi)) hp
      exact q _ _ _ _ _ ⟨rfl, rfl⟩ (S3.step st) (.tup (SqT.of upd_same) ((cutD da lo hi).mono st.gg))
theorem ed_slL {xs : List PyData} {tlo thi : TO} {lo hi : Option Int} (h : Ed K te ρ (.list xs)) (h1 : EvO K tlo ρ lo) (h2 : EvO K thi ρ hi) : Ed K (tSl (rSlL K) te tlo thi) ρ (.list (cutP xs lo hi)) := fun b G H σ S Q q =>
  h _ G H σ S _ fun v y ρ1 G1 H1 e1 S1 d1 => by
    obtain ⟨rfl, rfl⟩ := e1
    refine h1.runG S1 fun G2 H2 S2 g2 => h2.runG S2 fun G3 H3 S3 g3 => ?_
    obtain ⟨a, vs, rfl, ha, hg, da⟩ := ((d1.mono g2).mono g3).lstH S3.sub
    refine ⟨a, vs, rfl, SqL.of ha, fun p hp => ?_⟩
    have st := Step.lay S3.sub (.lst (cutV vs lo hi)) hp
    exact q _ _ _ _ _ ⟨rfl, rfl⟩ (S3.step st) (.lst upd_same ((cutD da lo hi).mono st.gg))
/-! xs[::-1] of a list -/
theorem ed_revL {xs : List PyData} (h : Ed K te ρ (.list xs)) : Ed K (tRevL K te) ρ (.list xs.reverse) := fun b G H σ S Q q =>
  h _ G H σ S _ fun v y ρ1 G1 H1 e1 S1 d1 => by
    obtain ⟨rfl, rfl⟩ := e1
    obtain ⟨a, vs, rfl, ha, hg, da⟩ := d1.lstH S1.sub
    refine ⟨a, vs, rfl, SqL.of ha, fun p hp => ?_⟩
    have st := Step.lay S1.sub (.lst vs.reverse) hp
    exact q _ _ _ _ _ ⟨rfl, rfl⟩ (S1.step st) (.lst upd_same (da.reverse.mono st.gg))
/-! fields of an instance -/
def fldD (f : Str) : List (PyData × PyData) → Option PyData
  | [] => none
  | (.str g, d) :: r => if f = g then some d else fldD f r
  | _ :: r => fldD f r
theorem DFs.look {G : Hp} {f : Str} : ∀ {fs : List (Str × V)} {kvs : List (PyData × PyData)}, DFs K G fs kvs → fldD f kvs = some x → ∃ v, fs.lookup f = some v ∧ DA K G v x
  | _, _, .nil, e => by cases e
  | _, _, .cons (f := g) (v := v) h r, e => by
    rw [lookup_put]
    unfold fldD at e
    by_cases c : f = g
    · rw [if_pos c] at e ⊢
      cases e
      exact ⟨_, rfl, h⟩
    · rw [if_neg c] at e ⊢
      exact DFs.look r e
theorem ed_fld {C : Addr} {kvs : List (PyData × PyData)} {f : Str} (h : Ed K te ρ (.dict ((.none, .int (C : Int)) :: kvs))) (hn : NoAttr K C f) (hf : fldD f kvs = some x) : Ed K (tFld K te f) ρ x := fun b G H σ S Q q =>
  h _ G H σ S _ fun v y ρ1 G1 H1 e1 S1 d1 => by
    obtain ⟨rfl, rfl⟩ := e1
    generalize hc : (C : Int) = ci at d1
    cases d1 with
    | obj h1 hcl hfs =>
      have e := Int.ofNat.inj hc
      subst e
      obtain ⟨w, hw, dw⟩ := hfs.look hf
      exact ⟨_, C, _, _, w, rfl, S1.sub _ _ h1, hcl, hn, hw, q _ _ _ G1 H1 ⟨rfl, rfl⟩ S1 dw⟩
end
end RS
end
section
set_option Elab.async false
set_option linter.all false
set_option autoImplicit false
set_option maxRecDepth 100000
set_option maxHeartbeats 2000000
/-! RS3: statements, targets, loops, comprehensions, defs -/
namespace RS
open PySem L2
inductive Out where
  | nx (ρ : En)
  | rt (ρ : En) (x : PyData)
  | bk (ρ : En)
  | ct (ρ : En)
/-- what follows is ready for these outcomes -/
structure To (K : PySem.W.Frag) (b : Bs) (D : Ends) (O : Out → Prop) : Prop where
  nx : ∀ ρ σ G H, O (.nx ρ) → SA K b G H σ ρ → D.nx σ H
  rt : ∀ ρ x v σ G H, O (.rt ρ x) → SA K b G H σ ρ → DA K G v x → D.rt v H
  bk : ∀ ρ σ G H, O (.bk ρ) → SA K b G H σ ρ → D.bk σ H
  ct : ∀ ρ σ G H, O (.ct ρ) → SA K b G H σ ρ → D.ct σ H
def Es (K : PySem.W.Frag) (ts : TS) (ρ : En) (O : Out → Prop) : Prop := ∀ b G H σ D, SA K b G H σ ρ → To K b D O → ts D σ H

/-- a slot's word made weaker -/
def Wk : Sl → Sl → Prop
  | .pen c, .pen c' => c ≤ c'
  | s, s' => s = s'
theorem Wk.refl : ∀ s, Wk s s
  | .pen c => Nat.le_refl c
  | .d x => rfl
  | .own xs => rfl
section
variable {K : PySem.W.Frag} {b : Bs} {G H : Hp} {σ σ' : L2.St} {ρ ρ' : En}
theorem SA.less (S : SA K b G H σ ρ) (hl : σ'.length = ρ'.length) (h : ∀ (i : Nat) (s : Sl), ρ'[i]? = some (some s) → σ'[i]? = σ[i]? ∧ ∃ s', ρ[i]? = some (some s') ∧ Wk s' s) : SA K b G H σ' ρ' where
  sub := S.sub
  gg := S.gg
  new := S.new
  keep := S.keep
  trk := S.trk
  ptr := S.ptr
  gtr := S.gtr
  dat := fun i x e => by
    obtain ⟨h1, s', h2, h3⟩ := h i _ e
    cases s' with
    | d y =>
      obtain ⟨v, q1, q2⟩ := S.dat i y h2
      have e : Sl.d y = Sl.d x := h3
      cases e
      exact ⟨v, h1.trans q1, q2⟩
    | own xs =>
      have e : Sl.own xs = Sl.d x := h3
      cases e
    | pen c =>
      have e : Sl.pen c = Sl.d x := h3
      cases e
  own := fun i xs e => by
    obtain ⟨h1, s', h2, h3⟩ := h i _ e
    cases s' with
    | d y =>
      have e : Sl.d y = Sl.own xs := h3
      cases e
    | own ys =>
      have e : Sl.own ys = Sl.own xs := h3
      cases e
      obtain ⟨a, vs, q1, q⟩ := S.own i _ h2
      exact ⟨a, vs, h1.trans q1, q⟩
    | pen c =>
      have e : Sl.pen c = Sl.own xs := h3
      cases e
  sep := fun i j xs ys a ei ej ne hi hj => by
    obtain ⟨h1, s1, h2, h3⟩ := h i _ ei
    obtain ⟨k1, s2, k2, k3⟩ := h j _ ej
    cases s1 with
    | own us =>
      cases s2 with
      | own ws => exact S.sep i j us ws a h2 k2 ne (h1.symm.trans hi) (k1.symm.trans hj)
      | d y => have e : Sl.d y = Sl.own ys := k3; cases e
      | pen y => have e : Sl.pen y = Sl.own ys := k3; cases e
    | d y => have e : Sl.d y = Sl.own xs := h3; cases e
    | pen y => have e : Sl.pen y = Sl.own xs := h3; cases e
  pen := fun i c e => by
    obtain ⟨h1, s', h2, h3⟩ := h i _ e
    cases s' with
    | pen c0 =>
      obtain ⟨p, q1, q2, q3, q4⟩ := S.pen i c0 h2
      exact ⟨p, h1.trans q1, q2, q3, q4.mono (Sub.refl G) (fun o z => z) h3⟩
    | d y => have e : Sl.d y = Sl.pen c := h3; cases e
    | own y => have e : Sl.own y = Sl.pen c := h3; cases e
  penp := fun i c e => by
    obtain ⟨h1, s', h2, h3⟩ := h i _ e
    cases s' with
    | pen c0 => exact h1.trans (S.penp i c0 h2)
    | d y => have e : Sl.d y = Sl.pen c := h3; cases e
    | own y => have e : Sl.own y = Sl.pen c := h3; cases e
  onep := fun i j c c' ei ej => by
    obtain ⟨h1, s1, h2, h3⟩ := h i _ ei
    obtain ⟨k1, s2, k2, k3⟩ := h j _ ej
    cases s1 with
    | pen u =>
      cases s2 with
      | pen w => exact S.onep i j u w h2 k2
      | d y => have e : Sl.d y = Sl.pen c' := k3; cases e
      | own y => have e : Sl.own y = Sl.pen c' := k3; cases e
    | d y => have e : Sl.d y = Sl.pen c := h3; cases e
    | own y => have e : Sl.own y = Sl.pen c := h3; cases e
  len := hl
/-- a name gets data -/
theorem SA.set {v : V} {x : PyData} (S : SA K b G H σ ρ) (i : Nat) (hd : DA K G v x) : SA K b G H (σ.set i (some v)) (ρ.set i (some (.d x))) := by
  have S0 : SA K b G H (σ.set i (some v)) (ρ.set i none) := S.less (by rw [List.length_set, List.length_set, S.len]) fun j s e => by
    rw [List.getElem?_set] at e
    by_cases hj : i = j
    · rw [if_pos hj] at e
      split at e
      · cases e
      · cases e
    · rw [if_neg hj] at e
      rw [List.getElem?_set, if_neg hj]
      exact ⟨rfl, s, e, Wk.refl s⟩
  have cases_ : ∀ (j : Nat) (s : Sl), (ρ.set i (some (.d x)))[j]? = some (some s) → (j = i ∧ s = .d x ∧ (σ.set i (some v))[j]? = some (some v)) ∨ (ρ.set i none)[j]? = some (some s) := fun j s e => by
    rw [List.getElem?_set] at e
    by_cases hj : i = j
    · subst hj
      rw [if_pos rfl] at e
      split at e
      · rename_i hl
        cases e
        refine .inl ⟨rfl, rfl, ?_⟩
        rw [List.getElem?_set, if_pos rfl, if_pos (by rw [S.len]; exact hl)]
      · cases e
    · rw [if_neg hj] at e
      right
      rw [List.getElem?_set, if_neg hj]
      exact e
  exact {
    sub := S.sub, gg := S.gg, new := S.new, keep := S.keep, trk := S.trk, ptr := S.ptr, gtr := S.gtr
    dat := fun j y e => by
      rcases cases_ j _ e with ⟨_, h2, h3⟩ | h
      · cases h2
        exact ⟨v, h3, hd⟩
      · exact S0.dat j y h
    own := fun j ys e => by
      rcases cases_ j _ e with ⟨_, h2, _⟩ | h
      · cases h2
      · exact S0.own j ys h
    sep := fun j k ys zs a ej ek ne hj hk => by
      rcases cases_ j _ ej with ⟨_, h2, _⟩ | h
      · cases h2
      · rcases cases_ k _ ek with ⟨_, h2, _⟩ | h'
        · cases h2
        · exact S0.sep j k ys zs a h h' ne hj hk
    pen := fun j c e => by
      rcases cases_ j _ e with ⟨_, h2, _⟩ | h
      · cases h2
      · exact S0.pen j c h
    penp := fun j c e => by
      rcases cases_ j _ e with ⟨_, h2, _⟩ | h
      · cases h2
      · exact S0.penp j c h
    onep := fun j k c c' ej ek => by
      rcases cases_ j _ ej with ⟨_, h2, _⟩ | h
      · cases h2
      · rcases cases_ k _ ek with ⟨_, h2, _⟩ | h'
        · cases h2
        · exact S0.onep j k c c' h h'
    len := by rw [List.length_set, List.length_set, S.len] }
end

/-! ### targets -/
structure OnlyAt (js : List Nat) (σ σ' : L2.St) (ρ ρ' : En) : Prop where
  l : σ'.length = σ.length
  s : ∀ (i : Nat), i ∉ js → σ'[i]? = σ[i]?
  r : ∀ (i : Nat), i ∉ js → ρ'[i]? = ρ[i]?
theorem OnlyAt.refl {σ : L2.St} {ρ : En} : OnlyAt [] σ σ ρ ρ := ⟨rfl, fun _ _ => rfl, fun _ _ => rfl⟩
theorem OnlyAt.trans {js ks : List Nat} {σ σ1 σ2 : L2.St} {ρ ρ1 ρ2 : En} (a : OnlyAt js σ σ1 ρ ρ1) (b : OnlyAt ks σ1 σ2 ρ1 ρ2) : OnlyAt (js ++ ks) σ σ2 ρ ρ2 :=
  ⟨b.l.trans a.l, fun i h => (b.s i fun z => h (List.mem_append_right _ z)).trans (a.s i fun z => h (List.mem_append_left _ z)), fun i h => (b.r i fun z => h (List.mem_append_right _ z)).trans (a.r i fun z => h (List.mem_append_left _ z))⟩
def Eg (K : PySem.W.Frag) (g : TG) (js : List Nat) (ρ : En) (x : PyData) (ρ' : En) : Prop :=
  ∀ b G H σ v, SA K b G H σ ρ → DA K G v x → ∀ Q : L2.St → Hp → Prop, (∀ σ', SA K b G H σ' ρ' → OnlyAt js σ σ' ρ ρ' → Q σ' H) → g v σ H Q
def Egs (K : PySem.W.Frag) (g : TGs) (js : List Nat) (ρ : En) (xs : List PyData) (ρ' : En) : Prop :=
  ∀ b G H σ vs, SA K b G H σ ρ → DAs K G vs xs → ∀ Q : L2.St → Hp → Prop, (∀ σ', SA K b G H σ' ρ' → OnlyAt js σ σ' ρ ρ' → Q σ' H) → g vs σ H Q
section
variable {K : PySem.W.Frag} {ρ ρ' ρ2 : En} {x : PyData}
theorem eg_name {i : Nat} : Eg K (gName i) [i] ρ x (ρ.set i (some (.d x))) := fun b G H σ v S hd Q q => q _ (S.set i hd) ⟨by rw [List.length_set], fun j hj => by
    rw [List.getElem?_set, if_neg (fun z => hj (by rw [z]; exact List.mem_singleton.mpr rfl))], fun j hj => by
    rw [List.getElem?_set, if_neg (fun z => hj (by rw [z]; exact List.mem_singleton.mpr rfl))]⟩
theorem egs_nil : Egs K gNil [] ρ [] ρ := fun b G H σ vs S hd Q q => by
  cases hd
  exact ⟨rfl, q σ S OnlyAt.refl⟩
theorem egs_cons {t : TG} {u : TGs} {js ks : List Nat} {xs : List PyData} (h1 : Eg K t js ρ x ρ') (h2 : Egs K u ks ρ' xs ρ2) : Egs K (gCons t u) (js ++ ks) ρ (x :: xs) ρ2 := fun b G H σ vs S hd Q q => by
  cases hd with
  | cons d1 d2 => exact ⟨_, _, rfl, h1 b G H σ _ S d1 _ fun σ1 S1 o1 => h2 b G H σ1 _ S1 d2 _ fun σ2 S2 o2 => q σ2 S2 (o1.trans o2)⟩
theorem eg_tup {t : TGs} {n : Nat} {js : List Nat} {xs : List PyData} (hl : xs.length = n) (h : Egs K t js ρ xs ρ') : Eg K (gTup K n t) js ρ (.tuple xs) ρ' := fun b G H σ v S hd Q q => by
  obtain ⟨a, vs, rfl, ha, _, da⟩ := hd.tupH S.sub
  exact ⟨a, vs, rfl, ha, by rw [da.length, hl], h b G H σ vs S da Q q⟩
theorem eg_unl {t : TGs} {n : Nat} {js : List Nat} {xs : List PyData} (hl : xs.length = n) (h : Egs K t js ρ xs ρ') : Eg K (gUnl K n t) js ρ (.list xs) ρ' := fun b G H σ v S hd Q q => by
  obtain ⟨a, vs, rfl, ha, _, da⟩ := hd.lstH S.sub
  exact ⟨a, vs, rfl, SqL.of ha, by rw [da.length, hl], h b G H σ vs S da Q q⟩
end

/-! ### statements -/
section
variable {K : PySem.W.Frag} {ρ : En} {O : Out → Prop} {te ta : TE} {t u : TS} {tt : TT} {g : TG}
theorem To.seq {b : Bs} {D : Ends} {O1 : Out → Prop} (T : To K b D O) (h : ∀ ρ', O1 (.nx ρ') → Es K u ρ' O) (hr : ∀ ρ' x, O1 (.rt ρ' x) → O (.rt ρ' x)) (hb : ∀ ρ', O1 (.bk ρ') → O (.bk ρ')) (hc : ∀ ρ', O1 (.ct ρ') → O (.ct ρ')) :
    To K b { D with nx := u D } O1 where
  nx := fun ρ' σ G H o S => h ρ' o b G H σ D S T
  rt := fun ρ' x v σ G H o S d => T.rt ρ' x v σ G H (hr _ _ o) S d
  bk := fun ρ' σ G H o S => T.bk ρ' σ G H (hb _ o) S
  ct := fun ρ' σ G H o S => T.ct ρ' σ G H (hc _ o) S
theorem es_seq {O1 : Out → Prop} (h1 : Es K t ρ O1) (h : ∀ ρ', O1 (.nx ρ') → Es K u ρ' O) (hr : ∀ ρ' x, O1 (.rt ρ' x) → O (.rt ρ' x)) (hb : ∀ ρ', O1 (.bk ρ') → O (.bk ρ')) (hc : ∀ ρ', O1 (.ct ρ') → O (.ct ρ')) : Es K (tSeq t u) ρ O :=
  fun b G H σ D S T => h1 b G H σ _ S (T.seq h hr hb hc)
/-- what a first statement's outcomes must be, when more follows -/
def Then (K : PySem.W.Frag) (u : TS) (O : Out → Prop) : Out → Prop
  | .nx ρ => Es K u ρ O
  | o => O o
theorem es_then (h1 : Es K t ρ (Then K u O)) : Es K (tSeq t u) ρ O := es_seq h1 (fun _ h => h) (fun _ _ h => h) (fun _ h => h) (fun _ h => h)
theorem Es.imp {O' : Out → Prop} (h : Es K t ρ O) (i : ∀ o, O o → O' o) : Es K t ρ O' := fun b G H σ D S T => h b G H σ D S ⟨fun ρ σ G H o => T.nx ρ σ G H (i _ o), fun ρ x v σ G H o => T.rt ρ x v σ G H (i _ o), fun ρ σ G H o => T.bk ρ σ G H (i _ o), fun ρ σ G H o => T.ct ρ σ G H (i _ o)⟩
theorem es_asg {R : En → PyData → Prop} (h : Ev K te ρ R) (k : ∀ ρ1 x, R ρ1 x → ∃ js ρ', Eg K g js ρ1 x ρ' ∧ O (.nx ρ')) : Es K (tAsg te g) ρ O := fun b G H σ D S T =>
  h b G H σ S _ fun v x ρ1 G1 H1 hr S1 d1 => by
    obtain ⟨js, ρ', hg, ho⟩ := k ρ1 x hr
    exact hg b G1 H1 σ v S1 d1 _ fun σ' S2 _ => T.nx ρ' σ' G1 H1 ho S2
theorem eq_asg {x : PyData} {js : List Nat} {ρ' : En} (h : Ed K te ρ x) (hg : Eg K g js ρ x ρ') (k : Es K u ρ' O) : Es K (tSeq (tAsg te g) u) ρ O :=
  es_then (es_asg h fun ρ1 y e => by obtain ⟨rfl, rfl⟩ := e; exact ⟨js, ρ', hg, k⟩)
/-- x = e -/
theorem eq_set {x : PyData} {i : Nat} (h : Ed K te ρ x) (k : Es K u (ρ.set i (some (.d x))) O) : Es K (tSeq (tAsg te (gName i)) u) ρ O := eq_asg h eg_name k
theorem eqv_set {R : En → PyData → Prop} {i : Nat} (h : Ev K te ρ R) (k : ∀ ρ1 x, R ρ1 x → Es K u (ρ1.set i (some (.d x))) O) : Es K (tSeq (tAsg te (gName i)) u) ρ O :=
  es_then (es_asg h fun ρ1 y e => ⟨_, _, eg_name, k ρ1 y e⟩)
theorem es_set {x : PyData} {i : Nat} (h : Ed K te ρ x) (k : O (.nx (ρ.set i (some (.d x))))) : Es K (tAsg te (gName i)) ρ O := es_asg h fun ρ1 y e => by
  obtain ⟨rfl, rfl⟩ := e
  exact ⟨_, _, eg_name, k⟩
theorem es_retv {R : En → PyData → Prop} (h : Ev K te ρ R) (k : ∀ ρ1 x, R ρ1 x → O (.rt ρ1 x)) : Es K (tRet te) ρ O := fun b G H σ D S T =>
  h b G H σ S _ fun v x ρ1 G1 H1 hr S1 d1 => T.rt ρ1 x v σ G1 H1 (k ρ1 x hr) S1 d1
theorem es_ret {x : PyData} (h : Ed K te ρ x) (k : O (.rt ρ x)) : Es K (tRet te) ρ O := es_retv h fun ρ1 y e => by
  obtain ⟨rfl, rfl⟩ := e
  exact k
theorem es_next (k : O (.nx ρ)) : Es K tNext ρ O := fun b G H σ D S T => T.nx ρ σ G H k S
theorem es_break (k : O (.bk ρ)) : Es K tBreak ρ O := fun b G H σ D S T => T.bk ρ σ G H k S
theorem es_cont (k : O (.ct ρ)) : Es K tCont ρ O := fun b G H σ D S T => T.ct ρ σ G H k S
theorem es_retSeq {x : PyData} (h : Ed K te ρ x) (k : O (.rt ρ x)) : Es K (tSeq (tRet te) u) ρ O := es_then (es_ret h k)
theorem es_if {c : Bool} (h : Eb K tt ρ c) (h1 : c = true → Es K t ρ O) (h2 : c = false → Es K u ρ O) : Es K (tIfS tt t u) ρ O := fun b G H σ D S T =>
  h b G H σ S _ fun x ρ1 G1 H1 e S1 => by
    obtain ⟨rfl, rfl⟩ := e
    cases x with
    | true =>
      show t D σ H1
      exact h1 rfl b G1 H1 σ D S1 T
    | false =>
      show u D σ H1
      exact h2 rfl b G1 H1 σ D S1 T
theorem esv_if {R : En → Bool → Prop} (h : EvT K tt ρ R) (h1 : ∀ ρ1, R ρ1 true → Es K t ρ1 O) (h2 : ∀ ρ1, R ρ1 false → Es K u ρ1 O) : Es K (tIfS tt t u) ρ O := fun b G H σ D S T =>
  h b G H σ S _ fun x ρ1 G1 H1 e S1 => by
    cases x with
    | true =>
      show t D σ H1
      exact h1 ρ1 e b G1 H1 σ D S1 T
    | false =>
      show u D σ H1
      exact h2 ρ1 e b G1 H1 σ D S1 T
theorem eq_if {c : Bool} {w : TS} (h : Eb K tt ρ c) (h1 : c = true → Es K t ρ (Then K w O)) (h2 : c = false → Es K u ρ (Then K w O)) : Es K (tSeq (tIfS tt t u) w) ρ O := es_then (es_if h h1 h2)
/-- if c: return .. (no else), the rest -/
theorem eq_when {c : Bool} {w : TS} (h : Eb K tt ρ c) (h1 : c = true → Es K t ρ (Then K w O)) (h2 : c = false → Es K w ρ O) : Es K (tSeq (tIfS tt t tNext) w) ρ O := eq_if h h1 fun e => es_next (h2 e)
theorem es_drop {R : En → PyData → Prop} (h : Ev K te ρ R) (k : ∀ ρ1 x, R ρ1 x → O (.nx ρ1)) : Es K (tDrop te) ρ O := fun b G H σ D S T =>
  h b G H σ S _ fun v x ρ1 G1 H1 hr S1 d1 => T.nx ρ1 σ G1 H1 (k ρ1 x hr) S1
end

/-! ### what is walked -/
structure Walks (K : PySem.W.Frag) (J : It) (G0 : Hp) (xs : List PyData) : Prop where
  go : ∀ i G H, Sub G0 G → Sub G H → i < xs.length → J.go i H
  stop : ∀ i G H, Sub G0 G → Sub G H → xs.length ≤ i → J.stop i H
  yld : ∀ i G H v H', Sub G0 G → Sub G H → J.yld i H v H' → ∀ x, xs[i]? = some x → ∃ G', Step G H G' H' ∧ DA K G' v x
def EI (K : PySem.W.Frag) (wi : TI) (ρ : En) (R : En → List PyData → Prop) : Prop :=
  ∀ b G H σ, SA K b G H σ ρ → ∀ Q : It → Hp → Prop, (∀ J ρ1 xs G1 H1, R ρ1 xs → SA K b G1 H1 σ ρ1 → Walks K J G1 xs → Q J H1) → wi σ H Q
abbrev Ei (K : PySem.W.Frag) (wi : TI) (ρ : En) (xs : List PyData) : Prop := EI K wi ρ fun ρ' ys => ρ' = ρ ∧ ys = xs
section
variable {K : PySem.W.Frag} {ρ : En} {te tl : TE} {ta : TA} {G0 : Hp}
theorem walks_list {a : Addr} {vs : List V} {xs : List PyData} (h : G0 a = some (.lst vs)) (d : DAs K G0 vs xs) : Walks K (Itl K a) G0 xs where
  go := fun i G H g s hi => by
    obtain ⟨v, hv, _⟩ := d.get (i := i) (List.getElem?_eq_getElem hi)
    exact ⟨vs, v, SqL.of (s _ _ (g _ _ h)), hv⟩
  stop := fun i G H g s hi => ⟨vs, SqL.of (s _ _ (g _ _ h)), by rw [d.length]; exact hi⟩
  yld := fun i G H v H' g s y x hx => by
    obtain ⟨e, y⟩ := y
    subst e
    obtain ⟨w, hw, dw⟩ := d.get hx
    have e := y vs (SqL.of (s _ _ (g _ _ h)))
    rw [hw] at e
    cases e
    exact ⟨G, Step.refl s, dw.mono g⟩
theorem walks_tup {a : Addr} {vs : List V} {xs : List PyData} (h : SqT K G0 a vs) (d : DAs K G0 vs xs) : Walks K (Itt K a) G0 xs where
  go := fun i G H g s hi => by
    obtain ⟨v, hv, _⟩ := d.get (i := i) (List.getElem?_eq_getElem hi)
    exact ⟨vs, v, sub_t s (sub_t g h), hv⟩
  stop := fun i G H g s hi => ⟨vs, sub_t s (sub_t g h), by rw [d.length]; exact hi⟩
  yld := fun i G H v H' g s y x hx => by
    obtain ⟨e, y⟩ := y
    subst e
    obtain ⟨w, hw, dw⟩ := d.get hx
    have e := y vs (sub_t s (sub_t g h))
    rw [hw] at e
    cases e
    exact ⟨G, Step.refl s, dw.mono g⟩
theorem walks_range {lo : Int} {n : Nat} : Walks K (Itr lo n) G0 ((List.range n).map fun i => PyData.int (lo + (i : Nat))) where
  go := fun i G H g s hi => by
    rw [List.length_map, List.length_range] at hi
    exact hi
  stop := fun i G H g s hi => by
    rw [List.length_map, List.length_range] at hi
    exact hi
  yld := fun i G H v H' g s y x hx => by
    obtain ⟨e, y⟩ := y
    subst e
    subst y
    rw [List.getElem?_map] at hx
    cases hr : (List.range n)[i]? with
    | none => rw [hr] at hx; cases hx
    | some j =>
      rw [hr] at hx
      cases hx
      have hj : j = i := by
        obtain ⟨_, e⟩ := List.getElem?_eq_some_iff.mp hr
        rw [List.getElem_range] at e
        exact e.symm
      subst hj
      exact ⟨G, Step.refl s, .int _⟩
theorem ei_list {xs : List PyData} (h : Ed K tl ρ (.list xs)) : Ei K (iList K tl) ρ xs := fun b G H σ S Q q => h b G H σ S _ fun v y ρ1 G1 H1 e S1 d1 => by
  obtain ⟨rfl, rfl⟩ := e
  cases d1 with
  | lst h1 hd => exact ⟨_, rfl, ⟨_, SqL.of (S1.sub _ _ h1)⟩, q _ _ _ G1 H1 ⟨rfl, rfl⟩ S1 (walks_list h1 hd)⟩
theorem ei_tup {xs : List PyData} (h : Ed K tl ρ (.tuple xs)) : Ei K (iTup K tl) ρ xs := fun b G H σ S Q q => h b G H σ S _ fun v y ρ1 G1 H1 e S1 d1 => by
  obtain ⟨rfl, rfl⟩ := e
  cases d1 with
  | tup h1 hd => exact ⟨_, rfl, ⟨_, sub_t S1.sub h1⟩, q _ _ _ G1 H1 ⟨rfl, rfl⟩ S1 (walks_tup h1 hd)⟩
/-- ints lo .. lo + n - 1 -/
def rgD (n : Nat) : List PyData := (List.range n).map fun i => PyData.int ((i : Nat) : Int)
theorem rgD_get {n i : Nat} {x : PyData} (h : (rgD n)[i]? = some x) : x = .int (i : Nat) ∧ i < n := by
  unfold rgD at h
  rw [List.getElem?_map] at h
  cases hr : (List.range n)[i]? with
  | none => rw [hr] at h; cases h
  | some j =>
    rw [hr] at h
    cases h
    obtain ⟨hl, e⟩ := List.getElem?_eq_some_iff.mp hr
    rw [List.getElem_range] at e
    subst e
    rw [List.length_range] at hl
    exact ⟨rfl, hl⟩
theorem rgD_len (n : Nat) : (rgD n).length = n := by unfold rgD; rw [List.length_map, List.length_range]
theorem eiv_rng1 {R1 : En → List PyData → Prop} {R : En → List PyData → Prop} (h : EvA K ta ρ R1) (hr : ∀ ρ1 xs, R1 ρ1 xs → ∃ n : Int, xs = [.int n] ∧ n ≤ 1000000 ∧ -1000000 ≤ n ∧ R ρ1 (rgD n.toNat)) : EI K (iRng1 ta) ρ R := fun b G H σ S Q q => h b G H σ S _ fun vs ys ρ1 G1 H1 e S1 d1 => by
  obtain ⟨n, rfl, h1, h2, h3⟩ := hr ρ1 ys e
  obtain ⟨v, rfl, d⟩ := d1.one
  cases d
  refine ⟨n, rfl, by omega, by omega, q _ ρ1 _ G1 H1 h3 S1 ?_⟩
  have w := walks_range (K := K) (G0 := G1) (lo := 0) (n := n.toNat)
  have e : ((List.range n.toNat).map fun i => PyData.int (0 + (i : Nat))) = rgD n.toNat := by
    unfold rgD
    congr 1
    funext i
    rw [Int.zero_add]
  rw [e] at w
  exact w
theorem ei_rng1 {n : Int} (h : Ea K ta ρ [.int n]) (h1 : n ≤ 1000000) (h2 : -1000000 ≤ n) : Ei K (iRng1 ta) ρ (rgD n.toNat) := eiv_rng1 h fun ρ1 xs e => by
  obtain ⟨rfl, rfl⟩ := e
  exact ⟨n, rfl, h1, h2, rfl, rfl⟩
end

/-! ### for -/
def LoopO (I : Nat → En → Prop) (O : Out → Prop) (k : Nat) : Out → Prop
  | .nx ρ => I (k + 1) ρ
  | .ct ρ => I (k + 1) ρ
  | .bk ρ => O (.nx ρ)
  | .rt ρ x => O (.rt ρ x)
theorem es_for {K : PySem.W.Frag} {ρ : En} {O : Out → Prop} {wi : TI} {g : TG} {tb : TS} {R : En → List PyData → Prop} (h : EI K wi ρ R)
    (k : ∀ ρ1 xs, R ρ1 xs → ∃ I : Nat → En → Prop, I 0 ρ1 ∧ (∀ i x ρ', xs[i]? = some x → I i ρ' → ∃ js ρ2, Eg K g js ρ' x ρ2 ∧ Es K tb ρ2 (LoopO I O i)) ∧ ∀ ρ', I xs.length ρ' → O (.nx ρ')) : Es K (tFor wi g tb) ρ O := fun b G H σ D S T =>
  h b G H σ S _ fun J ρ1 xs G1 H1 hr S1 w => by
    obtain ⟨I, i0, hs, hd⟩ := k ρ1 xs hr
    refine ⟨fun i m σ' H' => m = xs.length - i ∧ i ≤ xs.length ∧ ∃ ρ' G', I i ρ' ∧ SA K b G' H' σ' ρ' ∧ Sub G1 G', ⟨xs.length, rfl, Nat.zero_le _, ρ1, G1, i0, S1, Sub.refl G1⟩, ?_⟩
    rintro i m σ' H' ⟨rfl, hi, ρ', G', hI, S', g1⟩
    by_cases hlt : i < xs.length
    · refine .inr ⟨w.go i G' H' g1 S'.sub hlt, fun σ2 H2 => i + 1 ≤ xs.length ∧ ∃ ρ2 G2, I (i + 1) ρ2 ∧ SA K b G2 H2 σ2 ρ2 ∧ Sub G1 G2, fun σ2 H2 p => ⟨xs.length - (i + 1), by omega, rfl, p.1, p.2⟩, fun v H2 y => ?_⟩
      obtain ⟨G2, st, dv⟩ := w.yld i G' H' v H2 g1 S'.sub y xs[i] (List.getElem?_eq_getElem hlt)
      obtain ⟨js, ρ2, hg, hb⟩ := hs i xs[i] ρ' (List.getElem?_eq_getElem hlt) hI
      have S2 := S'.step st
      refine hg _ G2 H2 σ' v S2.here dv _ fun σ3 S3 _ => hb _ G2 H2 σ3 _ S3 ⟨fun ρ4 σ4 G4 H4 o S4 => ?_, fun ρ4 x v4 σ4 G4 H4 o S4 d4 => ?_, fun ρ4 σ4 G4 H4 o S4 => ?_, fun ρ4 σ4 G4 H4 o S4 => ?_⟩
      · exact ⟨hlt, ρ4, G4, o, S2.back S4, (g1.trans st.gg).trans S4.gg⟩
      · exact T.rt ρ4 x v4 σ4 G4 H4 o (S2.back S4) d4
      · exact T.nx ρ4 σ4 G4 H4 o (S2.back S4)
      · exact ⟨hlt, ρ4, G4, o, S2.back S4, (g1.trans st.gg).trans S4.gg⟩
    · have e : i = xs.length := by omega
      subst e
      exact .inl ⟨w.stop _ G' H' g1 S'.sub (Nat.le_refl _), T.nx ρ' σ' G' H' (hd ρ' hI) S'⟩
/-- with the source known -/
theorem es_forD {K : PySem.W.Frag} {ρ : En} {O : Out → Prop} {wi : TI} {g : TG} {tb : TS} {xs : List PyData} (h : Ei K wi ρ xs) (I : Nat → En → Prop) (h0 : I 0 ρ)
    (hs : ∀ i x ρ', xs[i]? = some x → I i ρ' → ∃ js ρ2, Eg K g js ρ' x ρ2 ∧ Es K tb ρ2 (LoopO I O i)) (hd : ∀ ρ', I xs.length ρ' → O (.nx ρ')) : Es K (tFor wi g tb) ρ O :=
  es_for h fun ρ1 ys e => by
    obtain ⟨rfl, rfl⟩ := e
    exact ⟨I, h0, hs, hd⟩
end RS
end
section
set_option Elab.async false
set_option linter.all false
set_option autoImplicit false
set_option maxRecDepth 100000
set_option maxHeartbeats 2000000
/-! RS4: comprehensions -/
namespace RS
open PySem L2
def pn (c : Nat) : Option Sl → Option Sl
  | some (.pen _) => some (.pen c)
  | o => o
def setPen (c : Nat) (ρ : En) : En := ρ.map (pn c)
theorem pn_pn (c d : Nat) (o : Option Sl) : pn c (pn d o) = pn c o := by
  cases o with
  | none => rfl
  | some s => cases s <;> rfl
theorem setPen_setPen (c d : Nat) (ρ : En) : setPen c (setPen d ρ) = setPen c ρ := by
  unfold setPen
  rw [List.map_map]
  congr 1
  funext o
  exact pn_pn c d o
theorem setPen_get (c : Nat) (ρ : En) (i : Nat) : (setPen c ρ)[i]? = ρ[i]?.map (pn c) := List.getElem?_map ..
theorem setPen_d {c : Nat} {ρ : En} {i : Nat} {x : PyData} : (setPen c ρ)[i]? = some (some (Sl.d x)) ↔ ρ[i]? = some (some (Sl.d x)) := by
  rw [setPen_get]
  cases h : ρ[i]? with
  | none => simp
  | some o =>
    cases o with
    | none => simp [pn]
    | some s => cases s <;> simp [pn]
theorem setPen_own {c : Nat} {ρ : En} {i : Nat} {x : List PyData} : (setPen c ρ)[i]? = some (some (Sl.own x)) ↔ ρ[i]? = some (some (Sl.own x)) := by
  rw [setPen_get]
  cases h : ρ[i]? with
  | none => simp
  | some o =>
    cases o with
    | none => simp [pn]
    | some s => cases s <;> simp [pn]
theorem setPen_pen {c d : Nat} {ρ : En} {i : Nat} (h : (setPen c ρ)[i]? = some (some (Sl.pen d))) : d = c ∧ ∃ e, ρ[i]? = some (some (Sl.pen e)) := by
  rw [setPen_get] at h
  cases h' : ρ[i]? with
  | none => rw [h'] at h; cases h
  | some o =>
    rw [h'] at h
    cases o with
    | none => cases h
    | some s =>
      cases s with
      | pen e => cases h; exact ⟨rfl, e, rfl⟩
      | d y => cases h
      | own y => cases h
theorem setPen_len (c : Nat) (ρ : En) : (setPen c ρ).length = ρ.length := List.length_map ..
/-- slots forgotten -/
def wp (ρ : En) : List Nat → En
  | [] => ρ
  | v :: vs => (wp ρ vs).set v none
theorem wp_len (ρ : En) : ∀ vs : List Nat, (wp ρ vs).length = ρ.length
  | [] => rfl
  | v :: vs => by unfold wp; rw [List.length_set, wp_len ρ vs]
theorem wp_out {ρ : En} {i : Nat} : ∀ {vs : List Nat}, i ∉ vs → (wp ρ vs)[i]? = ρ[i]?
  | [], _ => rfl
  | v :: vs, h => by
    unfold wp
    rw [List.getElem?_set, if_neg (fun z => h (by rw [z]; exact List.mem_cons_self))]
    exact wp_out fun z => h (List.mem_cons_of_mem _ z)
theorem wp_in {ρ : En} {i : Nat} {s : Sl} : ∀ {vs : List Nat}, (wp ρ vs)[i]? = some (some s) → i ∉ vs
  | [], _ => by simp
  | v :: vs, h => by
    unfold wp at h
    rw [List.getElem?_set] at h
    by_cases hv : v = i
    · rw [if_pos hv] at h
      split at h <;> cases h
    · rw [if_neg hv] at h
      intro z
      rcases List.mem_cons.mp z with z | z
      · exact hv z.symm
      · exact wp_in h z
theorem wipe_same {σ σ' : L2.St} {vs js : List Nat} (hl : σ'.length = σ.length) (h : ∀ i : Nat, i ∉ js → σ'[i]? = (wipe σ vs)[i]?) (hj : ∀ j ∈ js, j ∈ vs) : wipe σ' vs = wipe σ vs := by
  apply List.ext_getElem?
  intro i
  by_cases hi : i ∈ vs
  · have key : ∀ (τ : L2.St) (us : List Nat), i ∈ us → i < τ.length → (wipe τ us)[i]? = some none := by
      intro τ us
      induction us with
      | nil => intro z; cases z
      | cons u us ih =>
        intro z hl
        unfold wipe
        rw [List.getElem?_set]
        by_cases hu : u = i
        · rw [if_pos hu, if_pos (by rw [wipe_length, hu]; exact hl)]
        · rw [if_neg hu]
          rcases List.mem_cons.mp z with z | z
          · exact absurd z.symm hu
          · exact ih z hl
    by_cases hlt : i < σ.length
    · rw [key σ vs hi hlt, key σ' vs hi (by rw [hl]; exact hlt)]
    · rw [List.getElem?_eq_none_iff.mpr (by rw [wipe_length]; omega), List.getElem?_eq_none_iff.mpr (by rw [wipe_length]; omega)]
  · rw [wipe_out hi, h i (fun z => hi (hj i z))]
section
variable {K : PySem.W.Frag} {b : Bs} {G H : Hp} {σ : L2.St} {ρ : En} {D : Addr} {o : HO}
/-- no slot's own object stands at D -/
structure NotAt (σ : L2.St) (ρ : En) (D : Addr) : Prop where
  own : ∀ (i : Nat) (xs : List PyData), ρ[i]? = some (some (Sl.own xs)) → σ[i]? ≠ some (some (V.ref D))
  pen : ∀ (i c : Nat), ρ[i]? = some (some (Sl.pen c)) → σ[i]? ≠ some (some (V.ref D))
theorem SA.notAt (S : SA K b G H σ ρ) (h : H D = none) : NotAt σ ρ D where
  own := fun i xs e z => by
    obtain ⟨a, vs, h1, _, _, h2, _⟩ := S.own i xs e
    rw [h1] at z
    cases z
    rw [h] at h2
    cases h2
  pen := fun i c e z => by
    obtain ⟨a, h1, _, _, h2⟩ := S.pen i c e
    obtain ⟨kvs, h2⟩ := h2.there
    rw [h1] at z
    cases z
    rw [h] at h2
    cases h2
/-- an object apart from all slots is to be kept for a while -/
theorem SA.guard (S : SA K b G H σ ρ) (n : NotAt σ ρ D) (h : H D = some o) : SA K ⟨G, upd b.P D o, fun a => H a ≠ none ∧ NoOwn σ ρ a, b.pp⟩ G H σ ρ where
  sub := S.sub
  gg := Sub.refl G
  new := fun a h _ => h
  keep := fun a u e0 => by
    have e : upd b.P D o a = some u := e0
    by_cases ha : a = D
    · subst ha
      rw [upd_same] at e
      exact h.trans e
    · rw [upd_ne ha] at e
      exact S.keep a u e
  trk := fun a h => h.1
  ptr := fun a e0 => by
    have e : upd b.P D o a ≠ none := e0
    by_cases ha : a = D
    · subst ha
      exact ⟨(by rw [h]; exact fun z => (nomatch z)), n.own⟩
    · rw [upd_ne ha] at e
      exact S.here.ptr a e
  gtr := S.here.gtr
  dat := S.dat
  own := fun i xs e => by
    obtain ⟨a, vs, h1, h2, h3, h4, h5, h6⟩ := S.here.own i xs e
    refine ⟨a, vs, h1, h2, ?_, h4, h5, h6⟩
    show upd b.P D o a = none
    rw [upd_ne (fun z => n.own i xs e (by rw [h1, z]))]
    exact h3
  sep := S.sep
  pen := fun i c e => by
    obtain ⟨a, h1, h2, h3, h4⟩ := S.pen i c e
    refine ⟨a, h1, h2, ?_, h4⟩
    show upd b.P D o a = none
    rw [upd_ne (fun z => n.pen i c e (by rw [h1, z]))]
    exact h3
  penp := S.penp
  onep := S.onep
  len := S.len
theorem SA.unguard {G2 H2 : Hp} {σ2 : L2.St} {ρ2 : En} (S : SA K b G H σ ρ) (hP : b.P D = none) (S2 : SA K ⟨G, upd b.P D o, fun a => H a ≠ none ∧ NoOwn σ ρ a, b.pp⟩ G2 H2 σ2 ρ2) : SA K b G2 H2 σ2 ρ2 where
  sub := S2.sub
  gg := S.gg.trans S2.gg
  new := fun a h q => S2.new a (S.new a h q) ⟨S.trk a q, S.noT q⟩
  keep := fun a u e => S2.keep a u (by
    show upd b.P D o a = some u
    rw [upd_ne (fun z => by rw [z, hP] at e; cases e)]
    exact e)
  trk := fun a q => S2.trk a ⟨S.trk a q, S.noT q⟩
  ptr := S.ptr
  gtr := S.gtr
  dat := S2.dat
  own := fun i xs e => by
    obtain ⟨a, vs, h1, h2, h3, h4, h5, h6⟩ := S2.own i xs e
    refine ⟨a, vs, h1, h2, ?_, h4, h5, fun z => h6 ⟨S.trk a z, S.noT z⟩⟩
    have h3' : upd b.P D o a = none := h3
    by_cases ha : a = D
    · rw [ha, upd_same] at h3'; cases h3'
    · rw [upd_ne ha] at h3'; exact h3'
  sep := S2.sep
  pen := fun i c e => by
    obtain ⟨a, h1, h2, h3, h4⟩ := S2.pen i c e
    refine ⟨a, h1, h2, ?_, h4⟩
    have h3' : upd b.P D o a = none := h3
    by_cases ha : a = D
    · rw [ha, upd_same] at h3'; cases h3'
    · rw [upd_ne ha] at h3'; exact h3'
  penp := S2.penp
  onep := S2.onep
  len := S2.len
/-- such an object changes -/
theorem SA.write (S : SA K b G H σ ρ) (n : NotAt σ ρ D) (hG : G D = none) (hP : b.P D = none) (ho : H D ≠ none) : SA K b G (upd H D o) σ ρ where
  sub := fun a u e => by
    rw [upd_ne (fun z => by rw [z, hG] at e; cases e)]
    exact S.sub a u e
  gg := S.gg
  new := S.new
  keep := fun a u e => by
    rw [upd_ne (fun z => by rw [z, hP] at e; cases e)]
    exact S.keep a u e
  trk := fun a q => by
    by_cases ha : a = D
    · subst ha; rw [upd_same]; exact fun z => nomatch z
    · rw [upd_ne ha]; exact S.trk a q
  ptr := S.ptr
  gtr := S.gtr
  dat := S.dat
  own := fun i xs e => by
    obtain ⟨a, vs, h1, h2, h3, h4, h5, h6⟩ := S.own i xs e
    refine ⟨a, vs, h1, h2, h3, ?_, h5, h6⟩
    rw [upd_ne (fun z => n.own i xs e (by rw [h1, z]))]
    exact h4
  sep := S.sep
  pen := fun i c e => by
    obtain ⟨a, h1, h2, h3, h4⟩ := S.pen i c e
    refine ⟨a, h1, h2, h3, h4.mono (Sub.refl G) (fun u q => ?_) (Nat.le_refl _)⟩
    rw [upd_ne (fun z => n.pen i c e (by rw [h1, z]))]
    exact q
  penp := S.penp
  onep := S.onep
  len := S.len
/-- such an object stands for ever from now on -/
theorem SA.adopt (S : SA K b G H σ ρ) (n : NotAt σ ρ D) (hT : ¬ b.T D) (hG : G D = none) (ho : H D = some o) : SA K b (upd G D o) H σ ρ where
  sub := fun a u e => by
    by_cases ha : a = D
    · subst ha; rw [upd_same] at e; exact ho.trans e
    · rw [upd_ne ha] at e; exact S.sub a u e
  gg := fun a u e => by
    have h := S.gg a u e
    rw [upd_ne (fun z => by rw [z, hG] at h; cases h)]
    exact h
  new := fun a h q => by
    rw [upd_ne (fun z => hT (by rw [← z]; exact q))]
    exact S.new a h q
  keep := S.keep
  trk := S.trk
  ptr := S.ptr
  gtr := S.gtr
  dat := fun i x e => by
    obtain ⟨v, h1, h2⟩ := S.dat i x e
    exact ⟨v, h1, h2.mono fun a u q => by rw [upd_ne (fun z => by rw [z, hG] at q; cases q)]; exact q⟩
  own := fun i xs e => by
    obtain ⟨a, vs, h1, h2, h3, h4, h5, h6⟩ := S.own i xs e
    refine ⟨a, vs, h1, ?_, h3, h4, h5.mono (fun a u q => by rw [upd_ne (fun z => by rw [z, hG] at q; cases q)]; exact q), h6⟩
    rw [upd_ne (fun z => n.own i xs e (by rw [h1, z]))]
    exact h2
  sep := S.sep
  pen := fun i c e => by
    obtain ⟨a, h1, h2, h3, h4⟩ := S.pen i c e
    refine ⟨a, h1, ?_, h3, h4.mono (fun a u q => by rw [upd_ne (fun z => by rw [z, hG] at q; cases q)]; exact q) (fun u q => q) (Nat.le_refl _)⟩
    rw [upd_ne (fun z => n.pen i c e (by rw [h1, z]))]
    exact h2
  penp := S.penp
  onep := S.onep
  len := S.len
end
theorem NotAt.less {σ σ' : L2.St} {ρ ρ' : En} {D : Addr} (n : NotAt σ ρ D) (h : ∀ (i : Nat) (s : Sl), ρ'[i]? = some (some s) → σ'[i]? = σ[i]? ∧ ∃ s', ρ[i]? = some (some s') ∧ Wk s' s) : NotAt σ' ρ' D where
  own := fun i xs e z => by
    obtain ⟨h1, s', h2, h3⟩ := h i _ e
    cases s' with
    | own ys => exact n.own i ys h2 (h1.symm.trans z)
    | d y => have e : Sl.d y = Sl.own xs := h3; cases e
    | pen y => have e : Sl.pen y = Sl.own xs := h3; cases e
  pen := fun i c e z => by
    obtain ⟨h1, s', h2, h3⟩ := h i _ e
    cases s' with
    | pen c' => exact n.pen i c' h2 (h1.symm.trans z)
    | d y => have e : Sl.d y = Sl.pen c := h3; cases e
    | own y => have e : Sl.own y = Sl.pen c := h3; cases e
theorem NotAt.same {σ : L2.St} {ρ : En} {D : Addr} (n : NotAt σ ρ D) (c : Nat) : NotAt σ (setPen c ρ) D where
  own := fun i xs e => n.own i xs (setPen_own.mp e)
  pen := fun i d e => by
    obtain ⟨_, e', h⟩ := setPen_pen e
    exact n.pen i e' h
theorem NotAt.wiped {σ : L2.St} {ρ : En} {D : Addr} (n : NotAt σ ρ D) (c : Nat) (vs : List Nat) : NotAt (wipe σ vs) (setPen c (wp ρ vs)) D where
  own := fun i xs e => by
    have e' := setPen_own.mp e
    have hi := wp_in e'
    rw [wipe_out hi]
    rw [wp_out hi] at e'
    exact n.own i xs e'
  pen := fun i d e => by
    obtain ⟨_, d', e'⟩ := setPen_pen e
    have hi := wp_in e'
    rw [wipe_out hi]
    rw [wp_out hi] at e'
    exact n.pen i d' e'
section
variable {K : PySem.W.Frag} {ρ : En} {wi : TI} {g : TG} {tt : TT} {te : TE} {vs : List Nat}
theorem ev_lc {R : En → List PyData → Prop} {R' : En → PyData → Prop} (h : EI K wi ρ R)
    (k : ∀ ρ1 xs, R ρ1 xs → xs.length ≤ 100000 ∧ (∀ (i : Nat) (s : Sl), i ∈ vs → ρ1[i]? = some (some s) → ∃ x, s = Sl.d x) ∧ ∃ (c0 : Nat) (J : Nat → Nat → List PyData → Prop), setPen c0 ρ1 = ρ1 ∧ J 0 c0 [] ∧
      (∀ i x c acc, xs[i]? = some x → J i c acc → ∃ js ρ2, (∀ j ∈ js, j ∈ vs) ∧ Eg K g js (setPen c (wp ρ1 vs)) x ρ2 ∧
        EvT K tt ρ2 (fun ρ3 t => ∃ c3, ρ3 = setPen c3 ρ2 ∧ (t = true → Ev K te ρ3 fun ρ4 y => ∃ c4, ρ4 = setPen c4 ρ2 ∧ J (i + 1) c4 (acc ++ [y])) ∧ (t = false → J (i + 1) c3 acc))) ∧
      ∀ c acc, J xs.length c acc → R' (setPen c ρ1) (.list acc)) : Ev K (tLc wi g tt te vs) ρ R' := fun b G H σ S Q q =>
  h b G H σ S _ fun It ρ1 xs G1 H1 hr S1 w => by
    obtain ⟨hz, hvs, c0, J, hc0, j0, hs, hd⟩ := k ρ1 xs hr
    intro D hD
    have hG1 : G1 D = none := S1.sub.none hD
    have hPD : b.P D = none := S1.keep.none hD
    have hTD : ¬ b.T D := fun z => S1.trk D z hD
    have nD : NotAt σ ρ1 D := S1.notAt hD
    have sigl : σ.length = ρ1.length := S1.len
    refine ⟨fun i m H' => m = xs.length - i ∧ i ≤ xs.length ∧ ∃ c acc G' av, J i c acc ∧ acc.length ≤ i ∧ SA K b G' H' (wipe σ vs) (setPen c (wp ρ1 vs)) ∧ Sub G1 G' ∧ G' D = none ∧ H' D = some (.lst av) ∧ DAs K G' av acc, ⟨xs.length, rfl, Nat.zero_le _, c0, [], G1, [], j0, Nat.le_refl _, ?_, Sub.refl G1, hG1, upd_same, .nil⟩, ?_⟩
    · have S2 : SA K b G1 (upd H1 D (.lst [])) σ ρ1 := S1.step (Step.layH S1.sub (.lst []) hD)
      refine S2.less (by rw [wipe_length, setPen_len, wp_len]; exact sigl) fun i s e => ?_
      have he : ∃ o, (wp ρ1 vs)[i]? = some (some o) := by
        rw [setPen_get] at e
        cases e1 : (wp ρ1 vs)[i]? with
        | none => rw [e1] at e; cases e
        | some o =>
          cases o with
          | none => rw [e1] at e; cases e
          | some o => exact ⟨o, rfl⟩
      obtain ⟨o, eo⟩ := he
      have hi := wp_in eo
      refine ⟨wipe_out hi, s, ?_, Wk.refl s⟩
      have e2 : (setPen c0 (wp ρ1 vs))[i]? = (setPen c0 ρ1)[i]? := by rw [setPen_get, setPen_get, wp_out hi]
      rw [e2, hc0] at e
      exact e
    · rintro i m H' ⟨rfl, hi, c, acc, G', av, hJ, hal, S', g1, gD, hHD, dacc⟩
      by_cases hlt : i < xs.length
      · refine .inr ⟨w.go i G' H' g1 S'.sub hlt, fun H2 => i + 1 ≤ xs.length ∧ ∃ c acc G2 av, J (i + 1) c acc ∧ acc.length ≤ i + 1 ∧ SA K b G2 H2 (wipe σ vs) (setPen c (wp ρ1 vs)) ∧ Sub G1 G2 ∧ G2 D = none ∧ H2 D = some (.lst av) ∧ DAs K G2 av acc, fun H2 p => ⟨xs.length - (i + 1), by omega, rfl, p.1, p.2⟩, fun v H2 y => ?_⟩
        obtain ⟨G2, st, dv⟩ := w.yld i G' H' v H2 g1 S'.sub y xs[i] (List.getElem?_eq_getElem hlt)
        obtain ⟨js, ρ2, hjs, hg, ht⟩ := hs i xs[i] c acc (List.getElem?_eq_getElem hlt) hJ
        have S2 := S'.step st
        have g2D : G2 D = none := st.new D gD (by rw [hHD]; exact fun z => nomatch z)
        have h2D : H2 D = some (.lst av) := st.hh _ _ hHD
        have nW : NotAt (wipe σ vs) (setPen c (wp ρ1 vs)) D := nD.wiped c vs
        have SG := S2.guard (o := .lst av) nW h2D
        refine hg _ G2 H2 _ v SG dv _ fun σ3 S3 o3 => ⟨?_, ?_⟩
        · exact wipe_same (js := js) (o3.l.trans (wipe_length σ vs)) o3.s hjs
        · -- what an env of the turn tells of the outer one
          have shrink : ∀ (c4 : Nat) (i : Nat) (s : Sl), (setPen c4 (wp ρ1 vs))[i]? = some (some s) → σ3[i]? = (wipe σ vs)[i]? ∧ (setPen c4 ρ2)[i]? = some (some s) := fun c4 i s e => by
            have hi : i ∉ vs := by
              rw [setPen_get] at e
              cases e1 : (wp ρ1 vs)[i]? with
              | none => rw [e1] at e; cases e
              | some o =>
                cases o with
                | none => rw [e1] at e; cases e
                | some o => exact wp_in e1
            have hj : i ∉ js := fun z => hi (hjs i z)
            refine ⟨o3.s i hj, ?_⟩
            have e3 := o3.r i hj
            rw [setPen_get] at e
            rw [setPen_get, e3, setPen_get, Option.map_map, show (pn c4 ∘ pn c) = pn c4 from by funext o; exact pn_pn c4 c o]
            exact e
          have next : ∀ (c4 : Nat) (G5 H5 : Hp) (av5 : List V) (acc5 : List PyData), SA K b G5 H5 σ3 (setPen c4 ρ2) → J (i + 1) c4 acc5 → acc5.length ≤ i + 1 → Sub G1 G5 → G5 D = none → H5 D = some (.lst av5) → DAs K G5 av5 acc5 →
              i + 1 ≤ xs.length ∧ ∃ c acc G2 av, J (i + 1) c acc ∧ acc.length ≤ i + 1 ∧ SA K b G2 H5 (wipe σ vs) (setPen c (wp ρ1 vs)) ∧ Sub G1 G2 ∧ G2 D = none ∧ H5 D = some (.lst av) ∧ DAs K G2 av acc := fun c4 G5 H5 av5 acc5 S5 hJ5 hl5 g5 gd5 hd5 da5 =>
            ⟨hlt, c4, acc5, G5, av5, hJ5, hl5, S5.less (by rw [wipe_length, setPen_len, wp_len]; exact sigl) (fun i s e => by
              obtain ⟨e1, e2⟩ := shrink c4 i s e
              exact ⟨e1.symm, s, e2, Wk.refl s⟩), g5, gd5, hd5, da5⟩
          refine ht.runG S3 fun t ρ3 G3 H3 ⟨c3, e3, hT, hF⟩ S4 g3 => ?_
          subst e3
          have h3D : H3 D = some (.lst av) := S4.keep D _ upd_same
          have g3D : G3 D = none := S4.new D g2D ⟨(by rw [h2D]; exact fun z => (nomatch z)), nW.own⟩
          have gg3 : Sub G1 G3 := (g1.trans st.gg).trans g3
          have nA : ∀ c4, NotAt σ3 (setPen c4 ρ2) D := fun c4 => {
            own := fun i ys e z => by
              obtain ⟨a, _, h1, _, h2, _⟩ := S3.own i ys (setPen_own.mp e)
              rw [h1] at z
              cases z
              have h2' : upd b.P D (.lst av) D = none := h2
              rw [upd_same] at h2'
              cases h2'
            pen := fun i d e z => by
              obtain ⟨_, d', e'⟩ := setPen_pen e
              obtain ⟨a, h1, _, h2, _⟩ := S3.pen i d' e'
              rw [h1] at z
              cases z
              have h2' : upd b.P D (.lst av) D = none := h2
              rw [upd_same] at h2'
              cases h2' }
          cases t with
          | true =>
            show te σ3 H3 _
            refine (hT rfl).runG S4 fun v5 y5 ρ5 G5 H5 ⟨c5, e5, hJ5⟩ S5 g5 d5 => ?_
            subst e5
            have h5D : H5 D = some (.lst av) := S5.keep D _ upd_same
            have g5D : G5 D = none := S5.new D g2D ⟨(by rw [h2D]; exact fun z => (nomatch z)), nW.own⟩
            have S5' := S2.unguard hPD S5
            have W := S5'.write (o := .lst (av ++ [v5])) (nA c5) g5D hPD (by rw [h5D]; exact fun z => nomatch z)
            refine ⟨av, h5D, Nat.lt_of_le_of_lt (show av.length ≤ 100000 by rw [dacc.length]; omega) (by decide), next c5 G5 _ (av ++ [v5]) (acc ++ [y5]) W hJ5 (by rw [List.length_append]; show acc.length + 1 ≤ i + 1; omega) (gg3.trans g5) g5D upd_same ?_⟩
            exact (((dacc.mono st.gg).mono g3).mono g5).append (.cons d5 .nil)
          | false =>
            exact next c3 G3 H3 av acc (S2.unguard hPD S4) (hF rfl) (by omega) gg3 g3D h3D ((dacc.mono st.gg).mono g3)
      · have e : i = xs.length := by omega
        subst e
        refine .inl ⟨w.stop _ G' H' g1 S'.sub (Nat.le_refl _), ?_⟩
        -- the outer env again
        have SO : SA K b G' H' σ (setPen c ρ1) := {
          sub := S'.sub, gg := S'.gg, new := S'.new, keep := S'.keep, trk := S'.trk, ptr := S'.ptr, gtr := S'.gtr
          dat := fun i x e => by
            obtain ⟨v, h1, h2⟩ := S1.dat i x (setPen_d.mp e)
            exact ⟨v, h1, h2.mono g1⟩
          own := fun i ys e => by
            have e1 := setPen_own.mp e
            have hi : i ∉ vs := fun z => by
              obtain ⟨x, hx⟩ := hvs i _ z e1
              cases hx
            obtain ⟨a, us, h1, h2⟩ := S'.own i ys (setPen_own.mpr (by rw [wp_out hi]; exact e1))
            rw [wipe_out hi] at h1
            exact ⟨a, us, h1, h2⟩
          sep := fun i j ys zs a ei ej => S1.sep i j ys zs a (setPen_own.mp ei) (setPen_own.mp ej)
          pen := fun i d e => by
            obtain ⟨ed, d', e1⟩ := setPen_pen e
            subst ed
            have hi : i ∉ vs := fun z => by
              obtain ⟨x, hx⟩ := hvs i _ z e1
              cases hx
            have e2 : (setPen d (wp ρ1 vs))[i]? = some (some (Sl.pen d)) := by
              rw [setPen_get, wp_out hi, e1]
              rfl
            obtain ⟨a, h1, h2⟩ := S'.pen i d e2
            rw [wipe_out hi] at h1
            exact ⟨a, h1, h2⟩
          penp := fun i d e => by
            obtain ⟨_, d', e1⟩ := setPen_pen e
            exact S1.penp i d' e1
          onep := fun i j d d' ei ej => by
            obtain ⟨_, u, h1⟩ := setPen_pen ei
            obtain ⟨_, u', h2⟩ := setPen_pen ej
            exact S1.onep i j u u' h1 h2
          len := by rw [setPen_len]; exact sigl }
        have SD := SO.adopt (o := .lst av) (nD.same c) hTD gD hHD
        exact q _ _ _ _ _ (hd c acc hJ) SD (.lst upd_same (dacc.mono fun a u e => by rw [upd_ne (fun z => by rw [z, gD] at e; cases e)]; exact e))
end
end RS
end
section
set_option Elab.async false
set_option linter.all false
set_option autoImplicit false
set_option maxRecDepth 100000
set_option maxHeartbeats 2000000
/-! RS5: defs, calls; lists of one's own -/
namespace RS
open PySem L2
/-- a pure def: n arguments, what must hold of them, what may come back -/
def spR (K : PySem.W.Frag) (n : Nat) (Pre : List PyData → Prop) (R : List PyData → PyData → Prop) : Sp := fun vs H Q _ => ∃ G ds, Sub G H ∧ DAs K G vs ds ∧ ds.length = n ∧ Pre ds ∧
  ∀ v y G2 H2, R ds y → Step G H G2 H2 → DA K G2 v y → Q v H2
def LIM : Nat := 1000000000000000
structure StepP (p : Addr) (G H G2 H2 : Hp) : Prop where
  gg : Sub G G2
  sub : Sub G2 H2
  hh : ∀ a o, a ≠ p → H a = some o → H2 a = some o
  new : ∀ a, G a = none → H a ≠ none → G2 a = none
/-- a def that draws: the pen, then n arguments; at most B draws -/
def spP (K : PySem.W.Frag) (n : Nat) (Pre : List PyData → Prop) (B : Nat) (R : List PyData → PyData → Prop) : Sp := fun vs H Q _ => ∃ G p c vs' ds, vs = .ref p :: vs' ∧ Sub G H ∧ G p = none ∧ PenAt K G H p c ∧ c + B ≤ LIM ∧ DAs K G vs' ds ∧ ds.length = n ∧ Pre ds ∧
  ∀ v y G2 H2, R ds y → StepP p G H G2 H2 → PenAt K G2 H2 p (c + B) → DA K G2 v y → Q v H2
section
variable {K : PySem.W.Frag} {ρ : En} {ta : TA} {n B : Nat} {Pre : List PyData → Prop} {Rf : List PyData → PyData → Prop}
theorem ev_call {E : XK} {R1 : En → List PyData → Prop} {R : En → PyData → Prop} (h : EvA K ta ρ R1) (k : ∀ ρ1 ds, R1 ρ1 ds → ds.length = n ∧ Pre ds ∧ ∀ y, Rf ds y → R ρ1 y) : Ev K (tCall (spR K n Pre Rf) [] E ta) ρ R := fun b G H σ S Q q =>
  h _ G H σ S _ fun vs ds ρ1 G1 H1 h1 S1 d1 => by
    obtain ⟨hl, hp, hy⟩ := k ρ1 ds h1
    rw [List.append_nil]
    exact ⟨G1, ds, S1.sub, d1, hl, hp, fun v y G2 H2 r st d => q v y ρ1 G2 H2 (hy y r) (S1.step st) d⟩
/-- a def's value is known -/
theorem ed_call {E : XK} {ds : List PyData} {y : PyData} (h : Ea K ta ρ ds) (hl : ds.length = n) (hp : Pre ds) (hy : ∀ z, Rf ds z → z = y) : Ed K (tCall (spR K n Pre Rf) [] E ta) ρ y := ev_call h fun ρ1 es e => by
  obtain ⟨rfl, rfl⟩ := e
  exact ⟨hl, hp, fun z hz => ⟨rfl, hy z hz⟩⟩
theorem SA.stepP {b : Bs} {G H G2 H2 : Hp} {σ : L2.St} {i c c' : Nat} {p : Addr} (S : SA K b G H σ ρ) (hi : ρ[i]? = some (some (Sl.pen c))) (hs : σ[i]? = some (some (V.ref p))) (st : StepP p G H G2 H2) (P : PenAt K G2 H2 p c') : SA K b G2 H2 σ (setPen c' ρ) := by
  obtain ⟨p', e1, gp, bp, hp⟩ := S.pen i c hi
  rw [hs] at e1
  cases e1
  obtain ⟨kv, hpd⟩ := hp.there
  obtain ⟨kv2, hpd2⟩ := P.there
  exact {
    sub := st.sub
    gg := S.gg.trans st.gg
    new := fun a h q => st.new a (S.new a h q) (S.trk a q)
    keep := fun a o e => st.hh a o (fun z => by rw [z, bp] at e; cases e) (S.keep a o e)
    trk := fun a q => by
      by_cases ha : a = p
      · subst ha; rw [hpd2]; exact fun z => nomatch z
      · cases e : H a with
        | none => exact absurd e (S.trk a q)
        | some o => rw [st.hh a o ha e]; exact fun z => nomatch z
    ptr := S.ptr
    gtr := S.gtr
    dat := fun j x e => by
      obtain ⟨v, h1, h2⟩ := S.dat j x (setPen_d.mp e)
      exact ⟨v, h1, h2.mono st.gg⟩
    own := fun j xs e => by
      obtain ⟨a, vs, h1, h2, h3, h4, h5, h6⟩ := S.own j xs (setPen_own.mp e)
      exact ⟨a, vs, h1, st.new a h2 (by rw [h4]; exact fun z => nomatch z), h3, st.hh a _ (fun z => by rw [z, hpd] at h4; cases h4) h4, h5.mono st.gg, h6⟩
    sep := fun j k xs ys a ej ek => S.sep j k xs ys a (setPen_own.mp ej) (setPen_own.mp ek)
    pen := fun j d e => by
      obtain ⟨ed, e0, h⟩ := setPen_pen e
      subst ed
      have ij : i = j := S.onep i j c e0 hi h
      subst ij
      exact ⟨p, hs, st.new p gp (by rw [hpd]; exact fun z => nomatch z), bp, P⟩
    penp := fun j d e => by
      obtain ⟨_, e0, h⟩ := setPen_pen e
      exact S.penp j e0 h
    onep := fun j k d d' ej ek => by
      obtain ⟨_, u, h1⟩ := setPen_pen ej
      obtain ⟨_, u', h2⟩ := setPen_pen ek
      exact S.onep j k u u' h1 h2
    len := by rw [setPen_len]; exact S.len }
theorem setPen_at {c d : Nat} {ρ : En} {i : Nat} (h : ρ[i]? = some (some (Sl.pen d))) : (setPen c ρ)[i]? = some (some (Sl.pen c)) := by
  rw [setPen_get, h]
  rfl
theorem ev_callP {E : XK} {R1 : En → List PyData → Prop} {R : En → PyData → Prop} {i c0 : Nat} (hi : ρ[i]? = some (some (Sl.pen c0))) (h : EvA K ta ρ R1)
    (k : ∀ ρ1 ds, R1 ρ1 ds → ∃ c1, ρ1 = setPen c1 ρ ∧ ds.length = n ∧ Pre ds ∧ c1 + B ≤ LIM ∧ ∀ y, Rf ds y → R (setPen (c1 + B) ρ) y) : Ev K (tCall (spP K n Pre B Rf) [] E (tCons (tVar i) ta)) ρ R := fun b G H σ S Q q => by
  obtain ⟨p, hs, _, _, _⟩ := S.pen i c0 hi
  refine ⟨.ref p, hs, ?_⟩
  refine h _ G H σ S _ fun vs ds ρ1 G1 H1 h1 S1 d1 => ?_
  obtain ⟨c1, e1, hl, hp, hc, hy⟩ := k ρ1 ds h1
  subst e1
  have hi1 := setPen_at (c := c1) hi
  obtain ⟨p', hs', gp, bp, PA⟩ := S1.pen i c1 hi1
  rw [hs] at hs'
  cases hs'
  rw [List.append_nil]
  refine ⟨G1, p, c1, vs, ds, rfl, S1.sub, gp, PA, hc, d1, hl, hp, fun v y G2 H2 r st P2 d => ?_⟩
  have S2 := S1.stepP hi1 hs st P2
  rw [setPen_setPen] at S2
  exact q v y _ G2 H2 (hy y r) S2 d
end

/-! ### a def keeps its promise by its body -/
def startE (N : List Str) (ds : List PyData) : En := ds.map (fun d => some (Sl.d d)) ++ List.replicate (N.length - ds.length) none
def startP (N : List Str) (c : Nat) (ds : List PyData) : En := some (Sl.pen c) :: (ds.map (fun d => some (Sl.d d)) ++ List.replicate (N.length - (ds.length + 1)) none)
def RetO (R : PyData → Prop) : Out → Prop
  | .rt _ y => R y
  | .nx _ => R .none
  | _ => False
def RetP (c : Nat) (R : PyData → Prop) : Out → Prop
  | .rt ρ y => R y ∧ ∃ d, ρ[0]? = some (some (Sl.pen d)) ∧ d ≤ c
  | .nx ρ => R .none ∧ ∃ d, ρ[0]? = some (some (Sl.pen d)) ∧ d ≤ c
  | _ => False
theorem get_app {α : Type} {xs : List α} {m i : Nat} {y : α} {none_ : α} (h : (xs ++ List.replicate m none_)[i]? = some y) : xs[i]? = some y ∨ y = none_ := by
  rw [List.getElem?_append] at h
  split at h
  · exact .inl h
  · rw [List.getElem?_replicate] at h
    split at h
    · cases h; exact .inr rfl
    · cases h
theorem sa_start {K : PySem.W.Frag} {G H : Hp} {vs : List V} {ds : List PyData} {N : List Str} (s : Sub G H) (d : DAs K G vs ds) : SA K ⟨G, H, fun a => H a ≠ none, 0⟩ G H (L2.start N vs) (startE N ds) := by
  have key : ∀ (i : Nat) (s : Sl), (startE N ds)[i]? = some (some s) → ∃ x, s = Sl.d x ∧ ds[i]? = some x := fun i s e => by
    rcases get_app e with h | h
    · rw [List.getElem?_map] at h
      cases hd : ds[i]? with
      | none => rw [hd] at h; cases h
      | some x => rw [hd] at h; cases h; exact ⟨x, rfl, rfl⟩
    · cases h
  exact {
    sub := s, gg := Sub.refl G, new := fun a h _ => h, keep := Sub.refl H, trk := fun a h => h, ptr := fun a h => h
    gtr := fun a h => by
      show H a ≠ none
      cases e : G a with
      | none => exact absurd e h
      | some o => rw [s a o e]; exact fun z => nomatch z
    dat := fun i x e => by
      obtain ⟨y, h1, h2⟩ := key i _ e
      cases h1
      obtain ⟨v, hv, dv⟩ := d.get h2
      refine ⟨v, ?_, dv⟩
      unfold L2.start
      rw [List.getElem?_append_left (by rw [List.length_map]; exact (List.getElem?_eq_some_iff.mp hv).1), List.getElem?_map, hv]
      rfl
    own := fun i xs e => by obtain ⟨_, h, _⟩ := key i _ e; cases h
    sep := fun i j xs ys a e => by obtain ⟨_, h, _⟩ := key i _ e; cases h
    pen := fun i c e => by obtain ⟨_, h, _⟩ := key i _ e; cases h
    penp := fun i c e => by obtain ⟨_, h, _⟩ := key i _ e; cases h
    onep := fun i j c c' e => by obtain ⟨_, h, _⟩ := key i _ e; cases h
    len := by
      unfold L2.start startE
      rw [List.length_append, List.length_append, List.length_map, List.length_map, List.length_replicate, List.length_replicate, d.length] }
def wo (H : Hp) (p : Addr) : Hp := fun a => if a = p then none else H a
theorem sa_startP {K : PySem.W.Frag} {G H : Hp} {p : Addr} {c : Nat} {vs : List V} {ds : List PyData} {N : List Str} (s : Sub G H) (gp : G p = none) (P : PenAt K G H p c) (d : DAs K G vs ds) : SA K ⟨G, wo H p, fun a => H a ≠ none, p⟩ G H (L2.start N (.ref p :: vs)) (startP N c ds) := by
  have key : ∀ (i : Nat) (s : Sl), (startP N c ds)[i]? = some (some s) → (i = 0 ∧ s = Sl.pen c) ∨ ∃ x j, i = j + 1 ∧ s = Sl.d x ∧ ds[j]? = some x := fun i s e => by
    cases i with
    | zero =>
      cases (show some (some (Sl.pen c)) = some (some s) from e)
      exact .inl ⟨rfl, rfl⟩
    | succ j =>
      have e' : (ds.map (fun d => some (Sl.d d)) ++ List.replicate (N.length - (ds.length + 1)) none)[j]? = some (some s) := e
      rcases get_app e' with h | h
      · rw [List.getElem?_map] at h
        cases hd : ds[j]? with
        | none => rw [hd] at h; cases h
        | some x => rw [hd] at h; cases h; exact .inr ⟨x, j, rfl, rfl, hd⟩
      · cases h
  have hlen : vs.length = ds.length := d.length
  exact {
    sub := s, gg := Sub.refl G, new := fun a h _ => h
    keep := fun a o e => by
      have e' : (if a = p then none else H a) = some o := e
      split at e'
      · cases e'
      · exact e'
    trk := fun a h => h
    ptr := fun a h => by
      have e' : (if a = p then none else H a) ≠ none := h
      show H a ≠ none
      split at e'
      · exact absurd rfl e'
      · exact e'
    gtr := fun a h => by
      show H a ≠ none
      cases e : G a with
      | none => exact absurd e h
      | some o => rw [s a o e]; exact fun z => nomatch z
    dat := fun i x e => by
      rcases key i _ e with ⟨_, h⟩ | ⟨y, j, rfl, h, h2⟩
      · cases h
      · cases h
        obtain ⟨v, hv, dv⟩ := d.get h2
        refine ⟨v, ?_, dv⟩
        unfold L2.start
        show (((vs.map some) ++ List.replicate (N.length - (V.ref p :: vs).length) none))[j]? = some (some v)
        rw [List.getElem?_append_left (by rw [List.length_map]; exact (List.getElem?_eq_some_iff.mp hv).1), List.getElem?_map, hv]
        rfl
    own := fun i xs e => by
      rcases key i _ e with ⟨_, h⟩ | ⟨_, _, _, h, _⟩ <;> cases h
    sep := fun i j xs ys a e => by
      rcases key i _ e with ⟨_, h⟩ | ⟨_, _, _, h, _⟩ <;> cases h
    pen := fun i d' e => by
      rcases key i _ e with ⟨h0, h⟩ | ⟨_, _, _, h, _⟩
      · cases h
        subst h0
        refine ⟨p, rfl, gp, ?_, P⟩
        show (if p = p then none else H p) = none
        rw [if_pos rfl]
      · cases h
    penp := fun i c e => by
      rcases key i _ e with ⟨h0, h⟩ | ⟨_, _, _, h, _⟩
      · subst h0
        rfl
      · cases h
    onep := fun i j c c' e e' => by
      rcases key i _ e with ⟨h0, h⟩ | ⟨_, _, _, h, _⟩
      · rcases key j _ e' with ⟨h1, h'⟩ | ⟨_, _, _, h', _⟩
        · rw [h0, h1]
        · cases h'
      · cases h
    len := by
      unfold L2.start startP
      simp only [List.map_cons, List.cons_append, List.length_cons, List.length_append, List.length_map, List.length_replicate, hlen] }
section
variable {P : Program} {w : World} {K : PySem.W.Frag} {mg : Str → Option Value} {base : Heap}
theorem fn_pure {x qual : Str} {st : Stmt} {f : Addr} {fd : FuncData} {N ps : List Str} {k : Nat} {Pre : List PyData → Prop} {R : List PyData → PyData → Prop} (F : Fun K x qual st f fd) (S : FnScope N ps (defScope st))
    (hb : ∀ (cdv : Value) (A : Around) (outer : List PySem.Env) (s : Shared) (H : Hp) (E : XK), Room k (A.deeper (PyProof.Rows.envOfC qual (defScope st) s.heap.objs.size f cdv)) →
      ∃ t, PSs (cxOf CX0 P w K mg base N qual (defScope st) f cdv A outer s H E).nox (defBody st) t ∧ ∀ ds, ds.length = ps.length → Pre ds → Es K t (startE N ds) (RetO (R ds))) :
    FnOk P w K mg base CX0 (k + 1) f fd ps (spR K ps.length Pre R) := by
  refine F.ok S (fun vs H Q E h => ?_) (fun cdv A outer s H vs Q E hr h => ?_)
  · obtain ⟨G, ds, _, d, hl, _⟩ := h
    rw [d.length, hl]
  · obtain ⟨t, ht, hs⟩ := hb cdv A outer s H E hr
    obtain ⟨G, ds, sub, d, hl, hp, q⟩ := h
    refine ⟨t, ht, hs ds hl hp _ G H _ _ (sa_start sub d) ⟨fun ρ σ G2 H2 o S2 => ?_, fun ρ y v σ G2 H2 o S2 dv => ?_, fun _ _ _ _ o => o.elim, fun _ _ _ _ o => o.elim⟩⟩
    · exact q .non .none G2 H2 o ⟨S2.gg, S2.sub, S2.keep, S2.new⟩ .non
    · exact q v y G2 H2 o ⟨S2.gg, S2.sub, S2.keep, S2.new⟩ dv
theorem fn_pen {x qual : Str} {st : Stmt} {f : Addr} {fd : FuncData} {N ps : List Str} {a : Str} {k B : Nat} {Pre : List PyData → Prop} {R : List PyData → PyData → Prop} (F : Fun K x qual st f fd) (S : FnScope N (a :: ps) (defScope st))
    (hb : ∀ (cdv : Value) (A : Around) (outer : List PySem.Env) (s : Shared) (H : Hp) (E : XK), Room k (A.deeper (PyProof.Rows.envOfC qual (defScope st) s.heap.objs.size f cdv)) →
      ∃ t, PSs (cxOf CX0 P w K mg base N qual (defScope st) f cdv A outer s H E).nox (defBody st) t ∧ ∀ c ds, c + B ≤ LIM → ds.length = ps.length → Pre ds → Es K t (startP N c ds) (RetP (c + B) (R ds))) :
    FnOk P w K mg base CX0 (k + 1) f fd (a :: ps) (spP K ps.length Pre B R) := by
  refine F.ok S (fun vs H Q E h => ?_) (fun cdv A outer s H vs Q E hr h => ?_)
  · obtain ⟨G, p, c, vs', ds, rfl, _, _, _, _, d, hl, _⟩ := h
    rw [List.length_cons, List.length_cons, d.length, hl]
  · obtain ⟨t, ht, hs⟩ := hb cdv A outer s H E hr
    obtain ⟨G, p, c, vs', ds, rfl, sub, gp, PA, hc, d, hl, hp, q⟩ := h
    obtain ⟨kv, hpd⟩ := PA.there
    have kp : ∀ {ρ : En} {σ : L2.St} {G2 H2 : Hp}, SA K ⟨G, wo H p, fun a => H a ≠ none, p⟩ G2 H2 σ ρ → StepP p G H G2 H2 := fun S2 => ⟨S2.gg, S2.sub, fun a o ha e => S2.keep a o (by
      show (if a = p then none else H a) = some o
      rw [if_neg ha]; exact e), S2.new⟩
    refine ⟨t, ht, ?_⟩
    -- the pen stays where it is: slot 0 is never stored to, or the outcome says so
    refine hs c ds hc hl hp _ G H _ _ (sa_startP sub gp PA d) ⟨fun ρ σ G2 H2 o S2 => ?_, fun ρ y v σ G2 H2 o S2 dv => ?_, fun _ _ _ _ o => o.elim, fun _ _ _ _ o => o.elim⟩
    · obtain ⟨o1, d', e, le⟩ := o
      obtain ⟨p', h1, h2, h3, h4⟩ := S2.pen 0 d' e
      have h5 := S2.penp 0 d' e
      rw [h1] at h5
      cases h5
      exact q .non .none G2 H2 o1 (kp S2) (h4.mono (Sub.refl G2) (fun _ z => z) le) .non
    · obtain ⟨o1, d', e, le⟩ := o
      obtain ⟨p', h1, h2, h3, h4⟩ := S2.pen 0 d' e
      have h5 := S2.penp 0 d' e
      rw [h1] at h5
      cases h5
      exact q v y G2 H2 o1 (kp S2) (h4.mono (Sub.refl G2) (fun _ z => z) le) dv
end
end RS
end
section
set_option Elab.async false
set_option linter.all false
set_option autoImplicit false
set_option maxRecDepth 100000
set_option maxHeartbeats 2000000
/-! RS6: lists of one's own -/
namespace RS
open PySem L2
section
variable {K : PySem.W.Frag} {b : Bs} {G H : Hp} {σ : L2.St} {ρ : En}
/-- a name gets a list of one's own, at D -/
theorem SA.setOwn {D : Addr} {vs : List V} {xs : List PyData} (S : SA K b G H σ ρ) (i : Nat) (n : NotAt σ ρ D) (hG : G D = none) (hP : b.P D = none) (hD : H D = some (.lst vs)) (hd : DAs K G vs xs) (hT : ¬ b.T D) : SA K b G H (σ.set i (some (.ref D))) (ρ.set i (some (.own xs))) := by
  have hw : ∀ (j : Nat) (s : Sl), (ρ.set i none)[j]? = some (some s) → (σ.set i (some (.ref D)))[j]? = σ[j]? ∧ ∃ s', ρ[j]? = some (some s') ∧ Wk s' s := fun j s e => by
    rw [List.getElem?_set] at e
    by_cases hj : i = j
    · rw [if_pos hj] at e
      split at e <;> cases e
    · rw [if_neg hj] at e
      rw [List.getElem?_set, if_neg hj]
      exact ⟨rfl, s, e, Wk.refl s⟩
  have S0 : SA K b G H (σ.set i (some (.ref D))) (ρ.set i none) := S.less (by rw [List.length_set, List.length_set, S.len]) hw
  have n0 : NotAt (σ.set i (some (.ref D))) (ρ.set i none) D := n.less hw
  have cases_ : ∀ (j : Nat) (s : Sl), (ρ.set i (some (.own xs)))[j]? = some (some s) → (j = i ∧ s = .own xs ∧ (σ.set i (some (.ref D)))[j]? = some (some (.ref D))) ∨ (ρ.set i none)[j]? = some (some s) := fun j s e => by
    rw [List.getElem?_set] at e
    by_cases hj : i = j
    · subst hj
      rw [if_pos rfl] at e
      split at e
      · rename_i hl
        cases e
        refine .inl ⟨rfl, rfl, ?_⟩
        rw [List.getElem?_set, if_pos rfl, if_pos (by rw [S.len]; exact hl)]
      · cases e
    · rw [if_neg hj] at e
      right
      rw [List.getElem?_set, if_neg hj]
      exact e
  exact {
    sub := S.sub, gg := S.gg, new := S.new, keep := S.keep, trk := S.trk, ptr := S.ptr, gtr := S.gtr
    dat := fun j y e => by
      rcases cases_ j _ e with ⟨_, h2, _⟩ | h
      · cases h2
      · exact S0.dat j y h
    own := fun j ys e => by
      rcases cases_ j _ e with ⟨_, h2, h3⟩ | h
      · cases h2
        exact ⟨D, vs, h3, hG, hP, hD, hd, hT⟩
      · exact S0.own j ys h
    sep := fun j k ys zs a ej ek ne hj hk => by
      rcases cases_ j _ ej with ⟨e1, h2, h3⟩ | h
      · rcases cases_ k _ ek with ⟨e1', _, _⟩ | h'
        · exact ne (e1.trans e1'.symm)
        · rw [h3] at hj
          cases hj
          exact n0.own k zs h' hk
      · rcases cases_ k _ ek with ⟨_, h2, h3⟩ | h'
        · rw [h3] at hk
          cases hk
          exact n0.own j ys h hj
        · exact S0.sep j k ys zs a h h' ne hj hk
    pen := fun j c e => by
      rcases cases_ j _ e with ⟨_, h2, _⟩ | h
      · cases h2
      · exact S0.pen j c h
    penp := fun j c e => by
      rcases cases_ j _ e with ⟨_, h2, _⟩ | h
      · cases h2
      · exact S0.penp j c h
    onep := fun j k c c' ej ek => by
      rcases cases_ j _ ej with ⟨_, h2, _⟩ | h
      · cases h2
      · rcases cases_ k _ ek with ⟨_, h2, _⟩ | h'
        · cases h2
        · exact S0.onep j k c c' h h'
    len := by rw [List.length_set, List.length_set, S.len] }
/-- the list of one's own at slot i changes -/
theorem SA.own_write {i : Nat} {a : Addr} {vs' : List V} {xs xs' : List PyData} (S : SA K b G H σ ρ) (hi : ρ[i]? = some (some (Sl.own xs))) (hs : σ[i]? = some (some (V.ref a))) (hd : DAs K G vs' xs') : SA K b G (upd H a (.lst vs')) σ (ρ.set i (some (.own xs'))) := by
  obtain ⟨a', vs0, h1, hG, hP, hH, _, hT⟩ := S.own i xs hi
  rw [hs] at h1
  cases h1
  -- without slot i nothing of the env stands at a
  have hw : ∀ (j : Nat) (s : Sl), (ρ.set i none)[j]? = some (some s) → i ≠ j ∧ ρ[j]? = some (some s) := fun j s e => by
    rw [List.getElem?_set] at e
    by_cases hj : i = j
    · rw [if_pos hj] at e
      split at e <;> cases e
    · rw [if_neg hj] at e
      exact ⟨hj, e⟩
  have S0 : SA K b G H σ (ρ.set i none) := S.less (by rw [List.length_set, S.len]) fun j s e => ⟨rfl, s, (hw j s e).2, Wk.refl s⟩
  have n0 : NotAt σ (ρ.set i none) a := {
    own := fun j ys e z => S.sep i j xs ys a hi (hw j _ e).2 (hw j _ e).1 hs z
    pen := fun j c e z => by
      obtain ⟨p, q1, _, _, q4⟩ := S.pen j c (hw j _ e).2
      rw [z] at q1
      cases q1
      obtain ⟨kv, q⟩ := q4.there
      rw [hH] at q
      cases q }
  have S1 := S0.write (o := .lst vs') n0 hG hP (by rw [hH]; exact fun z => nomatch z)
  have S2 := S1.setOwn i n0 hG hP upd_same hd hT
  have es : σ.set i (some (V.ref a)) = σ := by
    apply List.ext_getElem?
    intro j
    rw [List.getElem?_set]
    by_cases hj : i = j
    · subst hj
      rw [if_pos rfl, if_pos (List.getElem?_eq_some_iff.mp hs).1, hs]
    · rw [if_neg hj]
  have er : (ρ.set i none).set i (some (Sl.own xs')) = ρ.set i (some (Sl.own xs')) := by
    rw [List.set_set]
  rw [es, er] at S2
  exact S2
/-- a list of one's own is data from now on -/
theorem SA.disown {i : Nat} {xs : List PyData} (S : SA K b G H σ ρ) (hi : ρ[i]? = some (some (Sl.own xs))) : ∃ G2, SA K b G2 H σ (ρ.set i (some (.d (.list xs)))) := by
  obtain ⟨a, vs, hs, hG, hP, hH, hd, hT⟩ := S.own i xs hi
  have hw : ∀ (j : Nat) (s : Sl), (ρ.set i none)[j]? = some (some s) → i ≠ j ∧ ρ[j]? = some (some s) := fun j s e => by
    rw [List.getElem?_set] at e
    by_cases hj : i = j
    · rw [if_pos hj] at e
      split at e <;> cases e
    · rw [if_neg hj] at e
      exact ⟨hj, e⟩
  have S0 : SA K b G H σ (ρ.set i none) := S.less (by rw [List.length_set, S.len]) fun j s e => ⟨rfl, s, (hw j s e).2, Wk.refl s⟩
  have n0 : NotAt σ (ρ.set i none) a := {
    own := fun j ys e z => S.sep i j xs ys a hi (hw j _ e).2 (hw j _ e).1 hs z
    pen := fun j c e z => by
      obtain ⟨p, q1, _, _, q4⟩ := S.pen j c (hw j _ e).2
      rw [z] at q1
      cases q1
      obtain ⟨kv, q⟩ := q4.there
      rw [hH] at q
      cases q }
  have S1 := S0.adopt n0 hT hG hH
  have S2 := S1.set i (v := .ref a) (x := .list xs) (.lst upd_same (hd.mono fun c u q => by rw [upd_ne (fun z => by rw [z, hG] at q; cases q)]; exact q))
  have es : σ.set i (some (V.ref a)) = σ := by
    apply List.ext_getElem?
    intro j
    rw [List.getElem?_set]
    by_cases hj : i = j
    · subst hj
      rw [if_pos rfl, if_pos (List.getElem?_eq_some_iff.mp hs).1, hs]
    · rw [if_neg hj]
  have er : (ρ.set i none).set i (some (Sl.d (.list xs))) = ρ.set i (some (Sl.d (.list xs))) := by
    rw [List.set_set]
  rw [es, er] at S2
  exact ⟨_, S2⟩
end
/-! ### statements on them -/
section
variable {K : PySem.W.Frag} {ρ : En} {O : Out → Prop} {te tj : TE} {ta : TA} {u : TS} {g : TG} {i : Nat} {xs : List PyData}
theorem es_disown (hi : ρ[i]? = some (some (Sl.own xs))) (k : Es K u (ρ.set i (some (.d (.list xs)))) O) : Es K u ρ O := fun b G H σ D S T => by
  obtain ⟨G2, S2⟩ := S.disown hi
  exact k b G2 H σ D S2 T
theorem SA.newOwn {b : Bs} {G H : Hp} {σ : L2.St} {D : Addr} {vs : List V} (S : SA K b G H σ ρ) (i : Nat) (hD : H D = none) (hd : DAs K G vs xs) : SA K b G (upd H D (.lst vs)) (σ.set i (some (.ref D))) (ρ.set i (some (.own xs))) :=
  (S.step (Step.layH S.sub (.lst vs) hD)).setOwn i (S.notAt hD) (S.sub.none hD) (S.keep.none hD) upd_same hd fun z => S.trk D z hD
theorem eqv_ownL {R1 : En → List PyData → Prop} (h : EvA K ta ρ R1) (k : ∀ ρ1 ys, R1 ρ1 ys → ys.length ≤ 1000 ∧ Es K u (ρ1.set i (some (.own ys))) O) : Es K (tSeq (tAsg (tLst ta) (gName i)) u) ρ O := fun b G H σ D S T =>
  h b G H σ S _ fun vs ys ρ1 G1 H1 h1 S1 d1 => ⟨by
    rw [d1.length]
    exact Nat.le_of_lt (small1000 (k _ _ h1).1), fun p hp => (k _ _ h1).2 b G1 _ _ D (S1.newOwn i hp d1) T⟩
theorem eq_ownL (h : Ea K ta ρ xs) (hl : xs.length ≤ 1000) (k : Es K u (ρ.set i (some (.own xs))) O) : Es K (tSeq (tAsg (tLst ta) (gName i)) u) ρ O := eqv_ownL h fun ρ1 ys e => by
  obtain ⟨rfl, rfl⟩ := e
  exact ⟨hl, k⟩
/-- x = list(t) -/
theorem eq_ownT (h : Ed K te ρ (.tuple xs)) (k : Es K u (ρ.set i (some (.own xs))) O) :
    Es K (tSeq (tAsg (tCB (fun vs H Q => ∃ p ys, vs = [.ref p] ∧ (SqL K H p ys ∨ SqT K H p ys) ∧ ∀ l, H l = none → Q (.ref l) (upd H l (.lst ys))) (tCons te tNil)) (gName i)) u) ρ O := fun b G H σ D S T =>
  h b G H σ S _ fun v y ρ1 G1 H1 h1 S1 d1 => by
    obtain ⟨rfl, rfl⟩ := h1
    obtain ⟨a, vs, rfl, ha, hg, da⟩ := d1.tupH S1.sub
    exact ⟨a, vs, rfl, .inr ha, fun p hp => k b G1 _ _ D (S1.newOwn i hp da) T⟩
theorem tyL {H : Hp} {a : Addr} {vs : List V} (h : H a = some (.lst vs)) : tyV K "list" (.ref a) H := Or.inl ⟨rfl, _, Or.inl (Or.inl h)⟩
theorem SA.own_at {b : Bs} {G H : Hp} {σ : L2.St} (S : SA K b G H σ ρ) (hi : ρ[i]? = some (some (Sl.own xs))) {a : Addr} (hs : σ[i]? = some (some (V.ref a))) : ∃ vs, H a = some (.lst vs) ∧ DAs K G vs xs := by
  obtain ⟨a', vs, h1, _, _, h2, h3, _⟩ := S.own i xs hi
  rw [hs] at h1
  cases h1
  exact ⟨vs, h2, h3⟩
theorem esv_app {R : En → PyData → Prop} (hi : ρ[i]? = some (some (Sl.own xs))) (hl : xs.length ≤ 100000) (h : Ev K te ρ R) (k : ∀ ρ1 y, R ρ1 y → ρ1[i]? = some (some (Sl.own xs)) ∧ O (.nx (ρ1.set i (some (.own (xs ++ [y])))))) :
    Es K (tDrop (tBM K "list" rAppend (tVar i) (tCons te tNil))) ρ O := fun b G H σ D S T => by
  obtain ⟨a, vs, hs, _, _, hH, _, _⟩ := S.own i xs hi
  refine ⟨.ref a, hs, tyL hH, ?_⟩
  refine h b G H σ S _ fun v y ρ1 G1 H1 h1 S1 d1 => ?_
  obtain ⟨h2, h3⟩ := k ρ1 y h1
  obtain ⟨vs1, hH1, hd1⟩ := S1.own_at h2 hs
  refine ⟨a, vs1, v, rfl, rfl, hH1, Nat.lt_of_le_of_lt (show vs1.length ≤ 100000 by rw [hd1.length]; exact hl) (by decide), ?_⟩
  exact T.nx _ σ G1 _ h3 (S1.own_write h2 hs (hd1.append (.cons d1 .nil)))
theorem eqv_app {R : En → PyData → Prop} (hi : ρ[i]? = some (some (Sl.own xs))) (hl : xs.length ≤ 100000) (h : Ev K te ρ R) (k : ∀ ρ1 y, R ρ1 y → ρ1[i]? = some (some (Sl.own xs)) ∧ Es K u (ρ1.set i (some (.own (xs ++ [y])))) O) :
    Es K (tSeq (tDrop (tBM K "list" rAppend (tVar i) (tCons te tNil))) u) ρ O := es_then (esv_app hi hl h k)
theorem eq_app {y : PyData} (hi : ρ[i]? = some (some (Sl.own xs))) (hl : xs.length ≤ 100000) (h : Ed K te ρ y) (k : Es K u (ρ.set i (some (.own (xs ++ [y])))) O) : Es K (tSeq (tDrop (tBM K "list" rAppend (tVar i) (tCons te tNil))) u) ρ O :=
  eqv_app hi hl h fun ρ1 z e => by
    obtain ⟨rfl, rfl⟩ := e
    exact ⟨hi, k⟩
theorem es_app {y : PyData} (hi : ρ[i]? = some (some (Sl.own xs))) (hl : xs.length ≤ 100000) (h : Ed K te ρ y) (k : O (.nx (ρ.set i (some (.own (xs ++ [y])))))) : Es K (tDrop (tBM K "list" rAppend (tVar i) (tCons te tNil))) ρ O :=
  esv_app hi hl h fun ρ1 z e => by
    obtain ⟨rfl, rfl⟩ := e
    exact ⟨hi, k⟩
/-- x[j] = y, x a list of one's own -/
theorem es_setIx {y : PyData} {j : Nat} (hi : ρ[i]? = some (some (Sl.own xs))) (h : Ed K te ρ y) (hj : Ed K tj ρ (.int (j : Nat))) (hl : j < xs.length) (k : O (.nx (ρ.set i (some (.own (xs.set j y)))))) : Es K (tAsg te (gSub (tVar i) tj rSetL)) ρ O := fun b G H σ D S T =>
  h b G H σ S _ fun v z ρ1 G1 H1 h1 S1 d1 => by
    obtain ⟨rfl, rfl⟩ := h1
    obtain ⟨a, vs, hs, _, _, hH, _, _⟩ := S1.own i xs hi
    refine ⟨.ref a, hs, ?_⟩
    refine hj.runG S1 fun w z2 ρ2 G2 H2 h2 S2 g2 d2 => ?_
    obtain ⟨rfl, rfl⟩ := h2
    cases d2
    obtain ⟨vs2, hH2, hd2⟩ := S2.own_at hi hs
    refine ⟨a, vs2, (j : Int), j, rfl, rfl, hH2, ?_, ?_⟩
    · unfold ixN
      rw [if_pos (Int.natCast_nonneg j), if_pos (by rw [hd2.length]; omega), Int.toNat_natCast]
    · exact T.nx _ σ G2 _ k (S2.own_write hi hs (hd2.set j (d1.mono g2)))
theorem eq_setIx {y : PyData} {j : Nat} (hi : ρ[i]? = some (some (Sl.own xs))) (h : Ed K te ρ y) (hj : Ed K tj ρ (.int (j : Nat))) (hl : j < xs.length) (k : Es K u (ρ.set i (some (.own (xs.set j y)))) O) : Es K (tSeq (tAsg te (gSub (tVar i) tj rSetL)) u) ρ O := es_then (es_setIx hi h hj hl k)
theorem ed_lenOwn (hi : ρ[i]? = some (some (Sl.own xs))) : Ed K (tCB (fun vs H Q => ∃ p ys, vs = [.ref p] ∧ (SqL K H p ys ∨ SqT K H p ys) ∧ Q (.int ys.length) H) (tCons (tVar i) tNil)) ρ (.int xs.length) := fun b G H σ S Q q => by
  obtain ⟨a, vs, hs, _, _, hH, hd, _⟩ := S.own i xs hi
  refine ⟨.ref a, hs, a, vs, rfl, .inl (SqL.of hH), ?_⟩
  rw [hd.length]
  exact q _ _ ρ G H ⟨rfl, rfl⟩ S (.int _)
end
end RS
end
section
set_option Elab.async false
set_option linter.all false
set_option autoImplicit false
set_option maxRecDepth 100000
set_option maxHeartbeats 2000000
/-! RS7: the pen -/
namespace RS
open PySem L2
theorem putK_length {kvs : List (Key × V)} {k : Key} {v x : V} (h : valV kvs k = some x) : (putK kvs k v).length = kvs.length := by
  unfold putK
  rw [valV_any, h]
  show (if true = true then _ else _ : List (Key × V)).length = _
  rw [if_pos rfl, List.length_map]
theorem kne (a b : Str) (h : a ≠ b) : ¬ ((Sum.inr a : Key) = Sum.inr b) := fun z => h (Sum.inr.inj z)
section
variable {kvs : List (Key × V)} {ca : Addr} {a d c b : Int}
theorem PenD.put_at (h : PenD kvs ca a d c b) (x : Int) : PenD (putK kvs (Sum.inr "at") (.int x)) ca x d c b :=
  ⟨(putK_length h.at_).trans h.len, by rw [valV_put, if_neg (kne _ _ (by decide))]; exact h.cells, by rw [valV_put, if_pos rfl], by rw [valV_put, if_neg (kne _ _ (by decide))]; exact h.digits, by rw [valV_put, if_neg (kne _ _ (by decide))]; exact h.count, by rw [valV_put, if_neg (kne _ _ (by decide))]; exact h.blend⟩
theorem PenD.put_digits (h : PenD kvs ca a d c b) (x : Int) : PenD (putK kvs (Sum.inr "digits") (.int x)) ca a x c b :=
  ⟨(putK_length h.digits).trans h.len, by rw [valV_put, if_neg (kne _ _ (by decide))]; exact h.cells, by rw [valV_put, if_neg (kne _ _ (by decide))]; exact h.at_, by rw [valV_put, if_pos rfl], by rw [valV_put, if_neg (kne _ _ (by decide))]; exact h.count, by rw [valV_put, if_neg (kne _ _ (by decide))]; exact h.blend⟩
theorem PenD.put_count (h : PenD kvs ca a d c b) (x : Int) : PenD (putK kvs (Sum.inr "count") (.int x)) ca a d x b :=
  ⟨(putK_length h.count).trans h.len, by rw [valV_put, if_neg (kne _ _ (by decide))]; exact h.cells, by rw [valV_put, if_neg (kne _ _ (by decide))]; exact h.at_, by rw [valV_put, if_neg (kne _ _ (by decide))]; exact h.digits, by rw [valV_put, if_pos rfl], by rw [valV_put, if_neg (kne _ _ (by decide))]; exact h.blend⟩
theorem PenD.put_blend (h : PenD kvs ca a d c b) (x : Int) : PenD (putK kvs (Sum.inr "blend") (.int x)) ca a d c x :=
  ⟨(putK_length h.blend).trans h.len, by rw [valV_put, if_neg (kne _ _ (by decide))]; exact h.cells, by rw [valV_put, if_neg (kne _ _ (by decide))]; exact h.at_, by rw [valV_put, if_neg (kne _ _ (by decide))]; exact h.digits, by rw [valV_put, if_neg (kne _ _ (by decide))]; exact h.count, by rw [valV_put, if_pos rfl]⟩
end
/-! ### the texts of the three defs, as every law has them; the promises -/
/-- a draw: a number from 0 to many - 1 -/
def rDraw : List PyData → PyData → Prop := fun ds y => ∃ many r : Int, ds = [.int many] ∧ y = .int r ∧ 0 ≤ r ∧ r < many
def pDraw : List PyData → Prop := fun ds => ∃ many : Int, ds = [.int many] ∧ 0 < many ∧ many < 1000000
def rPick : List PyData → PyData → Prop := fun ds y => ∃ xs, (ds = [.list xs] ∨ ds = [.tuple xs]) ∧ y ∈ xs
def pPick : List PyData → Prop := fun ds => ∃ xs, (ds = [.list xs] ∨ ds = [.tuple xs]) ∧ xs ≠ [] ∧ xs.length < 1000000
/-- the pen is made -/
def spMkPen (K : PySem.W.Frag) : Sp := fun vs H Q _ => ∃ (a : Addr) (ns : List Int), vs = [.ref a] ∧ SqL K H a (ns.map V.int) ∧ ns.length ≤ 63 ∧
  ∀ (p ca : Addr) (H2 : Hp), H p = none → H ca = none → p ≠ ca → (∀ b o, H b = some o → H2 b = some o) → H2 ca = some (.lst (ns.map V.int)) → (∀ G, G ca = some (.lst (ns.map V.int)) → PenAt K G H2 p 0) → Q (.ref p) H2
/-! ### the readings -/
def gD (k : Str) : TE := tDGet (tVar 0) (tC (.str k))
def rLenS (K : PySem.W.Frag) : List V → Hp → VK → Prop := fun xs H Q => ∃ p ys, xs = [.ref p] ∧ (SqL K H p ys ∨ SqT K H p ys) ∧ Q (.int ys.length) H
def rInt1 : List V → Hp → VK → Prop := fun xs H Q => (∃ i, xs = [.int i] ∧ Q (.int i) H) ∨ ∃ k, xs = [.bl k] ∧ Q (.int (if k then 1 else 0)) H
def rAddI : R2 := rI0 fun i j => .int (i + j)
def rSubI : R2 := rI0 fun i j => .int (i - j)
def rMulI : R2 := rI CMul fun i j => .int (i * j)
def rModI : R2 := rI (fun _ j => 0 < j) fun i j => .int (i % j)
def rDivI : R2 := rI CDiv fun i j => .int (i / j)
def rPowI : R2 := rI CPow fun i j => .int (i ^ j.toNat)
def rLtI : R2 := rI0 fun i j => .bl (decide (i < j))
def rGtI : R2 := rI0 fun i j => .bl (decide (j < i))
def rGeI : R2 := rI0 fun i j => .bl (decide (j ≤ i))
def tDraw (K : PySem.W.Frag) : TS :=
  tSeq (sDPut (tVar 0) (tC (.str "count")) (tOp rAddI (gD "count") (tC (.int 1))))
  (tSeq (tIfS (tAnd (tTest (tOp rEq (gD "digits") (tC (.int 0)))) (tTest (tOp rLtI (gD "at") (tCB (rLenS K) (tCons (gD "cells") tNil)))))
      (tSeq (tAsg (tOp (rIx K) (gD "cells") (gD "at")) (gName 2))
      (tSeq (sDPut (tVar 0) (tC (.str "at")) (tOp rAddI (gD "at") (tC (.int 1))))
        (tIfS (tTest (tOp rGeI (tVar 2) (tOp rPowI (tC (.int 10)) (tC (.int 18)))))
          (sDPut (tVar 0) (tC (.str "digits")) (tOp rSubI (tVar 2) (tOp rPowI (tC (.int 10)) (tC (.int 18)))))
          (sDPut (tVar 0) (tC (.str "blend")) (tOp rModI (tCB rInt1 (tCons (tOp rAddI (tOp rMulI (gD "blend") (tC (.int 69069))) (tVar 2)) tNil)) (tC (.int 2147483587)))))))
      tNext)
  (tSeq (tIfS (tTest (tOp rGtI (gD "digits") (tC (.int 0))))
      (tSeq (tAsg (tOp rModI (tCB rInt1 (tCons (gD "digits") tNil)) (tVar 1)) (gName 3))
      (tSeq (sDPut (tVar 0) (tC (.str "digits")) (tOp rDivI (gD "digits") (tVar 1)))
        (tRet (tVar 3))))
      tNext)
  (tSeq (tAsg (tOp rAddI (tOp rAddI (gD "blend") (tOp rMulI (gD "count") (tC (.int 7907)))) (tC (.int 41))) (gName 4))
    (tRet (tOp rModI (tOp rDivI (tCB rInt1 (tCons (tOp rModI (tOp rPowI (tVar 4) (tC (.int 17))) (tC (.int 2305843009213693951))) tNil)) (tC (.int 128))) (tVar 1))))))
section
variable {σ : L2.St} {H : Hp} {p : Addr} {kvs : List (Key × V)} {k : Str} {v x y : V} {i j : Int} {ta tb : TE} {D : Ends}
theorem v_get (h0 : σ[0]? = some (some (V.ref p))) (hH : H p = some (.dK kvs)) (hv : valV kvs (Sum.inr k : Key) = some v) : Val (gD k) σ H v := fun Q q =>
  ⟨_, h0, p, v, rfl, by rw [← hv]; exact DGet.k (k := Sum.inr k) hH, q⟩
theorem v_put (h0 : σ[0]? = some (some (V.ref p))) (hH : H p = some (.dK kvs)) (hl : kvs.length = 5) (hv : Val ta σ H v) (q : D.nx σ (upd H p (.dK (putK kvs (Sum.inr k) v)))) : sDPut (tVar 0) (tC (.str k)) ta D σ H :=
  hv _ ⟨_, h0, p, _, rfl, DPut.k (k := Sum.inr k) hH (by rw [hl]; decide), q⟩
theorem v_I0 {g : Int → Int → V} (ha : Val ta σ H (.int i)) (hb : Val tb σ H (.int j)) : Val (tOp (rI0 g) ta tb) σ H (g i j) := val_op ha hb fun Q q => ⟨i, j, rfl, rfl, q⟩
theorem v_I {C : Int → Int → Prop} {g : Int → Int → V} (ha : Val ta σ H (.int i)) (hb : Val tb σ H (.int j)) (hc : C i j) : Val (tOp (rI C g) ta tb) σ H (g i j) := val_op ha hb fun Q q => ⟨i, j, rfl, rfl, hc, q⟩
theorem v_int (ha : Val ta σ H (.int i)) : Val (tCB rInt1 (tCons ta tNil)) σ H (.int i) := fun Q q => ha _ (.inl ⟨i, rfl, q⟩)
theorem v_len {K : PySem.W.Frag} {a : Addr} {xs : List V} (ha : Val ta σ H (.ref a)) (h : H a = some (.lst xs)) : Val (tCB (rLenS K) (tCons ta tNil)) σ H (.int xs.length) := fun Q q => ha _ ⟨a, xs, rfl, .inl (SqL.of h), q⟩
theorem v_ix {K : PySem.W.Frag} {a : Addr} {xs : List V} {n : Nat} (ha : Val ta σ H (.ref a)) (hb : Val tb σ H (.int (n : Nat))) (h : H a = some (.lst xs)) (hx : xs[n]? = some v) : Val (tOp (rIx K) ta tb) σ H v :=
  val_op ha hb fun Q q => .inl ⟨a, xs, _, v, rfl, rfl, SqL.of h, atI_nat hx, q⟩
theorem a_test {b : Bool} (h : Val ta σ H (.bl b)) : Ans (tTest ta) σ H b := fun Q q => h _ ⟨b, rfl, q⟩
theorem v_eq (ha : Val ta σ H (.int i)) (hb : Val tb σ H (.int j)) : Val (tOp rEq ta tb) σ H (.bl (decide (i = j))) := val_op ha hb fun Q q => ⟨rfl, by rw [dec_int]; rw [Bool.beq_eq_decide_eq]; exact q⟩
end
theorem cpow10 : CPow 10 18 := ⟨by decide, by decide, by decide⟩
/-- a state of the pen between two steps of a draw -/
structure Dr (p ca : Addr) (ns : List Int) (many : Int) (ct0 : Int) (H0 H : Hp) (σ : L2.St) (a d ct b : Int) : Prop where
  s0 : σ[0]? = some (some (V.ref p))
  s1 : σ[1]? = some (some (V.int many))
  len : σ.length = 5
  pen : ∃ kvs, H p = some (.dK kvs) ∧ PenD kvs ca a d ct b
  hk : ∀ x, x ≠ p → H x = H0 x
  cs : H ca = some (.lst (ns.map V.int))
  ne : ca ≠ p
  a0 : 0 ≤ a
  d0 : 0 ≤ d
  c0 : 0 ≤ ct
  c1 : ct ≤ ct0
  b0 : 0 ≤ b
  b1 : b < 2147483648
theorem draw_ok {K : PySem.W.Frag} {G H : Hp} {p : Addr} {c : Nat} {many : Int} {Q : VK} {σ : L2.St} (s0 : σ[0]? = some (some (V.ref p))) (s1 : σ[1]? = some (some (V.int many))) (sl : σ.length = 5) (sub : Sub G H) (gp : G p = none) (PA : PenAt K G H p c) (hc : c + 1 ≤ LIM) (hm : 0 < many) (hm2 : many < 1000000)
    (q : ∀ (r : Int) (H2 : Hp), 0 ≤ r → r < many → (∀ x, x ≠ p → H2 x = H x) → PenAt K G H2 p (c + 1) → Q (.int r) H2) : tDraw K { nx := fun _ H' => Q .non H', rt := Q } σ H := by
  obtain ⟨kvs, ca, ns, a, d, ct, b, hp, PD, gc, hn, ha, hd, hct, hcc, hb, hb2⟩ := PA.ex
  have hca : H ca = some (.lst (ns.map V.int)) := sub _ _ gc
  have nec : ca ≠ p := fun z => by rw [z, gp] at gc; cases gc
  have LIMv : LIM = 1000000000000000 := rfl
  have fin : ∀ (H2 : Hp) (σ' : L2.St) (a d ct b : Int), Dr p ca ns many (c + 1) H H2 σ' a d ct b → PenAt K G H2 p (c + 1) := fun H2 σ' a d ct b h => by
    obtain ⟨kv, h1, h2⟩ := h.pen
    exact ⟨kv, ca, ns, a, d, ct, b, h1, h2, gc, hn, h.a0, h.d0, h.c0, h.c1, h.b0, h.b1⟩
  refine v_put s0 hp PD.len (v_I0 (v_get s0 hp PD.count) val_c) ?_
  have D1 : Dr p ca ns many (c + 1) H (upd H p (.dK (putK kvs (Sum.inr "count") (.int (ct + 1))))) σ a d (ct + 1) b :=
    ⟨s0, s1, sl, ⟨_, upd_same, PD.put_count _⟩, fun x hx => upd_ne hx, (upd_ne nec).trans hca, nec, ha, hd, by omega, by omega, hb, hb2⟩
  -- the last part, from any state of the pen
  have last : ∀ (H2 : Hp) (σ' : L2.St) (a d ct b : Int), Dr p ca ns many (c + 1) H H2 σ' a d ct b →
      (tSeq (tIfS (tTest (tOp rGtI (gD "digits") (tC (.int 0))))
          (tSeq (tAsg (tOp rModI (tCB rInt1 (tCons (gD "digits") tNil)) (tVar 1)) (gName 3))
          (tSeq (sDPut (tVar 0) (tC (.str "digits")) (tOp rDivI (gD "digits") (tVar 1)))
            (tRet (tVar 3))))
          tNext)
      (tSeq (tAsg (tOp rAddI (tOp rAddI (gD "blend") (tOp rMulI (gD "count") (tC (.int 7907)))) (tC (.int 41))) (gName 4))
        (tRet (tOp rModI (tOp rDivI (tCB rInt1 (tCons (tOp rModI (tOp rPowI (tVar 4) (tC (.int 17))) (tC (.int 2305843009213693951))) tNil)) (tC (.int 128))) (tVar 1))))) { nx := fun _ H' => Q .non H', rt := Q } σ' H2 := fun H2 σ' a d ct b h => by
    obtain ⟨kv, hp2, PD2⟩ := h.pen
    by_cases cd : 0 < d
    · refine st_yes ((a_test (v_I0 (g := fun i j => .bl (decide (j < i))) (v_get h.s0 hp2 PD2.digits) val_c)).to (decide_eq_true cd)) ?_
      refine st_set (v_I (C := fun _ j => 0 < j) (g := fun i j => .int (i % j)) (v_int (v_get h.s0 hp2 PD2.digits)) (val_var h.s1) hm) ?_
      have hcd : CDiv d many := ⟨hm, by omega⟩
      have s0' : (σ'.set 3 (some (V.int (d % many))))[0]? = some (some (V.ref p)) := by rw [List.getElem?_set, if_neg (by decide)]; exact h.s0
      have s1' : (σ'.set 3 (some (V.int (d % many))))[1]? = some (some (V.int many)) := by rw [List.getElem?_set, if_neg (by decide)]; exact h.s1
      refine v_put s0' hp2 PD2.len (v_I (v_get s0' hp2 PD2.digits) (val_var s1') hcd) ?_
      refine st_ret (val_var (v := .int (d % many)) ?_) ?_
      · rw [List.getElem?_set, if_pos rfl, if_pos (by rw [h.len]; decide)]
      · refine q _ _ (Int.emod_nonneg _ (by omega)) (Int.emod_lt_of_pos _ hm) (fun x hx => by rw [upd_ne hx]; exact h.hk x hx) (fin _ σ' a (d / many) ct b ⟨h.s0, h.s1, h.len, ⟨_, upd_same, PD2.put_digits _⟩, fun x hx => by rw [upd_ne hx]; exact h.hk x hx, (upd_ne nec).trans h.cs, nec, h.a0, Int.ediv_nonneg h.d0 (by omega), h.c0, h.c1, h.b0, h.b1⟩)
    · refine st_no ((a_test (v_I0 (g := fun i j => .bl (decide (j < i))) (v_get h.s0 hp2 PD2.digits) val_c)).to (decide_eq_false cd)) ?_
      have hm1 : CMul ct 7907 := Or.inr ⟨by decide, by decide⟩
      refine st_set (v_I0 (g := fun i j => .int (i + j)) (v_I0 (g := fun i j => .int (i + j)) (v_get h.s0 hp2 PD2.blend) (v_I (g := fun i j => .int (i * j)) (v_get h.s0 hp2 PD2.count) val_c hm1)) val_c) ?_
      have hct1 := h.c1
      have hct0 := h.c0
      have hbb := h.b1
      have hb0 := h.b0
      have hcc2 : (c : Int) + 1 ≤ 1000000000000000 := by
        have : ((c + 1 : Nat) : Int) ≤ ((LIM : Nat) : Int) := Int.ofNat_le.mpr hc
        rw [LIMv] at this
        omega
      have hpw : CPow (b + ct * 7907 + 41) 17 := ⟨by decide, by decide, by omega⟩
      refine st_ret (v_I (C := fun _ j => 0 < j) (g := fun i j => .int (i % j)) (v_I (g := fun i j => .int (i / j)) (v_int (v_I (C := fun _ j => 0 < j) (g := fun i j => .int (i % j)) (v_I (g := fun i j => .int (i ^ j.toNat)) (val_var (v := .int (b + ct * 7907 + 41)) ?_) val_c hpw) val_c (by decide))) val_c ⟨by decide, by decide⟩) (val_var (v := .int many) ?_) hm) ?_
      · rw [List.getElem?_set, if_pos rfl, if_pos (by rw [h.len]; decide)]
      · rw [List.getElem?_set, if_neg (by decide)]; exact h.s1
      · exact q _ _ (Int.emod_nonneg _ (by omega)) (Int.emod_lt_of_pos _ hm) h.hk (fin _ _ _ _ _ _ h)
  have hp1 : ∃ kv, upd H p (.dK (putK kvs (Sum.inr "count") (.int (ct + 1)))) p = some (.dK kv) ∧ PenD kv ca a d (ct + 1) b := ⟨_, upd_same, PD.put_count _⟩
  generalize upd H p (.dK (putK kvs (Sum.inr "count") (.int (ct + 1)))) = H1 at D1 hp1 ⊢
  obtain ⟨kv1, hp1, PD1⟩ := hp1
  by_cases c1 : d = 0
  · by_cases c2 : a < (ns.length : Int)
    · have hlen : ((ns.map V.int).length : Int) = (ns.length : Int) := by rw [List.length_map]
      refine st_yes (ans_and ((a_test (v_eq (v_get D1.s0 hp1 PD1.digits) val_c)).to (decide_eq_true c1)) ((a_test (v_I0 (g := fun i j => .bl (decide (i < j))) (v_get D1.s0 hp1 PD1.at_) (v_len (v_get D1.s0 hp1 PD1.cells) D1.cs))).to (decide_eq_true (by rw [hlen]; exact c2)))) ?_
      obtain ⟨m, rfl⟩ : ∃ m : Nat, a = (m : Int) := ⟨a.toNat, by omega⟩
      have hm' : m < ns.length := by omega
      have hx : (ns.map V.int)[m]? = some (V.int ns[m]) := by rw [List.getElem?_map, List.getElem?_eq_getElem hm']; rfl
      refine st_set (v_ix (v_get D1.s0 hp1 PD1.cells) (v_get D1.s0 hp1 PD1.at_) D1.cs hx) ?_
      have t0 : (σ.set 2 (some (V.int ns[m])))[0]? = some (some (V.ref p)) := by rw [List.getElem?_set, if_neg (by decide)]; exact s0
      have t1 : (σ.set 2 (some (V.int ns[m])))[1]? = some (some (V.int many)) := by rw [List.getElem?_set, if_neg (by decide)]; exact s1
      have t2 : (σ.set 2 (some (V.int ns[m])))[2]? = some (some (V.int ns[m])) := by rw [List.getElem?_set, if_pos rfl, if_pos (by rw [sl]; decide)]
      have tl : (σ.set 2 (some (V.int ns[m]))).length = 5 := by rw [List.length_set, sl]
      refine v_put t0 hp1 PD1.len (v_I0 (v_get t0 hp1 PD1.at_) val_c) ?_
      by_cases c3 : (10 : Int) ^ 18 ≤ ns[m]
      · refine st_yes ((a_test (v_I0 (g := fun i j => .bl (decide (j ≤ i))) (val_var t2) (v_I (g := fun i j => .int (i ^ j.toNat)) val_c val_c cpow10))).to (decide_eq_true c3)) ?_
        refine v_put t0 upd_same ((PD1.put_at _).len) (v_I0 (g := fun i j => .int (i - j)) (val_var t2) (v_I (g := fun i j => .int (i ^ j.toNat)) val_c val_c cpow10)) ?_
        refine last _ _ ((m : Int) + 1) (ns[m] - 10 ^ 18) (ct + 1) b ⟨t0, t1, tl, ⟨_, upd_same, (PD1.put_at _).put_digits _⟩, fun x hx => by rw [upd_ne hx, upd_ne hx]; exact D1.hk x hx, by rw [upd_ne nec, upd_ne nec]; exact D1.cs, nec, by omega, by
          show 0 ≤ ns[m] - 10 ^ 18
          omega, by omega, by omega, hb, hb2⟩
      · refine st_no ((a_test (v_I0 (g := fun i j => .bl (decide (j ≤ i))) (val_var t2) (v_I (g := fun i j => .int (i ^ j.toNat)) val_c val_c cpow10))).to (decide_eq_false c3)) ?_
        refine v_put t0 upd_same ((PD1.put_at _).len) (v_I (C := fun _ j => 0 < j) (g := fun i j => .int (i % j)) (v_int (v_I0 (g := fun i j => .int (i + j)) (v_I (g := fun i j => .int (i * j)) (v_get t0 upd_same (PD1.put_at _).blend) val_c (Or.inr ⟨by decide, by decide⟩)) (val_var t2))) val_c (by decide)) ?_
        refine last _ _ ((m : Int) + 1) d (ct + 1) _ ⟨t0, t1, tl, ⟨_, upd_same, (PD1.put_at _).put_blend _⟩, fun x hx => by rw [upd_ne hx, upd_ne hx]; exact D1.hk x hx, by rw [upd_ne nec, upd_ne nec]; exact D1.cs, nec, by omega, hd, by omega, by omega, Int.emod_nonneg _ (by decide), Int.lt_trans (Int.emod_lt_of_pos _ (by decide)) (by decide)⟩
    · have hlen : ((ns.map V.int).length : Int) = (ns.length : Int) := by rw [List.length_map]
      refine st_no (ans_and ((a_test (v_eq (v_get D1.s0 hp1 PD1.digits) val_c)).to (decide_eq_true c1)) ((a_test (v_I0 (g := fun i j => .bl (decide (i < j))) (v_get D1.s0 hp1 PD1.at_) (v_len (v_get D1.s0 hp1 PD1.cells) D1.cs))).to (decide_eq_false (by rw [hlen]; exact c2)))) ?_
      exact last H1 σ a d (ct + 1) b D1
  · refine st_no (ans_and0 ((a_test (v_eq (v_get D1.s0 hp1 PD1.digits) val_c)).to (decide_eq_false c1))) ?_
    exact last H1 σ a d (ct + 1) b D1
end RS
end
section
set_option Elab.async false
set_option linter.all false
set_option autoImplicit false
set_option maxRecDepth 100000
set_option maxHeartbeats 2000000
/-! RS8: the pen's defs keep their promises -/
namespace RS
open PySem L2
def rListS (K : PySem.W.Frag) : List V → Hp → VK → Prop := fun xs H Q => ∃ p ys, xs = [.ref p] ∧ (SqL K H p ys ∨ SqT K H p ys) ∧ ∀ l, H l = none → Q (.ref l) (upd H l (.lst ys))
def tMkPen (K : PySem.W.Frag) : TS :=
  tSeq (tAsg (tC (.int 0)) (gName 1))
  (tSeq (tFor (iList K (tVar 0)) (gName 2) (tAsg (tOp rModI (tCB rInt1 (tCons (tOp rAddI (tOp rMulI (tVar 1) (tC (.int 31))) (tVar 2)) tNil)) (tC (.int 1000000007))) (gName 1)))
  (tRet (tDisp [(tC (.str "cells"), tCB (rListS K) (tCons (tVar 0) tNil)), (tC (.str "at"), tC (.int 0)), (tC (.str "digits"), tC (.int 0)), (tC (.str "count"), tC (.int 0)), (tC (.str "blend"), tVar 1)])))
theorem pen_new (ca : Addr) (b : Int) : PenD (mergeK [] [(Sum.inr "cells", .ref ca), (Sum.inr "at", .int 0), (Sum.inr "digits", .int 0), (Sum.inr "count", .int 0), (Sum.inr "blend", .int b)]) ca 0 0 0 b := by
  have h1 : mergeK ([] : List (Key × V)) [(Sum.inr "cells", .ref ca), (Sum.inr "at", .int 0), (Sum.inr "digits", .int 0), (Sum.inr "count", .int 0), (Sum.inr "blend", .int b)] = putK (putK (putK (putK (putK ([] : List (Key × V)) (Sum.inr "cells" : Key) (.ref ca)) (Sum.inr "at" : Key) (.int 0)) (Sum.inr "digits" : Key) (.int 0)) (Sum.inr "count" : Key) (.int 0)) (Sum.inr "blend" : Key) (.int b) := by
    unfold mergeK
    simp only [List.foldl]
  rw [h1]
  have ne : ∀ a b : Str, a ≠ b → ¬ ((Sum.inr a : Key) = Sum.inr b) := kne
  refine ⟨?_, ?_, ?_, ?_, ?_, ?_⟩
  · rw [putK_new, putK_new, putK_new, putK_new, putK_new]
    · rfl
    · rfl
    all_goals (repeat rw [valV_put, if_neg (kne _ _ (by decide))])
    all_goals rfl
  · rw [valV_put, if_neg (kne _ _ (by decide)), valV_put, if_neg (kne _ _ (by decide)), valV_put, if_neg (kne _ _ (by decide)), valV_put, if_neg (kne _ _ (by decide)), valV_put, if_pos rfl]
  · rw [valV_put, if_neg (kne _ _ (by decide)), valV_put, if_neg (kne _ _ (by decide)), valV_put, if_neg (kne _ _ (by decide)), valV_put, if_pos rfl]
  · rw [valV_put, if_neg (kne _ _ (by decide)), valV_put, if_neg (kne _ _ (by decide)), valV_put, if_pos rfl]
  · rw [valV_put, if_neg (kne _ _ (by decide)), valV_put, if_pos rfl]
  · rw [valV_put, if_pos rfl]
theorem mkpen_ok {K : PySem.W.Frag} {H : Hp} {a : Addr} {ns : List Int} {Q : VK} (hS : SqL K H a (ns.map V.int)) (hn : ns.length ≤ 63)
    (q : ∀ (p ca : Addr) (H2 : Hp), H p = none → H ca = none → p ≠ ca → (∀ b o, H b = some o → H2 b = some o) → H2 ca = some (.lst (ns.map V.int)) → (∀ G, G ca = some (.lst (ns.map V.int)) → PenAt K G H2 p 0) → Q (.ref p) H2) :
    tMkPen K { nx := fun _ H' => Q .non H', rt := Q } [some (V.ref a), none, none] H := by
  refine st_set (val_c (v := .int 0)) ?_
  refine ⟨_, rfl, a, rfl, ⟨_, hS⟩, for_list (K := K) (a := a) (xs := ns.map V.int) (fun i σ' H' => H' = H ∧ ∃ (b : Int) (x : Option V), σ' = [some (.ref a), some (.int b), x] ∧ 0 ≤ b ∧ b < 2147483648) ⟨rfl, 0, none, rfl, by decide, by decide⟩ (fun i σ' H' _ h => by rw [h.1]; exact hS) ?_ ?_⟩
  · rintro i y σ' H' hi ⟨rfl, b, x, rfl, b0, b1⟩
    obtain ⟨z, hz, rfl⟩ : ∃ z, ns[i]? = some z ∧ y = V.int z := by
      rw [List.getElem?_map] at hi
      cases e : ns[i]? with
      | none => rw [e] at hi; cases hi
      | some z => rw [e] at hi; exact ⟨z, rfl, (Option.some.inj hi).symm⟩
    refine st_set (v_I (C := fun _ j => 0 < j) (g := fun i j => .int (i % j)) (v_int (v_I0 (g := fun i j => .int (i + j)) (v_I (g := fun i j => .int (i * j)) (val_var (v := .int b) rfl) val_c (Or.inr ⟨by decide, by decide⟩)) (val_var (v := .int z) rfl))) val_c (by decide)) ?_
    exact ⟨rfl, _, _, rfl, Int.emod_nonneg _ (by decide), Int.lt_trans (Int.emod_lt_of_pos _ (by decide)) (by decide)⟩
  · rintro σ' H' ⟨rfl, b, x, rfl, b0, b1⟩
    intro p hp
    have sS : SqL K (upd H' p (.dK [])) a (ns.map V.int) := Evl.ex_l (Evl.Ex.new hp) hS
    refine ⟨_, rfl, a, _, rfl, .inl sS, fun ca hca => ?_⟩
    have nca : ca ≠ p := fun z => by rw [z, upd_same] at hca; cases hca
    have hca' : H' ca = none := by rw [upd_ne nca] at hca; exact hca
    refine ⟨.int b, rfl, ?_⟩
    refine ⟨by rw [upd_ne (Ne.symm nca)]; exact upd_same, [(Sum.inr "cells", .ref ca), (Sum.inr "at", .int 0), (Sum.inr "digits", .int 0), (Sum.inr "count", .int 0), (Sum.inr "blend", .int b)], rfl, (show 5 ≤ 15 by decide), ?_⟩
    refine q p ca _ hp hca' (Ne.symm nca) (fun c o e => ?_) ?_ fun G hG => ⟨_, ca, ns, 0, 0, 0, b, upd_same, pen_new ca b, hG, hn, by decide, by decide, by decide, by decide, b0, b1⟩
    · rw [upd_ne (ne_of_none e hp), upd_ne (ne_of_none e hca'), upd_ne (ne_of_none e hp)]
      exact e
    · rw [upd_ne nca, upd_same]
theorem draw_sp {K : PySem.W.Frag} {vs : List V} {H : Hp} {Q : VK} {E : XK} {N : List Str} (hN : N.length = 5) (h : spP K 1 pDraw 1 rDraw vs H Q E) : tDraw K { nx := fun _ H' => Q .non H', rt := Q } (L2.start N vs) H := by
  obtain ⟨G, p, c, vs', ds, rfl, sub, gp, PA, hc, hd, hl, ⟨many, rfl, hm, hm2⟩, q⟩ := h
  obtain ⟨v, rfl, d1⟩ := hd.one
  cases d1
  have es : L2.start N [V.ref p, V.int many] = [some (V.ref p), some (V.int many), none, none, none] := by
    unfold L2.start
    rw [hN]
    rfl
  rw [es]
  refine draw_ok (p := p) (many := many) rfl rfl rfl sub gp PA hc hm hm2 fun r H2 h0 h1 hk P2 => ?_
  refine q (.int r) (.int r) G H2 ⟨many, r, rfl, rfl, h0, h1⟩ ⟨Sub.refl G, fun a o e => ?_, fun a o ha e => ?_, fun a e _ => e⟩ P2 (.int r)
  · rw [hk a (fun z => by rw [z, gp] at e; cases e)]
    exact sub a o e
  · rw [hk a ha]
    exact e
end RS
end
section
set_option Elab.async false
set_option linter.all false
set_option autoImplicit false
set_option maxRecDepth 100000
set_option maxHeartbeats 2000000
/-! RS9: defs by their names; the pick -/
namespace RS
open PySem L2
structure OwnD (P : Program) (w : World) (K : PySem.W.Frag) (mg : Str → Option Value) (base : Heap) (k : Nat) (x : Str) (ps : List Str) (sp : Sp) : Prop where
  ex : ∃ (f : Addr) (fd : FuncData), FnOk P w K mg base CX0 k f fd ps sp ∧ mg x = some (.ref f) ∧ PySem.W.keepIn K (.ref f) = true ∧ Binds K fd ps []
theorem pe_own {X : Cx} {k : Nat} {x : Str} {ps : List Str} {sp : Sp} {e : Expr} {es : List Expr} {t : TA} {p pos : Pos} (O : OwnD X.prog X.w X.K X.mg X.base k x ps sp) (hr : Room k X.A) (ha : PA X (e :: es) t) (hg : Gl X x := by rfl)
    (hdb : (x == ("__debug__" : Str)) = false := by decide) (he : starEach (e :: es) X.env = (false, eval e X.env) :: starEach es X.env := by rfl) (hpl : (backTo pos (starEach es X.env)).any (·.1) = false := by rfl) :
    PE X (.Call (.Name x p) (e :: es) [] pos) (tCall sp [] E0 t) := by
  obtain ⟨f, fd, F, hm, hk, hb⟩ := O.ex
  exact pe_call F hr hg hm hk hb .nil pass0 ha hdb he hpl
/-- what of the built-ins is used -/
structure Bi (mg : Str → Option Value) : Prop where
  n_len : mg "len" = none
  n_int : mg "int" = none
  n_list : mg "list" = none
  n_tuple : mg "tuple" = none
  n_isinstance : mg "isinstance" = none
  n_range : mg "range" = none
  n_all : mg "all" = none
  n_any : mg "any" = none
  n_enumerate : mg "enumerate" = none
  n_zip : mg "zip" = none
  n_min : mg "min" = none
  n_max : mg "max" = none
  n_bool : mg "bool" = none
  n_str : mg "str" = none
  n_ValueError : mg "ValueError" = none
def tPick (K : PySem.W.Frag) : TS := tRet (tOp (rIx K) (tVar 1) (tCall (spP K 1 pDraw 1 rDraw) [] E0 (tCons (tVar 0) (tCons (tCB (rLenS K) (tCons (tVar 1) tNil)) tNil))))
theorem pick_es {K : PySem.W.Frag} {c : Nat} {ds : List PyData} {N : List Str} (hN : N.length = 2) (hc : c + 1 ≤ LIM) (h : pPick ds) : Es K (tPick K) (startP N c ds) (RetP (c + 1) (rPick ds)) := by
  obtain ⟨xs, hd, ne, hl⟩ := h
  have hpos : 0 < xs.length := by cases xs with | nil => exact absurd rfl ne | cons _ _ => exact Nat.succ_pos _
  have key : ∀ y : PyData, (y = .list xs ∨ y = .tuple xs) → ds = [y] → Es K (tPick K) (startP N c ds) (RetP (c + 1) (rPick ds)) := fun y hy e => by
    subst e
    have es : startP N c [y] = [some (Sl.pen c), some (Sl.d y)] := by
      unfold startP
      rw [hN]
      rfl
    rw [es]
    have hv : Ed K (tVar 1) [some (Sl.pen c), some (Sl.d y)] y := ed_var rfl
    have hlen : Ed K (tCB (rLenS K) (tCons (tVar 1) tNil)) [some (Sl.pen c), some (Sl.d y)] (.int xs.length) := by
      rcases hy with rfl | rfl
      · exact ed_cb (ea_cons hv ea_nil) rc_lenL
      · exact ed_cb (ea_cons hv ea_nil) rc_lenT
    refine es_retv (R := fun ρ1 z => ρ1 = [some (Sl.pen (c + 1)), some (Sl.d y)] ∧ z ∈ xs) (ev_op hv (R2 := fun _ ρ2 z => ρ2 = [some (Sl.pen (c + 1)), some (Sl.d y)] ∧ ∃ r : Int, z = .int r ∧ 0 ≤ r ∧ r < xs.length) (fun ρ1 x1 e => ?_) fun ρ1 x1 ρ2 y2 e1 e2 => ?_) fun ρ1 z e => ?_
    · obtain ⟨rfl, rfl⟩ := e
      refine ev_callP (c0 := c) rfl (ea_cons hlen ea_nil) fun ρ1 ds e => ?_
      obtain ⟨rfl, rfl⟩ := e
      refine ⟨c, rfl, rfl, ⟨_, rfl, by omega, by omega⟩, hc, fun z hz => ?_⟩
      obtain ⟨many, r, h1, h2, h3, h4⟩ := hz
      cases h1
      exact ⟨rfl, r, h2, h3, h4⟩
    · obtain ⟨rfl, rfl⟩ := e1
      obtain ⟨rfl, r, rfl, h0, h1⟩ := e2
      obtain ⟨n, rfl⟩ : ∃ n : Nat, r = (n : Int) := ⟨r.toNat, by omega⟩
      have hn : n < xs.length := by omega
      have hx : atI xs (n : Int) = some xs[n] := atI_nat (List.getElem?_eq_getElem hn)
      refine ⟨xs[n], ?_, rfl, List.getElem_mem hn⟩
      rcases hy with rfl | rfl
      · exact rd_ixL hx
      · exact rd_ixT hx
    · obtain ⟨rfl, hz⟩ := e
      exact ⟨⟨xs, by rcases hy with rfl | rfl; exact .inl rfl; exact .inr rfl, hz⟩, c + 1, rfl, Nat.le_refl _⟩
  rcases hd with h | h
  · exact key _ (.inl rfl) h
  · exact key _ (.inr rfl) h
end RS
end
section
set_option Elab.async false
set_option linter.all false
set_option autoImplicit false
set_option maxRecDepth 100000
set_option maxHeartbeats 2000000
/-! RS10: exceptions of one's own as values -/
namespace RS
open PySem PySem.Spec PyProof.Rows L2
/-- what is asked of an own exception class -/
structure XC (K : PySem.W.Frag) (C : Addr) : Prop where
  o : OexC K C
  ga : PySem.W.findIn K (.ref C) "__getattribute__" = some (some (.builtin "BaseException.__getattribute__"))
  gg : PySem.W.findIn K (.ref C) "__getattr__" = some none
  hd : PySem.W.hasDictIn K C = true
  ha : PySem.W.findIn K (.ref C) "__class__" = some (some (.builtin "object.__class__"))
  hn : PySem.W.specialIn K (.builtin "object.__class__") "__get__" = some (some (.builtin "getset_descriptor.__get__"))
  ht : PySem.W.takesIn K (.builtin "object.__class__") = some true
  hm : PySem.W.mroIn K C (.type "object") = some true
theorem XC.cl {K : PySem.W.Frag} {C : Addr} (c : XC K C) : (PySem.W.clsIn K C).isSome = true := by
  obtain ⟨cd, hc, _⟩ := PySem.W.any_some c.hd
  rw [hc]
  rfl
/-- an exception object that stands: without a dict, or with one -/
def ExAt (H : Hp) (a C : Addr) : Option Addr → List (Str × V) → Prop
  | none, fs => H a = some (exo a C none) ∧ fs = []
  | some d, fs => H a = some (exo a C (some d)) ∧ H d = some (exd d fs)
section
variable {X : Cx} {pins : List (Addr × Obj)} {σ : L2.St} {H : Hp} {s : Shared}
theorem ex_inst {a C : Addr} {d : Option Addr} {fs : List (Str × V)} (I : Inv X pins σ H s) (h : ExAt H a C d fs) : ∃ ox od, PySem.W.InstAt s.heap a ox C od := by
  cases d with
  | none =>
    obtain ⟨t1, ho⟩ := exo_at I.hok h.1
    exact ⟨_, none, ho, rfl, rfl, trivial⟩
  | some d =>
    obtain ⟨t1, ho⟩ := exo_at I.hok h.1
    obtain ⟨mA, hns, _⟩ := exd_at I.hok h.2
    obtain ⟨od, hod, _⟩ := lookIn_ns hns
    exact ⟨_, some od, ho, rfl, rfl, hod⟩
/-- isinstance(e, c), e an exception of one's own -/
def rIsX (K : PySem.W.Frag) : List V → Hp → VK → Prop := fun xs H Q => ∃ (a C : Addr) (d : Option Addr) (fs : List (Str × V)) (c : V) (cv : Value) (b : Bool), xs = [.ref a, c] ∧ XC K C ∧ ExAt H a C d fs ∧ (∀ u, RelV c u → u = cv) ∧ PySem.W.kitOne K (.ref C) cv = some b ∧ Q (.bl b) H
theorem call_isX : CallR X (.builtin "isinstance") (rIsX X.K) := by
  intro pins s σ H xs us Q I r h
  obtain ⟨a, C, d, fs, c, cv, b, rfl, T, hx, hcv, e, q⟩ := h
  cases r with
  | cons rx rr =>
    cases rr with
    | cons rt rr =>
      cases rr
      cases rx
      have ec := hcv _ rt
      subst ec
      obtain ⟨ox, od, J⟩ := ex_inst I hx
      exact PySem.W.kia_one (PySem.W.kitx_exc T.cl T.ga T.gg T.o.exC T.ha T.hn T.ht T.hm) I.kIn J e (fun z => nomatch z) fun tk => ⟨.bl b, H, I.kept (t' := tk) fun _ _ z => z, rfl, q⟩
/-- e.f, e an exception of one's own -/
def tOxf (K : PySem.W.Frag) (f : Str) (te : TE) : TE := fun σ H Q => te σ H fun x H1 => ∃ (a C d : Addr) (fs : List (Str × V)) (v : V), x = .ref a ∧ XC K C ∧ PySem.W.findIn K (.ref C) f = some none ∧ ExAt H1 a C (some d) fs ∧ fs.lookup f = some v ∧ Q v H1
theorem pe_oxf {e : Expr} {te : TE} {pos : Pos} {n : Str} (he : PE X e te) (hb : attributeBase e n X.env (eval e X.env) = eval e X.env := by rfl) : PE X (.Attribute e n pos) (tOxf X.K n te) := by
  refine ⟨fun pins s σ H Q I h => ?_⟩
  refine attr_of hb (thn (he.run pins s σ H _ I h) fun u s1 hh => ?_)
  obtain ⟨x, H1, I1, rx, a, C, d, fs, v, ex, T, hno, hx, l, q⟩ := hh
  subst ex
  obtain rfl : u = Value.ref a := rx
  obtain ⟨t1, ho⟩ := exo_at I1.hok hx.1
  obtain ⟨mA, hns, hr⟩ := exd_at I1.hok hx.2
  obtain ⟨od, hod, hl⟩ := lookIn_ns hns
  obtain ⟨u, hu, ru⟩ := RelO.some_of (v := v) (o := mA n) (by rw [← l]; exact hr n)
  have J : PySem.W.InstAt s1.heap a _ C (some od) := ⟨ho, rfl, rfl, hod⟩
  exact HandSPX.exc_get I1.kIn J T.ga T.gg T.o.exC (PySem.W.findObj_own T.hd hno rfl (by rw [hl, hu])) (handed_of ru) ⟨v, H1, I1.tok _, ru, q⟩
/-- C(e, ..) as a value -/
def tMkV (C : Addr) (sp : Sp) (ta : TA) : TE := fun σ H Q => ta σ H fun vs H1 => vs.length ≤ 1000 ∧ ∀ a, H1 a = none → sp (.ref a :: vs) (upd H1 a (exo a C none)) (fun v H2 => v = .non ∧ Q (.ref a) H2) (fun _ _ _ => False)
theorem pe_oex {x : Str} {C fI : Addr} {k : Nat} {fd : FuncData} {ps : List Str} {sp : Sp} {e : Expr} {es : List Expr} {ta : TA} {p pos : Pos} (T : OexC X.K C) (iC : PySem.W.findIn X.K (.ref C) "__init__" = some (some (.ref fI))) (tI : PySem.W.typeIn X.K (.ref fI) = some (.type "function"))
    (F1 : FnOk X.prog X.w X.K X.mg X.base CX0 k fI fd ps sp) (hr : Room (k + 1) X.A) (hb : Binds X.K fd ps []) (hm : X.mg x = some (.ref C)) (ha : PA X (e :: es) ta) (hg : Gl X x := by rfl)
    (hdb : (x == ("__debug__" : Str)) = false := by decide) (he : starEach (e :: es) X.env = (false, eval e X.env) :: starEach es X.env := by rfl) (hpl : (backTo pos (starEach es X.env)).any (·.1) = false := by rfl) :
    PE X (.Call (.Name x p) (e :: es) [] pos) (tMkV C sp ta) := by
  refine ⟨fun pins s σ H Q I h => ?_⟩
  obtain ⟨nm, q, N, bs, bm, sn, sub, ab, col, dd, k0, k1, k2, k3, k5, hC, hbm⟩ := T.cls
  refine wpAny_Call_Name_kw (ld_glob I hg hm ?_ hdb)
  refine PySem.W.callWith_K (h₀ := X.base) I.ok.mod.kin T.kC (thn (ha.run pos pins s σ H _ I h) fun us s1 ⟨vs, H1, I1, r1, hz, q1⟩ => ⟨I1.kIn, ?_⟩) he hpl
  show wpAny _ _ (call (.ref C) us) _ _ _
  obtain ⟨hp, g, dr, tk, os⟩ := s1
  have hsz : hp.objs.size ≤ hp.objs.size + 1 := Nat.le_succ _
  have hn : H1 (hp.objs.size + 1) = none := I1.hok.fresh hsz
  have hq := q1 (hp.objs.size + 1) hn
  have kk : ∀ b o, hp.get? b = some o → ((hp.push (PySem.W.kdv_tup us)).push (PySem.HandSPX.excO C hp.objs.size)).get? b = some o := fun b o e => Heap.get?_push_of_some _ (Heap.get?_push_of_some _ e)
  have hget : ((hp.push (PySem.W.kdv_tup us)).push (PySem.HandSPX.excO C hp.objs.size)).get? (hp.objs.size + 1) = some (PySem.HandSPX.excO C hp.objs.size) := by heap_get
  have I2 : Inv X pins σ (upd H1 (hp.objs.size + 1) (exo (hp.objs.size + 1) C none)) ⟨(hp.push (PySem.W.kdv_tup us)).push (PySem.HandSPX.excO C hp.objs.size), g, dr, tk, os⟩ :=
    I1.laid (t' := tk) (a := hp.objs.size + 1) (o := exo (hp.objs.size + 1) C none) (h' := (hp.push (PySem.W.kdv_tup us)).push (PySem.HandSPX.excO C hp.objs.size)) kk hsz (exo_ok hget)
  have r2 : Vals (V.ref (hp.objs.size + 1) :: vs) (Value.ref (hp.objs.size + 1) :: us) := .cons rfl r1
  have hl : (Value.ref (hp.objs.size + 1) :: us ++ []).length = ps.length := by
    rw [List.append_nil]
    have e := r2.length
    rw [F1.len _ _ _ _ hq] at e
    exact e.symm
  have hus : us.length ≤ sizeLine := by
    rw [← Paired.length r1, sizeLine_eq]
    omega
  have hbd := hb ⟨(hp.push (PySem.W.kdv_tup us)).push (PySem.HandSPX.excO C hp.objs.size), g, dr, tk, os⟩ (Value.ref (hp.objs.size + 1) :: us) I2.kIn hl
  rw [List.append_nil] at hbd
  refine wpAny_call (PySem.HandSPX.call_own F.excBase_ValueError (fun Y => PySem.HandSPX.refsVE_contains Y bm hbm) (I1.kIn _ _ hC) (PySem.W.looks_findIn I1.kIn iC) (fun self => PySem.W.bind_fn I1.kIn self tI) hus
    (codeAny_mono (F1.run _ X.stack _ _ ⟨Value.ref (hp.objs.size + 1) :: us, []⟩ (Value.ref (hp.objs.size + 1) :: us) _ _ (fun _ _ _ => False) (hr.make C us []) (I2.env0.make C us []) hbd r2 hq) fun r s' hq' => ?_))
  cases r with
  | error er => exact absurd (pass0 (X := X) pins σ _ _ er s' I2 hq') (fun z => by
      obtain z := z
      exact absurd hq' (fun y => by exact y.elim))
  | ok fl =>
    cases fl with
    | ret u =>
      obtain ⟨v, H2, os2, bare2, un2, hok2, rv, ev, q2⟩ := hq'
      subst ev
      obtain ⟨h2, g2, d2, t2, os'⟩ := s'
      have J := I2.call' (s' := ⟨h2, g2, d2, t2, os'⟩) (ch := []) os2 un2 hok2 bare2 (fun b z => absurd z (by simp))
      exact ⟨rv, .ref (hp.objs.size + 1), H2, J, rfl, q2⟩
    | next => exact False.elim hq'
    | brk => exact False.elim hq'
    | cont => exact False.elim hq'
end
end RS
end
section
set_option Elab.async false
set_option linter.all false
set_option autoImplicit false
set_option maxRecDepth 100000
set_option maxHeartbeats 2000000
/-! RS11: what making and reading such exceptions comes to -/
namespace RS
open PySem PySem.Spec PyProof.Rows L2
def tMk0 (C : Addr) : TE := fun σ H Q => ∀ a, H a = none → Q (.ref a) (upd H a (exo a C none))
section
variable {X : Cx}
/-- C() of a class without an __init__ of its own -/
theorem pe_exc0 {C : Addr} {bmB : List Value} {B newId initId : String} {x : Str} {p pos : Pos} (F : ExcBaseFacts B newId initId bmB) (q : PySem.W.excIn X.K C bmB newId = true) (gC : X.mg x = some (.ref C)) (kC : PySem.W.keepIn X.K (.ref C) = true) (hg : Gl X x := by rfl)
    (hdb : (x == ("__debug__" : Str)) = false := by decide) :
    PE X (.Call (.Name x p) [] [] pos) (tMk0 C) := by
  refine ⟨fun pins s σ H Q I h => ?_⟩
  refine wpAny_Call_Name_kw (ld_glob I hg gC ?_ hdb)
  refine PySem.W.callWith_K0 I.kIn kC ?_
  show wpAny _ _ (call (.ref C) []) _ _ _
  obtain ⟨bm, N, nm, qn, bs, hdct, sn, sub, ab, col, dd, k0, k1, k2, k3, k5, mN, hC, hN, hni, T⟩ := exc_obj I.kIn q
  refine wpAny_call_exc_subT F T hC hN hni (fun h' a hm => ?_) (by show 0 ≤ sizeLine; exact Nat.zero_le _)
  have hn : H a = none := I.hok.gone hm.new
  obtain ⟨t, ht, _, _⟩ := hm.there
  exact ⟨.ref a, upd H a (exo a C none), I.laidN hm.keeps hm.new hn (exo_ok ht), rfl, h a hn⟩
end
/-! ### the promise of an __init__ that stores one, two fields -/
def spIni1 (K : PySem.W.Frag) (C : Addr) (f : Str) : Sp := fun vs H Q _ => ∃ (a : Addr) (y : V), vs = [.ref a, y] ∧ H a = some (exo a C none) ∧ OexC K C ∧ PySem.W.findIn K (.ref C) f = some none ∧
  ∀ dx, H dx = none → dx ≠ a → Q .non (upd (upd H dx (exd dx [(f, y)])) a (exo a C (some dx)))
def spIni2 (K : PySem.W.Frag) (C : Addr) (f g : Str) : Sp := fun vs H Q _ => ∃ (a : Addr) (y z : V), vs = [.ref a, y, z] ∧ H a = some (exo a C none) ∧ OexC K C ∧ PySem.W.findIn K (.ref C) f = some none ∧ PySem.W.findIn K (.ref C) g = some none ∧
  ∀ dx, H dx = none → dx ≠ a → Q .non (upd (upd (upd H dx (exd dx [(f, y)])) a (exo a C (some dx))) dx (exd dx [(g, z), (f, y)]))
section
variable {P : Program} {w : World} {K : PySem.W.Frag} {mg : Str → Option Value} {base : Heap}
/-- self.f = f -/
theorem ok_ini1 {qual : Str} {st : Stmt} {f C : Addr} {fd : FuncData} {a fld : Str} {p1 p2 p3 p4 : Pos} (F : Fun K "__init__" qual st f fd) (S : FnScope [a, fld] [a, fld] (defScope st)) (hb : defBody st = [.Assign [.Attribute (.Name a p1) fld p2] (.Name fld p3) p4])
    (v0 : (defScope st).names.lookup a = some .local) (v1 : (defScope st).names.lookup fld = some .local) (d0 : (a == ("__debug__" : Str)) = false) (d1 : (fld == ("__debug__" : Str)) = false) (d2 : (a == ("__classdict__" : Str)) = false) (d3 : (fld == ("__classdict__" : Str)) = false) :
    FnOk P w K mg base CX0 1 f fd [a, fld] (spIni1 K C fld) := by
  refine F.ok S (fun vs H Q E h => ?_) (fun cdv A outer s H vs Q E hr h => ?_)
  · obtain ⟨_, _, rfl, _⟩ := h
    rfl
  · obtain ⟨x, y, rfl, hx, T, hno, k⟩ := h
    rw [hb]
    refine ⟨_, pss_one (ps_ost (pe_var (i := 0) rfl (Or.inl v0) d0 d2) (pe_var (i := 1) rfl (Or.inl v1) d1 d3) rfl), ?_⟩
    exact ⟨_, rfl, _, rfl, x, C, rfl, T, hno, .inl ⟨hx, fun dx n ne => k dx n ne⟩⟩
theorem ok_ini2 {qual : Str} {st : Stmt} {f C : Addr} {fd : FuncData} {a fld gld : Str} {p1 p2 p3 p4 q1 q2 q3 q4 : Pos} (F : Fun K "__init__" qual st f fd) (S : FnScope [a, fld, gld] [a, fld, gld] (defScope st)) (hb : defBody st = [.Assign [.Attribute (.Name a p1) fld p2] (.Name fld p3) p4, .Assign [.Attribute (.Name a q1) gld q2] (.Name gld q3) q4])
    (v0 : (defScope st).names.lookup a = some .local) (v1 : (defScope st).names.lookup fld = some .local) (v2 : (defScope st).names.lookup gld = some .local) (d0 : (a == ("__debug__" : Str)) = false) (d1 : (fld == ("__debug__" : Str)) = false) (d2 : (a == ("__classdict__" : Str)) = false) (d3 : (fld == ("__classdict__" : Str)) = false) (d4 : (gld == ("__debug__" : Str)) = false) (d5 : (gld == ("__classdict__" : Str)) = false) :
    FnOk P w K mg base CX0 1 f fd [a, fld, gld] (spIni2 K C fld gld) := by
  refine F.ok S (fun vs H Q E h => ?_) (fun cdv A outer s H vs Q E hr h => ?_)
  · obtain ⟨_, _, _, rfl, _⟩ := h
    rfl
  · obtain ⟨x, y, z, rfl, hx, T, hno, hno2, k⟩ := h
    rw [hb]
    refine ⟨_, pss_cons (ps_ost (pe_var (i := 0) rfl (Or.inl v0) d0 d2) (pe_var (i := 1) rfl (Or.inl v1) d1 d3) rfl) (pss_one (ps_ost (pe_var (i := 0) rfl (Or.inl v0) d0 d2) (pe_var (i := 2) rfl (Or.inl v2) d4 d5) rfl)), ?_⟩
    refine ⟨_, rfl, _, rfl, x, C, rfl, T, hno, .inl ⟨hx, fun dx n ne => ?_⟩⟩
    refine ⟨_, rfl, _, rfl, x, C, rfl, T, hno2, .inr ⟨dx, [(fld, y)], upd_same, by rw [upd_ne ne]; exact upd_same, by show 1 ≤ 900; decide, k dx n ne⟩⟩
end
/-! ### over data -/
def xD (C : Addr) (kvs : List (PyData × PyData)) : PyData := .dict ((.bool true, .int (C : Int)) :: kvs)
def xD0 (C : Addr) : PyData := .dict [(.bool false, .int (C : Int))]
section
variable {K : PySem.W.Frag} {ρ : En} {ta : TA} {te : TE} {C : Addr} {x y z : PyData} {f g : Str}
theorem ed_mk0 : Ed K (tMk0 C) ρ (xD0 C) := fun b G H σ S Q q => fun a ha => q _ _ ρ _ _ ⟨rfl, rfl⟩ (S.step (Step.lay S.sub (exo a C none) ha)) (.exn upd_same)
theorem step2 {G H : Hp} {a d : Addr} {o1 o2 : HO} (s : Sub G H) (ha : H a = none) (hd : H d = none) (ne : d ≠ a) : Step G H (upd (upd G d o2) a o1) (upd (upd H d o2) a o1) :=
  (Step.lay s o2 hd).trans (Step.lay (Step.lay s o2 hd).sub o1 (by rw [upd_ne (Ne.symm ne)]; exact ha))
theorem ev_mk1 {R1 R : En → PyData → Prop} {R0 : En → List PyData → Prop} (T : OexC K C) (hno : PySem.W.findIn K (.ref C) f = some none) (h : EvA K ta ρ R0) (hr : ∀ ρ1 xs, R0 ρ1 xs → ∃ x, xs = [x] ∧ R ρ1 (xD C [(.str f, x)])) : Ev K (tMkV C (spIni1 K C f) ta) ρ R := fun b G H σ S Q q =>
  h _ G H σ S _ fun vs xs ρ1 G1 H1 h1 S1 d1 => by
    obtain ⟨x, rfl, hx⟩ := hr ρ1 xs h1
    obtain ⟨v, rfl, dv⟩ := d1.one
    refine ⟨by show 1 ≤ 1000; decide, fun a ha => ⟨a, v, rfl, upd_same, T, hno, fun dx hdx ne => ⟨rfl, ?_⟩⟩⟩
    have hdx' : H1 dx = none := by rw [upd_ne ne] at hdx; exact hdx
    have e : upd (upd (upd H1 a (exo a C none)) dx (exd dx [(f, v)])) a (exo a C (some dx)) = upd (upd H1 dx (exd dx [(f, v)])) a (exo a C (some dx)) := by
      funext c
      by_cases hc : c = a
      · subst hc; rw [upd_same, upd_same]
      · rw [upd_ne hc, upd_ne hc]
        by_cases hd : c = dx
        · subst hd; rw [upd_same, upd_same]
        · rw [upd_ne hd, upd_ne hd, upd_ne hc]
    rw [e]
    have st := step2 (o1 := exo a C (some dx)) (o2 := exd dx [(f, v)]) S1.sub ha hdx' ne
    exact q _ _ ρ1 _ _ hx (S1.step st) (.exc upd_same (by rw [upd_ne ne]; exact upd_same) (.cons (dv.mono st.gg) .nil))
theorem ed_mk1 (T : OexC K C) (hno : PySem.W.findIn K (.ref C) f = some none) (h : Ea K ta ρ [x]) : Ed K (tMkV C (spIni1 K C f) ta) ρ (xD C [(.str f, x)]) := ev_mk1 (R1 := fun _ _ => True) T hno h fun ρ1 ys e => by
  obtain ⟨rfl, rfl⟩ := e
  exact ⟨x, rfl, rfl, rfl⟩
theorem ed_mk2 (T : OexC K C) (hno : PySem.W.findIn K (.ref C) f = some none) (hno2 : PySem.W.findIn K (.ref C) g = some none) (h : Ea K ta ρ [x, y]) : Ed K (tMkV C (spIni2 K C f g) ta) ρ (xD C [(.str g, y), (.str f, x)]) := fun b G H σ S Q q =>
  h _ G H σ S _ fun vs xs ρ1 G1 H1 h1 S1 d1 => by
    obtain ⟨rfl, rfl⟩ := h1
    obtain ⟨v, w, rfl, dv, dw⟩ : ∃ v w, vs = [v, w] ∧ DA K G1 v x ∧ DA K G1 w y := by
      cases d1 with
      | cons h1 h2 =>
        obtain ⟨w, rfl, hw⟩ := h2.one
        exact ⟨_, _, rfl, h1, hw⟩
    refine ⟨by show 2 ≤ 1000; decide, fun a ha => ⟨a, v, w, rfl, upd_same, T, hno, hno2, fun dx hdx ne => ⟨rfl, ?_⟩⟩⟩
    have hdx' : H1 dx = none := by rw [upd_ne ne] at hdx; exact hdx
    have e : upd (upd (upd (upd H1 a (exo a C none)) dx (exd dx [(f, v)])) a (exo a C (some dx))) dx (exd dx [(g, w), (f, v)]) = upd (upd H1 dx (exd dx [(g, w), (f, v)])) a (exo a C (some dx)) := by
      funext c
      by_cases hd : c = dx
      · subst hd; rw [upd_same, upd_ne ne, upd_same]
      · rw [upd_ne hd]
        by_cases hc : c = a
        · subst hc; rw [upd_same, upd_same]
        · rw [upd_ne hc, upd_ne hd, upd_ne hc, upd_ne hc, upd_ne hd]
    rw [e]
    have st := step2 (o1 := exo a C (some dx)) (o2 := exd dx [(g, w), (f, v)]) S1.sub ha hdx' ne
    exact q _ _ _ _ _ ⟨rfl, rfl⟩ (S1.step st) (.exc upd_same (by rw [upd_ne ne]; exact upd_same) (.cons (dw.mono st.gg) (.cons (dv.mono st.gg) .nil)))
theorem ed_oxf {kvs : List (PyData × PyData)} (T : XC K C) (hno : PySem.W.findIn K (.ref C) f = some none) (h : Ed K te ρ (xD C kvs)) (hf : fldD f kvs = some x) : Ed K (tOxf K f te) ρ x := fun b G H σ S Q q =>
  h _ G H σ S _ fun v y ρ1 G1 H1 e1 S1 d1 => by
    obtain ⟨rfl, rfl⟩ := e1
    unfold xD at d1
    generalize hc : (C : Int) = ci at d1
    cases d1 with
    | exc h1 h2 hfs =>
      have e := Int.ofNat.inj hc
      subst e
      obtain ⟨w, hw, dw⟩ := hfs.look hf
      exact ⟨_, C, _, _, w, rfl, T, hno, ⟨S1.sub _ _ h1, S1.sub _ _ h2⟩, hw, q _ _ _ G1 H1 ⟨rfl, rfl⟩ S1 dw⟩
/-- is data an exception of the class at C -/
def IsX (C : Addr) (x : PyData) : Prop := (∃ kvs, x = xD C kvs) ∨ x = xD0 C
theorem DA.exAt {G H : Hp} {v : V} (s : Sub G H) (hx : IsX C x) (h : DA K G v x) : ∃ a d fs, v = .ref a ∧ ExAt H a C d fs := by
  rcases hx with ⟨kvs, rfl⟩ | rfl
  · unfold xD at h
    generalize hc : (C : Int) = ci at h
    cases h with
    | exc h1 h2 _ =>
      have e := Int.ofNat.inj hc
      subst e
      exact ⟨_, some _, _, rfl, s _ _ h1, s _ _ h2⟩
  · unfold xD0 at h
    generalize hc : (C : Int) = ci at h
    cases h with
    | exn h1 =>
      have e := Int.ofNat.inj hc
      subst e
      exact ⟨_, none, [], rfl, s _ _ h1, rfl⟩
theorem ed_isXc {D : Addr} {b : Bool} (T : XC K C) (hx : IsX C x) (h : Ed K te ρ x) (e : PySem.W.kitOne K (.ref C) (.ref D) = some b) : Ed K (tCB (rIsX K) (tCons te (tCons (tC (.ref D)) tNil))) ρ (.bool b) := fun bs G H σ S Q q =>
  h _ G H σ S _ fun v y ρ1 G1 H1 e1 S1 d1 => by
    obtain ⟨rfl, rfl⟩ := e1
    obtain ⟨a, d, fs, rfl, hE⟩ := d1.exAt S1.sub hx
    exact ⟨a, C, d, fs, .ref D, .ref D, b, rfl, T, hE, fun u hu => hu, e, q _ _ _ G1 H1 ⟨rfl, rfl⟩ S1 (.bl b)⟩
theorem ed_isXt {n : String} {b : Bool} (T : XC K C) (hx : IsX C x) (h : Ed K te ρ x) (e : PySem.W.kitOne K (.ref C) (.type n) = some b) : Ed K (tCB (rIsX K) (tCons te (tCons (tC (.ty n)) tNil))) ρ (.bool b) := fun bs G H σ S Q q =>
  h _ G H σ S _ fun v y ρ1 G1 H1 e1 S1 d1 => by
    obtain ⟨rfl, rfl⟩ := e1
    obtain ⟨a, d, fs, rfl, hE⟩ := d1.exAt S1.sub hx
    exact ⟨a, C, d, fs, .ty n, .type n, b, rfl, T, hE, fun u hu => hu, e, q _ _ _ G1 H1 ⟨rfl, rfl⟩ S1 (.bl b)⟩
end
end RS
end
section
set_option Elab.async false
set_option linter.all false
set_option autoImplicit false
set_option maxRecDepth 100000
set_option maxHeartbeats 2000000
/-! RS12: == of sequences whose items are the same things -/
namespace RS
open PySem PySem.Spec PyProof.Rows L2
/-- a dict, told by where it stands -/
def opq (a : Addr) : PyData := .dict [(.str Str.empty, .int (a : Int))]
mutual
def okS : PyData → Bool
  | .none | .bool _ | .int _ | .str _ => true
  | .list xs => okAll xs
  | .tuple xs => okAll xs
  | .dict [(.str z, .int a)] => decide (z = Str.empty) && decide (0 ≤ a)
  | .dict _ => false
def okAll : List PyData → Bool
  | [] => true
  | x :: xs => okS x && okAll xs
end
theorem okAll_get : ∀ {xs : List PyData} {i : Nat} {x : PyData}, okAll xs = true → xs[i]? = some x → okS x = true
  | [], _, _, _, e => by cases e
  | y :: ys, 0, x, h, e => by
    cases (show some y = some x from e)
    unfold okAll at h
    exact (Bool.and_eq_true_iff.mp h).1
  | y :: ys, i + 1, x, h, e => by
    unfold okAll at h
    exact okAll_get (i := i) (Bool.and_eq_true_iff.mp h).2 e
theorem depth_get : ∀ {xs : List PyData} {i : Nat} {x : PyData}, xs[i]? = some x → x.depth ≤ PyData.depthAll xs
  | [], _, _, e => by cases e
  | y :: ys, 0, x, e => by
    cases (show some y = some x from e)
    unfold PyData.depthAll
    exact Nat.le_max_left _ _
  | y :: ys, i + 1, x, e => by
    unfold PyData.depthAll
    exact Nat.le_trans (depth_get (i := i) e) (Nat.le_max_right _ _)
section
variable {X : Cx} {pins : List (Addr × Obj)} {σ : L2.St} {H : Hp} {s : Shared}
theorem same_at (I : Inv X pins σ H s) : ∀ (n : Nat) (x : PyData) (v w : V) (u t : Value) (A : Around), x.depth ≤ n → okS x = true → DA X.K H v x → DA X.K H w x → RelV v u → RelV w t → A.units + n < cLine → SeqAt.EqAt A s u t true := by
  intro n
  induction n with
  | zero =>
    intro x v w u t A hd ok d1 d2 r1 r2 hu
    cases x with
    | none => cases d1; cases d2; exact (eqAt_V (y := .non) (x := .non) r1 r2 rfl rfl)
    | bool b => cases d1; cases d2; have h := eqAt_V (A := A) (s := s) (y := .bl b) (x := .bl b) r1 r2 rfl rfl; simpa [eqV] using h
    | int i => cases d1; cases d2; have h := eqAt_V (A := A) (s := s) (y := .int i) (x := .int i) r1 r2 rfl rfl; simpa [eqV] using h
    | str z => cases d1; cases d2; have h := eqAt_V (A := A) (s := s) (y := .str z) (x := .str z) r1 r2 rfl rfl; simpa [eqV] using h
    | list xs => simp [PyData.depth] at hd
    | tuple xs => simp [PyData.depth] at hd
    | dict kvs => simp [PyData.depth] at hd
  | succ n ih =>
    intro x v w u t A hd ok d1 d2 r1 r2 hu
    have seqs : ∀ (xs : List PyData) (vs ws : List V) (us ts : List Value), okAll xs = true → PyData.depthAll xs ≤ n → DAs X.K H vs xs → DAs X.K H ws xs → Vals vs us → Vals ws ts →
        ∀ j (h1 : j < us.toArray.size) (h2 : j < ts.toArray.size), SeqAt.EqAt A.in1 s us.toArray[j] ts.toArray[j] true := fun xs vs ws us ts hok hdd e1 e2 q1 q2 j h1 h2 => by
      have l1 : j < us.length := by simpa using h1
      have l2 : j < ts.length := by simpa using h2
      have lv : j < vs.length := by rw [q1.length]; exact l1
      have lx : j < xs.length := by rw [← e1.length]; exact lv
      obtain ⟨a, ha, da⟩ := e1.get (i := j) (List.getElem?_eq_getElem lx)
      obtain ⟨b, hb, db⟩ := e2.get (i := j) (List.getElem?_eq_getElem lx)
      obtain ⟨u', hu', ru⟩ := q1.get ha
      obtain ⟨t', ht', rt⟩ := q2.get hb
      have eu : us.toArray[j] = u' := by
        have : us[j]? = some us[j] := List.getElem?_eq_getElem l1
        rw [this] at hu'
        simpa using hu'
      have et : ts.toArray[j] = t' := by
        have : ts[j]? = some ts[j] := List.getElem?_eq_getElem l2
        rw [this] at ht'
        simpa using ht'
      rw [eu, et]
      exact ih xs[j] a b u' t' A.in1 (Nat.le_trans (depth_get (List.getElem?_eq_getElem lx)) hdd) (okAll_get hok (List.getElem?_eq_getElem lx)) da db ru rt (by show A.units + 1 + n < cLine; omega)
    cases x with
    | none => cases d1; cases d2; exact (eqAt_V (y := .non) (x := .non) r1 r2 rfl rfl)
    | bool b => cases d1; cases d2; have h := eqAt_V (A := A) (s := s) (y := .bl b) (x := .bl b) r1 r2 rfl rfl; simpa [eqV] using h
    | int i => cases d1; cases d2; have h := eqAt_V (A := A) (s := s) (y := .int i) (x := .int i) r1 r2 rfl rfl; simpa [eqV] using h
    | str z => cases d1; cases d2; have h := eqAt_V (A := A) (s := s) (y := .str z) (x := .str z) r1 r2 rfl rfl; simpa [eqV] using h
    | list xs =>
      have hdd : PyData.depthAll xs ≤ n := by simp [PyData.depth] at hd; exact hd
      have hok : okAll xs = true := by unfold okS at ok; exact ok
      cases d1 with
      | lst h1 e1 =>
        cases d2 with
        | lst h2 e2 =>
          cases r1
          cases r2
          rename_i a vs b ws
          by_cases hab : a = b
          · subst hab
            exact .same _
          · obtain ⟨us, q1, p1, _⟩ := I.list (SqL.of h1)
            obtain ⟨ts, q2, p2, _⟩ := I.list (SqL.of h2)
            have hsz : us.toArray.size = ts.toArray.size := by
              have := q1.length; have := q2.length; have := e1.length; have := e2.length
              simp; omega
            have key := SeqAt.RcAt.lists (A := A) (e := fun _ => true) p1.isList p2.isList hsz (by omega) (seqs xs _ _ us ts hok hdd e1 e2 q1 q2)
            have ee : ((List.range us.toArray.size).all fun _ => true) = true := List.all_eq_true.mpr fun _ _ => rfl
            rw [ee] at key
            exact .of_refs hab key
    | tuple xs =>
      have hdd : PyData.depthAll xs ≤ n := by simp [PyData.depth] at hd; exact hd
      have hok : okAll xs = true := by unfold okS at ok; exact ok
      cases d1 with
      | tup h1 e1 =>
        cases d2 with
        | tup h2 e2 =>
          cases r1
          cases r2
          rename_i a vs b ws
          by_cases hab : a = b
          · subst hab
            exact .same _
          · obtain ⟨us, q1, p1, _⟩ := I.tuple h1
            obtain ⟨ts, q2, p2, _⟩ := I.tuple h2
            have hsz : us.toArray.size = ts.toArray.size := by
              have := q1.length; have := q2.length; have := e1.length; have := e2.length
              simp; omega
            have key := SeqAt.RcAt.tuples (A := A) (e := fun _ => true) (show s.heap.IsTuple a us.toArray from p1) (show s.heap.IsTuple b ts.toArray from p2) (by omega) (seqs xs _ _ us ts hok hdd e1 e2 q1 q2)
            have ee : (((List.range (min us.toArray.size ts.toArray.size)).all fun _ => true) && us.toArray.size == ts.toArray.size) = true := by
              rw [List.all_eq_true.mpr fun _ _ => rfl, hsz]
              simp
            rw [ee] at key
            exact .of_refs hab key
    | dict kvs =>
      match kvs, ok, d1, d2 with
      | [(.str z, .int i)], ok, d1, d2 =>
        cases d1 with
        | opq h1 =>
          generalize hc : ((_ : Addr) : Int) = ci at d2
          cases d2 with
          | opq h2 =>
            have e := Int.ofNat.inj hc
            subst e
            cases r1
            cases r2
            exact .same _
/-- == and != where the data are the same -/
def rEqS (K : PySem.W.Frag) (neg : Bool) : R2 := fun v w H Q => ∃ xs, okAll xs = true ∧ PyData.depthAll xs ≤ 60 ∧ ((DA K H v (.list xs) ∧ DA K H w (.list xs)) ∨ (DA K H v (.tuple xs) ∧ DA K H w (.tuple xs))) ∧ Q (.bl (!neg)) H
theorem same_items (I : Inv X pins σ H s) {A : Around} {xs : List PyData} {vs ws : List V} {us ts : List Value} (hok : okAll xs = true) (hdd : PyData.depthAll xs ≤ 60) (e1 : DAs X.K H vs xs) (e2 : DAs X.K H ws xs) (q1 : Vals vs us) (q2 : Vals ws ts) (hu : A.units + 64 < cLine) :
    ∀ j (h1 : j < us.toArray.size) (h2 : j < ts.toArray.size), SeqAt.EqAt A.in1 s us.toArray[j] ts.toArray[j] true := fun j h1 h2 => by
  have l1 : j < us.length := by simpa using h1
  have l2 : j < ts.length := by simpa using h2
  have lv : j < vs.length := by rw [q1.length]; exact l1
  have lx : j < xs.length := by rw [← e1.length]; exact lv
  obtain ⟨a, ha, da⟩ := e1.get (i := j) (List.getElem?_eq_getElem lx)
  obtain ⟨b, hb, db⟩ := e2.get (i := j) (List.getElem?_eq_getElem lx)
  obtain ⟨u', hu', ru⟩ := q1.get ha
  obtain ⟨t', ht', rt⟩ := q2.get hb
  have eu : us.toArray[j] = u' := by
    have : us[j]? = some us[j] := List.getElem?_eq_getElem l1
    rw [this] at hu'
    simpa using hu'
  have et : ts.toArray[j] = t' := by
    have : ts[j]? = some ts[j] := List.getElem?_eq_getElem l2
    rw [this] at ht'
    simpa using ht'
  rw [eu, et]
  exact same_at I 60 xs[j] a b u' t' A.in1 (Nat.le_trans (depth_get (List.getElem?_eq_getElem lx)) hdd) (okAll_get hok (List.getElem?_eq_getElem lx)) da db ru rt (by show A.units + 1 + 60 < cLine; omega)
theorem all_true (n : Nat) : ((List.range n).all fun _ => true) = true := List.all_eq_true.mpr fun _ _ => rfl
theorem op_eqS (hu : X.A.units + 64 < cLine) : OpR X (compareOp .Eq) (rEqS X.K false) := by
  intro pins s σ H x y v u Q I rx ry h
  obtain ⟨xs, hok, hd, h, q⟩ := h
  rcases h with ⟨d1, d2⟩ | ⟨d1, d2⟩
  · cases d1 with
    | lst h1 e1 =>
      cases d2 with
      | lst h2 e2 =>
        cases rx
        cases ry
        obtain ⟨us, q1, p1, _⟩ := I.list (SqL.of h1)
        obtain ⟨ts, q2, p2, _⟩ := I.list (SqL.of h2)
        have hsz : us.toArray.size = ts.toArray.size := by
          have := q1.length; have := q2.length; have := e1.length; have := e2.length
          simp; omega
        refine SeqAt.eq_listAt (e := fun _ => true) p1.isList p2.isList hsz (by omega) (same_items I hok hd e1 e2 q1 q2 hu) ?_
        rw [all_true]
        exact ⟨.bl true, H, I, rfl, q⟩
  · cases d1 with
    | tup h1 e1 =>
      cases d2 with
      | tup h2 e2 =>
        cases rx
        cases ry
        obtain ⟨us, q1, p1, _⟩ := I.tuple h1
        obtain ⟨ts, q2, p2, _⟩ := I.tuple h2
        have hsz : us.toArray.size = ts.toArray.size := by
          have := q1.length; have := q2.length; have := e1.length; have := e2.length
          simp; omega
        refine SeqAt.eq_tupleAt (e := fun _ => true) (show s.heap.IsTuple _ us.toArray from p1) (show s.heap.IsTuple _ ts.toArray from p2) (by omega) (same_items I hok hd e1 e2 q1 q2 hu) ?_
        rw [all_true, hsz]
        have ee : (ts.toArray.size == ts.toArray.size) = true := by simp
        rw [ee]
        exact ⟨.bl true, H, I, rfl, q⟩
theorem op_neS (hu : X.A.units + 64 < cLine) : OpR X (compareOp .NotEq) (rEqS X.K true) := by
  intro pins s σ H x y v u Q I rx ry h
  obtain ⟨xs, hok, hd, h, q⟩ := h
  rcases h with ⟨d1, d2⟩ | ⟨d1, d2⟩
  · cases d1 with
    | lst h1 e1 =>
      cases d2 with
      | lst h2 e2 =>
        cases rx
        cases ry
        obtain ⟨us, q1, p1, _⟩ := I.list (SqL.of h1)
        obtain ⟨ts, q2, p2, _⟩ := I.list (SqL.of h2)
        have hsz : us.toArray.size = ts.toArray.size := by
          have := q1.length; have := q2.length; have := e1.length; have := e2.length
          simp; omega
        refine SeqAt.RcNeAt.lists (e := fun _ => true) p1.isList p2.isList hsz (by omega) (same_items I hok hd e1 e2 q1 q2 hu) _ _ _ _ ?_
        rw [all_true]
        exact ⟨.bl false, H, I, rfl, q⟩
  · cases d1 with
    | tup h1 e1 =>
      cases d2 with
      | tup h2 e2 =>
        cases rx
        cases ry
        obtain ⟨us, q1, p1, _⟩ := I.tuple h1
        obtain ⟨ts, q2, p2, _⟩ := I.tuple h2
        have hsz : us.toArray.size = ts.toArray.size := by
          have := q1.length; have := q2.length; have := e1.length; have := e2.length
          simp; omega
        refine SeqAt.RcNeAt.tuples (e := fun _ => true) (show s.heap.IsTuple _ us.toArray from p1) (show s.heap.IsTuple _ ts.toArray from p2) (by omega) (same_items I hok hd e1 e2 q1 q2 hu) _ _ _ _ ?_
        rw [all_true, hsz]
        have ee : (ts.toArray.size == ts.toArray.size) = true := by simp
        rw [ee]
        exact ⟨.bl false, H, I, rfl, q⟩
/-- both rules together -/
def rEqA (K : PySem.W.Frag) : R2 := fun x y H Q => rEqD K x y H Q ∨ rEqS K false x y H Q
def rNeA (K : PySem.W.Frag) : R2 := fun x y H Q => rNeD K x y H Q ∨ rEqS K true x y H Q
theorem op_eqA (hu : X.A.units + 64 < cLine) : OpR X (compareOp .Eq) (rEqA X.K) := (op_eqD hu).or (op_eqS hu)
theorem op_neA (hu : X.A.units + 64 < cLine) : OpR X (compareOp .NotEq) (rNeA X.K) := (op_neD hu).or (op_neS hu)
end
section
variable {K : PySem.W.Frag} {x y : PyData} {xs : List PyData}
theorem rd_eqA (hx : SeqAt.shaped x = true) (hy : SeqAt.shaped y = true) : RD K (rEqA K) x y (.bool (PyData.eqv x y)) := RD.left (rd_eq hx hy)
theorem rd_neA (hx : SeqAt.shaped x = true) (hy : SeqAt.shaped y = true) : RD K (rNeA K) x y (.bool (!PyData.eqv x y)) := RD.left (rd_ne hx hy)
theorem rd_sameL (ok : okAll xs = true) (hd : PyData.depthAll xs ≤ 60) : RD K (rEqA K) (.list xs) (.list xs) (.bool true) := RD.right (RD.val fun G H v w s d1 d2 => ⟨_, .bl true, fun Q q => ⟨xs, ok, hd, .inl ⟨d1.mono s, d2.mono s⟩, q⟩⟩)
theorem rd_sameT (ok : okAll xs = true) (hd : PyData.depthAll xs ≤ 60) : RD K (rEqA K) (.tuple xs) (.tuple xs) (.bool true) := RD.right (RD.val fun G H v w s d1 d2 => ⟨_, .bl true, fun Q q => ⟨xs, ok, hd, .inr ⟨d1.mono s, d2.mono s⟩, q⟩⟩)
theorem rd_nsameL (ok : okAll xs = true) (hd : PyData.depthAll xs ≤ 60) : RD K (rNeA K) (.list xs) (.list xs) (.bool false) := RD.right (RD.val fun G H v w s d1 d2 => ⟨_, .bl false, fun Q q => ⟨xs, ok, hd, .inl ⟨d1.mono s, d2.mono s⟩, q⟩⟩)
theorem rd_nsameT (ok : okAll xs = true) (hd : PyData.depthAll xs ≤ 60) : RD K (rNeA K) (.tuple xs) (.tuple xs) (.bool false) := RD.right (RD.val fun G H v w s d1 d2 => ⟨_, .bl false, fun Q q => ⟨xs, ok, hd, .inr ⟨d1.mono s, d2.mono s⟩, q⟩⟩)
/-- list * int -/
theorem rd_repL {k : Int} (h0 : 0 ≤ k) (h1 : k ≤ 1000) (hl : xs.length ≤ 1000) : RD K rRep (.list xs) (.int k) (.list (List.replicate k.toNat xs).flatten) := fun G H v w s d1 d2 Q q => by
  obtain ⟨a, vs, rfl, ha, hg, da⟩ := d1.lstH s
  cases d2
  refine ⟨a, k, vs, rfl, rfl, ha, by omega, by omega, ?_, fun p hp => ?_⟩
  · rw [da.length]
    have h2 : k.toNat ≤ 1000 := by omega
    exact szK (Nat.mul_le_mul hl h2)
  · have st := Step.lay s (.lst (List.replicate k.toNat vs).flatten) hp
    exact q _ _ _ st (.lst upd_same ((da.rep k.toNat).mono st.gg))
/-- a dict as a thing -/
theorem ev_dnew {ρ : En} : Ev K tDNewK ρ fun ρ' y => ρ' = ρ ∧ ∃ a, y = opq a := fun b G H σ S Q q => fun p hp => q _ _ ρ _ _ ⟨rfl, p, rfl⟩ (S.step (Step.lay S.sub (.dK []) hp)) (.opq upd_same)
end
end RS
end
section
set_option Elab.async false
set_option linter.all false
set_option autoImplicit false
set_option maxRecDepth 100000
set_option maxHeartbeats 2000000
/-! RS13: own exception classes by their names; the law's own start -/
namespace RS
open PySem PySem.Spec PyProof.Rows L2
structure MkX (P : Program) (w : World) (K : PySem.W.Frag) (mg : Str → Option Value) (base : Heap) (x : Str) (C : Addr) (ps : List Str) (sp : Sp) : Prop where
  xc : XC K C
  m : mg x = some (.ref C)
  i : ∃ (fI : Addr) (fd : FuncData), PySem.W.findIn K (.ref C) "__init__" = some (some (.ref fI)) ∧ PySem.W.typeIn K (.ref fI) = some (.type "function") ∧ FnOk P w K mg base CX0 1 fI fd ps sp ∧ Binds K fd ps []
structure Mk0X (K : PySem.W.Frag) (mg : Str → Option Value) (x : Str) (C : Addr) : Prop where
  xc : XC K C
  m : mg x = some (.ref C)
  q : PySem.W.excIn K C [.type "ValueError", .type "Exception", .type "BaseException", .type "object"] "ValueError.__new__" = true
section
variable {X : Cx}
theorem pe_mkx {x : Str} {C : Addr} {ps : List Str} {sp : Sp} {e : Expr} {es : List Expr} {ta : TA} {p pos : Pos} (M : MkX X.prog X.w X.K X.mg X.base x C ps sp) (hr : Room 2 X.A) (ha : PA X (e :: es) ta) (hg : Gl X x := by rfl)
    (hdb : (x == ("__debug__" : Str)) = false := by decide) (he : starEach (e :: es) X.env = (false, eval e X.env) :: starEach es X.env := by rfl) (hpl : (backTo pos (starEach es X.env)).any (·.1) = false := by rfl) :
    PE X (.Call (.Name x p) (e :: es) [] pos) (tMkV C sp ta) := by
  obtain ⟨fI, fd, h1, h2, h3, h4⟩ := M.i
  exact pe_oex M.xc.o h1 h2 h3 hr h4 M.m ha hg hdb he hpl
theorem pe_mk0 {x : Str} {C : Addr} {p pos : Pos} (M : Mk0X X.K X.mg x C) (hg : Gl X x := by rfl) (hdb : (x == ("__debug__" : Str)) = false := by decide) : PE X (.Call (.Name x p) [] [] pos) (tMk0 C) :=
  pe_exc0 PySem.F.excBase_ValueError M.q M.m M.xc.o.kC hg hdb
end
/-! ### the law -/
def spLaw (K : PySem.W.Frag) : Sp := fun vs H Q _ => ∃ (a : Addr) (ns : List Int), vs = [.ref a] ∧ SqL K H a (ns.map V.int) ∧ ns.length ≤ 63 ∧ ∀ H', Q (.bl true) H'
def startL (n : Nat) : En := none :: some (Sl.pen 0) :: List.replicate (n - 2) none
def LawO : Out → Prop
  | .rt _ y => y = .bool true
  | _ => False
theorem sa_law {K : PySem.W.Frag} {H : Hp} {a p ca : Addr} {ns : List Int} {N : List Str} (hN : 2 ≤ N.length) (hca : H ca = some (.lst (ns.map V.int))) (ne : p ≠ ca) (PA : ∀ G, G ca = some (.lst (ns.map V.int)) → PenAt K G H p 0) :
    SA K ⟨fun x => if x = ca then some (.lst (ns.map V.int)) else none, fun _ => none, fun x => H x ≠ none, p⟩ (fun x => if x = ca then some (.lst (ns.map V.int)) else none) H ((L2.start N [.ref a]).set 1 (some (.ref p))) (startL N.length) := by
  have gc : (fun x => if x = ca then some (HO.lst (ns.map V.int)) else none) ca = some (.lst (ns.map V.int)) := if_pos rfl
  have sub : Sub (fun x => if x = ca then some (HO.lst (ns.map V.int)) else none) H := fun x o e => by
    have e' : (if x = ca then some (HO.lst (ns.map V.int)) else none) = some o := e
    by_cases hx : x = ca
    · rw [if_pos hx] at e'
      cases e'
      rw [hx]
      exact hca
    · rw [if_neg hx] at e'
      cases e'
  have key : ∀ (i : Nat) (s : Sl), (startL N.length)[i]? = some (some s) → i = 1 ∧ s = Sl.pen 0 := fun i s e => by
    unfold startL at e
    match i, e with
    | 0, e => cases e
    | 1, e => cases e; exact ⟨rfl, rfl⟩
    | i + 2, e =>
      have e' : (List.replicate (N.length - 2) (none : Option Sl))[i]? = some (some s) := e
      rw [List.getElem?_replicate] at e'
      split at e' <;> cases e'
  have hs : ((L2.start N [.ref a]).set 1 (some (.ref p)))[1]? = some (some (V.ref p)) := by
    rw [List.getElem?_set, if_pos rfl, if_pos]
    unfold L2.start
    rw [List.length_append, List.length_map, List.length_replicate]
    show 1 < 1 + (N.length - 1)
    omega
  exact {
    sub := sub, gg := Sub.refl _, new := fun x h _ => h
    keep := fun x o e => nomatch e
    trk := fun x h => h
    ptr := fun x h => absurd rfl h
    gtr := fun x h => by
      show H x ≠ none
      cases e : (fun x => if x = ca then some (HO.lst (ns.map V.int)) else none) x with
      | none => exact absurd e h
      | some o => rw [sub x o e]; exact fun z => nomatch z
    dat := fun i x e => by obtain ⟨_, h⟩ := key i _ e; cases h
    own := fun i xs e => by obtain ⟨_, h⟩ := key i _ e; cases h
    sep := fun i j xs ys a e => by obtain ⟨_, h⟩ := key i _ e; cases h
    pen := fun i c e => by
      obtain ⟨h1, h2⟩ := key i _ e
      cases h2
      subst h1
      exact ⟨p, hs, if_neg ne, rfl, PA _ gc⟩
    penp := fun i c e => by
      obtain ⟨h1, _⟩ := key i _ e
      subst h1
      exact hs
    onep := fun i j c c' e e' => by rw [(key i _ e).1, (key j _ e').1]
    len := by
      unfold L2.start startL
      rw [List.length_set, List.length_append, List.length_map, List.length_replicate]
      show 1 + (N.length - 1) = (List.replicate (N.length - 2) (none : Option Sl)).length + 1 + 1
      rw [List.length_replicate]
      omega }
section
variable {P : Program} {w : World} {K : PySem.W.Frag} {mg : Str → Option Value} {base : Heap}
theorem fn_law {st : Stmt} {f : Addr} {fd : FuncData} {N : List Str} {k : Nat} (F : Fun K "law" "law" st f fd) (S : FnScope N ["script"] (defScope st)) (hN : 2 ≤ N.length)
    (hb : ∀ (cdv : Value) (A : Around) (outer : List PySem.Env) (s : Shared) (H : Hp) (E : XK), Room k (A.deeper (PyProof.Rows.envOfC "law" (defScope st) s.heap.objs.size f cdv)) →
      ∃ t, PSs (cxOf CX0 P w K mg base N "law" (defScope st) f cdv A outer s H E).nox (defBody st) (tSeq (tAsg (tCall (spMkPen K) [] E0 (tCons (tVar 0) tNil)) (gName 1)) t) ∧ Es K t (startL N.length) LawO) :
    FnOk P w K mg base CX0 (k + 1) f fd ["script"] (spLaw K) := by
  refine F.ok S (fun vs H Q E h => ?_) (fun cdv A outer s H vs Q E hr h => ?_)
  · obtain ⟨_, _, rfl, _⟩ := h
    rfl
  · obtain ⟨t, ht, hs⟩ := hb cdv A outer s H E hr
    obtain ⟨a, ns, rfl, hS, hl, q⟩ := h
    refine ⟨_, ht, ?_⟩
    refine ⟨.ref a, rfl, a, ns, rfl, hS, hl, fun p ca H2 hp hca ne keep h2 hP => ?_⟩
    refine hs _ _ H2 _ _ (sa_law (N := N) (a := a) hN h2 ne hP) ⟨fun _ _ _ _ o => o.elim, fun ρ y v σ G3 H3 o S3 dv => ?_, fun _ _ _ _ o => o.elim, fun _ _ _ _ o => o.elim⟩
    have e : y = .bool true := o
    subst e
    cases dv
    exact q H3
/-- as HandS.Words' walk -/
theorem walk {l : PySem.W.OpenLaw} {q : Program} {loose : List Str} {XP : (Str → Option Value) → Heap → Prop} {YP : World → Heap → Prop} {d : DefRec} {K : Params → PySem.W.Frag} {k : Nat} (hn : l.most = some 63) (hdf : d.params.defaults = []) (hk : Room k callerA)
    (hY : ∀ (w : World) (h : Heap), YP w h → (K w.params).In h)
    (F : ∀ (w : World) (mg : Str → Option Value) (fa : Addr) (h : Heap), (K w.params).In h → h.Ns mainGlobals mg → mg d.name = some (.ref fa) →
      ∃ fd : FuncData, (∀ (s : Shared) (u : Value), BindsTo s fd ⟨[u], []⟩ [("script", u)]) ∧ ∀ base : Heap, (K w.params).In base → base.Ns mainGlobals mg → FnOk l.prog w (K w.params) mg base CX0 k fa fd ["script"] (spLaw (K w.params))) :
    PySem.W.WalkO q loose XP YP l.row.toRowW d [] (fun f vs => PySem.call f vs) :=
  L2.walk_of (n := 63) (k := k) (x := "script") (CX := fun _ => CX0) (sp := fun w => spLaw (K w.params)) hn (by decide) hdf hk hY F (fun _ _ a ns hl _ hS => ⟨a, ns, rfl, hS, hl, fun _ => rfl⟩) fun _ _ _ _ _ z => z
end
end RS
end
section
set_option Elab.async false
set_option linter.all false
set_option autoImplicit false
set_option maxRecDepth 100000
set_option maxHeartbeats 2000000
/-! RS14: more of statements and comprehensions -/
namespace RS
open PySem PySem.Spec PyProof.Rows L2
section
variable {K : PySem.W.Frag} {ρ : En} {O : Out → Prop} {te : TE} {ta : TA} {u : TS} {x y z : PyData} {i j l : Nat}
theorem DAs.two {G : Hp} {vs : List V} (h : DAs K G vs [x, y]) : ∃ v w, vs = [v, w] ∧ DA K G v x ∧ DA K G w y := by
  cases h with
  | cons h1 h2 =>
    obtain ⟨w, rfl, hw⟩ := h2.one
    exact ⟨_, _, rfl, h1, hw⟩
theorem DAs.three {G : Hp} {vs : List V} (h : DAs K G vs [x, y, z]) : ∃ u v w, vs = [u, v, w] ∧ DA K G u x ∧ DA K G v y ∧ DA K G w z := by
  cases h with
  | cons h1 h2 =>
    obtain ⟨v, w, rfl, hv, hw⟩ := h2.two
    exact ⟨_, _, _, rfl, h1, hv, hw⟩
theorem es_par2v {R : En → List PyData → Prop} (h : EvA K ta ρ R) (k : ∀ ρ1 xs, R ρ1 xs → ∃ x y, xs = [x, y] ∧ O (.nx ((ρ1.set i (some (.d x))).set j (some (.d y))))) : Es K (tPar i j ta) ρ O := fun b G H σ D S T =>
  h b G H σ S _ fun vs xs ρ1 G1 H1 h1 S1 d1 => by
    obtain ⟨x, y, rfl, ho⟩ := k ρ1 xs h1
    obtain ⟨v, w, rfl, dv, dw⟩ := d1.two
    exact ⟨v, w, rfl, T.nx _ _ G1 H1 ho ((S1.set i dv).set j dw)⟩
theorem eq_par2v {R : En → List PyData → Prop} (h : EvA K ta ρ R) (k : ∀ ρ1 xs, R ρ1 xs → ∃ x y, xs = [x, y] ∧ Es K u ((ρ1.set i (some (.d x))).set j (some (.d y))) O) : Es K (tSeq (tPar i j ta) u) ρ O := es_then (es_par2v h k)
theorem eq_par2 (h : Ea K ta ρ [x, y]) (k : Es K u ((ρ.set i (some (.d x))).set j (some (.d y))) O) : Es K (tSeq (tPar i j ta) u) ρ O := eq_par2v h fun ρ1 xs e => by
  obtain ⟨rfl, rfl⟩ := e
  exact ⟨x, y, rfl, k⟩
theorem eq_par3 (h : Ea K ta ρ [x, y, z]) (k : Es K u (((ρ.set i (some (.d x))).set j (some (.d y))).set l (some (.d z))) O) : Es K (tSeq (tPar3 i j l ta) u) ρ O := es_then fun b G H σ D S T =>
  h b G H σ S _ fun vs xs ρ1 G1 H1 h1 S1 d1 => by
    obtain ⟨rfl, rfl⟩ := h1
    obtain ⟨a, b', c, rfl, da, db, dc⟩ := d1.three
    exact ⟨a, b', c, rfl, T.nx _ _ G1 H1 k (((S1.set i da).set j db).set l dc)⟩
/-- the parts' outcomes may hang on the env between -/
theorem eva_cons2 {ta : TE} {tl : TA} {R1 : En → PyData → Prop} {R2 : En → PyData → En → List PyData → Prop} {R : En → List PyData → Prop} (ha : Ev K ta ρ R1) (hb : ∀ ρ1 x, R1 ρ1 x → EvA K tl ρ1 (R2 ρ1 x))
    (hr : ∀ ρ1 x ρ2 xs, R1 ρ1 x → R2 ρ1 x ρ2 xs → R ρ2 (x :: xs)) : EvA K (tCons ta tl) ρ R := fun b G H σ S Q q =>
  ha _ G H σ S _ fun v x ρ1 G1 H1 h1 S1 d1 => (hb ρ1 x h1).runG S1 fun vs xs ρ2 G2 H2 h2 S2 g d2 => q (v :: vs) (x :: xs) ρ2 G2 H2 (hr _ _ _ _ h1 h2) S2 (.cons (d1.mono g) d2)
theorem ev_op2 {ta tb : TE} {r : R2} {R1 : En → PyData → Prop} {R : En → PyData → Prop} {R2 : En → PyData → En → PyData → Prop} (ha : Ev K ta ρ R1) (hb : ∀ ρ1 x, R1 ρ1 x → Ev K tb ρ1 (R2 ρ1 x))
    (hr : ∀ ρ1 x ρ2 y, R1 ρ1 x → R2 ρ1 x ρ2 y → ∃ z, RD K r x y z ∧ R ρ2 z) : Ev K (tOp r ta tb) ρ R := fun b G H σ S Q q =>
  ha _ G H σ S _ fun v x ρ1 G1 H1 h1 S1 d1 => (hb ρ1 x h1).runG S1 fun w y ρ2 G2 H2 h2 S2 g d2 => by
    obtain ⟨z, rd, rz⟩ := hr ρ1 x ρ2 y h1 h2
    exact rd G2 H2 v w S2.sub (d1.mono g) d2 Q fun u G3 H3 st d3 => q u z ρ2 G3 H3 rz (S2.step st) d3
/-- a pure head -/
theorem eva_consd {ta : TE} {tl : TA} {R : En → List PyData → Prop} (h : Ed K ta ρ x) (hb : EvA K tl ρ R) : EvA K (tCons ta tl) ρ fun ρ' ys => ∃ zs, ys = x :: zs ∧ R ρ' zs :=
  eva_cons2 h (R2 := fun _ _ ρ2 zs => R ρ2 zs) (fun ρ1 y e => by obtain ⟨rfl, rfl⟩ := e; exact hb) fun ρ1 y ρ2 zs e h2 => by
    obtain ⟨rfl, rfl⟩ := e
    exact ⟨zs, rfl, h2⟩
/-- one argument -/
theorem eva_one {ta : TE} {R1 : En → PyData → Prop} (h : Ev K ta ρ R1) : EvA K (tCons ta tNil) ρ fun ρ' ys => ∃ y, ys = [y] ∧ R1 ρ' y :=
  eva_cons2 h (R2 := fun ρ1 _ ρ2 ys => ρ2 = ρ1 ∧ ys = []) (fun ρ1 y _ => ea_nil) fun ρ1 y ρ2 ys h1 h2 => by
    obtain ⟨rfl, rfl⟩ := h2
    exact ⟨y, rfl, h1⟩
/-- a pick from a list that is known, up to what is free in it -/
theorem ev_pickv {E : XK} {R1 : En → PyData → Prop} {c0 : Nat} (hi : ρ[i]? = some (some (Sl.pen c0))) (h : Ev K te ρ R1) (hr : ∀ ρ1 y, R1 ρ1 y → ∃ c1 xs, ρ1 = setPen c1 ρ ∧ (y = .list xs ∨ y = .tuple xs) ∧ xs ≠ [] ∧ xs.length < 1000000 ∧ c1 + 1 ≤ LIM) :
    Ev K (tCall (spP K 1 pPick 1 rPick) [] E (tCons (tVar i) (tCons te tNil))) ρ fun ρ' y => ∃ c1 xs, (R1 (setPen c1 ρ) (.list xs) ∨ R1 (setPen c1 ρ) (.tuple xs)) ∧ ρ' = setPen (c1 + 1) ρ ∧ y ∈ xs :=
  ev_callP hi (eva_one h) fun ρ1 ds e => by
    obtain ⟨y, rfl, h1⟩ := e
    obtain ⟨c1, xs, rfl, hy, ne, hl, hc⟩ := hr _ _ h1
    refine ⟨c1, rfl, rfl, ⟨xs, by rcases hy with rfl | rfl; exact .inl rfl; exact .inr rfl, ne, hl⟩, hc, fun z hz => ?_⟩
    obtain ⟨ys, hys, hm⟩ := hz
    rcases hy with rfl | rfl
    · rcases hys with e | e
      · cases e
        exact ⟨c1, xs, .inl h1, rfl, hm⟩
      · cases e
    · rcases hys with e | e
      · cases e
      · cases e
        exact ⟨c1, xs, .inr h1, rfl, hm⟩
theorem ev_pick {E : XK} {c0 : Nat} {xs : List PyData} (hi : ρ[i]? = some (some (Sl.pen c0))) (hp : setPen c0 ρ = ρ) (h : Ed K te ρ (.list xs)) (ne : xs ≠ []) (hl : xs.length < 1000000) (hc : c0 + 1 ≤ LIM) :
    Ev K (tCall (spP K 1 pPick 1 rPick) [] E (tCons (tVar i) (tCons te tNil))) ρ fun ρ' y => ρ' = setPen (c0 + 1) ρ ∧ y ∈ xs :=
  ev_callP hi (ea_cons h ea_nil) fun ρ1 ds e => by
    obtain ⟨rfl, rfl⟩ := e
    refine ⟨c0, hp.symm, rfl, ⟨xs, .inl rfl, ne, hl⟩, hc, fun z hz => ?_⟩
    obtain ⟨ys, hys, hm⟩ := hz
    rcases hys with e | e
    · cases e
      exact ⟨rfl, hm⟩
    · cases e
theorem ev_draw {E : XK} {c0 : Nat} {many : Int} (hi : ρ[i]? = some (some (Sl.pen c0))) (hp : setPen c0 ρ = ρ) (h : Ed K te ρ (.int many)) (h0 : 0 < many) (h1 : many < 1000000) (hc : c0 + 1 ≤ LIM) :
    Ev K (tCall (spP K 1 pDraw 1 rDraw) [] E (tCons (tVar i) (tCons te tNil))) ρ fun ρ' y => ρ' = setPen (c0 + 1) ρ ∧ ∃ r : Int, y = .int r ∧ 0 ≤ r ∧ r < many :=
  ev_callP hi (ea_cons h ea_nil) fun ρ1 ds e => by
    obtain ⟨rfl, rfl⟩ := e
    refine ⟨c0, hp.symm, rfl, ⟨many, rfl, h0, h1⟩, hc, fun z hz => ?_⟩
    obtain ⟨m, r, e1, e2, e3, e4⟩ := hz
    cases e1
    exact ⟨rfl, r, e2, e3, e4⟩
/-- fields -/
theorem fld_here {f : Str} {r : List (PyData × PyData)} : fldD f ((.str f, x) :: r) = some x := by
  unfold fldD
  rw [if_pos rfl]
theorem fld_next {f g : Str} {r : List (PyData × PyData)} (h : f ≠ g) : fldD f ((.str g, y) :: r) = fldD f r := by
  rw [fldD, if_neg h]
/-- a comprehension that draws nothing -/
theorem ed_lc {wi : TI} {g : TG} {tt : TT} {vs : List Nat} {xs : List PyData} (c0 : Nat) (p : PyData → Bool) (f : PyData → PyData) (h : Ei K wi ρ xs) (hl : xs.length ≤ 100000) (hp : setPen c0 ρ = ρ) (hv : ∀ (i : Nat) (s : Sl), i ∈ vs → ρ[i]? = some (some s) → ∃ x, s = Sl.d x)
    (k : ∀ (i : Nat) x, xs[i]? = some x → ∃ js ρ2, (∀ j ∈ js, j ∈ vs) ∧ Eg K g js (setPen c0 (wp ρ vs)) x ρ2 ∧ setPen c0 ρ2 = ρ2 ∧ Eb K tt ρ2 (p x) ∧ (p x = true → Ed K te ρ2 (f x))) : Ed K (tLc wi g tt te vs) ρ (.list ((xs.filter p).map f)) :=
  ev_lc h fun ρ1 ys e => by
    obtain ⟨rfl, rfl⟩ := e
    refine ⟨hl, hv, c0, fun i c acc => c = c0 ∧ acc = ((ys.take i).filter p).map f, hp, ⟨rfl, by simp⟩, fun i x c acc hx hJ => ?_, fun c acc hJ => ?_⟩
    · obtain ⟨rfl, rfl⟩ := hJ
      obtain ⟨js, ρ2, h1, h2, h3, h4, h5⟩ := k i x hx
      have et : ys.take (i + 1) = ys.take i ++ [x] := by
        rw [List.take_add_one, hx]
        rfl
      refine ⟨js, ρ2, h1, h2, h4.imp fun ρ3 t e => ?_⟩
      obtain ⟨rfl, rfl⟩ := e
      refine ⟨c, h3.symm, fun ht => (h5 ht).imp fun ρ4 y e => ?_, fun ht => ⟨rfl, ?_⟩⟩
      · obtain ⟨rfl, rfl⟩ := e
        refine ⟨c, h3.symm, rfl, ?_⟩
        rw [et, List.filter_append, List.map_append, List.filter_cons, if_pos ht]
        rfl
      · rw [et, List.filter_append, List.filter_cons, if_neg (by rw [ht]; exact Bool.false_ne_true)]
        simp
    · obtain ⟨rfl, rfl⟩ := hJ
      rw [List.take_length]
      exact ⟨hp, rfl⟩
theorem eb_yes : Eb K tYes ρ true := fun b G H σ S Q q => q true ρ G H ⟨rfl, rfl⟩ S
/-- without a test -/
theorem ed_lcm {wi : TI} {g : TG} {vs : List Nat} {xs : List PyData} (c0 : Nat) (f : PyData → PyData) (h : Ei K wi ρ xs) (hl : xs.length ≤ 100000) (hp : setPen c0 ρ = ρ) (hv : ∀ (i : Nat) (s : Sl), i ∈ vs → ρ[i]? = some (some s) → ∃ x, s = Sl.d x)
    (k : ∀ (i : Nat) x, xs[i]? = some x → ∃ js ρ2, (∀ j ∈ js, j ∈ vs) ∧ Eg K g js (setPen c0 (wp ρ vs)) x ρ2 ∧ setPen c0 ρ2 = ρ2 ∧ Ed K te ρ2 (f x)) : Ed K (tLc wi g tYes te vs) ρ (.list (xs.map f)) := by
  have q := ed_lc c0 (fun _ => true) f h hl hp hv (tt := tYes) (te := te) (g := g) fun i x hx => by
    obtain ⟨js, ρ2, h1, h2, h3, h4⟩ := k i x hx
    exact ⟨js, ρ2, h1, h2, h3, eb_yes, fun _ => h4⟩
  have e : xs.filter (fun _ => true) = xs := List.filter_eq_self.mpr fun _ _ => rfl
  rw [e] at q
  exact q
/-- {'a': 1} -/
theorem ev_disp1 {k : Str} {n : Int} : Ev K (tDisp [(tC (.str k), tC (.int n))]) ρ fun ρ' y => ρ' = ρ ∧ ∃ a, y = opq a := fun b G H σ S Q q => fun p hp => by
  refine ⟨upd_same, [(Sum.inr k, .int n)], rfl, (show 1 ≤ 15 by decide), ?_⟩
  rw [upd_upd]
  exact q _ _ ρ _ _ ⟨rfl, p, rfl⟩ (S.step (Step.lay S.sub (.dK _) hp)) (.opq upd_same)
end
theorem paired_get {α β : Type} {F : α → β → Prop} : ∀ {xs : List α} {ys : List β} {i : Nat} {y : β}, Paired F xs ys → ys[i]? = some y → ∃ x, xs[i]? = some x ∧ F x y
  | _, _, _, _, .nil, e => by simp at e
  | _, _, 0, _, .cons r _, e => by simp at e; subst e; exact ⟨_, rfl, r⟩
  | _, _, i + 1, y, .cons _ t, e => by
    obtain ⟨u, h1, h2⟩ := paired_get (i := i) (y := y) t (by simpa using e)
    exact ⟨u, by simpa using h1, h2⟩
end RS
end
section
set_option Elab.async false
set_option linter.all false
set_option autoImplicit false
set_option maxRecDepth 100000
set_option maxHeartbeats 2000000
/-! RS15: the rules with the written part said (within a comprehension it must be) -/
namespace RS
open PySem PySem.Spec PyProof.Rows L2
section
variable {X : Cx} {K : PySem.W.Frag}
theorem k_eqA (hu : X.A.units + 64 < cLine) (hK : X.K = K := by rfl) : OpR X (compareOp .Eq) (rEqA K) := by subst hK; exact op_eqA hu
theorem k_neA (hu : X.A.units + 64 < cLine) (hK : X.K = K := by rfl) : OpR X (compareOp .NotEq) (rNeA K) := by subst hK; exact op_neA hu
theorem k_catA (hK : X.K = K := by rfl) : OpR X (binaryOp .Add) (rCatA K) := by subst hK; exact op_catA
theorem k_repT (hK : X.K = K := by rfl) : OpR X (binaryOp .Mult) (rRepT K) := by subst hK; exact op_repT
theorem k_ix (hK : X.K = K := by rfl) : IxR X (rIx K) := by subst hK; exact ix_seq
theorem k_isi (hK : X.K = K := by rfl) : CallR X (.builtin "isinstance") (rIsi K) := by subst hK; exact call_isi
theorem k_isiT (hK : X.K = K := by rfl) : CallR X (.builtin "isinstance") (rIsiT K) := by subst hK; exact call_isiT
theorem k_isX (hK : X.K = K := by rfl) : CallR X (.builtin "isinstance") (rIsX K) := by subst hK; exact call_isX
theorem k_all (hc : X.calm = true) (hK : X.K = K := by rfl) : CallR X (.builtin "all") (rAll K) := by subst hK; exact cr_all hc
theorem k_any (hc : X.calm = true) (hK : X.K = K := by rfl) : CallR X (.builtin "any") (rAny K) := by subst hK; exact cr_any hc
theorem k_len (hK : X.K = K := by rfl) : CallR X (.builtin "len") (rLenS K) := by subst hK; exact call_len_seq
def rTupS (K : PySem.W.Frag) : List V → Hp → VK → Prop := fun xs H Q => ∃ p ys, xs = [.ref p] ∧ ((SqL K H p ys ∧ ∀ l, H l = none → Q (.ref l) (upd H l (.tup ys))) ∨ (SqT K H p ys ∧ Q (.ref p) H))
theorem k_tuple (hK : X.K = K := by rfl) : CallR X (.type "tuple") (rTupS K) := by subst hK; exact call_tuple_of
theorem k_list (hK : X.K = K := by rfl) : CallR X (.type "list") (rListS K) := by subst hK; exact call_list_of
theorem k_min (hc : X.calm = true) (hK : X.K = K := by rfl) : CallR X (.builtin "min") (rMin K) := by subst hK; exact cr_min hc
theorem k_max (hc : X.calm = true) (hK : X.K = K := by rfl) : CallR X (.builtin "max") (rMax K) := by subst hK; exact cr_max hc
theorem k_slT (hK : X.K = K := by rfl) : SlR X (rSlA K) := by subst hK; exact sl_tupA
theorem k_slL (hK : X.K = K := by rfl) : SlR X (rSlL K) := by subst hK; exact sl_list
theorem kpi_list {tg l : Expr} {tl : TE} (hl : PE X l tl) (hK : X.K = K := by rfl) : PI X tg l (iList K tl) := by subst hK; exact pi_list hl
theorem kpi_tup {tg l : Expr} {tl : TE} (hl : PE X l tl) (hK : X.K = K := by rfl) : PI X tg l (iTup K tl) := by subst hK; exact pi_tup hl
def isStar : Expr → Bool | .Starred _ _ => true | _ => false
theorem each_cons (t : Expr) (rest : List Expr) (env : Env) : ∃ g, assignEach (t :: rest) env = (isStar t, g) :: assignEach rest env := by
  cases t <;> exact ⟨_, rfl⟩
theorem each_len : ∀ (es : List Expr) (env : Env), (assignEach es env).length = es.length
  | [], _ => rfl
  | t :: r, env => by obtain ⟨g, hg⟩ := each_cons t r env; rw [hg]; simp [each_len r env]
theorem each_star : ∀ (es : List Expr) (env : Env), es.all (fun t => !isStar t) = true → (assignEach es env).findIdx? (·.1) = none
  | [], _, _ => rfl
  | t :: r, env, h => by
    obtain ⟨g, hg⟩ := each_cons t r env
    rw [List.all_cons, Bool.and_eq_true] at h
    have h1 : isStar t = false := by cases hh : isStar t <;> simp_all
    rw [hg, h1]; simp [List.findIdx?_cons, each_star r env h.2]
theorem kpg_tup {es : List Expr} {k : Nat} {t : TGs} (n : Nat) {pos : Pos} (hc : X.calm = true) (h : PGs X es t)
    (hn : es.length = n := by rfl) (hst : es.all (fun t => !isStar t) = true := by rfl) (hK : X.K = K := by rfl) : PG X (.Tuple es k pos) (gTup K n t) := by subst hK; exact pg_tup hc h ((each_len es X.env).trans hn) (each_star es X.env hst)
theorem kpg_unl {es : List Expr} {k : Nat} {t : TGs} (n : Nat) {pos : Pos} (hc : X.calm = true) (h : PGs X es t)
    (hn : es.length = n := by rfl) (hst : es.all (fun t => !isStar t) = true := by rfl) (hK : X.K = K := by rfl) : PG X (.Tuple es k pos) (gUnl K n t) := by subst hK; exact pg_unl hc h ((each_len es X.env).trans hn) (each_star es X.env hst)
theorem kpe_fld {e : Expr} {ta : TE} {f : Str} {pos : Pos} (he : PE X e ta) (hb : attributeBase e f X.env (eval e X.env) = eval e X.env) (hK : X.K = K := by rfl) : PE X (.Attribute e f pos) (tFld K ta f) := by subst hK; exact pe_fld he hb
theorem kpe_oxf {e : Expr} {te : TE} {n : Str} {pos : Pos} (he : PE X e te) (hb : attributeBase e n X.env (eval e X.env) = eval e X.env) (hK : X.K = K := by rfl) : PE X (.Attribute e n pos) (tOxf K n te) := by subst hK; exact pe_oxf he hb
theorem kpe_revL {e : Expr} {te : TE} {k : Nat} {p1 p2 p3 pos : Pos} (he : PE X e te) (hK : X.K = K := by rfl) : PE X (.Subscript e (.Slice none none (some (.UnaryOp .USub (.Constant (.int 1) k p1) p2)) p3) pos) (tRevL K te) := by subst hK; exact pe_revL he
end
end RS
end
section
set_option Elab.async false
set_option linter.all false
set_option maxRecDepth 100000
set_option maxHeartbeats 4000000
namespace K00
open PySem PySem.Spec PyProof.Rows L2 RS
def top (i : Nat) : Stmt := PySem.Challenge.pw_numberwall_k00_errors.main.body.getD i (.Pass ⟨0, 0, 0, 0⟩)
abbrev s_law_pen : Stmt := top 21
abbrev N_law_pen : List Str := ["script", "blend", "cell"]
theorem sc_law_pen : FnScope N_law_pen ["script"] (defScope s_law_pen) := ⟨rfl, rfl, rfl, by decide +kernel, rfl, by decide +kernel, by decide +kernel⟩
abbrev s_law_draw : Stmt := top 22
abbrev N_law_draw : List Str := ["pen", "many", "cell", "digit", "mixed"]
theorem sc_law_draw : FnScope N_law_draw ["pen", "many"] (defScope s_law_draw) := ⟨rfl, rfl, rfl, by decide +kernel, rfl, by decide +kernel, by decide +kernel⟩
abbrev s_law_pick : Stmt := top 23
abbrev N_law_pick : List Str := ["pen", "row"]
theorem sc_law_pick : FnScope N_law_pick ["pen", "row"] (defScope s_law_pick) := ⟨rfl, rfl, rfl, by decide +kernel, rfl, by decide +kernel, by decide +kernel⟩
abbrev s_law_kinds : Stmt := top 24
abbrev N_law_kinds : List Str := ["error", "found"]
theorem sc_law_kinds : FnScope N_law_kinds ["error"] (defScope s_law_kinds) := ⟨rfl, rfl, rfl, by decide +kernel, rfl, by decide +kernel, by decide +kernel⟩
abbrev s_law : Stmt := top 25
abbrev N_law : List Str := ["script", "pen", "one", "two", "line", "number", "kept", "told", "text", "program", "place", "step", "lot", "formula", "reads", "unlike", "many", "kind", "name", "none", "taken", "errors", "at", "k"]
theorem sc_law : FnScope N_law ["script"] (defScope s_law) := ⟨rfl, rfl, rfl, by decide +kernel, rfl, by decide +kernel, by decide +kernel⟩
section
variable {P : Program} {w : World} {K : PySem.W.Frag} {mg : Str → Option Value} {base : Heap}
theorem ok_pen {f : Addr} {fd : FuncData} (F : Fun K "_law_pen" "_law_pen" s_law_pen f fd) (T : Bi mg) : FnOk P w K mg base CX0 1 f fd ["script"] (spMkPen K) := by
  refine F.ok sc_law_pen (fun vs H Q E h => ?_) (fun cdv A outer s H vs Q E hr h => ⟨tMkPen K, ?_, ?_⟩)
  · obtain ⟨_, _, rfl, _⟩ := h
    rfl
  · exact (pss_cons (ps_set (i := 1) sc_law_pen.nd rfl (by first | exact Or.inl rfl | exact Or.inr rfl) pe_int)
      (pss_cons (ps_for PassesOwn.never rfl (kpi_list (K := K) (pv 0)) (pg_name (i := 2) sc_law_pen.nd rfl (by first | exact Or.inl rfl | exact Or.inr rfl))
        (pss_one (ps_set (i := 1) sc_law_pen.nd rfl (by first | exact Or.inl rfl | exact Or.inr rfl) (pe_op op_mod (pe_callTy call_int1 (by rfl) (T.n_int) PyProof.Rows.boot_int (pa_cons (pe_op op_add (pe_op op_mul (pv 1) pe_int) (pv 2)) pa_nil)) pe_int))))
      (pss_one (ps_ret (pe_disp (pps_cons pe_str (pe_callTy (k_list (K := K)) (by rfl) (T.n_list) PyProof.Rows.boot_list (pa_cons (pv 0) pa_nil)) (pps_cons pe_str pe_int (pps_cons pe_str pe_int (pps_cons pe_str pe_int (pps_cons pe_str (pv 1) pps_nil))))) (by rfl) (by rfl) (fun z => by cases z) (by decide))))))
  · obtain ⟨a, ns, rfl, hS, hn, q⟩ := h
    exact mkpen_ok hS hn q
theorem ok_draw {f : Addr} {fd : FuncData} (F : Fun K "_law_draw" "_law_draw" s_law_draw f fd) (T : Bi mg) : FnOk P w K mg base CX0 1 f fd ["pen", "many"] (spP K 1 pDraw 1 rDraw) := by
  refine F.ok sc_law_draw (fun vs H Q E h => ?_) (fun cdv A outer s H vs Q E hr h => ⟨tDraw K, ?_, draw_sp rfl h⟩)
  · obtain ⟨G, p, c, vs', ds, rfl, _, _, _, _, d, hl, _⟩ := h
    rw [List.length_cons, d.length, hl]
    rfl
  · exact (pss_cons (ps_dput (hu_of hr) (pv 0) pe_str (pe_op op_add (pe_dget (hu_of hr) (pv 0) pe_str (fun _ _ => rfl)) pe_int) rfl)
      (pss_cons (ps_if (pw_and (pt_cmpR op_eq (pe_dget (hu_of hr) (pv 0) pe_str (fun _ _ => rfl)) pe_int (nomark _)) (pw_and1 (pt_cmpR op_lt (pe_dget (hu_of hr) (pv 0) pe_str (fun _ _ => rfl)) (pe_callB (k_len (K := K)) (by rfl) (T.n_len) PySem.boot_len (pa_cons (pe_dget (hu_of hr) (pv 0) pe_str (fun _ _ => rfl)) pa_nil)) (nomark _)))).pt
        (pss_cons (ps_set (i := 2) sc_law_draw.nd rfl (by first | exact Or.inl rfl | exact Or.inr rfl) (pe_ix (k_ix (K := K)) (pe_dget (hu_of hr) (pv 0) pe_str (fun _ _ => rfl)) (pe_dget (hu_of hr) (pv 0) pe_str (fun _ _ => rfl)) (fun _ _ => rfl)))
        (pss_cons (ps_dput (hu_of hr) (pv 0) pe_str (pe_op op_add (pe_dget (hu_of hr) (pv 0) pe_str (fun _ _ => rfl)) pe_int) rfl)
        (pss_one (ps_if (pt_cmpR op_ge (pv 2) (pe_op op_pow pe_int pe_int) (nomark _))
          (pss_one (ps_dput (hu_of hr) (pv 0) pe_str (pe_op op_sub (pv 2) (pe_op op_pow pe_int pe_int)) rfl))
          (pss_one (ps_dput (hu_of hr) (pv 0) pe_str (pe_op op_mod (pe_callTy call_int1 (by rfl) (T.n_int) PyProof.Rows.boot_int (pa_cons (pe_op op_add (pe_op op_mul (pe_dget (hu_of hr) (pv 0) pe_str (fun _ _ => rfl)) pe_int) (pv 2)) pa_nil)) pe_int) rfl))))))
        pss_nil)
      (pss_cons (ps_if (pt_cmpR op_gt (pe_dget (hu_of hr) (pv 0) pe_str (fun _ _ => rfl)) pe_int (nomark _))
        (pss_cons (ps_set (i := 3) sc_law_draw.nd rfl (by first | exact Or.inl rfl | exact Or.inr rfl) (pe_op op_mod (pe_callTy call_int1 (by rfl) (T.n_int) PyProof.Rows.boot_int (pa_cons (pe_dget (hu_of hr) (pv 0) pe_str (fun _ _ => rfl)) pa_nil)) (pv 1)))
        (pss_cons (ps_dput (hu_of hr) (pv 0) pe_str (pe_op op_fdiv (pe_dget (hu_of hr) (pv 0) pe_str (fun _ _ => rfl)) (pv 1)) rfl)
        (pss_one (ps_ret (pv 3)))))
        pss_nil)
      (pss_cons (ps_set (i := 4) sc_law_draw.nd rfl (by first | exact Or.inl rfl | exact Or.inr rfl) (pe_op op_add (pe_op op_add (pe_dget (hu_of hr) (pv 0) pe_str (fun _ _ => rfl)) (pe_op op_mul (pe_dget (hu_of hr) (pv 0) pe_str (fun _ _ => rfl)) pe_int)) pe_int))
      (pss_one (ps_ret (pe_op op_mod (pe_op op_fdiv (pe_callTy call_int1 (by rfl) (T.n_int) PyProof.Rows.boot_int (pa_cons (pe_op op_mod (pe_op op_pow (pv 4) pe_int) pe_int) pa_nil)) pe_int) (pv 1))))))))
theorem ok_pick {f : Addr} {fd : FuncData} (F : Fun K "_law_pick" "_law_pick" s_law_pick f fd) (T : Bi mg) (O_law_draw : OwnD P w K mg base 1 "_law_draw" ["pen", "many"] (spP K 1 pDraw 1 rDraw)) : FnOk P w K mg base CX0 2 f fd ["pen", "row"] (spP K 1 pPick 1 rPick) := by
  refine fn_pen (ps := ["row"]) F sc_law_pick fun cdv A outer s H E hr => ⟨tPick K, ?_, fun c ds hc hl hp => pick_es rfl hc hp⟩
  exact (pss_one (ps_ret (pe_ix (k_ix (K := K)) (pv 1) (pe_own O_law_draw (hr.mono (by decide)) (pa_cons (pv 0) (pa_cons (pe_callB (k_len (K := K)) (by rfl) (T.n_len) PySem.boot_len (pa_cons (pv 1) pa_nil)) pa_nil))) (fun _ _ => rfl))))
end
end K00
end
section
set_option Elab.async false
set_option linter.all false
set_option maxRecDepth 100000
set_option maxHeartbeats 4000000
namespace K00
open PySem PySem.Spec PyProof.Rows L2 RS
/-- how the classes stand to one another -/
structure KT (K : PySem.W.Frag) (Cs : List Addr) (CW : Addr) : Prop where
  tab : ∀ (i j : Nat) (C D : Addr), Cs[i]? = some C → Cs[j]? = some D → PySem.W.kitOne K (.ref C) (.ref D) = some (decide (i = j))
  xc : ∀ C ∈ Cs, XC K C
  wal : ∀ C ∈ Cs, PySem.W.kitOne K (.ref C) (.ref CW) = some true
  ve : ∀ C ∈ Cs, PySem.W.kitOne K (.ref C) (.type "ValueError") = some true
theorem KT.inj {K : PySem.W.Frag} {Cs : List Addr} {CW : Addr} (T : KT K Cs CW) {i j : Nat} {C : Addr} (hi : Cs[i]? = some C) (hj : Cs[j]? = some C) : i = j := by
  have h1 := T.tab i j C C hi hj
  have h2 := T.tab i i C C hi hi
  rw [h1] at h2
  have h3 := Option.some.inj h2
  have h4 : decide (i = i) = true := decide_eq_true rfl
  rw [h4] at h3
  exact of_decide_eq_true h3
def kindsOf (i : Nat) : PyData := .list ((List.range 18).map fun j => .bool (decide (i = j)))
def pKinds (Cs : List Addr) : List PyData → Prop := fun ds => ∃ (x : PyData) (i : Nat) (C : Addr), ds = [x] ∧ Cs[i]? = some C ∧ IsX C x
def rKinds (Cs : List Addr) : List PyData → PyData → Prop := fun ds y => ∃ (x : PyData) (i : Nat) (C : Addr), ds = [x] ∧ Cs[i]? = some C ∧ IsX C x ∧ y = kindsOf i
section
variable {P : Program} {w : World} {K : PySem.W.Frag} {mg : Str → Option Value} {base : Heap} {C_WallError C_BadText C_BadProgram C_BadConfiguration C_BadStep C_BadLot C_BadFormula C_BadReads C_Unlike C_TooMany C_NotOfKind C_BadName C_NoName C_TakenName C_BadLine C_BadNumber C_NotKept C_NothingToUndo C_NothingToRedo : Addr}

theorem ok_kinds {f : Addr} {fd : FuncData} (F : Fun K "_law_kinds" "_law_kinds" s_law_kinds f fd) (T : Bi mg) (M_WallError : mg "WallError" = some (.ref C_WallError)) (T2 : KT K [C_BadText, C_BadProgram, C_BadConfiguration, C_BadStep, C_BadLot, C_BadFormula, C_BadReads, C_Unlike, C_TooMany, C_NotOfKind, C_BadName, C_NoName, C_TakenName, C_BadLine, C_BadNumber, C_NotKept, C_NothingToUndo, C_NothingToRedo] C_WallError)
  (M_BadText : MkX P w K mg base "BadText" C_BadText ["self", "column"] (spIni1 K C_BadText "column"))
  (M_BadProgram : MkX P w K mg base "BadProgram" C_BadProgram ["self", "index"] (spIni1 K C_BadProgram "index"))
  (M_BadConfiguration : MkX P w K mg base "BadConfiguration" C_BadConfiguration ["self", "configuration"] (spIni1 K C_BadConfiguration "configuration"))
  (M_BadStep : MkX P w K mg base "BadStep" C_BadStep ["self", "index"] (spIni1 K C_BadStep "index"))
  (M_BadLot : MkX P w K mg base "BadLot" C_BadLot ["self", "lot"] (spIni1 K C_BadLot "lot"))
  (M_BadFormula : MkX P w K mg base "BadFormula" C_BadFormula ["self", "formula"] (spIni1 K C_BadFormula "formula"))
  (M_BadReads : MkX P w K mg base "BadReads" C_BadReads ["self", "reads"] (spIni1 K C_BadReads "reads"))
  (M_Unlike : MkX P w K mg base "Unlike" C_Unlike ["self", "what"] (spIni1 K C_Unlike "what"))
  (M_TooMany : MkX P w K mg base "TooMany" C_TooMany ["self", "most"] (spIni1 K C_TooMany "most"))
  (M_NotOfKind : MkX P w K mg base "NotOfKind" C_NotOfKind ["self", "why"] (spIni1 K C_NotOfKind "why"))
  (M_BadName : MkX P w K mg base "BadName" C_BadName ["self", "name"] (spIni1 K C_BadName "name"))
  (M_NoName : MkX P w K mg base "NoName" C_NoName ["self", "name"] (spIni1 K C_NoName "name"))
  (M_TakenName : MkX P w K mg base "TakenName" C_TakenName ["self", "name"] (spIni1 K C_TakenName "name"))
  (M_BadLine : MkX P w K mg base "BadLine" C_BadLine ["self", "line", "column"] (spIni2 K C_BadLine "line" "column"))
  (M_BadNumber : MkX P w K mg base "BadNumber" C_BadNumber ["self", "what", "number"] (spIni2 K C_BadNumber "what" "number"))
  (M_NotKept : MkX P w K mg base "NotKept" C_NotKept ["self", "promise", "witness"] (spIni2 K C_NotKept "promise" "witness"))
  (M_NothingToUndo : Mk0X K mg "NothingToUndo" C_NothingToUndo)
  (M_NothingToRedo : Mk0X K mg "NothingToRedo" C_NothingToRedo) : FnOk P w K mg base CX0 1 f fd ["error"] (spR K 1 (pKinds [C_BadText, C_BadProgram, C_BadConfiguration, C_BadStep, C_BadLot, C_BadFormula, C_BadReads, C_Unlike, C_TooMany, C_NotOfKind, C_BadName, C_NoName, C_TakenName, C_BadLine, C_BadNumber, C_NotKept, C_NothingToUndo, C_NothingToRedo]) (rKinds [C_BadText, C_BadProgram, C_BadConfiguration, C_BadStep, C_BadLot, C_BadFormula, C_BadReads, C_Unlike, C_TooMany, C_NotOfKind, C_BadName, C_NoName, C_TakenName, C_BadLine, C_BadNumber, C_NotKept, C_NothingToUndo, C_NothingToRedo])) := by
  refine fn_pure (ps := ["error"]) F sc_law_kinds fun cdv A outer s H E hr => ⟨_, (pss_cons (ps_set (i := 1) sc_law_kinds.nd rfl (by first | exact Or.inl rfl | exact Or.inr rfl) (pe_lst (pa_cons (pe_callB (k_isX (K := K)) (by rfl) (T.n_isinstance) (by decide +kernel) (pa_cons (pv 0) (pa_cons (pe_glob (v := .ref C_BadText) (by rfl) M_BadText.m rfl) pa_nil))) (pa_cons (pe_callB (k_isX (K := K)) (by rfl) (T.n_isinstance) (by decide +kernel) (pa_cons (pv 0) (pa_cons (pe_glob (v := .ref C_BadProgram) (by rfl) M_BadProgram.m rfl) pa_nil))) (pa_cons (pe_callB (k_isX (K := K)) (by rfl) (T.n_isinstance) (by decide +kernel) (pa_cons (pv 0) (pa_cons (pe_glob (v := .ref C_BadConfiguration) (by rfl) M_BadConfiguration.m rfl) pa_nil))) pa_nil)))))
      (pss_cons (ps_set (i := 1) sc_law_kinds.nd rfl (by first | exact Or.inl rfl | exact Or.inr rfl) (pe_op op_cat (pv 1) (pe_lst (pa_cons (pe_callB (k_isX (K := K)) (by rfl) (T.n_isinstance) (by decide +kernel) (pa_cons (pv 0) (pa_cons (pe_glob (v := .ref C_BadStep) (by rfl) M_BadStep.m rfl) pa_nil))) (pa_cons (pe_callB (k_isX (K := K)) (by rfl) (T.n_isinstance) (by decide +kernel) (pa_cons (pv 0) (pa_cons (pe_glob (v := .ref C_BadLot) (by rfl) M_BadLot.m rfl) pa_nil))) (pa_cons (pe_callB (k_isX (K := K)) (by rfl) (T.n_isinstance) (by decide +kernel) (pa_cons (pv 0) (pa_cons (pe_glob (v := .ref C_BadFormula) (by rfl) M_BadFormula.m rfl) pa_nil))) pa_nil))))))
      (pss_cons (ps_set (i := 1) sc_law_kinds.nd rfl (by first | exact Or.inl rfl | exact Or.inr rfl) (pe_op op_cat (pv 1) (pe_lst (pa_cons (pe_callB (k_isX (K := K)) (by rfl) (T.n_isinstance) (by decide +kernel) (pa_cons (pv 0) (pa_cons (pe_glob (v := .ref C_BadReads) (by rfl) M_BadReads.m rfl) pa_nil))) (pa_cons (pe_callB (k_isX (K := K)) (by rfl) (T.n_isinstance) (by decide +kernel) (pa_cons (pv 0) (pa_cons (pe_glob (v := .ref C_Unlike) (by rfl) M_Unlike.m rfl) pa_nil))) (pa_cons (pe_callB (k_isX (K := K)) (by rfl) (T.n_isinstance) (by decide +kernel) (pa_cons (pv 0) (pa_cons (pe_glob (v := .ref C_TooMany) (by rfl) M_TooMany.m rfl) pa_nil))) pa_nil))))))
      (pss_cons (ps_set (i := 1) sc_law_kinds.nd rfl (by first | exact Or.inl rfl | exact Or.inr rfl) (pe_op op_cat (pv 1) (pe_lst (pa_cons (pe_callB (k_isX (K := K)) (by rfl) (T.n_isinstance) (by decide +kernel) (pa_cons (pv 0) (pa_cons (pe_glob (v := .ref C_NotOfKind) (by rfl) M_NotOfKind.m rfl) pa_nil))) (pa_cons (pe_callB (k_isX (K := K)) (by rfl) (T.n_isinstance) (by decide +kernel) (pa_cons (pv 0) (pa_cons (pe_glob (v := .ref C_BadName) (by rfl) M_BadName.m rfl) pa_nil))) (pa_cons (pe_callB (k_isX (K := K)) (by rfl) (T.n_isinstance) (by decide +kernel) (pa_cons (pv 0) (pa_cons (pe_glob (v := .ref C_NoName) (by rfl) M_NoName.m rfl) pa_nil))) pa_nil))))))
      (pss_cons (ps_set (i := 1) sc_law_kinds.nd rfl (by first | exact Or.inl rfl | exact Or.inr rfl) (pe_op op_cat (pv 1) (pe_lst (pa_cons (pe_callB (k_isX (K := K)) (by rfl) (T.n_isinstance) (by decide +kernel) (pa_cons (pv 0) (pa_cons (pe_glob (v := .ref C_TakenName) (by rfl) M_TakenName.m rfl) pa_nil))) (pa_cons (pe_callB (k_isX (K := K)) (by rfl) (T.n_isinstance) (by decide +kernel) (pa_cons (pv 0) (pa_cons (pe_glob (v := .ref C_BadLine) (by rfl) M_BadLine.m rfl) pa_nil))) (pa_cons (pe_callB (k_isX (K := K)) (by rfl) (T.n_isinstance) (by decide +kernel) (pa_cons (pv 0) (pa_cons (pe_glob (v := .ref C_BadNumber) (by rfl) M_BadNumber.m rfl) pa_nil))) pa_nil))))))
      (pss_cons (ps_set (i := 1) sc_law_kinds.nd rfl (by first | exact Or.inl rfl | exact Or.inr rfl) (pe_op op_cat (pv 1) (pe_lst (pa_cons (pe_callB (k_isX (K := K)) (by rfl) (T.n_isinstance) (by decide +kernel) (pa_cons (pv 0) (pa_cons (pe_glob (v := .ref C_NotKept) (by rfl) M_NotKept.m rfl) pa_nil))) (pa_cons (pe_callB (k_isX (K := K)) (by rfl) (T.n_isinstance) (by decide +kernel) (pa_cons (pv 0) (pa_cons (pe_glob (v := .ref C_NothingToUndo) (by rfl) M_NothingToUndo.m rfl) pa_nil))) (pa_cons (pe_callB (k_isX (K := K)) (by rfl) (T.n_isinstance) (by decide +kernel) (pa_cons (pv 0) (pa_cons (pe_glob (v := .ref C_NothingToRedo) (by rfl) M_NothingToRedo.m rfl) pa_nil))) pa_nil))))))
      (pss_one (ps_ret (pe_ifExp (pw_and (pt_val (pe_callB (k_isX (K := K)) (by rfl) (T.n_isinstance) (by decide +kernel) (pa_cons (pv 0) (pa_cons (pe_glob (v := .ref C_WallError) (by rfl) M_WallError rfl) pa_nil)))) (pw_and1 (pt_val (pe_callB (k_isX (K := K)) (by rfl) (T.n_isinstance) (by decide +kernel) (pa_cons (pv 0) (pa_cons (pe_bltn (v := .ty "ValueError") (by rfl) (T.n_ValueError) (by decide +kernel) rfl) pa_nil)))))).pt (pv 1) (pe_lst pa_nil)))))))))), ?_⟩
  intro ds hl hp
  obtain ⟨x, i, C, rfl, hi, hx⟩ := hp
  have hxc : XC K C := T2.xc C (List.mem_of_getElem? hi)
  show Es K _ [some (Sl.d x), none] _
  refine eq_set (ed_lst (ea_cons (ed_isXc hxc hx (ed_var rfl) (T2.tab i 0 C _ hi rfl)) (ea_cons (ed_isXc hxc hx (ed_var rfl) (T2.tab i 1 C _ hi rfl)) (ea_cons (ed_isXc hxc hx (ed_var rfl) (T2.tab i 2 C _ hi rfl)) ea_nil))) (by show 3 ≤ 1000; decide)) ?_
  refine eq_set (ed_op (ed_var rfl) (ed_lst (ea_cons (ed_isXc hxc hx (ed_var rfl) (T2.tab i 3 C _ hi rfl)) (ea_cons (ed_isXc hxc hx (ed_var rfl) (T2.tab i 4 C _ hi rfl)) (ea_cons (ed_isXc hxc hx (ed_var rfl) (T2.tab i 5 C _ hi rfl)) ea_nil))) (by show 3 ≤ 1000; decide)) (rd_catL (by show _ ≤ 1000000; simp only [List.length_append, List.length_cons, List.length_nil]; decide))) ?_
  refine eq_set (ed_op (ed_var rfl) (ed_lst (ea_cons (ed_isXc hxc hx (ed_var rfl) (T2.tab i 6 C _ hi rfl)) (ea_cons (ed_isXc hxc hx (ed_var rfl) (T2.tab i 7 C _ hi rfl)) (ea_cons (ed_isXc hxc hx (ed_var rfl) (T2.tab i 8 C _ hi rfl)) ea_nil))) (by show 3 ≤ 1000; decide)) (rd_catL (by show _ ≤ 1000000; simp only [List.length_append, List.length_cons, List.length_nil]; decide))) ?_
  refine eq_set (ed_op (ed_var rfl) (ed_lst (ea_cons (ed_isXc hxc hx (ed_var rfl) (T2.tab i 9 C _ hi rfl)) (ea_cons (ed_isXc hxc hx (ed_var rfl) (T2.tab i 10 C _ hi rfl)) (ea_cons (ed_isXc hxc hx (ed_var rfl) (T2.tab i 11 C _ hi rfl)) ea_nil))) (by show 3 ≤ 1000; decide)) (rd_catL (by show _ ≤ 1000000; simp only [List.length_append, List.length_cons, List.length_nil]; decide))) ?_
  refine eq_set (ed_op (ed_var rfl) (ed_lst (ea_cons (ed_isXc hxc hx (ed_var rfl) (T2.tab i 12 C _ hi rfl)) (ea_cons (ed_isXc hxc hx (ed_var rfl) (T2.tab i 13 C _ hi rfl)) (ea_cons (ed_isXc hxc hx (ed_var rfl) (T2.tab i 14 C _ hi rfl)) ea_nil))) (by show 3 ≤ 1000; decide)) (rd_catL (by show _ ≤ 1000000; simp only [List.length_append, List.length_cons, List.length_nil]; decide))) ?_
  refine eq_set (ed_op (ed_var rfl) (ed_lst (ea_cons (ed_isXc hxc hx (ed_var rfl) (T2.tab i 15 C _ hi rfl)) (ea_cons (ed_isXc hxc hx (ed_var rfl) (T2.tab i 16 C _ hi rfl)) (ea_cons (ed_isXc hxc hx (ed_var rfl) (T2.tab i 17 C _ hi rfl)) ea_nil))) (by show 3 ≤ 1000; decide)) (rd_catL (by show _ ≤ 1000000; simp only [List.length_append, List.length_cons, List.length_nil]; decide))) ?_
  refine es_retv (R := fun ρ1 y => y = kindsOf i) (ev_if (c := true) (eb_and (c := true) (d := true) (eb_B (ed_isXc hxc hx (ed_var rfl) (T2.wal C (List.mem_of_getElem? hi)))) fun _ => eb_B (ed_isXt hxc hx (ed_var rfl) (T2.ve C (List.mem_of_getElem? hi)))) (fun _ => (ed_var rfl).imp fun ρ1 y e => ?_) fun z => nomatch z) fun ρ1 y e => ⟨x, i, C, rfl, hi, hx, e⟩
  obtain ⟨_, rfl⟩ := e
  rfl
end
end K00
end
section
set_option Elab.async false
set_option linter.all false
set_option autoImplicit false
set_option maxRecDepth 100000
set_option maxHeartbeats 1000000
namespace K00
open PySem PySem.Spec PyProof.Rows L2 RS
section
variable {K : PySem.W.Frag} {Cs : List Addr} {CW : Addr} {errs : List PyData}
def isAt (i : Nat) : PyData → PyData := fun x => .bool (PyData.eqv x (.int (i : Nat)))
theorem isAt_kinds (i : Nat) : (PyData.list ((rgD 18).map (isAt i))) = kindsOf i := by
  unfold kindsOf rgD isAt
  rw [List.map_map]
  congr 1
  apply List.map_congr_left
  intro j _
  show PyData.bool (PyData.eqv (.int (j : Nat)) (.int (i : Nat))) = _
  congr 1
  unfold PyData.eqv
  by_cases h : i = j
  · subst h; simp
  · have h2 : ¬ (j : Int) = (i : Int) := fun z => h (by omega)
    simp [h, h2]
theorem isX_inj {C D : Addr} {x : PyData} (h : IsX C x) (g : IsX D x) : C = D := by
  rcases h with ⟨k, rfl⟩ | rfl <;> rcases g with ⟨l, e⟩ | e <;> simp [xD, xD0] at e
  · exact Int.ofNat_inj.mp e.1
  · exact Int.ofNat_inj.mp e
theorem kinds_ok (i : Nat) : okAll ((rgD 18).map (isAt i)) = true ∧ PyData.depthAll ((rgD 18).map (isAt i)) ≤ 60 := by
  have key : ∀ l : List PyData, okAll (l.map (isAt i)) = true ∧ PyData.depthAll (l.map (isAt i)) ≤ l.length + 2 := fun l => by
    induction l with
    | nil => exact ⟨rfl, by simp [PyData.depthAll]⟩
    | cons x l ih =>
      refine ⟨?_, ?_⟩
      · rw [List.map_cons]; unfold okAll; rw [ih.1]; unfold isAt; rfl
      · rw [List.map_cons]; unfold PyData.depthAll
        have h0 : (isAt i x).depth = 0 := by unfold isAt; unfold PyData.depth; rfl
        have := ih.2
        rw [h0, List.length_cons]; omega
  have := key (rgD 18)
  exact ⟨this.1, Nat.le_trans this.2 (by decide)⟩
theorem loop_ok {E : XK} (T2 : KT K Cs CW) (hC : Cs.length = 18) (hp : Paired IsX Cs errs) {ρ : En} (h21 : ρ[21]? = some (some (.d (.list errs)))) (hlen : 24 ≤ ρ.length) {c0 : Nat} (hpen : setPen c0 ρ = ρ) (h23 : ρ[23]? = some none) :
    Es K (tSeq (tFor (iRng1 (tCons (tC (V.int 18)) tNil)) (gName 22) (tIfS (tTest (tOp (rNeA K) (tCall (spR K 1 (pKinds Cs) (rKinds Cs)) [] E (tCons (tOp (rIx K) (tVar 21) (tVar 22)) tNil)) (tLc (iRng1 (tCons (tC (V.int 18)) tNil)) (gName 23) tYes (tOp (rEqA K) (tVar 23) (tVar 22)) [23]))) (tRet (tC (V.bl false))) tNext)) (tRet (tC (V.bl true)))) ρ LawO := by
  refine es_then (es_forD (xs := rgD 18) (ei_rng1 (ea_cons ed_int ea_nil) (by decide) (by decide)) (fun _ ρ' => ρ' = ρ ∨ ∃ x, ρ' = ρ.set 22 (some (.d x))) (.inl rfl) ?_ ?_)
  · intro i x ρ' hx hI
    have hi : i < 18 := by
      have h := List.getElem?_eq_some_iff.mp hx
      obtain ⟨h, _⟩ := h
      simpa [rgD] using h
    have ex : x = .int (i : Nat) := by
      have h := List.getElem?_eq_some_iff.mp hx
      obtain ⟨h, h2⟩ := h
      rw [← h2]
      simp [rgD]
    have e2 : ρ'.set 22 (some (Sl.d x)) = ρ.set 22 (some (Sl.d x)) := by
      rcases hI with rfl | ⟨y, rfl⟩
      · rfl
      · exact List.set_set _
    refine ⟨[22], ρ.set 22 (some (.d x)), e2 ▸ eg_name, ?_⟩
    have g21 : (ρ.set 22 (some (Sl.d x)))[21]? = some (some (.d (.list errs))) := by rw [List.getElem?_set_ne (by decide)]; exact h21
    have g22 : (ρ.set 22 (some (Sl.d x)))[22]? = some (some (.d (.int (i : Nat)))) := by rw [List.getElem?_set_self (by omega), ex]
    have g23 : (ρ.set 22 (some (Sl.d x)))[23]? = some none := by rw [List.getElem?_set_ne (by decide)]; exact h23
    have gp : setPen c0 (ρ.set 22 (some (Sl.d x))) = ρ.set 22 (some (Sl.d x)) := by
      unfold setPen at hpen ⊢
      rw [List.map_set, hpen]; rfl
    have gl : 24 ≤ (ρ.set 22 (some (Sl.d x))).length := by rw [List.length_set]; exact hlen
    generalize e3 : ρ.set 22 (some (Sl.d x)) = ρ3 at g21 g22 g23 gp gl ⊢
    have hl : Cs.length = errs.length := hp.length
    obtain ⟨err, he⟩ : ∃ e, errs[i]? = some e := ⟨_, List.getElem?_eq_getElem (by omega)⟩
    obtain ⟨C, hc, hX⟩ := paired_get hp he
    refine es_if (c := false) (eb_test (ed_op (y := .list ((rgD 18).map (isAt i))) (ed_call (y := .list ((rgD 18).map (isAt i))) (ea_cons (ed_op (ed_var g21) (ed_var g22) (rd_ixL (x := err) ?_)) ea_nil) rfl ⟨err, i, C, rfl, hc, hX⟩ ?_) (ed_lcm (xs := rgD 18) c0 (isAt i) (ei_rng1 (ea_cons ed_int ea_nil) (by decide) (by decide)) (by decide) gp ?_ ?_) (rd_nsameL (kinds_ok i).1 (kinds_ok i).2))) (fun z => nomatch z) fun _ => es_next ?_
    · exact atI_nat he
    · rintro z ⟨u, j, D, eu, hj, hD, rfl⟩
      cases eu
      have e := isX_inj hX hD
      subst e
      rw [T2.inj hj hc]
      exact (isAt_kinds i).symm
    · intro j s hj e
      rw [List.mem_singleton.mp hj, g23] at e
      cases e
    · intro j y hy
      obtain ⟨n, rfl⟩ : ∃ n : Nat, y = .int (n : Nat) := by
        obtain ⟨h, h2⟩ := List.getElem?_eq_some_iff.mp hy
        exact ⟨j, by rw [← h2]; simp [rgD]⟩
      refine ⟨[23], _, fun j hj => hj, eg_name, ?_, ?_⟩
      · unfold setPen wp wp
        simp only [List.map_set, List.map_map]
        have : (pn c0 ∘ pn c0) = pn c0 := by funext o; exact pn_pn c0 c0 o
        rw [this]; rfl
      · refine ed_op (ed_var (x := .int (n : Nat)) ?_) (ed_var (x := .int (i : Nat)) ?_) (rd_eqA rfl rfl)
        · exact List.getElem?_set_self (by rw [setPen_len, wp_len]; omega)
        · rw [List.getElem?_set_ne (by decide), setPen_d, wp_out (by decide)]
          exact g22
    · exact .inr ⟨x, e3.symm⟩
  · intro ρ' hI
    exact es_ret ed_bl rfl
end
end K00
end
section
set_option Elab.async false
set_option linter.all false
set_option maxRecDepth 100000
set_option maxHeartbeats 4000000
namespace K00
open PySem PySem.Spec PyProof.Rows L2 RS
section
variable {P : Program} {w : World} {K : PySem.W.Frag} {mg : Str → Option Value} {base : Heap} {C_WallError C_BadText C_BadProgram C_BadConfiguration C_BadStep C_BadLot C_BadFormula C_BadReads C_Unlike C_TooMany C_NotOfKind C_BadName C_NoName C_TakenName C_BadLine C_BadNumber C_NotKept C_NothingToUndo C_NothingToRedo : Addr}
/-- what is drawn: data that == itself, of small depth -/
def Ok1 (x : PyData) : Prop := okS x = true ∧ x.depth ≤ 1
theorem okAll_of {xs : List PyData} (h : ∀ x ∈ xs, Ok1 x) : okAll xs = true ∧ PyData.depthAll xs ≤ 60 := by
  induction xs with
  | nil => exact ⟨rfl, by decide⟩
  | cons x xs ih =>
    have h1 := h x List.mem_cons_self
    obtain ⟨h2, h3⟩ := ih fun y hy => h y (List.mem_cons_of_mem _ hy)
    refine ⟨?_, ?_⟩
    · unfold okAll
      rw [h1.1, h2]
      rfl
    · unfold PyData.depthAll
      have := h1.2
      omega
theorem ev_two {ρ : En} : Ev K (tLst (tCons (tC (.int 0)) (tCons (tC (.str "")) (tCons (tTup (tCons (tC (.str "a")) tNil)) (tCons (tLst tNil) (tCons (tDisp [(tC (.str "a"), tC (.int 1))]) tNil)))))) ρ fun ρ' y => ρ' = ρ ∧ ∃ a, y = .list [.int 0, .str "", .tuple [.str "a"], .list [], opq a] :=
  ev_lst (eva_consd ed_int (eva_consd ed_str (eva_consd (ed_tup (ea_cons ed_str ea_nil) (by show 1 ≤ 1000; decide)) (eva_consd (ed_lst ea_nil (by decide)) (eva_one ev_disp1))))) fun ρ1 xs e => by
    obtain ⟨_, rfl, _, rfl, _, rfl, _, rfl, _, rfl, rfl, a, rfl⟩ := e
    exact ⟨by show 5 ≤ 1000; decide, rfl, a, rfl⟩
theorem es_nf {t : TS} {ρ ρ2 : En} {O : Out → Prop} (e : ρ = ρ2) (h : Es K t ρ2 O) : Es K t ρ O := e ▸ h
theorem ok_law {f : Addr} {fd : FuncData} (F : Fun K "law" "law" s_law f fd) (T : Bi mg) (T2 : KT K [C_BadText, C_BadProgram, C_BadConfiguration, C_BadStep, C_BadLot, C_BadFormula, C_BadReads, C_Unlike, C_TooMany, C_NotOfKind, C_BadName, C_NoName, C_TakenName, C_BadLine, C_BadNumber, C_NotKept, C_NothingToUndo, C_NothingToRedo] C_WallError)
  (M_BadText : MkX P w K mg base "BadText" C_BadText ["self", "column"] (spIni1 K C_BadText "column"))
  (M_BadProgram : MkX P w K mg base "BadProgram" C_BadProgram ["self", "index"] (spIni1 K C_BadProgram "index"))
  (M_BadConfiguration : MkX P w K mg base "BadConfiguration" C_BadConfiguration ["self", "configuration"] (spIni1 K C_BadConfiguration "configuration"))
  (M_BadStep : MkX P w K mg base "BadStep" C_BadStep ["self", "index"] (spIni1 K C_BadStep "index"))
  (M_BadLot : MkX P w K mg base "BadLot" C_BadLot ["self", "lot"] (spIni1 K C_BadLot "lot"))
  (M_BadFormula : MkX P w K mg base "BadFormula" C_BadFormula ["self", "formula"] (spIni1 K C_BadFormula "formula"))
  (M_BadReads : MkX P w K mg base "BadReads" C_BadReads ["self", "reads"] (spIni1 K C_BadReads "reads"))
  (M_Unlike : MkX P w K mg base "Unlike" C_Unlike ["self", "what"] (spIni1 K C_Unlike "what"))
  (M_TooMany : MkX P w K mg base "TooMany" C_TooMany ["self", "most"] (spIni1 K C_TooMany "most"))
  (M_NotOfKind : MkX P w K mg base "NotOfKind" C_NotOfKind ["self", "why"] (spIni1 K C_NotOfKind "why"))
  (M_BadName : MkX P w K mg base "BadName" C_BadName ["self", "name"] (spIni1 K C_BadName "name"))
  (M_NoName : MkX P w K mg base "NoName" C_NoName ["self", "name"] (spIni1 K C_NoName "name"))
  (M_TakenName : MkX P w K mg base "TakenName" C_TakenName ["self", "name"] (spIni1 K C_TakenName "name"))
  (M_BadLine : MkX P w K mg base "BadLine" C_BadLine ["self", "line", "column"] (spIni2 K C_BadLine "line" "column"))
  (M_BadNumber : MkX P w K mg base "BadNumber" C_BadNumber ["self", "what", "number"] (spIni2 K C_BadNumber "what" "number"))
  (M_NotKept : MkX P w K mg base "NotKept" C_NotKept ["self", "promise", "witness"] (spIni2 K C_NotKept "promise" "witness"))
  (M_NothingToUndo : Mk0X K mg "NothingToUndo" C_NothingToUndo)
  (M_NothingToRedo : Mk0X K mg "NothingToRedo" C_NothingToRedo)
  (N_BadText_column : PySem.W.findIn K (.ref C_BadText) "column" = some none)
  (N_BadProgram_index : PySem.W.findIn K (.ref C_BadProgram) "index" = some none)
  (N_BadConfiguration_configuration : PySem.W.findIn K (.ref C_BadConfiguration) "configuration" = some none)
  (N_BadStep_index : PySem.W.findIn K (.ref C_BadStep) "index" = some none)
  (N_BadLot_lot : PySem.W.findIn K (.ref C_BadLot) "lot" = some none)
  (N_BadFormula_formula : PySem.W.findIn K (.ref C_BadFormula) "formula" = some none)
  (N_BadReads_reads : PySem.W.findIn K (.ref C_BadReads) "reads" = some none)
  (N_Unlike_what : PySem.W.findIn K (.ref C_Unlike) "what" = some none)
  (N_TooMany_most : PySem.W.findIn K (.ref C_TooMany) "most" = some none)
  (N_NotOfKind_why : PySem.W.findIn K (.ref C_NotOfKind) "why" = some none)
  (N_BadName_name : PySem.W.findIn K (.ref C_BadName) "name" = some none)
  (N_NoName_name : PySem.W.findIn K (.ref C_NoName) "name" = some none)
  (N_TakenName_name : PySem.W.findIn K (.ref C_TakenName) "name" = some none)
  (N_BadLine_line : PySem.W.findIn K (.ref C_BadLine) "line" = some none)
  (N_BadLine_column : PySem.W.findIn K (.ref C_BadLine) "column" = some none)
  (N_BadNumber_what : PySem.W.findIn K (.ref C_BadNumber) "what" = some none)
  (N_BadNumber_number : PySem.W.findIn K (.ref C_BadNumber) "number" = some none)
  (N_NotKept_promise : PySem.W.findIn K (.ref C_NotKept) "promise" = some none)
  (N_NotKept_witness : PySem.W.findIn K (.ref C_NotKept) "witness" = some none)
  (O_law_pen : OwnD P w K mg base 1 "_law_pen" ["script"] (spMkPen K)) (O_law_pick : OwnD P w K mg base 2 "_law_pick" ["pen", "row"] (spP K 1 pPick 1 rPick))
  (O_law_kinds : OwnD P w K mg base 1 "_law_kinds" ["error"] (spR K 1 (pKinds [C_BadText, C_BadProgram, C_BadConfiguration, C_BadStep, C_BadLot, C_BadFormula, C_BadReads, C_Unlike, C_TooMany, C_NotOfKind, C_BadName, C_NoName, C_TakenName, C_BadLine, C_BadNumber, C_NotKept, C_NothingToUndo, C_NothingToRedo]) (rKinds [C_BadText, C_BadProgram, C_BadConfiguration, C_BadStep, C_BadLot, C_BadFormula, C_BadReads, C_Unlike, C_TooMany, C_NotOfKind, C_BadName, C_NoName, C_TakenName, C_BadLine, C_BadNumber, C_NotKept, C_NothingToUndo, C_NothingToRedo]))) : FnOk P w K mg base CX0 4 f fd ["script"] (spLaw K) := by
  refine fn_law F sc_law (by decide) fun cdv A outer s H E hr => ⟨_, (pss_cons (ps_set (i := 1) sc_law.nd rfl (by first | exact Or.inl rfl | exact Or.inr rfl) (pe_own O_law_pen (hr.mono (by decide)) (pa_cons (pv 0) pa_nil)))
      (pss_cons (ps_set (i := 2) sc_law.nd rfl (by first | exact Or.inl rfl | exact Or.inr rfl) (pe_own O_law_pick (hr.mono (by decide)) (pa_cons (pv 1) (pa_cons (pe_lst (pa_cons pe_int (pa_cons pe_str (pa_cons pe_non (pa_cons (pe_tup (pa_cons pe_int (pa_cons pe_int pa_nil))) (pa_cons (pe_lst (pa_cons pe_int (pa_cons pe_int pa_nil))) (pa_cons pe_bl pa_nil))))))) pa_nil))))
      (pss_cons (ps_set (i := 3) sc_law.nd rfl (by first | exact Or.inl rfl | exact Or.inr rfl) (pe_own O_law_pick (hr.mono (by decide)) (pa_cons (pv 1) (pa_cons (pe_lst (pa_cons pe_int (pa_cons pe_str (pa_cons (pe_tup (pa_cons pe_str pa_nil)) (pa_cons (pe_lst pa_nil) (pa_cons (pe_disp (pps_cons pe_str pe_int pps_nil) (by rfl) (by rfl) (fun z => by cases z) (by decide)) pa_nil)))))) pa_nil))))
      (pss_cons (ps_par3 rfl sc_law.nd (i := 4) (j := 5) (l := 6) rfl rfl rfl (by decide) (by decide) (by decide) rfl rfl rfl (pa_cons (pe_mkx M_BadLine (hr.mono (by decide)) (pa_cons (pv 2) (pa_cons (pv 3) pa_nil))) (pa_cons (pe_mkx M_BadNumber (hr.mono (by decide)) (pa_cons (pv 2) (pa_cons (pv 3) pa_nil))) (pa_cons (pe_mkx M_NotKept (hr.mono (by decide)) (pa_cons (pv 2) (pa_cons (pv 3) pa_nil))) pa_nil))) rfl)
      (pss_cons (ps_set (i := 7) sc_law.nd rfl (by first | exact Or.inl rfl | exact Or.inr rfl) (pe_lst (pa_cons (kpe_oxf (K := K) (pv 4) rfl) (pa_cons (kpe_oxf (K := K) (pv 4) rfl) (pa_cons (kpe_oxf (K := K) (pv 5) rfl) (pa_cons (kpe_oxf (K := K) (pv 5) rfl) (pa_cons (kpe_oxf (K := K) (pv 6) rfl) (pa_cons (kpe_oxf (K := K) (pv 6) rfl) pa_nil))))))))
      (pss_cons (ps_if (pt_cmpR (k_neA (K := K) hr.units) (pv 7) (pe_op op_rep (pe_lst (pa_cons (pv 2) (pa_cons (pv 3) pa_nil))) pe_int) (nomark _))
        (pss_one (ps_ret pe_bl))
        pss_nil)
      (pss_cons (ps_asg (pe_tup (pa_cons (pe_mkx M_BadText (hr.mono (by decide)) (pa_cons (pv 2) pa_nil)) (pa_cons (pe_mkx M_BadProgram (hr.mono (by decide)) (pa_cons (pv 2) pa_nil)) (pa_cons (pe_mkx M_BadConfiguration (hr.mono (by decide)) (pa_cons (pv 2) pa_nil)) (pa_cons (pe_mkx M_BadStep (hr.mono (by decide)) (pa_cons (pv 2) pa_nil)) (pa_cons (pe_mkx M_BadLot (hr.mono (by decide)) (pa_cons (pv 2) pa_nil)) pa_nil)))))) (kpg_tup (K := K) 5 rfl (pgs_cons (pg_name (i := 8) sc_law.nd rfl (by first | exact Or.inl rfl | exact Or.inr rfl)) (pgs_cons (pg_name (i := 9) sc_law.nd rfl (by first | exact Or.inl rfl | exact Or.inr rfl)) (pgs_cons (pg_name (i := 10) sc_law.nd rfl (by first | exact Or.inl rfl | exact Or.inr rfl)) (pgs_cons (pg_name (i := 11) sc_law.nd rfl (by first | exact Or.inl rfl | exact Or.inr rfl)) (pgs_cons (pg_name (i := 12) sc_law.nd rfl (by first | exact Or.inl rfl | exact Or.inr rfl)) pgs_nil)))))))
      (pss_cons (ps_asg (pe_tup (pa_cons (pe_mkx M_BadFormula (hr.mono (by decide)) (pa_cons (pv 2) pa_nil)) (pa_cons (pe_mkx M_BadReads (hr.mono (by decide)) (pa_cons (pv 2) pa_nil)) (pa_cons (pe_mkx M_Unlike (hr.mono (by decide)) (pa_cons (pv 2) pa_nil)) (pa_cons (pe_mkx M_TooMany (hr.mono (by decide)) (pa_cons (pv 2) pa_nil)) (pa_cons (pe_mkx M_NotOfKind (hr.mono (by decide)) (pa_cons (pv 2) pa_nil)) pa_nil)))))) (kpg_tup (K := K) 5 rfl (pgs_cons (pg_name (i := 13) sc_law.nd rfl (by first | exact Or.inl rfl | exact Or.inr rfl)) (pgs_cons (pg_name (i := 14) sc_law.nd rfl (by first | exact Or.inl rfl | exact Or.inr rfl)) (pgs_cons (pg_name (i := 15) sc_law.nd rfl (by first | exact Or.inl rfl | exact Or.inr rfl)) (pgs_cons (pg_name (i := 16) sc_law.nd rfl (by first | exact Or.inl rfl | exact Or.inr rfl)) (pgs_cons (pg_name (i := 17) sc_law.nd rfl (by first | exact Or.inl rfl | exact Or.inr rfl)) pgs_nil)))))))
      (pss_cons (ps_par3 rfl sc_law.nd (i := 18) (j := 19) (l := 20) rfl rfl rfl (by decide) (by decide) (by decide) rfl rfl rfl (pa_cons (pe_mkx M_BadName (hr.mono (by decide)) (pa_cons (pv 2) pa_nil)) (pa_cons (pe_mkx M_NoName (hr.mono (by decide)) (pa_cons (pv 2) pa_nil)) (pa_cons (pe_mkx M_TakenName (hr.mono (by decide)) (pa_cons (pv 2) pa_nil)) pa_nil))) rfl)
      (pss_cons (ps_set (i := 7) sc_law.nd rfl (by first | exact Or.inl rfl | exact Or.inr rfl) (pe_lst (pa_cons (kpe_oxf (K := K) (pv 8) rfl) (pa_cons (kpe_oxf (K := K) (pv 9) rfl) (pa_cons (kpe_oxf (K := K) (pv 10) rfl) (pa_cons (kpe_oxf (K := K) (pv 11) rfl) (pa_cons (kpe_oxf (K := K) (pv 12) rfl) (pa_cons (kpe_oxf (K := K) (pv 13) rfl) (pa_cons (kpe_oxf (K := K) (pv 14) rfl) pa_nil)))))))))
      (pss_cons (ps_if (pt_cmpR (k_neA (K := K) hr.units) (pe_op op_cat (pv 7) (pe_lst (pa_cons (kpe_oxf (K := K) (pv 15) rfl) (pa_cons (kpe_oxf (K := K) (pv 16) rfl) (pa_cons (kpe_oxf (K := K) (pv 17) rfl) (pa_cons (kpe_oxf (K := K) (pv 18) rfl) (pa_cons (kpe_oxf (K := K) (pv 19) rfl) (pa_cons (kpe_oxf (K := K) (pv 20) rfl) pa_nil)))))))) (pe_op op_rep (pe_lst (pa_cons (pv 2) pa_nil)) pe_int) (nomark _))
        (pss_one (ps_ret pe_bl))
        pss_nil)
      (pss_cons (ps_set (i := 21) sc_law.nd rfl (by first | exact Or.inl rfl | exact Or.inr rfl) (pe_lst (pa_cons (pv 8) (pa_cons (pv 9) (pa_cons (pv 10) (pa_cons (pv 11) (pa_cons (pv 12) (pa_cons (pv 13) (pa_cons (pv 14) (pa_cons (pv 15) (pa_cons (pv 16) (pa_cons (pv 17) (pa_cons (pv 18) (pa_cons (pv 19) (pa_cons (pv 20) (pa_cons (pv 4) (pa_cons (pv 5) pa_nil)))))))))))))))))
      (pss_cons (ps_set (i := 21) sc_law.nd rfl (by first | exact Or.inl rfl | exact Or.inr rfl) (pe_op op_cat (pv 21) (pe_lst (pa_cons (pv 6) (pa_cons (pe_mk0 M_NothingToUndo) (pa_cons (pe_mk0 M_NothingToRedo) pa_nil))))))
      (pss_cons (ps_for PassesOwn.never rfl (pi_range1 (by rfl) (T.n_range) (pa_cons pe_int pa_nil)) (pg_name (i := 22) sc_law.nd rfl (by first | exact Or.inl rfl | exact Or.inr rfl))
        (pss_one (ps_if (pt_cmpR (k_neA (K := K) hr.units) (pe_own O_law_kinds (hr.mono (by decide)) (pa_cons (pe_ix (k_ix (K := K)) (pv 21) (pv 22) (fun _ _ => rfl)) pa_nil)) (pe_lc (own := [("k", 23)]) rfl sc_law.nd (pi_range1 (by rfl) (T.n_range) (pa_cons pe_int pa_nil)) (blkOk_by (N := N_law) (sc := defScope s_law) (by decide +kernel)) (fun _ _ _ _ _ => (pg_name (i := 23) sc_law.nd rfl (by first | exact Or.inl rfl | exact Or.inr rfl))) (fun _ _ _ _ _ => pts_nil) (fun _ _ _ _ _ => (pe_cmpR (k_eqA (K := K) hr.units) (pv 23) (pv 22) (nomark _)))) (nomark _))
          (pss_one (ps_ret pe_bl))
          pss_nil)))
      (pss_one (ps_ret pe_bl)))))))))))))))), ?_⟩
  refine eqv_set (ev_pick (c0 := 0) rfl rfl (ed_lst (ea_cons ed_int (ea_cons ed_str (ea_cons ed_non (ea_cons (ed_tup (ea_cons ed_int (ea_cons ed_int ea_nil)) (by show 2 ≤ 1000; decide)) (ea_cons (ed_lst (ea_cons ed_int (ea_cons ed_int ea_nil)) (by show 2 ≤ 1000; decide)) (ea_cons ed_bl ea_nil)))))) (by show 6 ≤ 1000; decide)) (by simp) (by show 6 < 1000000; decide) (by decide)) fun ρ1 one e => ?_
  obtain ⟨rfl, hm⟩ := e
  have h1 : Ok1 one := by
    simp only [List.mem_cons, List.not_mem_nil, or_false] at hm
    rcases hm with rfl | rfl | rfl | rfl | rfl | rfl <;> exact ⟨by simp [okS, okAll], by simp [PyData.depth, PyData.depthAll]⟩
  clear hm
  refine eqv_set (ev_pickv (c0 := 1) rfl ev_two fun ρ1 y e => ?_) fun ρ1 two e => ?_
  · obtain ⟨rfl, a, rfl⟩ := e
    exact ⟨1, _, rfl, .inl rfl, by simp, by show 5 < 1000000; decide, by decide⟩
  obtain ⟨c1, xs, h, rfl, hm⟩ := e
  have h2 : Ok1 two := by
    rcases h with ⟨_, a, e⟩ | ⟨_, a, e⟩
    · cases e
      simp only [List.mem_cons, List.not_mem_nil, or_false] at hm
      rcases hm with rfl | rfl | rfl | rfl | rfl <;> exact ⟨by simp [okS, okAll, opq], by simp [PyData.depth, PyData.depthAll, PyData.depthKv, opq]⟩
    · cases e
  clear hm h
  refine eq_par3 (ea_cons (ed_mk2 M_BadLine.xc.o N_BadLine_line N_BadLine_column (ea_cons (ed_var rfl) (ea_cons (ed_var rfl) ea_nil))) (ea_cons (ed_mk2 M_BadNumber.xc.o N_BadNumber_what N_BadNumber_number (ea_cons (ed_var rfl) (ea_cons (ed_var rfl) ea_nil))) (ea_cons (ed_mk2 M_NotKept.xc.o N_NotKept_promise N_NotKept_witness (ea_cons (ed_var rfl) (ea_cons (ed_var rfl) ea_nil))) ea_nil))) ?_
  refine es_nf (ρ2 := [_, _, _, _, _, _, _, _, _, _, _, _, _, _, _, _, _, _, _, _, _, _, _, _]) rfl ?_
  refine eq_set (ed_lst (ea_cons (ed_oxf M_BadLine.xc N_BadLine_line (ed_var rfl) ((fld_next (by decide)).trans fld_here)) (ea_cons (ed_oxf M_BadLine.xc N_BadLine_column (ed_var rfl) fld_here) (ea_cons (ed_oxf M_BadNumber.xc N_BadNumber_what (ed_var rfl) ((fld_next (by decide)).trans fld_here)) (ea_cons (ed_oxf M_BadNumber.xc N_BadNumber_number (ed_var rfl) fld_here) (ea_cons (ed_oxf M_NotKept.xc N_NotKept_promise (ed_var rfl) ((fld_next (by decide)).trans fld_here)) (ea_cons (ed_oxf M_NotKept.xc N_NotKept_witness (ed_var rfl) fld_here) ea_nil)))))) (by show 6 ≤ 1000; decide)) ?_
  have ok1 := okAll_of (xs := [one, two, one, two, one, two]) (by simp [h1, h2])
  refine eq_when (c := false) (eb_test (ed_op (ed_var rfl) (ed_op (ed_lst (ea_cons (ed_var rfl) (ea_cons (ed_var rfl) ea_nil)) (by show 2 ≤ 1000; decide)) ed_int (rd_repL (by decide) (by decide) (by show 2 ≤ 1000; decide))) (rd_nsameL (xs := [one, two, one, two, one, two]) ok1.1 ok1.2))) (fun z => nomatch z) fun _ => ?_
  refine eq_asg (js := _) (ed_tup (ea_cons (ed_mk1 M_BadText.xc.o N_BadText_column (ea_cons (ed_var rfl) ea_nil)) (ea_cons (ed_mk1 M_BadProgram.xc.o N_BadProgram_index (ea_cons (ed_var rfl) ea_nil)) (ea_cons (ed_mk1 M_BadConfiguration.xc.o N_BadConfiguration_configuration (ea_cons (ed_var rfl) ea_nil)) (ea_cons (ed_mk1 M_BadStep.xc.o N_BadStep_index (ea_cons (ed_var rfl) ea_nil)) (ea_cons (ed_mk1 M_BadLot.xc.o N_BadLot_lot (ea_cons (ed_var rfl) ea_nil)) ea_nil))))) (by show 5 ≤ 1000; decide)) (eg_tup rfl (egs_cons eg_name (egs_cons eg_name (egs_cons eg_name (egs_cons eg_name (egs_cons eg_name egs_nil)))))) ?_
  refine es_nf (ρ2 := [_, _, _, _, _, _, _, _, _, _, _, _, _, _, _, _, _, _, _, _, _, _, _, _]) rfl ?_
  refine eq_asg (js := _) (ed_tup (ea_cons (ed_mk1 M_BadFormula.xc.o N_BadFormula_formula (ea_cons (ed_var rfl) ea_nil)) (ea_cons (ed_mk1 M_BadReads.xc.o N_BadReads_reads (ea_cons (ed_var rfl) ea_nil)) (ea_cons (ed_mk1 M_Unlike.xc.o N_Unlike_what (ea_cons (ed_var rfl) ea_nil)) (ea_cons (ed_mk1 M_TooMany.xc.o N_TooMany_most (ea_cons (ed_var rfl) ea_nil)) (ea_cons (ed_mk1 M_NotOfKind.xc.o N_NotOfKind_why (ea_cons (ed_var rfl) ea_nil)) ea_nil))))) (by show 5 ≤ 1000; decide)) (eg_tup rfl (egs_cons eg_name (egs_cons eg_name (egs_cons eg_name (egs_cons eg_name (egs_cons eg_name egs_nil)))))) ?_
  refine es_nf (ρ2 := [_, _, _, _, _, _, _, _, _, _, _, _, _, _, _, _, _, _, _, _, _, _, _, _]) rfl ?_
  refine eq_par3 (ea_cons (ed_mk1 M_BadName.xc.o N_BadName_name (ea_cons (ed_var rfl) ea_nil)) (ea_cons (ed_mk1 M_NoName.xc.o N_NoName_name (ea_cons (ed_var rfl) ea_nil)) (ea_cons (ed_mk1 M_TakenName.xc.o N_TakenName_name (ea_cons (ed_var rfl) ea_nil)) ea_nil))) ?_
  refine es_nf (ρ2 := [_, _, _, _, _, _, _, _, _, _, _, _, _, _, _, _, _, _, _, _, _, _, _, _]) rfl ?_
  refine eq_set (ed_lst (ea_cons (ed_oxf M_BadText.xc N_BadText_column (ed_var rfl) fld_here) (ea_cons (ed_oxf M_BadProgram.xc N_BadProgram_index (ed_var rfl) fld_here) (ea_cons (ed_oxf M_BadConfiguration.xc N_BadConfiguration_configuration (ed_var rfl) fld_here) (ea_cons (ed_oxf M_BadStep.xc N_BadStep_index (ed_var rfl) fld_here) (ea_cons (ed_oxf M_BadLot.xc N_BadLot_lot (ed_var rfl) fld_here) (ea_cons (ed_oxf M_BadFormula.xc N_BadFormula_formula (ed_var rfl) fld_here) (ea_cons (ed_oxf M_BadReads.xc N_BadReads_reads (ed_var rfl) fld_here) ea_nil))))))) (by show 7 ≤ 1000; decide)) ?_
  have ok2 := okAll_of (xs := List.replicate 13 one) (fun x hx => by rw [List.eq_of_mem_replicate hx]; exact h1)
  refine eq_when (c := false) (eb_test (ed_op (ed_op (ed_var rfl) (ed_lst (ea_cons (ed_oxf M_Unlike.xc N_Unlike_what (ed_var rfl) fld_here) (ea_cons (ed_oxf M_TooMany.xc N_TooMany_most (ed_var rfl) fld_here) (ea_cons (ed_oxf M_NotOfKind.xc N_NotOfKind_why (ed_var rfl) fld_here) (ea_cons (ed_oxf M_BadName.xc N_BadName_name (ed_var rfl) fld_here) (ea_cons (ed_oxf M_NoName.xc N_NoName_name (ed_var rfl) fld_here) (ea_cons (ed_oxf M_TakenName.xc N_TakenName_name (ed_var rfl) fld_here) ea_nil)))))) (by show 6 ≤ 1000; decide)) (rd_catL (by show 13 ≤ 1000000; decide))) (ed_op (ed_lst (ea_cons (ed_var rfl) ea_nil) (by show 1 ≤ 1000; decide)) ed_int (rd_repL (by decide) (by decide) (by show 1 ≤ 1000; decide))) (rd_nsameL (xs := List.replicate 13 one) ok2.1 ok2.2))) (fun z => nomatch z) fun _ => ?_
  refine eq_set (ed_lst (ea_cons (ed_var rfl) (ea_cons (ed_var rfl) (ea_cons (ed_var rfl) (ea_cons (ed_var rfl) (ea_cons (ed_var rfl) (ea_cons (ed_var rfl) (ea_cons (ed_var rfl) (ea_cons (ed_var rfl) (ea_cons (ed_var rfl) (ea_cons (ed_var rfl) (ea_cons (ed_var rfl) (ea_cons (ed_var rfl) (ea_cons (ed_var rfl) (ea_cons (ed_var rfl) (ea_cons (ed_var rfl) ea_nil))))))))))))))) (by show 15 ≤ 1000; decide)) ?_
  refine eq_set (ed_op (ed_var rfl) (ed_lst (ea_cons (ed_var rfl) (ea_cons ed_mk0 (ea_cons ed_mk0 ea_nil))) (by show 3 ≤ 1000; decide)) (rd_catL (by show 18 ≤ 1000000; decide))) ?_
  refine es_nf (ρ2 := [none, some (Sl.pen (c1 + 1)), some (Sl.d one), _, _, _, _, _, _, _, _, _, _, _, _, _, _, _, _, _, _, some (Sl.d (.list _)), none, none]) rfl ?_
  exact loop_ok (c0 := c1 + 1) T2 rfl (.cons (.inl ⟨_, rfl⟩) (.cons (.inl ⟨_, rfl⟩) (.cons (.inl ⟨_, rfl⟩) (.cons (.inl ⟨_, rfl⟩) (.cons (.inl ⟨_, rfl⟩) (.cons (.inl ⟨_, rfl⟩) (.cons (.inl ⟨_, rfl⟩) (.cons (.inl ⟨_, rfl⟩) (.cons (.inl ⟨_, rfl⟩) (.cons (.inl ⟨_, rfl⟩) (.cons (.inl ⟨_, rfl⟩) (.cons (.inl ⟨_, rfl⟩) (.cons (.inl ⟨_, rfl⟩) (.cons (.inl ⟨_, rfl⟩) (.cons (.inl ⟨_, rfl⟩) (.cons (.inl ⟨_, rfl⟩) (.cons (.inr rfl) (.cons (.inr rfl) .nil)))))))))))))))))) rfl (by show 24 ≤ 24; decide) rfl rfl
end
end K00
end
section
set_option Elab.async false
set_option linter.all false
set_option autoImplicit false
set_option maxRecDepth 100000
set_option maxHeartbeats 1000000
namespace K00
open PySem PySem.Spec PyProof.Rows L2 RS
section
variable {P : Program} {w : World} {K : PySem.W.Frag} {mg : Str → Option Value} {base : Heap}
def ownB (K : PySem.W.Frag) (C : Addr) : Bool := match K.lookup C with
  | some ⟨.type "type", _, .cls d, z⟩ => (match d.mro, z.toList with
    | .ref E :: t, [_, _, _, _, some (.builtin n), _] => d.hasDict && (!d.hasDel && (E == C && (n == "ValueError.__new__" && PySem.HandSPX.refsVE t)))
    | _, _ => false)
  | _ => false
def xcB (K : PySem.W.Frag) (C : Addr) : Bool := ownB K C && (PySem.W.findIn K (.ref C) "__setattr__" == some (some (.builtin "object.__setattr__")) && (PySem.W.subIn K (.ref C) (.type "BaseException") == some true && (PySem.W.typeIn K (.ref C) == some (.type "type") && (PySem.W.keepIn K (.ref C) &&
  (PySem.W.findIn K (.ref C) "__getattribute__" == some (some (.builtin "BaseException.__getattribute__")) && (PySem.W.findIn K (.ref C) "__getattr__" == some none && (PySem.W.hasDictIn K C && (PySem.W.findIn K (.ref C) "__class__" == some (some (.builtin "object.__class__")) &&
  (PySem.W.specialIn K (.builtin "object.__class__") "__get__" == some (some (.builtin "getset_descriptor.__get__")) && (PySem.W.takesIn K (.builtin "object.__class__") == some true && PySem.W.mroIn K C (.type "object") == some true))))))))))
theorem ownB_ok {C : Addr} (h : ownB K C = true) : ∃ nm q N bs bm sn sub ab col dd k0 k1 k2 k3 k5, K.lookup C = some (excClassObj nm q C N bs bm true sn sub ab col dd k0 k1 k2 k3 k5 "ValueError.__new__") ∧ PySem.HandSPX.refsVE bm = true := by
  unfold ownB at h
  split at h
  · rename_i dd d z hl
    split at h
    · rename_i E t a0 a1 a2 a3 n a5 hm hz
      simp only [Bool.and_eq_true, beq_iff_eq, Bool.not_eq_true'] at h
      obtain ⟨g1, g2, rfl, rfl, g3⟩ := h
      obtain ⟨nm, bs, mro, ns, qn, hd, sn, sub, ab, col, del⟩ := d
      have hz2 : z = #[a0, a1, a2, a3, some (.builtin "ValueError.__new__"), a5] := by
        cases z with
        | mk l => exact congrArg Array.mk hz
      dsimp only at hm g1 g2
      subst hm g1 g2 hz2
      exact ⟨nm, qn, ns, bs, t, sn, sub, ab, col, dd, a0, a1, a2, a3, a5, hl, g3⟩
    · cases h
  · cases h
theorem xcB_ok {C : Addr} (h : xcB K C = true) : XC K C := by
  unfold xcB at h
  simp only [Bool.and_eq_true, beq_iff_eq] at h
  obtain ⟨h0, h1, h2, h3, h4, h5, h6, h7, h8, h9, h10, h11⟩ := h
  exact { o := ⟨ownB_ok h0, h1, h2, h3, h4⟩, ga := h5, gg := h6, hd := h7, ha := h8, hn := h9, ht := h10, hm := h11 }
theorem mk_1 {h : Heap} (X : K.In h) (G : h.Ns mainGlobals mg) {x qual fld : Str} {st : Stmt} {C f : Addr} {oc : Value} {od an : Option Addr} {sl : Array (Option Value)} {kV dc pm cd ct : Value} {p1 p2 p3 p4 : Pos}
    (aC : PySem.W.nsIn K mainGlobals x = some (some (.ref C))) (xc : xcB K C = true) (af : PySem.W.findIn K (.ref C) "__init__" = some (some (.ref f))) (ty : PySem.W.typeIn K (.ref f) = some (.type "function"))
    (l : K.lookup f = some ⟨oc, od, .func (PySem.W.fnOf "__init__" qual (defArgs st) (defBody st) (defScope st) .none kV dc pm an cd ct), sl⟩) (c : PySem.W.codeIn K cd qual = true) (k : PySem.W.keepIn K (.ref f) = true)
    (S : FnScope ["self", fld] ["self", fld] (defScope st)) (hb : defBody st = [.Assign [.Attribute (.Name "self" p1) fld p2] (.Name fld p3) p4])
    (v0 : (defScope st).names.lookup ("self" : Str) = some .local) (v1 : (defScope st).names.lookup fld = some .local) (d1 : (fld == ("__debug__" : Str)) = false) (d3 : (fld == ("__classdict__" : Str)) = false)
    (hbi : ∀ (kV doc pm : Value) (an : Option Addr) (cdv ct : Value) (us : List Value), us.length = 2 → bindArgs (PySem.W.fnOf "__init__" qual (defArgs st) (defBody st) (defScope st) .none kV doc pm an cdv ct) ⟨us, []⟩ = pure ((["self", fld] : List Str).zip us)) :
    MkX P w K mg base x C ["self", fld] (spIni1 K C fld) := by
  have F := fun_mk (st := st) l c k
  exact ⟨xcB_ok xc, PySem.W.mg_of X G aC, f, _, af, ty, ok_ini1 F S hb v0 v1 (by decide) d1 (by decide) d3, F.binds hbi⟩
theorem mk_2 {h : Heap} (X : K.In h) (G : h.Ns mainGlobals mg) {x qual fld gld : Str} {st : Stmt} {C f : Addr} {oc : Value} {od an : Option Addr} {sl : Array (Option Value)} {kV dc pm cd ct : Value} {p1 p2 p3 p4 q1 q2 q3 q4 : Pos}
    (aC : PySem.W.nsIn K mainGlobals x = some (some (.ref C))) (xc : xcB K C = true) (af : PySem.W.findIn K (.ref C) "__init__" = some (some (.ref f))) (ty : PySem.W.typeIn K (.ref f) = some (.type "function"))
    (l : K.lookup f = some ⟨oc, od, .func (PySem.W.fnOf "__init__" qual (defArgs st) (defBody st) (defScope st) .none kV dc pm an cd ct), sl⟩) (c : PySem.W.codeIn K cd qual = true) (k : PySem.W.keepIn K (.ref f) = true)
    (S : FnScope ["self", fld, gld] ["self", fld, gld] (defScope st)) (hb : defBody st = [.Assign [.Attribute (.Name "self" p1) fld p2] (.Name fld p3) p4, .Assign [.Attribute (.Name "self" q1) gld q2] (.Name gld q3) q4])
    (v0 : (defScope st).names.lookup ("self" : Str) = some .local) (v1 : (defScope st).names.lookup fld = some .local) (v2 : (defScope st).names.lookup gld = some .local) (d1 : (fld == ("__debug__" : Str)) = false) (d3 : (fld == ("__classdict__" : Str)) = false) (d4 : (gld == ("__debug__" : Str)) = false) (d5 : (gld == ("__classdict__" : Str)) = false)
    (hbi : ∀ (kV doc pm : Value) (an : Option Addr) (cdv ct : Value) (us : List Value), us.length = 3 → bindArgs (PySem.W.fnOf "__init__" qual (defArgs st) (defBody st) (defScope st) .none kV doc pm an cdv ct) ⟨us, []⟩ = pure ((["self", fld, gld] : List Str).zip us)) :
    MkX P w K mg base x C ["self", fld, gld] (spIni2 K C fld gld) := by
  have F := fun_mk (st := st) l c k
  exact ⟨xcB_ok xc, PySem.W.mg_of X G aC, f, _, af, ty, ok_ini2 F S hb v0 v1 v2 (by decide) d1 (by decide) d3 d4 d5, F.binds hbi⟩
theorem mk_0 {h : Heap} (X : K.In h) (G : h.Ns mainGlobals mg) {x : Str} {C : Addr} (aC : PySem.W.nsIn K mainGlobals x = some (some (.ref C))) (xc : xcB K C = true)
    (q : PySem.W.excIn K C [.type "ValueError", .type "Exception", .type "BaseException", .type "object"] "ValueError.__new__" = true) : Mk0X K mg x C := ⟨xcB_ok xc, PySem.W.mg_of X G aC, q⟩
def tabB (K : PySem.W.Frag) (Cs : List Addr) (W : Addr) : Bool := ((Cs.zipIdx).all fun c => (Cs.zipIdx).all fun d => PySem.W.kitOne K (.ref c.1) (.ref d.1) == some (decide (c.2 = d.2))) && Cs.all fun c => PySem.W.kitOne K (.ref c) (.ref W) == some true && PySem.W.kitOne K (.ref c) (.type "ValueError") == some true
theorem tab_ok {Cs : List Addr} {W : Addr} (h : tabB K Cs W = true) (hx : ∀ C ∈ Cs, XC K C) : KT K Cs W := by
  unfold tabB at h
  rw [Bool.and_eq_true, List.all_eq_true, List.all_eq_true] at h
  obtain ⟨h1, h2⟩ := h
  refine ⟨fun i j C D hi hj => ?_, hx, fun C hC => ?_, fun C hC => ?_⟩
  · have a := h1 (C, i) (List.mem_zipIdx_iff_getElem?.mpr hi)
    rw [List.all_eq_true] at a
    have b := a (D, j) (List.mem_zipIdx_iff_getElem?.mpr hj)
    exact beq_iff_eq.mp b
  · have a := h2 C hC
    rw [Bool.and_eq_true] at a
    exact beq_iff_eq.mp a.1
  · have a := h2 C hC
    rw [Bool.and_eq_true] at a
    exact beq_iff_eq.mp a.2
theorem no_attr {C : Addr} {f : Str} (h : PySem.W.findIn K (.ref C) f = some none) : PySem.W.findIn K (.ref C) f = some none := h
theorem own_mk {h : Heap} (X : K.In h) (G : h.Ns mainGlobals mg) {x : Str} {st : Stmt} {f : Addr} {oc : Value} {od an : Option Addr} {sl : Array (Option Value)} {kV dc pm cd ct : Value} {n : Nat} {ps : List Str} {sp : Sp}
    (a : PySem.W.nsIn K mainGlobals x = some (some (.ref f))) (l : K.lookup f = some ⟨oc, od, .func (PySem.W.fnOf x x (defArgs st) (defBody st) (defScope st) .none kV dc pm an cd ct), sl⟩) (c : PySem.W.codeIn K cd x = true) (k : PySem.W.keepIn K (.ref f) = true)
    (hbi : ∀ (kV doc pm : Value) (an : Option Addr) (cdv ct : Value) (us : List Value), us.length = ps.length → bindArgs (PySem.W.fnOf x x (defArgs st) (defBody st) (defScope st) .none kV doc pm an cdv ct) ⟨us, []⟩ = pure (ps.zip us))
    (hf : ∀ fd, Fun K x x st f fd → FnOk P w K mg base CX0 n f fd ps sp) : OwnD P w K mg base n x ps sp := by
  have F := fun_mk (st := st) l c k
  exact ⟨f, _, hf _ F, PySem.W.mg_of X G a, k, F.binds hbi⟩
end
end K00
end
section
set_option Elab.async false
set_option linter.all false
set_option autoImplicit false
set_option maxRecDepth 100000
set_option maxHeartbeats 4000000
namespace K00
open PySem PySem.Spec PyProof.Rows L2 RS
abbrev i_BadText : Stmt := inClass (top 12) 0
theorem si_BadText : FnScope ["self", "column"] ["self", "column"] (defScope i_BadText) := ⟨rfl, rfl, rfl, by decide +kernel, rfl, by decide +kernel, by decide +kernel⟩
abbrev i_BadProgram : Stmt := inClass (top 3) 0
theorem si_BadProgram : FnScope ["self", "index"] ["self", "index"] (defScope i_BadProgram) := ⟨rfl, rfl, rfl, by decide +kernel, rfl, by decide +kernel, by decide +kernel⟩
abbrev i_BadConfiguration : Stmt := inClass (top 4) 0
theorem si_BadConfiguration : FnScope ["self", "configuration"] ["self", "configuration"] (defScope i_BadConfiguration) := ⟨rfl, rfl, rfl, by decide +kernel, rfl, by decide +kernel, by decide +kernel⟩
abbrev i_BadStep : Stmt := inClass (top 5) 0
theorem si_BadStep : FnScope ["self", "index"] ["self", "index"] (defScope i_BadStep) := ⟨rfl, rfl, rfl, by decide +kernel, rfl, by decide +kernel, by decide +kernel⟩
abbrev i_BadLot : Stmt := inClass (top 6) 0
theorem si_BadLot : FnScope ["self", "lot"] ["self", "lot"] (defScope i_BadLot) := ⟨rfl, rfl, rfl, by decide +kernel, rfl, by decide +kernel, by decide +kernel⟩
abbrev i_BadFormula : Stmt := inClass (top 7) 0
theorem si_BadFormula : FnScope ["self", "formula"] ["self", "formula"] (defScope i_BadFormula) := ⟨rfl, rfl, rfl, by decide +kernel, rfl, by decide +kernel, by decide +kernel⟩
abbrev i_BadReads : Stmt := inClass (top 8) 0
theorem si_BadReads : FnScope ["self", "reads"] ["self", "reads"] (defScope i_BadReads) := ⟨rfl, rfl, rfl, by decide +kernel, rfl, by decide +kernel, by decide +kernel⟩
abbrev i_Unlike : Stmt := inClass (top 9) 0
theorem si_Unlike : FnScope ["self", "what"] ["self", "what"] (defScope i_Unlike) := ⟨rfl, rfl, rfl, by decide +kernel, rfl, by decide +kernel, by decide +kernel⟩
abbrev i_TooMany : Stmt := inClass (top 10) 0
theorem si_TooMany : FnScope ["self", "most"] ["self", "most"] (defScope i_TooMany) := ⟨rfl, rfl, rfl, by decide +kernel, rfl, by decide +kernel, by decide +kernel⟩
abbrev i_NotOfKind : Stmt := inClass (top 11) 0
theorem si_NotOfKind : FnScope ["self", "why"] ["self", "why"] (defScope i_NotOfKind) := ⟨rfl, rfl, rfl, by decide +kernel, rfl, by decide +kernel, by decide +kernel⟩
abbrev i_BadName : Stmt := inClass (top 14) 0
theorem si_BadName : FnScope ["self", "name"] ["self", "name"] (defScope i_BadName) := ⟨rfl, rfl, rfl, by decide +kernel, rfl, by decide +kernel, by decide +kernel⟩
abbrev i_NoName : Stmt := inClass (top 15) 0
theorem si_NoName : FnScope ["self", "name"] ["self", "name"] (defScope i_NoName) := ⟨rfl, rfl, rfl, by decide +kernel, rfl, by decide +kernel, by decide +kernel⟩
abbrev i_TakenName : Stmt := inClass (top 16) 0
theorem si_TakenName : FnScope ["self", "name"] ["self", "name"] (defScope i_TakenName) := ⟨rfl, rfl, rfl, by decide +kernel, rfl, by decide +kernel, by decide +kernel⟩
abbrev i_BadLine : Stmt := inClass (top 13) 0
theorem si_BadLine : FnScope ["self", "line", "column"] ["self", "line", "column"] (defScope i_BadLine) := ⟨rfl, rfl, rfl, by decide +kernel, rfl, by decide +kernel, by decide +kernel⟩
abbrev i_BadNumber : Stmt := inClass (top 2) 0
theorem si_BadNumber : FnScope ["self", "what", "number"] ["self", "what", "number"] (defScope i_BadNumber) := ⟨rfl, rfl, rfl, by decide +kernel, rfl, by decide +kernel, by decide +kernel⟩
abbrev i_NotKept : Stmt := inClass (top 17) 0
theorem si_NotKept : FnScope ["self", "promise", "witness"] ["self", "promise", "witness"] (defScope i_NotKept) := ⟨rfl, rfl, rfl, by decide +kernel, rfl, by decide +kernel, by decide +kernel⟩
theorem all_mk {P : Program} {w : World} {K : PySem.W.Frag} {h : Heap} {mg : Str → Option Value} {fa : Addr} (X : K.In h) (G : h.Ns mainGlobals mg) (hfa : mg "law" = some (.ref fa))
  {C_BadText f_BadText : Addr}
  {od_BadText an_BadText : Option Addr} {sl_BadText : Array (Option Value)} {oc_BadText kV_BadText dc_BadText pm_BadText cd_BadText ct_BadText : Value}
  {C_BadProgram f_BadProgram : Addr}
  {od_BadProgram an_BadProgram : Option Addr} {sl_BadProgram : Array (Option Value)} {oc_BadProgram kV_BadProgram dc_BadProgram pm_BadProgram cd_BadProgram ct_BadProgram : Value}
  {C_BadConfiguration f_BadConfiguration : Addr}
  {od_BadConfiguration an_BadConfiguration : Option Addr} {sl_BadConfiguration : Array (Option Value)} {oc_BadConfiguration kV_BadConfiguration dc_BadConfiguration pm_BadConfiguration cd_BadConfiguration ct_BadConfiguration : Value}
  {C_BadStep f_BadStep : Addr}
  {od_BadStep an_BadStep : Option Addr} {sl_BadStep : Array (Option Value)} {oc_BadStep kV_BadStep dc_BadStep pm_BadStep cd_BadStep ct_BadStep : Value}
  {C_BadLot f_BadLot : Addr}
  {od_BadLot an_BadLot : Option Addr} {sl_BadLot : Array (Option Value)} {oc_BadLot kV_BadLot dc_BadLot pm_BadLot cd_BadLot ct_BadLot : Value}
  {C_BadFormula f_BadFormula : Addr}
  {od_BadFormula an_BadFormula : Option Addr} {sl_BadFormula : Array (Option Value)} {oc_BadFormula kV_BadFormula dc_BadFormula pm_BadFormula cd_BadFormula ct_BadFormula : Value}
  {C_BadReads f_BadReads : Addr}
  {od_BadReads an_BadReads : Option Addr} {sl_BadReads : Array (Option Value)} {oc_BadReads kV_BadReads dc_BadReads pm_BadReads cd_BadReads ct_BadReads : Value}
  {C_Unlike f_Unlike : Addr}
  {od_Unlike an_Unlike : Option Addr} {sl_Unlike : Array (Option Value)} {oc_Unlike kV_Unlike dc_Unlike pm_Unlike cd_Unlike ct_Unlike : Value}
  {C_TooMany f_TooMany : Addr}
  {od_TooMany an_TooMany : Option Addr} {sl_TooMany : Array (Option Value)} {oc_TooMany kV_TooMany dc_TooMany pm_TooMany cd_TooMany ct_TooMany : Value}
  {C_NotOfKind f_NotOfKind : Addr}
  {od_NotOfKind an_NotOfKind : Option Addr} {sl_NotOfKind : Array (Option Value)} {oc_NotOfKind kV_NotOfKind dc_NotOfKind pm_NotOfKind cd_NotOfKind ct_NotOfKind : Value}
  {C_BadName f_BadName : Addr}
  {od_BadName an_BadName : Option Addr} {sl_BadName : Array (Option Value)} {oc_BadName kV_BadName dc_BadName pm_BadName cd_BadName ct_BadName : Value}
  {C_NoName f_NoName : Addr}
  {od_NoName an_NoName : Option Addr} {sl_NoName : Array (Option Value)} {oc_NoName kV_NoName dc_NoName pm_NoName cd_NoName ct_NoName : Value}
  {C_TakenName f_TakenName : Addr}
  {od_TakenName an_TakenName : Option Addr} {sl_TakenName : Array (Option Value)} {oc_TakenName kV_TakenName dc_TakenName pm_TakenName cd_TakenName ct_TakenName : Value}
  {C_BadLine f_BadLine : Addr}
  {od_BadLine an_BadLine : Option Addr} {sl_BadLine : Array (Option Value)} {oc_BadLine kV_BadLine dc_BadLine pm_BadLine cd_BadLine ct_BadLine : Value}
  {C_BadNumber f_BadNumber : Addr}
  {od_BadNumber an_BadNumber : Option Addr} {sl_BadNumber : Array (Option Value)} {oc_BadNumber kV_BadNumber dc_BadNumber pm_BadNumber cd_BadNumber ct_BadNumber : Value}
  {C_NotKept f_NotKept : Addr}
  {od_NotKept an_NotKept : Option Addr} {sl_NotKept : Array (Option Value)} {oc_NotKept kV_NotKept dc_NotKept pm_NotKept cd_NotKept ct_NotKept : Value}
  {C_NothingToUndo : Addr}
  {C_NothingToRedo : Addr}
  {C_W : Addr}
  {f__law_pen : Addr}
  {od__law_pen an__law_pen : Option Addr} {sl__law_pen : Array (Option Value)} {oc__law_pen kV__law_pen dc__law_pen pm__law_pen cd__law_pen ct__law_pen : Value}
  {f__law_draw : Addr}
  {od__law_draw an__law_draw : Option Addr} {sl__law_draw : Array (Option Value)} {oc__law_draw kV__law_draw dc__law_draw pm__law_draw cd__law_draw ct__law_draw : Value}
  {f__law_pick : Addr}
  {od__law_pick an__law_pick : Option Addr} {sl__law_pick : Array (Option Value)} {oc__law_pick kV__law_pick dc__law_pick pm__law_pick cd__law_pick ct__law_pick : Value}
  {f__law_kinds : Addr}
  {od__law_kinds an__law_kinds : Option Addr} {sl__law_kinds : Array (Option Value)} {oc__law_kinds kV__law_kinds dc__law_kinds pm__law_kinds cd__law_kinds ct__law_kinds : Value}
  {f_law : Addr}
  {od_law an_law : Option Addr} {sl_law : Array (Option Value)} {oc_law kV_law dc_law pm_law cd_law ct_law : Value}
  (a_BadText : PySem.W.nsIn K mainGlobals "BadText" = some (some (.ref C_BadText)))
  (x_BadText : xcB K C_BadText = true)
  (i_fBadText : PySem.W.findIn K (.ref C_BadText) "__init__" = some (some (.ref f_BadText)))
  (t_BadText : PySem.W.typeIn K (.ref f_BadText) = some (.type "function"))
  (l_BadText : K.lookup f_BadText = some ⟨oc_BadText, od_BadText, .func (PySem.W.fnOf "__init__" "BadText.__init__" (defArgs i_BadText) (defBody i_BadText) (defScope i_BadText) .none kV_BadText dc_BadText pm_BadText an_BadText cd_BadText ct_BadText), sl_BadText⟩)
  (c_BadText : PySem.W.codeIn K cd_BadText "BadText.__init__" = true)
  (k_BadText : PySem.W.keepIn K (.ref f_BadText) = true)
  (n_BadText_column : PySem.W.findIn K (.ref C_BadText) "column" = some none)
  (a_BadProgram : PySem.W.nsIn K mainGlobals "BadProgram" = some (some (.ref C_BadProgram)))
  (x_BadProgram : xcB K C_BadProgram = true)
  (i_fBadProgram : PySem.W.findIn K (.ref C_BadProgram) "__init__" = some (some (.ref f_BadProgram)))
  (t_BadProgram : PySem.W.typeIn K (.ref f_BadProgram) = some (.type "function"))
  (l_BadProgram : K.lookup f_BadProgram = some ⟨oc_BadProgram, od_BadProgram, .func (PySem.W.fnOf "__init__" "BadProgram.__init__" (defArgs i_BadProgram) (defBody i_BadProgram) (defScope i_BadProgram) .none kV_BadProgram dc_BadProgram pm_BadProgram an_BadProgram cd_BadProgram ct_BadProgram), sl_BadProgram⟩)
  (c_BadProgram : PySem.W.codeIn K cd_BadProgram "BadProgram.__init__" = true)
  (k_BadProgram : PySem.W.keepIn K (.ref f_BadProgram) = true)
  (n_BadProgram_index : PySem.W.findIn K (.ref C_BadProgram) "index" = some none)
  (a_BadConfiguration : PySem.W.nsIn K mainGlobals "BadConfiguration" = some (some (.ref C_BadConfiguration)))
  (x_BadConfiguration : xcB K C_BadConfiguration = true)
  (i_fBadConfiguration : PySem.W.findIn K (.ref C_BadConfiguration) "__init__" = some (some (.ref f_BadConfiguration)))
  (t_BadConfiguration : PySem.W.typeIn K (.ref f_BadConfiguration) = some (.type "function"))
  (l_BadConfiguration : K.lookup f_BadConfiguration = some ⟨oc_BadConfiguration, od_BadConfiguration, .func (PySem.W.fnOf "__init__" "BadConfiguration.__init__" (defArgs i_BadConfiguration) (defBody i_BadConfiguration) (defScope i_BadConfiguration) .none kV_BadConfiguration dc_BadConfiguration pm_BadConfiguration an_BadConfiguration cd_BadConfiguration ct_BadConfiguration), sl_BadConfiguration⟩)
  (c_BadConfiguration : PySem.W.codeIn K cd_BadConfiguration "BadConfiguration.__init__" = true)
  (k_BadConfiguration : PySem.W.keepIn K (.ref f_BadConfiguration) = true)
  (n_BadConfiguration_configuration : PySem.W.findIn K (.ref C_BadConfiguration) "configuration" = some none)
  (a_BadStep : PySem.W.nsIn K mainGlobals "BadStep" = some (some (.ref C_BadStep)))
  (x_BadStep : xcB K C_BadStep = true)
  (i_fBadStep : PySem.W.findIn K (.ref C_BadStep) "__init__" = some (some (.ref f_BadStep)))
  (t_BadStep : PySem.W.typeIn K (.ref f_BadStep) = some (.type "function"))
  (l_BadStep : K.lookup f_BadStep = some ⟨oc_BadStep, od_BadStep, .func (PySem.W.fnOf "__init__" "BadStep.__init__" (defArgs i_BadStep) (defBody i_BadStep) (defScope i_BadStep) .none kV_BadStep dc_BadStep pm_BadStep an_BadStep cd_BadStep ct_BadStep), sl_BadStep⟩)
  (c_BadStep : PySem.W.codeIn K cd_BadStep "BadStep.__init__" = true)
  (k_BadStep : PySem.W.keepIn K (.ref f_BadStep) = true)
  (n_BadStep_index : PySem.W.findIn K (.ref C_BadStep) "index" = some none)
  (a_BadLot : PySem.W.nsIn K mainGlobals "BadLot" = some (some (.ref C_BadLot)))
  (x_BadLot : xcB K C_BadLot = true)
  (i_fBadLot : PySem.W.findIn K (.ref C_BadLot) "__init__" = some (some (.ref f_BadLot)))
  (t_BadLot : PySem.W.typeIn K (.ref f_BadLot) = some (.type "function"))
  (l_BadLot : K.lookup f_BadLot = some ⟨oc_BadLot, od_BadLot, .func (PySem.W.fnOf "__init__" "BadLot.__init__" (defArgs i_BadLot) (defBody i_BadLot) (defScope i_BadLot) .none kV_BadLot dc_BadLot pm_BadLot an_BadLot cd_BadLot ct_BadLot), sl_BadLot⟩)
  (c_BadLot : PySem.W.codeIn K cd_BadLot "BadLot.__init__" = true)
  (k_BadLot : PySem.W.keepIn K (.ref f_BadLot) = true)
  (n_BadLot_lot : PySem.W.findIn K (.ref C_BadLot) "lot" = some none)
  (a_BadFormula : PySem.W.nsIn K mainGlobals "BadFormula" = some (some (.ref C_BadFormula)))
  (x_BadFormula : xcB K C_BadFormula = true)
  (i_fBadFormula : PySem.W.findIn K (.ref C_BadFormula) "__init__" = some (some (.ref f_BadFormula)))
  (t_BadFormula : PySem.W.typeIn K (.ref f_BadFormula) = some (.type "function"))
  (l_BadFormula : K.lookup f_BadFormula = some ⟨oc_BadFormula, od_BadFormula, .func (PySem.W.fnOf "__init__" "BadFormula.__init__" (defArgs i_BadFormula) (defBody i_BadFormula) (defScope i_BadFormula) .none kV_BadFormula dc_BadFormula pm_BadFormula an_BadFormula cd_BadFormula ct_BadFormula), sl_BadFormula⟩)
  (c_BadFormula : PySem.W.codeIn K cd_BadFormula "BadFormula.__init__" = true)
  (k_BadFormula : PySem.W.keepIn K (.ref f_BadFormula) = true)
  (n_BadFormula_formula : PySem.W.findIn K (.ref C_BadFormula) "formula" = some none)
  (a_BadReads : PySem.W.nsIn K mainGlobals "BadReads" = some (some (.ref C_BadReads)))
  (x_BadReads : xcB K C_BadReads = true)
  (i_fBadReads : PySem.W.findIn K (.ref C_BadReads) "__init__" = some (some (.ref f_BadReads)))
  (t_BadReads : PySem.W.typeIn K (.ref f_BadReads) = some (.type "function"))
  (l_BadReads : K.lookup f_BadReads = some ⟨oc_BadReads, od_BadReads, .func (PySem.W.fnOf "__init__" "BadReads.__init__" (defArgs i_BadReads) (defBody i_BadReads) (defScope i_BadReads) .none kV_BadReads dc_BadReads pm_BadReads an_BadReads cd_BadReads ct_BadReads), sl_BadReads⟩)
  (c_BadReads : PySem.W.codeIn K cd_BadReads "BadReads.__init__" = true)
  (k_BadReads : PySem.W.keepIn K (.ref f_BadReads) = true)
  (n_BadReads_reads : PySem.W.findIn K (.ref C_BadReads) "reads" = some none)
  (a_Unlike : PySem.W.nsIn K mainGlobals "Unlike" = some (some (.ref C_Unlike)))
  (x_Unlike : xcB K C_Unlike = true)
  (i_fUnlike : PySem.W.findIn K (.ref C_Unlike) "__init__" = some (some (.ref f_Unlike)))
  (t_Unlike : PySem.W.typeIn K (.ref f_Unlike) = some (.type "function"))
  (l_Unlike : K.lookup f_Unlike = some ⟨oc_Unlike, od_Unlike, .func (PySem.W.fnOf "__init__" "Unlike.__init__" (defArgs i_Unlike) (defBody i_Unlike) (defScope i_Unlike) .none kV_Unlike dc_Unlike pm_Unlike an_Unlike cd_Unlike ct_Unlike), sl_Unlike⟩)
  (c_Unlike : PySem.W.codeIn K cd_Unlike "Unlike.__init__" = true)
  (k_Unlike : PySem.W.keepIn K (.ref f_Unlike) = true)
  (n_Unlike_what : PySem.W.findIn K (.ref C_Unlike) "what" = some none)
  (a_TooMany : PySem.W.nsIn K mainGlobals "TooMany" = some (some (.ref C_TooMany)))
  (x_TooMany : xcB K C_TooMany = true)
  (i_fTooMany : PySem.W.findIn K (.ref C_TooMany) "__init__" = some (some (.ref f_TooMany)))
  (t_TooMany : PySem.W.typeIn K (.ref f_TooMany) = some (.type "function"))
  (l_TooMany : K.lookup f_TooMany = some ⟨oc_TooMany, od_TooMany, .func (PySem.W.fnOf "__init__" "TooMany.__init__" (defArgs i_TooMany) (defBody i_TooMany) (defScope i_TooMany) .none kV_TooMany dc_TooMany pm_TooMany an_TooMany cd_TooMany ct_TooMany), sl_TooMany⟩)
  (c_TooMany : PySem.W.codeIn K cd_TooMany "TooMany.__init__" = true)
  (k_TooMany : PySem.W.keepIn K (.ref f_TooMany) = true)
  (n_TooMany_most : PySem.W.findIn K (.ref C_TooMany) "most" = some none)
  (a_NotOfKind : PySem.W.nsIn K mainGlobals "NotOfKind" = some (some (.ref C_NotOfKind)))
  (x_NotOfKind : xcB K C_NotOfKind = true)
  (i_fNotOfKind : PySem.W.findIn K (.ref C_NotOfKind) "__init__" = some (some (.ref f_NotOfKind)))
  (t_NotOfKind : PySem.W.typeIn K (.ref f_NotOfKind) = some (.type "function"))
  (l_NotOfKind : K.lookup f_NotOfKind = some ⟨oc_NotOfKind, od_NotOfKind, .func (PySem.W.fnOf "__init__" "NotOfKind.__init__" (defArgs i_NotOfKind) (defBody i_NotOfKind) (defScope i_NotOfKind) .none kV_NotOfKind dc_NotOfKind pm_NotOfKind an_NotOfKind cd_NotOfKind ct_NotOfKind), sl_NotOfKind⟩)
  (c_NotOfKind : PySem.W.codeIn K cd_NotOfKind "NotOfKind.__init__" = true)
  (k_NotOfKind : PySem.W.keepIn K (.ref f_NotOfKind) = true)
  (n_NotOfKind_why : PySem.W.findIn K (.ref C_NotOfKind) "why" = some none)
  (a_BadName : PySem.W.nsIn K mainGlobals "BadName" = some (some (.ref C_BadName)))
  (x_BadName : xcB K C_BadName = true)
  (i_fBadName : PySem.W.findIn K (.ref C_BadName) "__init__" = some (some (.ref f_BadName)))
  (t_BadName : PySem.W.typeIn K (.ref f_BadName) = some (.type "function"))
  (l_BadName : K.lookup f_BadName = some ⟨oc_BadName, od_BadName, .func (PySem.W.fnOf "__init__" "BadName.__init__" (defArgs i_BadName) (defBody i_BadName) (defScope i_BadName) .none kV_BadName dc_BadName pm_BadName an_BadName cd_BadName ct_BadName), sl_BadName⟩)
  (c_BadName : PySem.W.codeIn K cd_BadName "BadName.__init__" = true)
  (k_BadName : PySem.W.keepIn K (.ref f_BadName) = true)
  (n_BadName_name : PySem.W.findIn K (.ref C_BadName) "name" = some none)
  (a_NoName : PySem.W.nsIn K mainGlobals "NoName" = some (some (.ref C_NoName)))
  (x_NoName : xcB K C_NoName = true)
  (i_fNoName : PySem.W.findIn K (.ref C_NoName) "__init__" = some (some (.ref f_NoName)))
  (t_NoName : PySem.W.typeIn K (.ref f_NoName) = some (.type "function"))
  (l_NoName : K.lookup f_NoName = some ⟨oc_NoName, od_NoName, .func (PySem.W.fnOf "__init__" "NoName.__init__" (defArgs i_NoName) (defBody i_NoName) (defScope i_NoName) .none kV_NoName dc_NoName pm_NoName an_NoName cd_NoName ct_NoName), sl_NoName⟩)
  (c_NoName : PySem.W.codeIn K cd_NoName "NoName.__init__" = true)
  (k_NoName : PySem.W.keepIn K (.ref f_NoName) = true)
  (n_NoName_name : PySem.W.findIn K (.ref C_NoName) "name" = some none)
  (a_TakenName : PySem.W.nsIn K mainGlobals "TakenName" = some (some (.ref C_TakenName)))
  (x_TakenName : xcB K C_TakenName = true)
  (i_fTakenName : PySem.W.findIn K (.ref C_TakenName) "__init__" = some (some (.ref f_TakenName)))
  (t_TakenName : PySem.W.typeIn K (.ref f_TakenName) = some (.type "function"))
  (l_TakenName : K.lookup f_TakenName = some ⟨oc_TakenName, od_TakenName, .func (PySem.W.fnOf "__init__" "TakenName.__init__" (defArgs i_TakenName) (defBody i_TakenName) (defScope i_TakenName) .none kV_TakenName dc_TakenName pm_TakenName an_TakenName cd_TakenName ct_TakenName), sl_TakenName⟩)
  (c_TakenName : PySem.W.codeIn K cd_TakenName "TakenName.__init__" = true)
  (k_TakenName : PySem.W.keepIn K (.ref f_TakenName) = true)
  (n_TakenName_name : PySem.W.findIn K (.ref C_TakenName) "name" = some none)
  (a_BadLine : PySem.W.nsIn K mainGlobals "BadLine" = some (some (.ref C_BadLine)))
  (x_BadLine : xcB K C_BadLine = true)
  (i_fBadLine : PySem.W.findIn K (.ref C_BadLine) "__init__" = some (some (.ref f_BadLine)))
  (t_BadLine : PySem.W.typeIn K (.ref f_BadLine) = some (.type "function"))
  (l_BadLine : K.lookup f_BadLine = some ⟨oc_BadLine, od_BadLine, .func (PySem.W.fnOf "__init__" "BadLine.__init__" (defArgs i_BadLine) (defBody i_BadLine) (defScope i_BadLine) .none kV_BadLine dc_BadLine pm_BadLine an_BadLine cd_BadLine ct_BadLine), sl_BadLine⟩)
  (c_BadLine : PySem.W.codeIn K cd_BadLine "BadLine.__init__" = true)
  (k_BadLine : PySem.W.keepIn K (.ref f_BadLine) = true)
  (n_BadLine_line : PySem.W.findIn K (.ref C_BadLine) "line" = some none)
  (n_BadLine_column : PySem.W.findIn K (.ref C_BadLine) "column" = some none)
  (a_BadNumber : PySem.W.nsIn K mainGlobals "BadNumber" = some (some (.ref C_BadNumber)))
  (x_BadNumber : xcB K C_BadNumber = true)
  (i_fBadNumber : PySem.W.findIn K (.ref C_BadNumber) "__init__" = some (some (.ref f_BadNumber)))
  (t_BadNumber : PySem.W.typeIn K (.ref f_BadNumber) = some (.type "function"))
  (l_BadNumber : K.lookup f_BadNumber = some ⟨oc_BadNumber, od_BadNumber, .func (PySem.W.fnOf "__init__" "BadNumber.__init__" (defArgs i_BadNumber) (defBody i_BadNumber) (defScope i_BadNumber) .none kV_BadNumber dc_BadNumber pm_BadNumber an_BadNumber cd_BadNumber ct_BadNumber), sl_BadNumber⟩)
  (c_BadNumber : PySem.W.codeIn K cd_BadNumber "BadNumber.__init__" = true)
  (k_BadNumber : PySem.W.keepIn K (.ref f_BadNumber) = true)
  (n_BadNumber_what : PySem.W.findIn K (.ref C_BadNumber) "what" = some none)
  (n_BadNumber_number : PySem.W.findIn K (.ref C_BadNumber) "number" = some none)
  (a_NotKept : PySem.W.nsIn K mainGlobals "NotKept" = some (some (.ref C_NotKept)))
  (x_NotKept : xcB K C_NotKept = true)
  (i_fNotKept : PySem.W.findIn K (.ref C_NotKept) "__init__" = some (some (.ref f_NotKept)))
  (t_NotKept : PySem.W.typeIn K (.ref f_NotKept) = some (.type "function"))
  (l_NotKept : K.lookup f_NotKept = some ⟨oc_NotKept, od_NotKept, .func (PySem.W.fnOf "__init__" "NotKept.__init__" (defArgs i_NotKept) (defBody i_NotKept) (defScope i_NotKept) .none kV_NotKept dc_NotKept pm_NotKept an_NotKept cd_NotKept ct_NotKept), sl_NotKept⟩)
  (c_NotKept : PySem.W.codeIn K cd_NotKept "NotKept.__init__" = true)
  (k_NotKept : PySem.W.keepIn K (.ref f_NotKept) = true)
  (n_NotKept_promise : PySem.W.findIn K (.ref C_NotKept) "promise" = some none)
  (n_NotKept_witness : PySem.W.findIn K (.ref C_NotKept) "witness" = some none)
  (a_NothingToUndo : PySem.W.nsIn K mainGlobals "NothingToUndo" = some (some (.ref C_NothingToUndo)))
  (x_NothingToUndo : xcB K C_NothingToUndo = true)
  (q_NothingToUndo : PySem.W.excIn K C_NothingToUndo [.type "ValueError", .type "Exception", .type "BaseException", .type "object"] "ValueError.__new__" = true)
  (a_NothingToRedo : PySem.W.nsIn K mainGlobals "NothingToRedo" = some (some (.ref C_NothingToRedo)))
  (x_NothingToRedo : xcB K C_NothingToRedo = true)
  (q_NothingToRedo : PySem.W.excIn K C_NothingToRedo [.type "ValueError", .type "Exception", .type "BaseException", .type "object"] "ValueError.__new__" = true)
  (a_W : PySem.W.nsIn K mainGlobals "WallError" = some (some (.ref C_W)))
  (tab : tabB K [C_BadText, C_BadProgram, C_BadConfiguration, C_BadStep, C_BadLot, C_BadFormula, C_BadReads, C_Unlike, C_TooMany, C_NotOfKind, C_BadName, C_NoName, C_TakenName, C_BadLine, C_BadNumber, C_NotKept, C_NothingToUndo, C_NothingToRedo] C_W = true)
  (z_len : PySem.W.nsIn K mainGlobals "len" = some none)
  (z_int : PySem.W.nsIn K mainGlobals "int" = some none)
  (z_list : PySem.W.nsIn K mainGlobals "list" = some none)
  (z_tuple : PySem.W.nsIn K mainGlobals "tuple" = some none)
  (z_isinstance : PySem.W.nsIn K mainGlobals "isinstance" = some none)
  (z_range : PySem.W.nsIn K mainGlobals "range" = some none)
  (z_all : PySem.W.nsIn K mainGlobals "all" = some none)
  (z_any : PySem.W.nsIn K mainGlobals "any" = some none)
  (z_enumerate : PySem.W.nsIn K mainGlobals "enumerate" = some none)
  (z_zip : PySem.W.nsIn K mainGlobals "zip" = some none)
  (z_min : PySem.W.nsIn K mainGlobals "min" = some none)
  (z_max : PySem.W.nsIn K mainGlobals "max" = some none)
  (z_bool : PySem.W.nsIn K mainGlobals "bool" = some none)
  (z_str : PySem.W.nsIn K mainGlobals "str" = some none)
  (z_ValueError : PySem.W.nsIn K mainGlobals "ValueError" = some none)
  (g__law_pen : PySem.W.nsIn K mainGlobals "_law_pen" = some (some (.ref f__law_pen)))
  (l__law_pen : K.lookup f__law_pen = some ⟨oc__law_pen, od__law_pen, .func (PySem.W.fnOf "_law_pen" "_law_pen" (defArgs s_law_pen) (defBody s_law_pen) (defScope s_law_pen) .none kV__law_pen dc__law_pen pm__law_pen an__law_pen cd__law_pen ct__law_pen), sl__law_pen⟩)
  (c__law_pen : PySem.W.codeIn K cd__law_pen "_law_pen" = true)
  (k__law_pen : PySem.W.keepIn K (.ref f__law_pen) = true)
  (g__law_draw : PySem.W.nsIn K mainGlobals "_law_draw" = some (some (.ref f__law_draw)))
  (l__law_draw : K.lookup f__law_draw = some ⟨oc__law_draw, od__law_draw, .func (PySem.W.fnOf "_law_draw" "_law_draw" (defArgs s_law_draw) (defBody s_law_draw) (defScope s_law_draw) .none kV__law_draw dc__law_draw pm__law_draw an__law_draw cd__law_draw ct__law_draw), sl__law_draw⟩)
  (c__law_draw : PySem.W.codeIn K cd__law_draw "_law_draw" = true)
  (k__law_draw : PySem.W.keepIn K (.ref f__law_draw) = true)
  (g__law_pick : PySem.W.nsIn K mainGlobals "_law_pick" = some (some (.ref f__law_pick)))
  (l__law_pick : K.lookup f__law_pick = some ⟨oc__law_pick, od__law_pick, .func (PySem.W.fnOf "_law_pick" "_law_pick" (defArgs s_law_pick) (defBody s_law_pick) (defScope s_law_pick) .none kV__law_pick dc__law_pick pm__law_pick an__law_pick cd__law_pick ct__law_pick), sl__law_pick⟩)
  (c__law_pick : PySem.W.codeIn K cd__law_pick "_law_pick" = true)
  (k__law_pick : PySem.W.keepIn K (.ref f__law_pick) = true)
  (g__law_kinds : PySem.W.nsIn K mainGlobals "_law_kinds" = some (some (.ref f__law_kinds)))
  (l__law_kinds : K.lookup f__law_kinds = some ⟨oc__law_kinds, od__law_kinds, .func (PySem.W.fnOf "_law_kinds" "_law_kinds" (defArgs s_law_kinds) (defBody s_law_kinds) (defScope s_law_kinds) .none kV__law_kinds dc__law_kinds pm__law_kinds an__law_kinds cd__law_kinds ct__law_kinds), sl__law_kinds⟩)
  (c__law_kinds : PySem.W.codeIn K cd__law_kinds "_law_kinds" = true)
  (k__law_kinds : PySem.W.keepIn K (.ref f__law_kinds) = true)
  (g_law : PySem.W.nsIn K mainGlobals "law" = some (some (.ref f_law)))
  (l_law : K.lookup f_law = some ⟨oc_law, od_law, .func (PySem.W.fnOf "law" "law" (defArgs s_law) (defBody s_law) (defScope s_law) .none kV_law dc_law pm_law an_law cd_law ct_law), sl_law⟩)
  (c_law : PySem.W.codeIn K cd_law "law" = true)
  (k_law : PySem.W.keepIn K (.ref f_law) = true) :
    ∃ fd : FuncData, (∀ (s : Shared) (v : Value), BindsTo s fd ⟨[v], []⟩ [("script", v)]) ∧ ∀ base : Heap, K.In base → base.Ns mainGlobals mg → FnOk P w K mg base CX0 4 fa fd ["script"] (spLaw K) := by
  have e := hfa.symm.trans (PySem.W.mg_of X G g_law)
  cases e
  have T : Bi mg := ⟨PySem.W.mg_none_of X G z_len, PySem.W.mg_none_of X G z_int, PySem.W.mg_none_of X G z_list, PySem.W.mg_none_of X G z_tuple, PySem.W.mg_none_of X G z_isinstance, PySem.W.mg_none_of X G z_range, PySem.W.mg_none_of X G z_all, PySem.W.mg_none_of X G z_any, PySem.W.mg_none_of X G z_enumerate, PySem.W.mg_none_of X G z_zip, PySem.W.mg_none_of X G z_min, PySem.W.mg_none_of X G z_max, PySem.W.mg_none_of X G z_bool, PySem.W.mg_none_of X G z_str, PySem.W.mg_none_of X G z_ValueError⟩
  have M_BadText : ∀ base, MkX P w K mg base "BadText" C_BadText ["self", "column"] (spIni1 K C_BadText "column") := fun base => mk_1 X G a_BadText x_BadText i_fBadText t_BadText l_BadText c_BadText k_BadText si_BadText rfl rfl rfl (by decide) (by decide) (fun _ _ _ _ _ _ us hl => match us, hl with | [_, _], _ => rfl)
  have M_BadProgram : ∀ base, MkX P w K mg base "BadProgram" C_BadProgram ["self", "index"] (spIni1 K C_BadProgram "index") := fun base => mk_1 X G a_BadProgram x_BadProgram i_fBadProgram t_BadProgram l_BadProgram c_BadProgram k_BadProgram si_BadProgram rfl rfl rfl (by decide) (by decide) (fun _ _ _ _ _ _ us hl => match us, hl with | [_, _], _ => rfl)
  have M_BadConfiguration : ∀ base, MkX P w K mg base "BadConfiguration" C_BadConfiguration ["self", "configuration"] (spIni1 K C_BadConfiguration "configuration") := fun base => mk_1 X G a_BadConfiguration x_BadConfiguration i_fBadConfiguration t_BadConfiguration l_BadConfiguration c_BadConfiguration k_BadConfiguration si_BadConfiguration rfl rfl rfl (by decide) (by decide) (fun _ _ _ _ _ _ us hl => match us, hl with | [_, _], _ => rfl)
  have M_BadStep : ∀ base, MkX P w K mg base "BadStep" C_BadStep ["self", "index"] (spIni1 K C_BadStep "index") := fun base => mk_1 X G a_BadStep x_BadStep i_fBadStep t_BadStep l_BadStep c_BadStep k_BadStep si_BadStep rfl rfl rfl (by decide) (by decide) (fun _ _ _ _ _ _ us hl => match us, hl with | [_, _], _ => rfl)
  have M_BadLot : ∀ base, MkX P w K mg base "BadLot" C_BadLot ["self", "lot"] (spIni1 K C_BadLot "lot") := fun base => mk_1 X G a_BadLot x_BadLot i_fBadLot t_BadLot l_BadLot c_BadLot k_BadLot si_BadLot rfl rfl rfl (by decide) (by decide) (fun _ _ _ _ _ _ us hl => match us, hl with | [_, _], _ => rfl)
  have M_BadFormula : ∀ base, MkX P w K mg base "BadFormula" C_BadFormula ["self", "formula"] (spIni1 K C_BadFormula "formula") := fun base => mk_1 X G a_BadFormula x_BadFormula i_fBadFormula t_BadFormula l_BadFormula c_BadFormula k_BadFormula si_BadFormula rfl rfl rfl (by decide) (by decide) (fun _ _ _ _ _ _ us hl => match us, hl with | [_, _], _ => rfl)
  have M_BadReads : ∀ base, MkX P w K mg base "BadReads" C_BadReads ["self", "reads"] (spIni1 K C_BadReads "reads") := fun base => mk_1 X G a_BadReads x_BadReads i_fBadReads t_BadReads l_BadReads c_BadReads k_BadReads si_BadReads rfl rfl rfl (by decide) (by decide) (fun _ _ _ _ _ _ us hl => match us, hl with | [_, _], _ => rfl)
  have M_Unlike : ∀ base, MkX P w K mg base "Unlike" C_Unlike ["self", "what"] (spIni1 K C_Unlike "what") := fun base => mk_1 X G a_Unlike x_Unlike i_fUnlike t_Unlike l_Unlike c_Unlike k_Unlike si_Unlike rfl rfl rfl (by decide) (by decide) (fun _ _ _ _ _ _ us hl => match us, hl with | [_, _], _ => rfl)
  have M_TooMany : ∀ base, MkX P w K mg base "TooMany" C_TooMany ["self", "most"] (spIni1 K C_TooMany "most") := fun base => mk_1 X G a_TooMany x_TooMany i_fTooMany t_TooMany l_TooMany c_TooMany k_TooMany si_TooMany rfl rfl rfl (by decide) (by decide) (fun _ _ _ _ _ _ us hl => match us, hl with | [_, _], _ => rfl)
  have M_NotOfKind : ∀ base, MkX P w K mg base "NotOfKind" C_NotOfKind ["self", "why"] (spIni1 K C_NotOfKind "why") := fun base => mk_1 X G a_NotOfKind x_NotOfKind i_fNotOfKind t_NotOfKind l_NotOfKind c_NotOfKind k_NotOfKind si_NotOfKind rfl rfl rfl (by decide) (by decide) (fun _ _ _ _ _ _ us hl => match us, hl with | [_, _], _ => rfl)
  have M_BadName : ∀ base, MkX P w K mg base "BadName" C_BadName ["self", "name"] (spIni1 K C_BadName "name") := fun base => mk_1 X G a_BadName x_BadName i_fBadName t_BadName l_BadName c_BadName k_BadName si_BadName rfl rfl rfl (by decide) (by decide) (fun _ _ _ _ _ _ us hl => match us, hl with | [_, _], _ => rfl)
  have M_NoName : ∀ base, MkX P w K mg base "NoName" C_NoName ["self", "name"] (spIni1 K C_NoName "name") := fun base => mk_1 X G a_NoName x_NoName i_fNoName t_NoName l_NoName c_NoName k_NoName si_NoName rfl rfl rfl (by decide) (by decide) (fun _ _ _ _ _ _ us hl => match us, hl with | [_, _], _ => rfl)
  have M_TakenName : ∀ base, MkX P w K mg base "TakenName" C_TakenName ["self", "name"] (spIni1 K C_TakenName "name") := fun base => mk_1 X G a_TakenName x_TakenName i_fTakenName t_TakenName l_TakenName c_TakenName k_TakenName si_TakenName rfl rfl rfl (by decide) (by decide) (fun _ _ _ _ _ _ us hl => match us, hl with | [_, _], _ => rfl)
  have M_BadLine : ∀ base, MkX P w K mg base "BadLine" C_BadLine ["self", "line", "column"] (spIni2 K C_BadLine "line" "column") := fun base => mk_2 X G a_BadLine x_BadLine i_fBadLine t_BadLine l_BadLine c_BadLine k_BadLine si_BadLine rfl rfl rfl rfl (by decide) (by decide) (by decide) (by decide) (fun _ _ _ _ _ _ us hl => match us, hl with | [_, _, _], _ => rfl)
  have M_BadNumber : ∀ base, MkX P w K mg base "BadNumber" C_BadNumber ["self", "what", "number"] (spIni2 K C_BadNumber "what" "number") := fun base => mk_2 X G a_BadNumber x_BadNumber i_fBadNumber t_BadNumber l_BadNumber c_BadNumber k_BadNumber si_BadNumber rfl rfl rfl rfl (by decide) (by decide) (by decide) (by decide) (fun _ _ _ _ _ _ us hl => match us, hl with | [_, _, _], _ => rfl)
  have M_NotKept : ∀ base, MkX P w K mg base "NotKept" C_NotKept ["self", "promise", "witness"] (spIni2 K C_NotKept "promise" "witness") := fun base => mk_2 X G a_NotKept x_NotKept i_fNotKept t_NotKept l_NotKept c_NotKept k_NotKept si_NotKept rfl rfl rfl rfl (by decide) (by decide) (by decide) (by decide) (fun _ _ _ _ _ _ us hl => match us, hl with | [_, _, _], _ => rfl)
  have M_NothingToUndo : Mk0X K mg "NothingToUndo" C_NothingToUndo := mk_0 X G a_NothingToUndo x_NothingToUndo q_NothingToUndo
  have M_NothingToRedo : Mk0X K mg "NothingToRedo" C_NothingToRedo := mk_0 X G a_NothingToRedo x_NothingToRedo q_NothingToRedo
  have T2 : KT K [C_BadText, C_BadProgram, C_BadConfiguration, C_BadStep, C_BadLot, C_BadFormula, C_BadReads, C_Unlike, C_TooMany, C_NotOfKind, C_BadName, C_NoName, C_TakenName, C_BadLine, C_BadNumber, C_NotKept, C_NothingToUndo, C_NothingToRedo] C_W := tab_ok tab (by
    intro C hC
    simp only [List.mem_cons, List.not_mem_nil, or_false] at hC
    rcases hC with rfl | rfl | rfl | rfl | rfl | rfl | rfl | rfl | rfl | rfl | rfl | rfl | rfl | rfl | rfl | rfl | rfl | rfl
    · exact xcB_ok x_BadText
    · exact xcB_ok x_BadProgram
    · exact xcB_ok x_BadConfiguration
    · exact xcB_ok x_BadStep
    · exact xcB_ok x_BadLot
    · exact xcB_ok x_BadFormula
    · exact xcB_ok x_BadReads
    · exact xcB_ok x_Unlike
    · exact xcB_ok x_TooMany
    · exact xcB_ok x_NotOfKind
    · exact xcB_ok x_BadName
    · exact xcB_ok x_NoName
    · exact xcB_ok x_TakenName
    · exact xcB_ok x_BadLine
    · exact xcB_ok x_BadNumber
    · exact xcB_ok x_NotKept
    · exact xcB_ok x_NothingToUndo
    · exact xcB_ok x_NothingToRedo
    )
  have O_law_pen : ∀ base, OwnD P w K mg base 1 "_law_pen" ["script"] (spMkPen K) := fun base => own_mk (st := s_law_pen) X G g__law_pen l__law_pen c__law_pen k__law_pen (fun _ _ _ _ _ _ us hl => match us, hl with | [_], _ => rfl) fun fd F => ok_pen F T
  have O_law_draw : ∀ base, OwnD P w K mg base 1 "_law_draw" ["pen", "many"] (spP K 1 pDraw 1 rDraw) := fun base => own_mk (st := s_law_draw) X G g__law_draw l__law_draw c__law_draw k__law_draw (fun _ _ _ _ _ _ us hl => match us, hl with | [_, _], _ => rfl) fun fd F => ok_draw F T
  have O_law_pick : ∀ base, OwnD P w K mg base 2 "_law_pick" ["pen", "row"] (spP K 1 pPick 1 rPick) := fun base => own_mk (st := s_law_pick) X G g__law_pick l__law_pick c__law_pick k__law_pick (fun _ _ _ _ _ _ us hl => match us, hl with | [_, _], _ => rfl) fun fd F => ok_pick F T (O_law_draw base)
  have O_law_kinds : ∀ base, OwnD P w K mg base 1 "_law_kinds" ["error"] (spR K 1 (pKinds [C_BadText, C_BadProgram, C_BadConfiguration, C_BadStep, C_BadLot, C_BadFormula, C_BadReads, C_Unlike, C_TooMany, C_NotOfKind, C_BadName, C_NoName, C_TakenName, C_BadLine, C_BadNumber, C_NotKept, C_NothingToUndo, C_NothingToRedo]) (rKinds [C_BadText, C_BadProgram, C_BadConfiguration, C_BadStep, C_BadLot, C_BadFormula, C_BadReads, C_Unlike, C_TooMany, C_NotOfKind, C_BadName, C_NoName, C_TakenName, C_BadLine, C_BadNumber, C_NotKept, C_NothingToUndo, C_NothingToRedo])) := fun base => own_mk (st := s_law_kinds) X G g__law_kinds l__law_kinds c__law_kinds k__law_kinds (fun _ _ _ _ _ _ us hl => match us, hl with | [_], _ => rfl) fun fd F => ok_kinds F T (PySem.W.mg_of X G a_W) T2 (M_BadText base) (M_BadProgram base) (M_BadConfiguration base) (M_BadStep base) (M_BadLot base) (M_BadFormula base) (M_BadReads base) (M_Unlike base) (M_TooMany base) (M_NotOfKind base) (M_BadName base) (M_NoName base) (M_TakenName base) (M_BadLine base) (M_BadNumber base) (M_NotKept base) M_NothingToUndo M_NothingToRedo
  have F := fun_mk (st := s_law) l_law c_law k_law
  exact ⟨_, fun s v => .of_eq rfl, fun base _ _ => ok_law F T T2 (M_BadText base) (M_BadProgram base) (M_BadConfiguration base) (M_BadStep base) (M_BadLot base) (M_BadFormula base) (M_BadReads base) (M_Unlike base) (M_TooMany base) (M_NotOfKind base) (M_BadName base) (M_NoName base) (M_TakenName base) (M_BadLine base) (M_BadNumber base) (M_NotKept base) M_NothingToUndo M_NothingToRedo n_BadText_column n_BadProgram_index n_BadConfiguration_configuration n_BadStep_index n_BadLot_lot n_BadFormula_formula n_BadReads_reads n_Unlike_what n_TooMany_most n_NotOfKind_why n_BadName_name n_NoName_name n_TakenName_name n_BadLine_line n_BadLine_column n_BadNumber_what n_BadNumber_number n_NotKept_promise n_NotKept_witness (O_law_pen base) (O_law_pick base) (O_law_kinds base)⟩
end K00
end
section
set_option Elab.async false
set_option maxRecDepth 100000
open PySem PySem.W PyProof.Rows
set_option maxRecDepth 100000 in
set_option maxHeartbeats 0 in
theorem PySem.Challenge.cw_numberwall_k00_errors_holds : PySem.Challenge.rw_numberwall_k00_errors.Holds := by
  w_on; o_law; k_head; (case hw => w_witness2)
  k_fill
  refine RS.walk (k := 4) (l := PySem.Challenge.rw_numberwall_k00_errors) rfl rfl ?hk (fun w h Y => PySem.W.kIn_of Y) ?F
  case hk => exact ⟨rfl, by decide, by decide⟩
  case F =>
    intro w mg fa h KX G hmg
    refine' K00.all_mk KX G hmg ?a_BadText ?x_BadText ?i_fBadText ?t_BadText ?l_BadText ?c_BadText ?k_BadText ?n_BadText_column ?a_BadProgram ?x_BadProgram ?i_fBadProgram ?t_BadProgram ?l_BadProgram ?c_BadProgram ?k_BadProgram ?n_BadProgram_index ?a_BadConfiguration ?x_BadConfiguration ?i_fBadConfiguration ?t_BadConfiguration ?l_BadConfiguration ?c_BadConfiguration ?k_BadConfiguration ?n_BadConfiguration_configuration ?a_BadStep ?x_BadStep ?i_fBadStep ?t_BadStep ?l_BadStep ?c_BadStep ?k_BadStep ?n_BadStep_index ?a_BadLot ?x_BadLot ?i_fBadLot ?t_BadLot ?l_BadLot ?c_BadLot ?k_BadLot ?n_BadLot_lot ?a_BadFormula ?x_BadFormula ?i_fBadFormula ?t_BadFormula ?l_BadFormula ?c_BadFormula ?k_BadFormula ?n_BadFormula_formula ?a_BadReads ?x_BadReads ?i_fBadReads ?t_BadReads ?l_BadReads ?c_BadReads ?k_BadReads ?n_BadReads_reads ?a_Unlike ?x_Unlike ?i_fUnlike ?t_Unlike ?l_Unlike ?c_Unlike ?k_Unlike ?n_Unlike_what ?a_TooMany ?x_TooMany ?i_fTooMany ?t_TooMany ?l_TooMany ?c_TooMany ?k_TooMany ?n_TooMany_most ?a_NotOfKind ?x_NotOfKind ?i_fNotOfKind ?t_NotOfKind ?l_NotOfKind ?c_NotOfKind ?k_NotOfKind ?n_NotOfKind_why ?a_BadName ?x_BadName ?i_fBadName ?t_BadName ?l_BadName ?c_BadName ?k_BadName ?n_BadName_name ?a_NoName ?x_NoName ?i_fNoName ?t_NoName ?l_NoName ?c_NoName ?k_NoName ?n_NoName_name ?a_TakenName ?x_TakenName ?i_fTakenName ?t_TakenName ?l_TakenName ?c_TakenName ?k_TakenName ?n_TakenName_name ?a_BadLine ?x_BadLine ?i_fBadLine ?t_BadLine ?l_BadLine ?c_BadLine ?k_BadLine ?n_BadLine_line ?n_BadLine_column ?a_BadNumber ?x_BadNumber ?i_fBadNumber ?t_BadNumber ?l_BadNumber ?c_BadNumber ?k_BadNumber ?n_BadNumber_what ?n_BadNumber_number ?a_NotKept ?x_NotKept ?i_fNotKept ?t_NotKept ?l_NotKept ?c_NotKept ?k_NotKept ?n_NotKept_promise ?n_NotKept_witness ?a_NothingToUndo ?x_NothingToUndo ?q_NothingToUndo ?a_NothingToRedo ?x_NothingToRedo ?q_NothingToRedo ?a_W ?tab ?z_len ?z_int ?z_list ?z_tuple ?z_isinstance ?z_range ?z_all ?z_any ?z_enumerate ?z_zip ?z_min ?z_max ?z_bool ?z_str ?z_ValueError ?g__law_pen ?l__law_pen ?c__law_pen ?k__law_pen ?g__law_draw ?l__law_draw ?c__law_draw ?k__law_draw ?g__law_pick ?l__law_pick ?c__law_pick ?k__law_pick ?g__law_kinds ?l__law_kinds ?c__law_kinds ?k__law_kinds ?g_law ?l_law ?c_law ?k_law
    (case a_BadText => k_is)
    (case x_BadText => kernel_rfl)
    (case i_fBadText => k_is)
    (case t_BadText => k_is)
    (case l_BadText => k_is)
    (case c_BadText => k_is)
    (case k_BadText => k_is)
    (case n_BadText_column => k_is)
    (case a_BadProgram => k_is)
    (case x_BadProgram => kernel_rfl)
    (case i_fBadProgram => k_is)
    (case t_BadProgram => k_is)
    (case l_BadProgram => k_is)
    (case c_BadProgram => k_is)
    (case k_BadProgram => k_is)
    (case n_BadProgram_index => k_is)
    (case a_BadConfiguration => k_is)
    (case x_BadConfiguration => kernel_rfl)
    (case i_fBadConfiguration => k_is)
    (case t_BadConfiguration => k_is)
    (case l_BadConfiguration => k_is)
    (case c_BadConfiguration => k_is)
    (case k_BadConfiguration => k_is)
    (case n_BadConfiguration_configuration => k_is)
    (case a_BadStep => k_is)
    (case x_BadStep => kernel_rfl)
    (case i_fBadStep => k_is)
    (case t_BadStep => k_is)
    (case l_BadStep => k_is)
    (case c_BadStep => k_is)
    (case k_BadStep => k_is)
    (case n_BadStep_index => k_is)
    (case a_BadLot => k_is)
    (case x_BadLot => kernel_rfl)
    (case i_fBadLot => k_is)
    (case t_BadLot => k_is)
    (case l_BadLot => k_is)
    (case c_BadLot => k_is)
    (case k_BadLot => k_is)
    (case n_BadLot_lot => k_is)
    (case a_BadFormula => k_is)
    (case x_BadFormula => kernel_rfl)
    (case i_fBadFormula => k_is)
    (case t_BadFormula => k_is)
    (case l_BadFormula => k_is)
    (case c_BadFormula => k_is)
    (case k_BadFormula => k_is)
    (case n_BadFormula_formula => k_is)
    (case a_BadReads => k_is)
    (case x_BadReads => kernel_rfl)
    (case i_fBadReads => k_is)
    (case t_BadReads => k_is)
    (case l_BadReads => k_is)
    (case c_BadReads => k_is)
    (case k_BadReads => k_is)
    (case n_BadReads_reads => k_is)
    (case a_Unlike => k_is)
    (case x_Unlike => kernel_rfl)
    (case i_fUnlike => k_is)
    (case t_Unlike => k_is)
    (case l_Unlike => k_is)
    (case c_Unlike => k_is)
    (case k_Unlike => k_is)
    (case n_Unlike_what => k_is)
    (case a_TooMany => k_is)
    (case x_TooMany => kernel_rfl)
    (case i_fTooMany => k_is)
    (case t_TooMany => k_is)
    (case l_TooMany => k_is)
    (case c_TooMany => k_is)
    (case k_TooMany => k_is)
    (case n_TooMany_most => k_is)
    (case a_NotOfKind => k_is)
    (case x_NotOfKind => kernel_rfl)
    (case i_fNotOfKind => k_is)
    (case t_NotOfKind => k_is)
    (case l_NotOfKind => k_is)
    (case c_NotOfKind => k_is)
    (case k_NotOfKind => k_is)
    (case n_NotOfKind_why => k_is)
    (case a_BadName => k_is)
    (case x_BadName => kernel_rfl)
    (case i_fBadName => k_is)
    (case t_BadName => k_is)
    (case l_BadName => k_is)
    (case c_BadName => k_is)
    (case k_BadName => k_is)
    (case n_BadName_name => k_is)
    (case a_NoName => k_is)
    (case x_NoName => kernel_rfl)
    (case i_fNoName => k_is)
    (case t_NoName => k_is)
    (case l_NoName => k_is)
    (case c_NoName => k_is)
    (case k_NoName => k_is)
    (case n_NoName_name => k_is)
    (case a_TakenName => k_is)
    (case x_TakenName => kernel_rfl)
    (case i_fTakenName => k_is)
    (case t_TakenName => k_is)
    (case l_TakenName => k_is)
    (case c_TakenName => k_is)
    (case k_TakenName => k_is)
    (case n_TakenName_name => k_is)
    (case a_BadLine => k_is)
    (case x_BadLine => kernel_rfl)
    (case i_fBadLine => k_is)
    (case t_BadLine => k_is)
    (case l_BadLine => k_is)
    (case c_BadLine => k_is)
    (case k_BadLine => k_is)
    (case n_BadLine_line => k_is)
    (case n_BadLine_column => k_is)
    (case a_BadNumber => k_is)
    (case x_BadNumber => kernel_rfl)
    (case i_fBadNumber => k_is)
    (case t_BadNumber => k_is)
    (case l_BadNumber => k_is)
    (case c_BadNumber => k_is)
    (case k_BadNumber => k_is)
    (case n_BadNumber_what => k_is)
    (case n_BadNumber_number => k_is)
    (case a_NotKept => k_is)
    (case x_NotKept => kernel_rfl)
    (case i_fNotKept => k_is)
    (case t_NotKept => k_is)
    (case l_NotKept => k_is)
    (case c_NotKept => k_is)
    (case k_NotKept => k_is)
    (case n_NotKept_promise => k_is)
    (case n_NotKept_witness => k_is)
    (case a_NothingToUndo => k_is)
    (case x_NothingToUndo => kernel_rfl)
    (case q_NothingToUndo => k_exc)
    (case a_NothingToRedo => k_is)
    (case x_NothingToRedo => kernel_rfl)
    (case q_NothingToRedo => k_exc)
    (case a_W => k_is)
    (case tab => kernel_rfl)
    (case z_len => k_is)
    (case z_int => k_is)
    (case z_list => k_is)
    (case z_tuple => k_is)
    (case z_isinstance => k_is)
    (case z_range => k_is)
    (case z_all => k_is)
    (case z_any => k_is)
    (case z_enumerate => k_is)
    (case z_zip => k_is)
    (case z_min => k_is)
    (case z_max => k_is)
    (case z_bool => k_is)
    (case z_str => k_is)
    (case z_ValueError => k_is)
    (case g__law_pen => k_is)
    (case l__law_pen => k_is)
    (case c__law_pen => k_is)
    (case k__law_pen => k_is)
    (case g__law_draw => k_is)
    (case l__law_draw => k_is)
    (case c__law_draw => k_is)
    (case k__law_draw => k_is)
    (case g__law_pick => k_is)
    (case l__law_pick => k_is)
    (case c__law_pick => k_is)
    (case k__law_pick => k_is)
    (case g__law_kinds => k_is)
    (case l__law_kinds => k_is)
    (case c__law_kinds => k_is)
    (case k__law_kinds => k_is)
    (case g_law => k_is)
    (case l_law => k_is)
    (case c_law => k_is)
    (case k_law => k_is)
end
