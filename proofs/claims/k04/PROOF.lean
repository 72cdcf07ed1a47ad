import PyProof.Rows.All
import Wide.All
import OpenK.AllK
import Wide.FinOn
import PyProof.EqAt
import PyProof.EqKinds
import PyProof.TupleCall
import HandS.ForMost
import HandS.Evl
import HandS.IsInst
import HandS.Conv
import HandS.TupAny
import HandS.Style
import HandS.NoneIn
import HandS.Zip
import HandS.Flow
import HandS.Steps
import HandS.TupMul
import HandS.ExcInit
import HandS.ExcField
import HandS.ExcIs
import HandS.ExcValue
import KE.KExcIs
import PyProof.NeKinds
import HandS.Iter
import KE.GoesNew
import KE.GoesMore
import PyProof.EnumMake
import HandS.Call
import HandS.ExcOwn
import HandS.WordsExc
import HandS.TryMany
import HandS.Lambda
import HandS.EndTab
import HandS.EndOwn
import KE.KNestM
import HandS.OwnEq
import PyProof.StrOps2
import PySem.Challenge.RW_numberwall_k04_whole_steps_and_runs
import KE.DataCmp
section
set_option Elab.async false
set_option linter.all false
set_option maxRecDepth 100000
set_option maxHeartbeats 2000000
/-! RS: what a reading comes to, told over plain data. G: the part of the abstract heap that stays for ever (data); H: all of it. -/
namespace RS
open PySem L2

abbrev Sub (G H : Hp) : Prop := ∀ a o, G a = some o → H a = some o
theorem Sub.refl (H : Hp) : Sub H H := fun _ _ h => h
theorem Sub.trans {G H I : Hp} (a : Sub G H) (b : Sub H I) : Sub G I := fun x o h => b x o (a x o h)
theorem Sub.none {G H : Hp} (a : Sub G H) {x : Addr} (h : H x = Option.none) : G x = Option.none := by
  cases e : G x with
  | none => rfl
  | some o => rw [a x o e] at h; cases h

mutual
/-- the value stands for the data -/
inductive DA (K : PySem.W.Frag) (G : Hp) : V → PyData → Prop
  | non : DA K G .non .none
  | bl (b : Bool) : DA K G (.bl b) (.bool b)
  | int (i : Int) : DA K G (.int i) (.int i)
  | str (x : Str) : DA K G (.str x) (.str x)
  | lst {a : Addr} {xs : List V} {ds : List PyData} : G a = some (.lst xs) → DAs K G xs ds → DA K G (.ref a) (.list ds)
  | tup {a : Addr} {xs : List V} {ds : List PyData} : SqT K G a xs → DAs K G xs ds → DA K G (.ref a) (.tuple ds)
  | opq {a : Addr} {kvs : List (Key × V)} : G a = some (.dK kvs) → DA K G (.ref a) (.dict [(.str Str.empty, .int (a : Int))])
  | obj {a C dx : Addr} {fs : List (Str × V)} {kvs : List (PyData × PyData)} : G a = some (.ins C dx fs) → Cls K C → DFs K G fs kvs → DA K G (.ref a) (.dict ((.none, .int (C : Int)) :: kvs))
  | exc {a C d : Addr} {fs : List (Str × V)} {kvs : List (PyData × PyData)} : G a = some (exo a C (some d)) → G d = some (exd d fs) → DFs K G fs kvs → DA K G (.ref a) (.dict ((.bool true, .int (C : Int)) :: kvs))
  | exn {a C : Addr} : G a = some (exo a C none) → DA K G (.ref a) (.dict [(.bool false, .int (C : Int))])
  | adr {a : Addr} : DA K G (.ref a) (.dict [(.int (a : Int), .none)])
inductive DAs (K : PySem.W.Frag) (G : Hp) : List V → List PyData → Prop
  | nil : DAs K G [] []
  | cons {v : V} {vs : List V} {d : PyData} {ds : List PyData} : DA K G v d → DAs K G vs ds → DAs K G (v :: vs) (d :: ds)
inductive DFs (K : PySem.W.Frag) (G : Hp) : List (Str × V) → List (PyData × PyData) → Prop
  | nil : DFs K G [] []
  | cons {f : Str} {v : V} {fs : List (Str × V)} {d : PyData} {kvs : List (PyData × PyData)} : DA K G v d → DFs K G fs kvs → DFs K G ((f, v) :: fs) ((.str f, d) :: kvs)
end

theorem sub_rd {G H : Hp} {a : Addr} {u : HO} (e : Sub G H) (h : Rd G a u) : Rd H a u := Evl.ex_rd e h
theorem sub_t {K : PySem.W.Frag} {G H : Hp} {a : Addr} {xs : List V} (e : Sub G H) (h : SqT K G a xs) : SqT K H a xs := Evl.ex_t e h

section
variable {K : PySem.W.Frag} {G H : Hp}
mutual
theorem DA.mono (e : Sub G H) : ∀ {v : V} {d : PyData}, DA K G v d → DA K H v d
  | _, _, .non => .non
  | _, _, .bl b => .bl b
  | _, _, .int i => .int i
  | _, _, .str x => .str x
  | _, _, .lst h r => .lst (e _ _ h) (DAs.mono e r)
  | _, _, .tup h r => .tup (sub_t e h) (DAs.mono e r)
  | _, _, .opq h => .opq (e _ _ h)
  | _, _, .obj h c r => .obj (e _ _ h) c (DFs.mono e r)
  | _, _, .exc h c r => .exc (e _ _ h) (e _ _ c) (DFs.mono e r)
  | _, _, .exn h => .exn (e _ _ h)
  | _, _, .adr => .adr
theorem DAs.mono (e : Sub G H) : ∀ {vs : List V} {ds : List PyData}, DAs K G vs ds → DAs K H vs ds
  | _, _, .nil => .nil
  | _, _, .cons h r => .cons (DA.mono e h) (DAs.mono e r)
theorem DFs.mono (e : Sub G H) : ∀ {fs : List (Str × V)} {ds : List (PyData × PyData)}, DFs K G fs ds → DFs K H fs ds
  | _, _, .nil => .nil
  | _, _, .cons h r => .cons (DA.mono e h) (DFs.mono e r)
end
theorem DAs.length : ∀ {vs : List V} {ds : List PyData}, DAs K G vs ds → vs.length = ds.length
  | _, _, .nil => rfl
  | _, _, .cons _ r => by rw [List.length_cons, List.length_cons, DAs.length r]
theorem DAs.get : ∀ {vs : List V} {ds : List PyData} {i : Nat} {d : PyData}, DAs K G vs ds → ds[i]? = some d → ∃ v, vs[i]? = some v ∧ DA K G v d
  | _, _, _, _, .nil, e => by simp at e
  | _, _, 0, _, .cons r _, e => by simp at e; subst e; exact ⟨_, rfl, r⟩
  | _, _, i + 1, x, .cons _ t, e => by
    obtain ⟨u, h1, h2⟩ := DAs.get (i := i) (d := x) t (by simpa using e)
    exact ⟨u, by simpa using h1, h2⟩
theorem DAs.getV : ∀ {vs : List V} {ds : List PyData} {i : Nat} {v : V}, DAs K G vs ds → vs[i]? = some v → ∃ d, ds[i]? = some d ∧ DA K G v d
  | _, _, _, _, .nil, e => by simp at e
  | _, _, 0, _, .cons r _, e => by simp at e; subst e; exact ⟨_, rfl, r⟩
  | _, _, i + 1, x, .cons _ t, e => by
    obtain ⟨u, h1, h2⟩ := DAs.getV (i := i) (v := x) t (by simpa using e)
    exact ⟨u, by simpa using h1, h2⟩
theorem DAs.append : ∀ {vs ws : List V} {ds es : List PyData}, DAs K G vs ds → DAs K G ws es → DAs K G (vs ++ ws) (ds ++ es)
  | _, _, _, _, .nil, s => s
  | _, _, _, _, .cons h r, s => .cons h (DAs.append r s)
theorem DAs.take : ∀ (n : Nat) {vs : List V} {ds : List PyData}, DAs K G vs ds → DAs K G (vs.take n) (ds.take n)
  | 0, _, _, _ => .nil
  | _ + 1, _, _, .nil => .nil
  | n + 1, _, _, .cons h r => .cons h (DAs.take n r)
theorem DAs.drop : ∀ (n : Nat) {vs : List V} {ds : List PyData}, DAs K G vs ds → DAs K G (vs.drop n) (ds.drop n)
  | 0, _, _, h => h
  | _ + 1, _, _, .nil => .nil
  | n + 1, _, _, .cons _ r => DAs.drop n r
theorem DAs.reverse : ∀ {vs : List V} {ds : List PyData}, DAs K G vs ds → DAs K G vs.reverse ds.reverse
  | _, _, .nil => .nil
  | _, _, .cons h r => by
    rw [List.reverse_cons, List.reverse_cons]
    exact DAs.append (DAs.reverse r) (.cons h .nil)
theorem DAs.set : ∀ (i : Nat) {vs : List V} {ds : List PyData} {v : V} {d : PyData}, DA K G v d → DAs K G vs ds → DAs K G (vs.set i v) (ds.set i d)
  | _, _, _, _, _, _, .nil => .nil
  | 0, _, _, _, _, h, .cons _ r => .cons h r
  | i + 1, _, _, _, _, h, .cons q r => .cons q (DAs.set i h r)
theorem DAs.dropLast {vs : List V} {ds : List PyData} (h : DAs K G vs ds) : DAs K G vs.dropLast ds.dropLast := by
  rw [List.dropLast_eq_take, List.dropLast_eq_take, h.length]
  exact h.take _
theorem DAs.rep {vs : List V} {ds : List PyData} (h : DAs K G vs ds) : ∀ k : Nat, DAs K G (List.replicate k vs).flatten (List.replicate k ds).flatten
  | 0 => .nil
  | k + 1 => by
    rw [List.replicate_succ, List.replicate_succ, List.flatten_cons, List.flatten_cons]
    exact h.append (h.rep k)
theorem DAs.nil_iff {vs : List V} {ds : List PyData} (h : DAs K G vs ds) : vs = [] ↔ ds = [] := by
  cases h with
  | nil => simp
  | cons _ _ => simp
theorem DAs.ints : ∀ {ns : List Int}, DAs K G (ns.map V.int) (ns.map PyData.int)
  | [] => .nil
  | n :: r => .cons (.int n) DAs.ints
theorem DAs.of_ints : ∀ {ns : List Int} {vs : List V}, DAs K G vs (ns.map PyData.int) → vs = ns.map V.int
  | [], _, .nil => rfl
  | n :: r, _, .cons h t => by
    cases h
    rw [DAs.of_ints t]
    rfl
theorem DAs.of_bls : ∀ {ns : List Bool} {vs : List V}, DAs K G vs (ns.map PyData.bool) → vs = ns.map V.bl
  | [], _, .nil => rfl
  | n :: r, _, .cons h t => by
    cases h
    rw [DAs.of_bls t]
    rfl
end

/-! ### the state at hand -/
inductive Sl where
  | d (x : PyData)
  | own (xs : List PyData)
  | pen (c : Nat)
abbrev En := List (Option Sl)

/-- what a pen's dict holds -/
structure PenD (kvs : List (Key × V)) (ca : Addr) (at_ dg ct bl : Int) : Prop where
  len : kvs.length = 5
  cells : valV kvs (Sum.inr "cells" : Key) = some (.ref ca)
  at_ : valV kvs (Sum.inr "at" : Key) = some (.int at_)
  digits : valV kvs (Sum.inr "digits" : Key) = some (.int dg)
  count : valV kvs (Sum.inr "count" : Key) = some (.int ct)
  blend : valV kvs (Sum.inr "blend" : Key) = some (.int bl)
/-- the law's pen, at p, at most c draws behind it -/
structure PenAt (K : PySem.W.Frag) (G H : Hp) (p : Addr) (c : Nat) : Prop where
  ex : ∃ (kvs : List (Key × V)) (ca : Addr) (ns : List Int) (at_ dg ct bl : Int), H p = some (.dK kvs) ∧ PenD kvs ca at_ dg ct bl ∧
    G ca = some (.lst (ns.map V.int)) ∧ ns.length ≤ 63 ∧ 0 ≤ at_ ∧ 0 ≤ dg ∧ 0 ≤ ct ∧ ct ≤ c ∧ 0 ≤ bl ∧ bl < 2147483648
theorem PenAt.mono {K : PySem.W.Frag} {G G' H H' : Hp} {p : Addr} {c c' : Nat} (h : PenAt K G H p c) (g : Sub G G') (k : ∀ o, H p = some o → H' p = some o) (hc : c ≤ c') : PenAt K G' H' p c' := by
  obtain ⟨kvs, ca, ns, a, d, t, b, h1, hp, h2, h3, h4, h5, h6, h7, h8⟩ := h.ex
  exact ⟨kvs, ca, ns, a, d, t, b, k _ h1, hp, g _ _ h2, h3, h4, h5, h6, by omega, h8⟩
theorem PenAt.there {K : PySem.W.Frag} {G H : Hp} {p : Addr} {c : Nat} (h : PenAt K G H p c) : ∃ kvs, H p = some (.dK kvs) := by
  obtain ⟨_, _, _, _, _, _, _, h1, _⟩ := h.ex
  exact ⟨_, h1⟩

/-- where a piece of code began: G0 what stood for ever, P what it must leave as it is, T what was tracked -/
structure Bs where
  G0 : Hp
  P : Hp
  T : Addr → Prop
  pp : Addr

structure SA (K : PySem.W.Frag) (b : Bs) (G H : Hp) (σ : L2.St) (ρ : En) : Prop where
  sub : Sub G H
  gg : Sub b.G0 G
  new : ∀ a, b.G0 a = none → b.T a → G a = none
  keep : Sub b.P H
  trk : ∀ a, b.T a → H a ≠ none
  ptr : ∀ a, b.P a ≠ none → b.T a
  gtr : ∀ a, b.G0 a ≠ none → b.T a
  dat : ∀ (i : Nat) (x : PyData), ρ[i]? = some (some (Sl.d x)) → ∃ v, σ[i]? = some (some v) ∧ DA K G v x
  own : ∀ (i : Nat) (xs : List PyData), ρ[i]? = some (some (Sl.own xs)) → ∃ a vs, σ[i]? = some (some (.ref a)) ∧ G a = none ∧ b.P a = none ∧ H a = some (.lst vs) ∧ DAs K G vs xs ∧ ¬ b.T a
  sep : ∀ (i j : Nat) (xs ys : List PyData) (a : Addr), ρ[i]? = some (some (Sl.own xs)) → ρ[j]? = some (some (Sl.own ys)) → i ≠ j → σ[i]? = some (some (.ref a)) → σ[j]? ≠ some (some (.ref a))
  pen : ∀ (i c : Nat), ρ[i]? = some (some (Sl.pen c)) → ∃ p, σ[i]? = some (some (.ref p)) ∧ G p = none ∧ b.P p = none ∧ PenAt K G H p c
  penp : ∀ (i c : Nat), ρ[i]? = some (some (Sl.pen c)) → σ[i]? = some (some (.ref b.pp))
  onep : ∀ (i j c c' : Nat), ρ[i]? = some (some (Sl.pen c)) → ρ[j]? = some (some (Sl.pen c')) → i = j
  len : σ.length = ρ.length

/-- one step that only lays new things -/
structure Step (G H G2 H2 : Hp) : Prop where
  gg : Sub G G2
  sub : Sub G2 H2
  hh : Sub H H2
  new : ∀ a, G a = none → H a ≠ none → G2 a = none
theorem Step.refl {G H : Hp} (s : Sub G H) : Step G H G H := ⟨Sub.refl G, s, Sub.refl H, fun _ h _ => h⟩
theorem Step.trans {G H G1 H1 G2 H2 : Hp} (a : Step G H G1 H1) (b : Step G1 H1 G2 H2) : Step G H G2 H2 :=
  ⟨a.gg.trans b.gg, b.sub, a.hh.trans b.hh, fun x h t => b.new x (a.new x h t) fun z => t ((a.hh).none z)⟩
theorem Step.lay {G H : Hp} (s : Sub G H) {p : Addr} (o : HO) (h : H p = none) : Step G H (upd G p o) (upd H p o) := by
  have hg : G p = none := s.none h
  refine ⟨fun a u e => ?_, fun a u e => ?_, fun a u e => ?_, fun a e t => ?_⟩
  · rw [upd_ne (ne_of_none e hg)]; exact e
  · by_cases ha : a = p
    · subst ha; rw [upd_same] at e ⊢; exact e
    · rw [upd_ne ha] at e ⊢; exact s a u e
  · rw [upd_ne (ne_of_none e h)]; exact e
  · by_cases ha : a = p
    · subst ha; exact absurd h t
    · rw [upd_ne ha]; exact e
/-- a thing laid that is not for ever -/
theorem Step.layH {G H : Hp} (s : Sub G H) {p : Addr} (o : HO) (h : H p = none) : Step G H G (upd H p o) := by
  refine ⟨Sub.refl G, fun a u e => ?_, fun a u e => ?_, fun a e t => e⟩
  · rw [upd_ne (ne_of_none (s a u e) h)]; exact s a u e
  · rw [upd_ne (ne_of_none e h)]; exact e

section
variable {K : PySem.W.Frag} {b : Bs} {G H G2 H2 : Hp} {σ : L2.St} {ρ : En}
theorem SA.step (S : SA K b G H σ ρ) (t : Step G H G2 H2) : SA K b G2 H2 σ ρ where
  sub := t.sub
  gg := S.gg.trans t.gg
  new := fun a h q => t.new a (S.new a h q) (S.trk a q)
  keep := S.keep.trans t.hh
  trk := fun a q z => S.trk a q (t.hh.none z)
  ptr := S.ptr
  gtr := S.gtr
  dat := fun i x e => let ⟨v, h1, h2⟩ := S.dat i x e; ⟨v, h1, h2.mono t.gg⟩
  own := fun i xs e => let ⟨a, vs, h1, h2, h3, h4, h5, h6⟩ := S.own i xs e; ⟨a, vs, h1, t.new a h2 (by rw [h4]; exact fun z => nomatch z), h3, t.hh _ _ h4, h5.mono t.gg, h6⟩
  sep := S.sep
  pen := fun i c e => let ⟨p, h1, h2, h3, h4⟩ := S.pen i c e; ⟨p, h1, t.new p h2 (by obtain ⟨_, q⟩ := h4.there; rw [q]; exact fun z => nomatch z), h3, h4.mono t.gg (fun o q => t.hh _ _ q) (Nat.le_refl _)⟩
  penp := S.penp
  onep := S.onep
  len := S.len
/-- no list of one's own stands at a -/
def NoOwn (σ : L2.St) (ρ : En) (a : Addr) : Prop := ∀ (i : Nat) (xs : List PyData), ρ[i]? = some (some (Sl.own xs)) → σ[i]? ≠ some (some (V.ref a))
/-- the same state, told from here on -/
abbrev Bs.here (b : Bs) (G H : Hp) (σ : L2.St) (ρ : En) : Bs := ⟨G, b.P, fun a => H a ≠ none ∧ NoOwn σ ρ a, b.pp⟩
theorem SA.noG (S : SA K b G H σ ρ) {a : Addr} (h : G a ≠ none) : NoOwn σ ρ a := fun i xs e z => by
  obtain ⟨a', _, h1, h2, _⟩ := S.own i xs e
  rw [z] at h1
  cases h1
  exact h h2
theorem SA.noP (S : SA K b G H σ ρ) {a : Addr} (h : b.P a ≠ none) : NoOwn σ ρ a := fun i xs e z => by
  obtain ⟨a', _, h1, _, h2, _⟩ := S.own i xs e
  rw [z] at h1
  cases h1
  exact h h2
theorem SA.noT (S : SA K b G H σ ρ) {a : Addr} (h : b.T a) : NoOwn σ ρ a := fun i xs e z => by
  obtain ⟨a', _, h1, _, _, _, _, h2⟩ := S.own i xs e
  rw [z] at h1
  cases h1
  exact h2 h
theorem SA.here (S : SA K b G H σ ρ) : SA K (b.here G H σ ρ) G H σ ρ where
  sub := S.sub
  gg := Sub.refl G
  new := fun a h _ => h
  keep := S.keep
  trk := fun a h => h.1
  ptr := fun a h => by
    refine ⟨?_, S.noP h⟩
    cases e : b.P a with
    | none => exact absurd e h
    | some o =>
      rw [S.keep a o e]
      exact fun z => nomatch z
  gtr := fun a h => by
    refine ⟨?_, S.noG h⟩
    cases e : G a with
    | none => exact absurd e h
    | some o =>
      rw [S.sub a o e]
      exact fun z => nomatch z
  dat := S.dat
  own := fun i xs e => by
    obtain ⟨a, vs, h1, h2, h3, h4, h5, _⟩ := S.own i xs e
    exact ⟨a, vs, h1, h2, h3, h4, h5, fun z => z.2 i xs e h1⟩
  sep := S.sep
  pen := S.pen
  penp := S.penp
  onep := S.onep
  len := S.len
theorem SA.back {σ' : L2.St} {ρ' : En} (S : SA K b G H σ ρ) (S' : SA K (b.here G H σ ρ) G2 H2 σ' ρ') : SA K b G2 H2 σ' ρ' where
  sub := S'.sub
  gg := S.gg.trans S'.gg
  new := fun a h q => S'.new a (S.new a h q) ⟨S.trk a q, S.noT q⟩
  keep := S'.keep
  trk := fun a q => S'.trk a ⟨S.trk a q, S.noT q⟩
  ptr := S.ptr
  gtr := S.gtr
  dat := S'.dat
  own := fun i xs e => by
    obtain ⟨a, vs, h1, h2, h3, h4, h5, h6⟩ := S'.own i xs e
    exact ⟨a, vs, h1, h2, h3, h4, h5, fun z => h6 ⟨S.trk a z, S.noT z⟩⟩
  sep := S'.sep
  pen := S'.pen
  penp := S'.penp
  onep := S'.onep
  len := S'.len
end

/-! ### readings that come to data -/
def Ev (K : PySem.W.Frag) (te : TE) (ρ : En) (R : En → PyData → Prop) : Prop :=
  ∀ b G H σ, SA K b G H σ ρ → ∀ Q : VK, (∀ v x ρ' G2 H2, R ρ' x → SA K b G2 H2 σ ρ' → DA K G2 v x → Q v H2) → te σ H Q
def EvT (K : PySem.W.Frag) (tt : TT) (ρ : En) (R : En → Bool → Prop) : Prop :=
  ∀ b G H σ, SA K b G H σ ρ → ∀ Q : Bool → Hp → Prop, (∀ x ρ' G2 H2, R ρ' x → SA K b G2 H2 σ ρ' → Q x H2) → tt σ H Q
def EvA (K : PySem.W.Frag) (ta : TA) (ρ : En) (R : En → List PyData → Prop) : Prop :=
  ∀ b G H σ, SA K b G H σ ρ → ∀ Q : List V → Hp → Prop, (∀ vs xs ρ' G2 H2, R ρ' xs → SA K b G2 H2 σ ρ' → DAs K G2 vs xs → Q vs H2) → ta σ H Q
abbrev Ed (K : PySem.W.Frag) (te : TE) (ρ : En) (x : PyData) : Prop := Ev K te ρ fun ρ' y => ρ' = ρ ∧ y = x
abbrev Eb (K : PySem.W.Frag) (tt : TT) (ρ : En) (x : Bool) : Prop := EvT K tt ρ fun ρ' y => ρ' = ρ ∧ y = x
abbrev Ea (K : PySem.W.Frag) (ta : TA) (ρ : En) (xs : List PyData) : Prop := EvA K ta ρ fun ρ' ys => ρ' = ρ ∧ ys = xs
/-- a two-place operation on values -/
def RD (K : PySem.W.Frag) (r : R2) (x y z : PyData) : Prop := ∀ G H v w, Sub G H → DA K G v x → DA K G w y → ∀ Q : VK, (∀ u G2 H2, Step G H G2 H2 → DA K G2 u z → Q u H2) → r v w H Q
/-- a one-place one; a call on values -/
def RU (K : PySem.W.Frag) (r : V → Hp → VK → Prop) (x z : PyData) : Prop := ∀ G H v, Sub G H → DA K G v x → ∀ Q : VK, (∀ u G2 H2, Step G H G2 H2 → DA K G2 u z → Q u H2) → r v H Q
def RC (K : PySem.W.Frag) (r : List V → Hp → VK → Prop) (xs : List PyData) (z : PyData) : Prop := ∀ G H vs, Sub G H → DAs K G vs xs → ∀ Q : VK, (∀ u G2 H2, Step G H G2 H2 → DA K G2 u z → Q u H2) → r vs H Q

section
variable {K : PySem.W.Frag} {ta tb te : TE} {t u : TT} {tl : TA} {ρ : En} {x y z : PyData} {r : R2}
/-- with what stood kept for ever -/
theorem Ev.runG {R : En → PyData → Prop} (h : Ev K te ρ R) {b : Bs} {G H : Hp} {σ : L2.St} (S : SA K b G H σ ρ) {Q : VK}
    (q : ∀ v x ρ' G2 H2, R ρ' x → SA K b G2 H2 σ ρ' → Sub G G2 → DA K G2 v x → Q v H2) : te σ H Q :=
  h _ G H σ S.here Q fun v x ρ' G2 H2 hr S2 hd => q v x ρ' G2 H2 hr (S.back S2) S2.gg hd
theorem EvT.runG {R : En → Bool → Prop} (h : EvT K t ρ R) {b : Bs} {G H : Hp} {σ : L2.St} (S : SA K b G H σ ρ) {Q : Bool → Hp → Prop}
    (q : ∀ x ρ' G2 H2, R ρ' x → SA K b G2 H2 σ ρ' → Sub G G2 → Q x H2) : t σ H Q :=
  h _ G H σ S.here Q fun x ρ' G2 H2 hr S2 => q x ρ' G2 H2 hr (S.back S2) S2.gg
theorem EvA.runG {R : En → List PyData → Prop} (h : EvA K tl ρ R) {b : Bs} {G H : Hp} {σ : L2.St} (S : SA K b G H σ ρ) {Q : List V → Hp → Prop}
    (q : ∀ vs xs ρ' G2 H2, R ρ' xs → SA K b G2 H2 σ ρ' → Sub G G2 → DAs K G2 vs xs → Q vs H2) : tl σ H Q :=
  h _ G H σ S.here Q fun v x ρ' G2 H2 hr S2 hd => q v x ρ' G2 H2 hr (S.back S2) S2.gg hd
theorem Ev.imp {R R' : En → PyData → Prop} (h : Ev K te ρ R) (i : ∀ ρ' x, R ρ' x → R' ρ' x) : Ev K te ρ R' := fun b G H σ S Q q => h b G H σ S Q fun v x ρ' G2 H2 hr S2 hd => q v x ρ' G2 H2 (i _ _ hr) S2 hd
theorem EvT.imp {R R' : En → Bool → Prop} (h : EvT K t ρ R) (i : ∀ ρ' x, R ρ' x → R' ρ' x) : EvT K t ρ R' := fun b G H σ S Q q => h b G H σ S Q fun x ρ' G2 H2 hr S2 => q x ρ' G2 H2 (i _ _ hr) S2
theorem EvA.imp {R R' : En → List PyData → Prop} (h : EvA K tl ρ R) (i : ∀ ρ' x, R ρ' x → R' ρ' x) : EvA K tl ρ R' := fun b G H σ S Q q => h b G H σ S Q fun v x ρ' G2 H2 hr S2 hd => q v x ρ' G2 H2 (i _ _ hr) S2 hd
theorem ed_var {i : Nat} (h : ρ[i]? = some (some (Sl.d x))) : Ed K (tVar i) ρ x := fun b G H σ S Q q => by
  obtain ⟨v, hv, hd⟩ := S.dat i x h
  exact ⟨v, hv, q v x ρ G H ⟨rfl, rfl⟩ S hd⟩
theorem ed_int {i : Int} : Ed K (tC (.int i)) ρ (.int i) := fun b G H σ S Q q => q _ _ ρ G H ⟨rfl, rfl⟩ S (.int i)
theorem ed_bl {i : Bool} : Ed K (tC (.bl i)) ρ (.bool i) := fun b G H σ S Q q => q _ _ ρ G H ⟨rfl, rfl⟩ S (.bl i)
theorem ed_non : Ed K (tC .non) ρ .none := fun b G H σ S Q q => q _ _ ρ G H ⟨rfl, rfl⟩ S .non
theorem ed_str {i : Str} : Ed K (tC (.str i)) ρ (.str i) := fun b G H σ S Q q => q _ _ ρ G H ⟨rfl, rfl⟩ S (.str i)
theorem Ed.to (h : Ed K te ρ x) (e : x = y) : Ed K te ρ y := e ▸ h
theorem Eb.to {c d : Bool} (h : Eb K t ρ c) (e : c = d) : Eb K t ρ d := e ▸ h

/-! two places -/
theorem ev_op {R1 : En → PyData → Prop} {R : En → PyData → Prop} {R2 : PyData → En → PyData → Prop} (ha : Ev K ta ρ R1) (hb : ∀ ρ1 x, R1 ρ1 x → Ev K tb ρ1 (R2 x))
    (hr : ∀ ρ1 x ρ2 y, R1 ρ1 x → R2 x ρ2 y → ∃ z, RD K r x y z ∧ R ρ2 z) : Ev K (tOp r ta tb) ρ R := fun b G H σ S Q q =>
  ha _ G H σ S _ fun v x ρ1 G1 H1 h1 S1 d1 => (hb ρ1 x h1).runG S1 fun w y ρ2 G2 H2 h2 S2 g d2 => by
    obtain ⟨z, rd, rz⟩ := hr ρ1 x ρ2 y h1 h2
    exact rd G2 H2 v w S2.sub (d1.mono g) d2 Q fun u G3 H3 st d3 => q u z ρ2 G3 H3 rz (S2.step st) d3
theorem ed_op (ha : Ed K ta ρ x) (hb : Ed K tb ρ y) (hr : RD K r x y z) : Ed K (tOp r ta tb) ρ z :=
  ev_op ha (R2 := fun _ ρ' y' => ρ' = ρ ∧ y' = y) (fun ρ1 x1 h => by obtain ⟨rfl, rfl⟩ := h; exact hb) fun ρ1 x1 ρ2 y1 h1 h2 => by
    obtain ⟨rfl, rfl⟩ := h1
    obtain ⟨rfl, rfl⟩ := h2
    exact ⟨z, hr, rfl, rfl⟩
theorem ev_un {R1 R : En → PyData → Prop} {r : V → Hp → VK → Prop} (ha : Ev K ta ρ R1) (hr : ∀ ρ1 x, R1 ρ1 x → ∃ z, RU K r x z ∧ R ρ1 z) : Ev K (tUn r ta) ρ R := fun b G H σ S Q q =>
  ha _ G H σ S _ fun v x ρ1 G1 H1 h1 S1 d1 => by
    obtain ⟨z, rd, rz⟩ := hr ρ1 x h1
    exact rd G1 H1 v S1.sub d1 Q fun u G3 H3 st d3 => q u z ρ1 G3 H3 rz (S1.step st) d3
theorem ed_un {r : V → Hp → VK → Prop} (ha : Ed K ta ρ x) (hr : RU K r x z) : Ed K (tUn r ta) ρ z := ev_un ha fun ρ1 x1 h => by
  obtain ⟨rfl, rfl⟩ := h
  exact ⟨z, hr, rfl, rfl⟩

/-! arguments -/
theorem ea_nil : Ea K tNil ρ [] := fun b G H σ S Q q => q _ _ ρ G H ⟨rfl, rfl⟩ S .nil
theorem eva_nil {R : En → List PyData → Prop} (h : R ρ []) : EvA K tNil ρ R := fun b G H σ S Q q => q _ _ ρ G H h S .nil
theorem eva_cons {R1 : En → PyData → Prop} {R2 : PyData → En → List PyData → Prop} {R : En → List PyData → Prop} (ha : Ev K ta ρ R1) (hb : ∀ ρ1 x, R1 ρ1 x → EvA K tl ρ1 (R2 x))
    (hr : ∀ ρ1 x ρ2 xs, R1 ρ1 x → R2 x ρ2 xs → R ρ2 (x :: xs)) : EvA K (tCons ta tl) ρ R := fun b G H σ S Q q =>
  ha _ G H σ S _ fun v x ρ1 G1 H1 h1 S1 d1 => (hb ρ1 x h1).runG S1 fun vs xs ρ2 G2 H2 h2 S2 g d2 => q (v :: vs) (x :: xs) ρ2 G2 H2 (hr _ _ _ _ h1 h2) S2 (.cons (d1.mono g) d2)
theorem ea_cons {xs : List PyData} (ha : Ed K ta ρ x) (hb : Ea K tl ρ xs) : Ea K (tCons ta tl) ρ (x :: xs) :=
  eva_cons ha (R2 := fun _ ρ' ys => ρ' = ρ ∧ ys = xs) (fun ρ1 x1 h => by obtain ⟨rfl, rfl⟩ := h; exact hb) fun ρ1 x1 ρ2 y1 h1 h2 => by
    obtain ⟨rfl, rfl⟩ := h1
    obtain ⟨rfl, rfl⟩ := h2
    exact ⟨rfl, rfl⟩
theorem ev_tup {R1 : En → List PyData → Prop} {R : En → PyData → Prop} (h : EvA K tl ρ R1) (hr : ∀ ρ1 xs, R1 ρ1 xs → xs.length ≤ 1000 ∧ R ρ1 (.tuple xs)) : Ev K (tTup tl) ρ R := fun b G H σ S Q q =>
  h _ G H σ S _ fun vs xs ρ1 G1 H1 h1 S1 d1 => ⟨by
    rw [d1.length]
    exact Nat.le_of_lt (small1000 (hr _ _ h1).1), fun p hp => q (.ref p) (.tuple xs) ρ1 _ _ (hr _ _ h1).2 (S1.step (Step.lay S1.sub (.tup vs) hp)) (.tup (SqT.of upd_same) (d1.mono (Step.lay S1.sub (.tup vs) hp).gg))⟩
theorem ed_tup {xs : List PyData} (h : Ea K tl ρ xs) (hl : xs.length ≤ 1000) : Ed K (tTup tl) ρ (.tuple xs) := ev_tup h fun ρ1 ys e => by
  obtain ⟨rfl, rfl⟩ := e
  exact ⟨hl, rfl, rfl⟩
theorem ev_lst {R1 : En → List PyData → Prop} {R : En → PyData → Prop} (h : EvA K tl ρ R1) (hr : ∀ ρ1 xs, R1 ρ1 xs → xs.length ≤ 1000 ∧ R ρ1 (.list xs)) : Ev K (tLst tl) ρ R := fun b G H σ S Q q =>
  h _ G H σ S _ fun vs xs ρ1 G1 H1 h1 S1 d1 => ⟨by
    rw [d1.length]
    exact Nat.le_of_lt (small1000 (hr _ _ h1).1), fun p hp => q (.ref p) (.list xs) ρ1 _ _ (hr _ _ h1).2 (S1.step (Step.lay S1.sub (.lst vs) hp)) (.lst upd_same (d1.mono (Step.lay S1.sub (.lst vs) hp).gg))⟩
theorem ed_lst {xs : List PyData} (h : Ea K tl ρ xs) (hl : xs.length ≤ 1000) : Ed K (tLst tl) ρ (.list xs) := ev_lst h fun ρ1 ys e => by
  obtain ⟨rfl, rfl⟩ := e
  exact ⟨hl, rfl, rfl⟩
/-- a built-in called -/
theorem ev_cb {R1 : En → List PyData → Prop} {R : En → PyData → Prop} {r : List V → Hp → VK → Prop} (h : EvA K tl ρ R1) (hr : ∀ ρ1 xs, R1 ρ1 xs → ∃ z, RC K r xs z ∧ R ρ1 z) : Ev K (tCB r tl) ρ R := fun b G H σ S Q q =>
  h _ G H σ S _ fun vs xs ρ1 G1 H1 h1 S1 d1 => by
    obtain ⟨z, rc, rz⟩ := hr _ _ h1
    exact rc G1 H1 vs S1.sub d1 Q fun u G3 H3 st d3 => q u z ρ1 G3 H3 rz (S1.step st) d3
theorem ed_cb {r : List V → Hp → VK → Prop} {xs : List PyData} (h : Ea K tl ρ xs) (hr : RC K r xs z) : Ed K (tCB r tl) ρ z := ev_cb h fun ρ1 ys e => by
  obtain ⟨rfl, rfl⟩ := e
  exact ⟨z, hr, rfl, rfl⟩

/-! tests -/
theorem evt_test {R1 : En → PyData → Prop} {R : En → Bool → Prop} (h : Ev K te ρ R1) (hr : ∀ ρ1 x, R1 ρ1 x → ∃ c, x = .bool c ∧ R ρ1 c) : EvT K (tTest te) ρ R := fun b G H σ S Q q =>
  h _ G H σ S _ fun v x ρ1 G1 H1 h1 S1 d1 => by
    obtain ⟨c, rfl, hc⟩ := hr _ _ h1
    cases d1
    exact ⟨c, rfl, q c ρ1 G1 H1 hc S1⟩
theorem eb_test {c : Bool} (h : Ed K te ρ (.bool c)) : Eb K (tTest te) ρ c := evt_test h fun ρ1 y e => by
  obtain ⟨rfl, rfl⟩ := e
  exact ⟨c, rfl, rfl, rfl⟩
theorem eb_B {c : Bool} (h : Ed K te ρ (.bool c)) : Eb K (tB te) ρ c := eb_test h
theorem eb_not {c : Bool} (h : Eb K t ρ c) : Eb K (tNot t) ρ (!c) := fun b G H σ S Q q => h _ G H σ S _ fun x ρ1 G1 H1 h1 S1 => by
  obtain ⟨rfl, rfl⟩ := h1
  exact q _ _ G1 H1 ⟨rfl, rfl⟩ S1
theorem eb_and {c d : Bool} (h : Eb K t ρ c) (h2 : c = true → Eb K u ρ d) : Eb K (tAnd t u) ρ (c && d) := fun b G H σ S Q q => h _ G H σ S _ fun x ρ1 G1 H1 h1 S1 => by
  obtain ⟨rfl, rfl⟩ := h1
  cases x with
  | true =>
    show u σ H1 Q
    exact h2 rfl _ G1 H1 σ S1 Q fun x ρ2 G2 H2 e S2 => q x ρ2 G2 H2 e S2
  | false =>
    show Q false H1
    exact q _ _ G1 H1 ⟨rfl, rfl⟩ S1
theorem eb_or {c d : Bool} (h : Eb K t ρ c) (h2 : c = false → Eb K u ρ d) : Eb K (tOr t u) ρ (c || d) := fun b G H σ S Q q => h _ G H σ S _ fun x ρ1 G1 H1 h1 S1 => by
  obtain ⟨rfl, rfl⟩ := h1
  cases x with
  | true =>
    show Q true H1
    exact q _ _ G1 H1 ⟨rfl, rfl⟩ S1
  | false =>
    show u σ H1 Q
    exact h2 rfl _ G1 H1 σ S1 Q fun x ρ2 G2 H2 e S2 => q x ρ2 G2 H2 e S2
theorem ed_andV {c d : Bool} (h : Ed K ta ρ (.bool c)) (h2 : c = true → Ed K tb ρ (.bool d)) : Ed K (tAndV ta tb) ρ (.bool (c && d)) := fun b G H σ S Q q => h _ G H σ S _ fun v x ρ1 G1 H1 h1 S1 d1 => by
  obtain ⟨rfl, rfl⟩ := h1
  cases d1
  refine ⟨c, rfl, ?_⟩
  cases c with
  | true =>
    show tb σ H1 Q
    exact h2 rfl _ G1 H1 σ S1 Q q
  | false =>
    show Q (.bl false) H1
    exact q _ _ _ G1 H1 ⟨rfl, rfl⟩ S1 (.bl false)
theorem ed_orV {c d : Bool} (h : Ed K ta ρ (.bool c)) (h2 : c = false → Ed K tb ρ (.bool d)) : Ed K (tOrV ta tb) ρ (.bool (c || d)) := fun b G H σ S Q q => h _ G H σ S _ fun v x ρ1 G1 H1 h1 S1 d1 => by
  obtain ⟨rfl, rfl⟩ := h1
  cases d1
  refine ⟨c, rfl, ?_⟩
  cases c with
  | true =>
    show Q (.bl true) H1
    exact q _ _ _ G1 H1 ⟨rfl, rfl⟩ S1 (.bl true)
  | false =>
    show tb σ H1 Q
    exact h2 rfl _ G1 H1 σ S1 Q q
theorem ed_notV {c : Bool} (h : Ed K ta ρ (.bool c)) : Ed K (tNotV ta) ρ (.bool (!c)) := fun b G H σ S Q q => h _ G H σ S _ fun v x ρ1 G1 H1 h1 S1 d1 => by
  obtain ⟨rfl, rfl⟩ := h1
  cases d1
  exact ⟨c, rfl, q _ _ _ G1 H1 ⟨rfl, rfl⟩ S1 (.bl _)⟩
theorem ev_if {R : En → PyData → Prop} {c : Bool} (h : Eb K t ρ c) (h1 : c = true → Ev K ta ρ R) (h2 : c = false → Ev K tb ρ R) : Ev K (tIf t ta tb) ρ R := fun b G H σ S Q q => h _ G H σ S _ fun x ρ1 G1 H1 e S1 => by
  obtain ⟨rfl, rfl⟩ := e
  cases x with
  | true =>
    show ta σ H1 Q
    exact h1 rfl _ G1 H1 σ S1 Q q
  | false =>
    show tb σ H1 Q
    exact h2 rfl _ G1 H1 σ S1 Q q
end
end RS
end
section
set_option Elab.async false
set_option linter.all false
set_option autoImplicit false
set_option maxRecDepth 100000
set_option maxHeartbeats 2000000
/-! RS2: operations over data -/
namespace RS
open PySem L2
section
variable {K : PySem.W.Frag} {ta tb te : TE} {t u : TT} {tl : TA} {ρ : En} {x y z : PyData} {r r' : R2} {i j : Int}
theorem RD.val {r : R2} {x y z : PyData} (h : ∀ G H v w, Sub G H → DA K G v x → DA K G w y → ∃ u, DA K G u z ∧ ∀ Q : VK, Q u H → r v w H Q) : RD K r x y z := fun G H v w s d1 d2 Q q => by
  obtain ⟨u, du, k⟩ := h G H v w s d1 d2
  exact k Q (q u G H (Step.refl s) du)
theorem rd_I0 {g : Int → Int → V} {g' : Int → Int → PyData} (hg : ∀ G i j, DA K G (g i j) (g' i j)) : RD K (rI0 g) (.int i) (.int j) (g' i j) := RD.val fun G H v w s d1 d2 => by
  cases d1; cases d2
  exact ⟨_, hg G i j, fun Q q => ⟨i, j, rfl, rfl, q⟩⟩
theorem rd_I {C : Int → Int → Prop} {g : Int → Int → V} {g' : Int → Int → PyData} (hg : ∀ G i j, DA K G (g i j) (g' i j)) (hc : C i j) : RD K (rI C g) (.int i) (.int j) (g' i j) := RD.val fun G H v w s d1 d2 => by
  cases d1; cases d2
  exact ⟨_, hg G i j, fun Q q => ⟨i, j, rfl, rfl, hc, q⟩⟩
theorem rd_add : RD K (rI0 fun i j => .int (i + j)) (.int i) (.int j) (.int (i + j)) := rd_I0 (g' := fun i j => .int (i + j)) fun _ _ _ => .int _
theorem rd_sub : RD K (rI0 fun i j => .int (i - j)) (.int i) (.int j) (.int (i - j)) := rd_I0 (g' := fun i j => .int (i - j)) fun _ _ _ => .int _
theorem rd_mul (hc : CMul i j) : RD K (rI CMul fun i j => .int (i * j)) (.int i) (.int j) (.int (i * j)) := rd_I (g' := fun i j => .int (i * j)) (fun _ _ _ => .int _) hc
theorem rd_mod (hc : 0 < j) : RD K (rI (fun _ j => 0 < j) fun i j => .int (i % j)) (.int i) (.int j) (.int (i % j)) := rd_I (C := fun _ j => 0 < j) (g' := fun i j => .int (i % j)) (fun _ _ _ => .int _) hc
theorem rd_fdiv (hc : CDiv i j) : RD K (rI CDiv fun i j => .int (i / j)) (.int i) (.int j) (.int (i / j)) := rd_I (g' := fun i j => .int (i / j)) (fun _ _ _ => .int _) hc
theorem rd_pow (hc : CPow i j) : RD K (rI CPow fun i j => .int (i ^ j.toNat)) (.int i) (.int j) (.int (i ^ j.toNat)) := rd_I (g' := fun i j => .int (i ^ j.toNat)) (fun _ _ _ => .int _) hc
theorem rd_lt : RD K (rI0 fun i j => .bl (decide (i < j))) (.int i) (.int j) (.bool (decide (i < j))) := rd_I0 (g' := fun i j => .bool (decide (i < j))) fun _ _ _ => .bl _
theorem rd_le : RD K (rI0 fun i j => .bl (decide (i ≤ j))) (.int i) (.int j) (.bool (decide (i ≤ j))) := rd_I0 (g' := fun i j => .bool (decide (i ≤ j))) fun _ _ _ => .bl _
theorem rd_gt : RD K (rI0 fun i j => .bl (decide (j < i))) (.int i) (.int j) (.bool (decide (j < i))) := rd_I0 (g' := fun i j => .bool (decide (j < i))) fun _ _ _ => .bl _
theorem rd_ge : RD K (rI0 fun i j => .bl (decide (j ≤ i))) (.int i) (.int j) (.bool (decide (j ≤ i))) := rd_I0 (g' := fun i j => .bool (decide (j ≤ i))) fun _ _ _ => .bl _
theorem RD.left (h : RD K r x y z) : RD K (fun x y H Q => r x y H Q ∨ r' x y H Q) x y z := fun G H v w s d1 d2 Q q => .inl (h G H v w s d1 d2 Q q)
theorem RD.right (h : RD K r' x y z) : RD K (fun x y H Q => r x y H Q ∨ r' x y H Q) x y z := fun G H v w s d1 d2 Q q => .inr (h G H v w s d1 d2 Q q)
theorem RU.left {r r' : V → Hp → VK → Prop} (h : RU K r x z) : RU K (fun x H Q => r x H Q ∨ r' x H Q) x z := fun G H v s d1 Q q => .inl (h G H v s d1 Q q)
theorem RC.left {r r' : List V → Hp → VK → Prop} {xs : List PyData} (h : RC K r xs z) : RC K (fun x H Q => r x H Q ∨ r' x H Q) xs z := fun G H v s d1 Q q => .inl (h G H v s d1 Q q)
theorem RC.right {r r' : List V → Hp → VK → Prop} {xs : List PyData} (h : RC K r' xs z) : RC K (fun x H Q => r x H Q ∨ r' x H Q) xs z := fun G H v s d1 Q q => .inr (h G H v s d1 Q q)

/-! deep equality -/
mutual
theorem DA.dp {G : Hp} : ∀ (d : PyData) (v : V), d.canLay0 = true → DA K G v d → Dp K G v d
  | .none, _, _, h => by cases h; exact .non
  | .bool b, _, _, h => by cases h; exact .bl b
  | .int i, _, _, h => by cases h; exact .int i
  | .str x, _, _, h => by cases h; exact .str x
  | .list ds, _, c, h => by
    cases h with
    | lst hs ha => exact .lst (SqL.of hs) (DAs.dp ds _ (by simpa only [PyData.canLay0] using c) ha)
  | .tuple ds, _, c, h => by
    cases h with
    | tup hs ha => exact .tup hs (DAs.dp ds _ (by simpa only [PyData.canLay0] using c) ha)
  | .dict _, _, c, _ => by simp [PyData.canLay0] at c
theorem DAs.dp {G : Hp} : ∀ (ds : List PyData) (vs : List V), PyData.canLayAll0 ds = true → DAs K G vs ds → DpAll K G vs ds
  | [], _, _, h => by cases h; exact .nil
  | d :: ds, _, c, h => by
    cases h with
    | cons h1 h2 =>
      have c' : (d.canLay0 && PyData.canLayAll0 ds) = true := by simpa only [PyData.canLayAll0] using c
      obtain ⟨c1, c2⟩ := Bool.and_eq_true_iff.mp c'
      exact .cons (DA.dp d _ c1 h1) (DAs.dp ds _ c2 h2)
end
mutual
theorem dp_mono {G H : Hp} (e : Sub G H) : ∀ (d : PyData) (v : V), Dp K G v d → Dp K H v d
  | .none, _, h => by cases h; exact .non
  | .bool b, _, h => by cases h; exact .bl b
  | .int i, _, h => by cases h; exact .int i
  | .str x, _, h => by cases h; exact .str x
  | .list ds, _, h => by
    cases h with
    | lst hs ha => exact .lst (Evl.ex_l e hs) (dps_mono e ds _ ha)
  | .tuple ds, _, h => by
    cases h with
    | tup hs ha => exact .tup (sub_t e hs) (dps_mono e ds _ ha)
  | .dict _, _, h => by cases h
theorem dps_mono {G H : Hp} (e : Sub G H) : ∀ (ds : List PyData) (vs : List V), DpAll K G vs ds → DpAll K H vs ds
  | [], _, h => by cases h; exact .nil
  | d :: ds, _, h => by
    cases h with
    | cons h1 h2 => exact .cons (dp_mono e d _ h1) (dps_mono e ds _ h2)
end
theorem DA.dpH {G H : Hp} {v : V} (s : Sub G H) (h : DA K G v x) (c : SeqAt.shaped x = true) : Dp K H v x := dp_mono s x v (DA.dp x v (SeqAt.canLay_of_shaped c) h)
theorem rd_eq (hx : SeqAt.shaped x = true) (hy : SeqAt.shaped y = true) : RD K (rEqD K) x y (.bool (PyData.eqv x y)) := RD.val fun G H v w s d1 d2 =>
  ⟨_, .bl _, fun Q q => ⟨x, y, d1.dpH s hx, d2.dpH s hy, hx, hy, q⟩⟩
theorem rd_ne (hx : SeqAt.shaped x = true) (hy : SeqAt.shaped y = true) : RD K (rNeD K) x y (.bool (!PyData.eqv x y)) := RD.val fun G H v w s d1 d2 =>
  ⟨_, .bl _, fun Q q => ⟨x, y, d1.dpH s hx, d2.dpH s hy, hx, hy, q⟩⟩
def isNon : PyData → Bool
  | .none => true
  | _ => false
theorem DA.isNon {G : Hp} {v : V} (h : DA K G v x) : decide (v = .non) = isNon x := by
  cases h <;> rfl
theorem rd_isN : RD K rIsN x .none (.bool (isNon x)) := RD.val fun G H v w s d1 d2 => by
  cases d2
  exact ⟨_, .bl _, fun Q q => ⟨rfl, by rw [← d1.isNon] at q; exact q⟩⟩
theorem rd_notN : RD K rNotN x .none (.bool (!isNon x)) := RD.val fun G H v w s d1 d2 => by
  cases d2
  exact ⟨_, .bl _, fun Q q => ⟨rfl, by rw [← d1.isNon] at q; exact q⟩⟩
theorem rd_isB {a b : Bool} : RD K rIsB (.bool a) (.bool b) (.bool (decide (a = b))) := RD.val fun G H v w s d1 d2 => by
  cases d1; cases d2
  exact ⟨_, .bl _, fun Q q => ⟨a, b, rfl, rfl, q⟩⟩
theorem rd_notB {a b : Bool} : RD K rNotB (.bool a) (.bool b) (.bool (!decide (a = b))) := RD.val fun G H v w s d1 d2 => by
  cases d1; cases d2
  exact ⟨_, .bl _, fun Q q => ⟨a, b, rfl, rfl, q⟩⟩

/-! sequences -/
theorem DA.tupH {G H : Hp} {v : V} {xs : List PyData} (s : Sub G H) (h : DA K G v (.tuple xs)) : ∃ a vs, v = .ref a ∧ SqT K H a vs ∧ SqT K G a vs ∧ DAs K G vs xs := by
  cases h with
  | tup hs ha => exact ⟨_, _, rfl, sub_t s hs, hs, ha⟩
theorem DA.lstH {G H : Hp} {v : V} {xs : List PyData} (s : Sub G H) (h : DA K G v (.list xs)) : ∃ a vs, v = .ref a ∧ H a = some (.lst vs) ∧ G a = some (.lst vs) ∧ DAs K G vs xs := by
  cases h with
  | lst hs ha => exact ⟨_, _, rfl, s _ _ hs, hs, ha⟩
theorem szK {n : Nat} (h : n ≤ 1000000) : n ≤ sizeLine := Nat.le_trans h (by decide)
theorem szK' {n : Nat} (h : n ≤ 1000000) : n < sizeLine := Nat.lt_of_le_of_lt h (by decide)
theorem rd_catT {xs ys : List PyData} (hl : xs.length + ys.length ≤ 1000000) : RD K (rCatA K) (.tuple xs) (.tuple ys) (.tuple (xs ++ ys)) := fun G H v w s d1 d2 Q q => by
  obtain ⟨a, vs, rfl, ha, hg, da⟩ := d1.tupH s
  obtain ⟨b, ws, rfl, hb, hgb, db⟩ := d2.tupH s
  refine ⟨a, b, vs, ws, rfl, rfl, ha, hb, szK (by rw [da.length, db.length]; exact hl), fun e => ?_, fun _ e => ?_, fun _ _ p hp => ?_⟩
  · have e' := da.nil_iff.mp e
    subst e'
    exact q _ G H (Step.refl s) (.tup hgb db)
  · have e' := db.nil_iff.mp e
    subst e'
    rw [List.append_nil] at q
    exact q _ G H (Step.refl s) (.tup hg da)
  · have st := Step.lay s (.tup (vs ++ ws)) hp
    exact q _ _ _ st (.tup (SqT.of upd_same) ((da.append db).mono st.gg))
theorem rd_catL {xs ys : List PyData} (hl : xs.length + ys.length ≤ 1000000) : RD K rCat (.list xs) (.list ys) (.list (xs ++ ys)) := fun G H v w s d1 d2 Q q => by
  obtain ⟨a, vs, rfl, ha, hg, da⟩ := d1.lstH s
  obtain ⟨b, ws, rfl, hb, hgb, db⟩ := d2.lstH s
  refine ⟨a, b, vs, ws, rfl, rfl, ha, hb, szK (by rw [da.length, db.length]; exact hl), fun p hp => ?_⟩
  have st := Step.lay s (.lst (vs ++ ws)) hp
  exact q _ _ _ st (.lst upd_same ((da.append db).mono st.gg))
theorem atI_DA {G : Hp} {vs : List V} {xs : List PyData} (h : DAs K G vs xs) {i : Int} {x : PyData} (e : atI xs i = some x) : ∃ v, atI vs i = some v ∧ DA K G v x := by
  unfold atI at e ⊢
  rw [h.length]
  cases hj : ixN xs.length i with
  | none => rw [hj] at e; cases e
  | some j =>
    rw [hj] at e
    exact h.get e
theorem rd_ixT {xs : List PyData} (e : atI xs i = some x) : RD K (rIx K) (.tuple xs) (.int i) x := RD.val fun G H v w s d1 d2 => by
  obtain ⟨a, vs, rfl, ha, hg, da⟩ := d1.tupH s
  cases d2
  obtain ⟨u, hu, du⟩ := atI_DA da e
  exact ⟨u, du, fun Q q => .inr (.inl ⟨a, vs, i, u, rfl, rfl, ha, hu, q⟩)⟩
theorem rd_ixL {xs : List PyData} (e : atI xs i = some x) : RD K (rIx K) (.list xs) (.int i) x := RD.val fun G H v w s d1 d2 => by
  obtain ⟨a, vs, rfl, ha, hg, da⟩ := d1.lstH s
  cases d2
  obtain ⟨u, hu, du⟩ := atI_DA da e
  exact ⟨u, du, fun Q q => .inl ⟨a, vs, i, u, rfl, rfl, SqL.of ha, hu, q⟩⟩
/-! calls -/
theorem DAs.one {G : Hp} {vs : List V} (h : DAs K G vs [x]) : ∃ v, vs = [v] ∧ DA K G v x := by
  cases h with
  | cons h1 h2 => cases h2; exact ⟨_, rfl, h1⟩
theorem rc_lenT {xs : List PyData} : RC K (fun vs H Q => ∃ p ys, vs = [.ref p] ∧ (SqL K H p ys ∨ SqT K H p ys) ∧ Q (.int ys.length) H) [.tuple xs] (.int xs.length) := fun G H vs s d Q q => by
  obtain ⟨v, rfl, d1⟩ := d.one
  obtain ⟨a, ws, rfl, ha, hg, da⟩ := d1.tupH s
  exact ⟨a, ws, rfl, .inr ha, by rw [da.length]; exact q _ G H (Step.refl s) (.int _)⟩
theorem rc_lenL {xs : List PyData} : RC K (fun vs H Q => ∃ p ys, vs = [.ref p] ∧ (SqL K H p ys ∨ SqT K H p ys) ∧ Q (.int ys.length) H) [.list xs] (.int xs.length) := fun G H vs s d Q q => by
  obtain ⟨v, rfl, d1⟩ := d.one
  obtain ⟨a, ws, rfl, ha, hg, da⟩ := d1.lstH s
  exact ⟨a, ws, rfl, .inl (SqL.of ha), by rw [da.length]; exact q _ G H (Step.refl s) (.int _)⟩
theorem rc_tupleL {xs : List PyData} : RC K (fun vs H Q => ∃ p ys, vs = [.ref p] ∧ ((SqL K H p ys ∧ ∀ l, H l = none → Q (.ref l) (upd H l (.tup ys))) ∨ (SqT K H p ys ∧ Q (.ref p) H))) [.list xs] (.tuple xs) := fun G H vs s d Q q => by
  obtain ⟨v, rfl, d1⟩ := d.one
  obtain ⟨a, ws, rfl, ha, hg, da⟩ := d1.lstH s
  refine ⟨a, ws, rfl, .inl ⟨SqL.of ha, fun l hl => ?_⟩⟩
  have st := Step.lay s (.tup ws) hl
  exact q _ _ _ st (.tup (SqT.of upd_same) (da.mono st.gg))
theorem rc_tupleT {xs : List PyData} : RC K (fun vs H Q => ∃ p ys, vs = [.ref p] ∧ ((SqL K H p ys ∧ ∀ l, H l = none → Q (.ref l) (upd H l (.tup ys))) ∨ (SqT K H p ys ∧ Q (.ref p) H))) [.tuple xs] (.tuple xs) := fun G H vs s d Q q => by
  obtain ⟨v, rfl, d1⟩ := d.one
  obtain ⟨a, ws, rfl, ha, hg, da⟩ := d1.tupH s
  exact ⟨a, ws, rfl, .inr ⟨ha, q _ G H (Step.refl s) (.tup hg da)⟩⟩
theorem rc_listT {xs : List PyData} : RC K (fun vs H Q => ∃ p ys, vs = [.ref p] ∧ (SqL K H p ys ∨ SqT K H p ys) ∧ ∀ l, H l = none → Q (.ref l) (upd H l (.lst ys))) [.tuple xs] (.list xs) := fun G H vs s d Q q => by
  obtain ⟨v, rfl, d1⟩ := d.one
  obtain ⟨a, ws, rfl, ha, hg, da⟩ := d1.tupH s
  refine ⟨a, ws, rfl, .inr ha, fun l hl => ?_⟩
  have st := Step.lay s (.lst ws) hl
  exact q _ _ _ st (.lst upd_same (da.mono st.gg))
theorem rc_listL {xs : List PyData} : RC K (fun vs H Q => ∃ p ys, vs = [.ref p] ∧ (SqL K H p ys ∨ SqT K H p ys) ∧ ∀ l, H l = none → Q (.ref l) (upd H l (.lst ys))) [.list xs] (.list xs) := fun G H vs s d Q q => by
  obtain ⟨v, rfl, d1⟩ := d.one
  obtain ⟨a, ws, rfl, ha, hg, da⟩ := d1.lstH s
  refine ⟨a, ws, rfl, .inl (SqL.of ha), fun l hl => ?_⟩
  have st := Step.lay s (.lst ws) hl
  exact q _ _ _ st (.lst upd_same (da.mono st.gg))
theorem rc_all {bs : List Bool} : RC K (rAll K) [.list (bs.map PyData.bool)] (.bool (bs.all id)) := fun G H vs s d Q q => by
  obtain ⟨v, rfl, d1⟩ := d.one
  obtain ⟨a, ws, rfl, ha, hg, da⟩ := d1.lstH s
  have e := da.of_bls
  subst e
  exact ⟨a, bs, rfl, SqL.of ha, q _ G H (Step.refl s) (.bl _)⟩
theorem rc_any {bs : List Bool} : RC K (rAny K) [.list (bs.map PyData.bool)] (.bool (bs.any id)) := fun G H vs s d Q q => by
  obtain ⟨v, rfl, d1⟩ := d.one
  obtain ⟨a, ws, rfl, ha, hg, da⟩ := d1.lstH s
  have e := da.of_bls
  subst e
  exact ⟨a, bs, rfl, SqL.of ha, q _ G H (Step.refl s) (.bl _)⟩
theorem rc_int : RC K (fun xs H Q => (∃ i, xs = [.int i] ∧ Q (.int i) H) ∨ ∃ k, xs = [.bl k] ∧ Q (.int (if k then 1 else 0)) H) [.int i] (.int i) := fun G H vs s d Q q => by
  obtain ⟨v, rfl, d1⟩ := d.one
  cases d1
  exact .inl ⟨i, rfl, q _ G H (Step.refl s) (.int _)⟩

/-! isinstance -/
def tyD : PyData → Option Value
  | .none => some (.type "NoneType")
  | .bool _ => some (.type "bool")
  | .int _ => some (.type "int")
  | .str _ => some (.type "str")
  | .list _ => some (.type "list")
  | .tuple _ => some (.type "tuple")
  | .dict [(.str _, .int _)] => some (.type "dict")
  | .dict _ => none
theorem sqT_ty {H : Hp} {a : Addr} {xs : List V} (h : SqT K H a xs) : TyX K H (.ref a) (.type "tuple") := by
  rcases h with (h | ⟨o, h⟩) | h
  · exact .base (.tup h)
  · exact .fTuple h
  · obtain ⟨o, its, n, hk, hc, _⟩ := h
    exact .kTuple hk hc
theorem DA.ty {G H : Hp} {v : V} {T : Value} (s : Sub G H) (h : DA K G v x) (e : tyD x = some T) : TyX K H v T := by
  cases h with
  | non => cases e; exact .base .non
  | bl b => cases e; exact .base (.bl b)
  | int i => cases e; exact .base (.int i)
  | str z => cases e; exact .base (.str z)
  | lst h1 _ => cases e; exact .base (.lst (s _ _ h1))
  | tup h1 _ => cases e; exact sqT_ty (sub_t s h1)
  | opq h1 => cases e; exact .base (.dK (s _ _ h1))
  | obj _ _ _ => cases e
  | exc _ _ _ => cases e
  | exn _ => cases e
  | adr => cases e
/-- isinstance(x, T) -/
theorem ev_isi {R1 R : En → PyData → Prop} {n : String} (h : Ev K te ρ R1) (hr : ∀ ρ1 x, R1 ρ1 x → ∃ T b, tyD x = some T ∧ PySem.W.kitOne K T (.type n) = some b ∧ R ρ1 (.bool b)) : Ev K (tCB (rIsi K) (tCons te (tCons (tC (.ty n)) tNil))) ρ R := fun b G H σ S Q q =>
  h _ G H σ S _ fun v x ρ1 G1 H1 h1 S1 d1 => by
    obtain ⟨T, b, e1, e2, e3⟩ := hr ρ1 x h1
    exact ⟨v, .ty n, T, .type n, b, rfl, .ty n, d1.ty S1.sub e1, e2, q _ _ ρ1 G1 H1 e3 S1 (.bl b)⟩
theorem ed_isi {n : String} {T : Value} {b : Bool} (h : Ed K te ρ x) (e1 : tyD x = some T) (e2 : PySem.W.kitOne K T (.type n) = some b) : Ed K (tCB (rIsi K) (tCons te (tCons (tC (.ty n)) tNil))) ρ (.bool b) := ev_isi h fun ρ1 y e => by
  obtain ⟨rfl, rfl⟩ := e
  exact ⟨T, b, e1, e2, rfl, rfl⟩
/-- isinstance(x, (T, U)) -/
theorem ed_isi2 {n m : String} {T : Value} {b : Bool} (h : Ed K te ρ x) (e1 : tyD x = some T) (e2 : PySem.W.kitAny K T [.type n, .type m] = some b) : Ed K (tCB (rIsiT K) (tCons te (tCons (tTup (tCons (tC (.ty n)) (tCons (tC (.ty m)) tNil))) tNil))) ρ (.bool b) := fun bs G H σ S Q q =>
  h _ G H σ S _ fun v y ρ1 G1 H1 h1 S1 d1 => by
    obtain ⟨rfl, rfl⟩ := h1
    refine ⟨by show 2 ≤ sizeLine; decide, fun p hp => ?_⟩
    have st := Step.layH S1.sub (.tup [.ty n, .ty m]) hp
    exact ⟨v, p, [.ty n, .ty m], T, [.type n, .type m], b, rfl, upd_same, .cons (.ty n) (.cons (.ty m) .nil), d1.ty st.sub e1, e2, q _ _ _ G1 _ ⟨rfl, rfl⟩ (S1.step st) (.bl b)⟩

/-! slices -/
theorem cutD {G : Hp} {vs : List V} {xs : List PyData} (h : DAs K G vs xs) (lo hi : Option Int) : DAs K G (cutV vs lo hi) ((xs.drop (HT.sIx xs.length 0 lo)).take (HT.sIx xs.length xs.length hi - HT.sIx xs.length 0 lo)) := by
  unfold cutV
  rw [h.length]
  exact (h.drop _).take _
def cutP (xs : List PyData) (lo hi : Option Int) : List PyData := (xs.drop (HT.sIx xs.length 0 lo)).take (HT.sIx xs.length xs.length hi - HT.sIx xs.length 0 lo)
def EvO (K : PySem.W.Frag) (to : TO) (ρ : En) (o : Option Int) : Prop :=
  ∀ b G H σ, SA K b G H σ ρ → ∀ Q : Option Int → Hp → Prop, (∀ G2 H2, SA K b G2 H2 σ ρ → Q o H2) → to σ H Q
theorem eo_none : EvO K tNoPart ρ none := fun b G H σ S Q q => q G H S
theorem eo_some {i : Int} (h : Ed K te ρ (.int i)) : EvO K (tPart te) ρ (some i) := fun b G H σ S Q q => h _ G H σ S _ fun v y ρ1 G1 H1 h1 S1 d1 => by
  obtain ⟨rfl, rfl⟩ := h1
  cases d1
  exact ⟨i, rfl, q G1 H1 S1⟩
theorem EvO.runG {to : TO} {o : Option Int} (h : EvO K to ρ o) {b : Bs} {G H : Hp} {σ : L2.St} (S : SA K b G H σ ρ) {Q : Option Int → Hp → Prop}
    (q : ∀ G2 H2, SA K b G2 H2 σ ρ → Sub G G2 → Q o H2) : to σ H Q :=
  h _ G H σ S.here Q fun G2 H2 S2 => q G2 H2 (S.back S2) S2.gg
theorem ed_slT {xs : List PyData} {tlo thi : TO} {lo hi : Option Int} (h : Ed K te ρ (.tuple xs)) (h1 : EvO K tlo ρ lo) (h2 : EvO K thi ρ hi) : Ed K (tSl (rSlA K) te tlo thi) ρ (.tuple (cutP xs lo hi)) := fun b G H σ S Q q =>
  h _ G H σ S _ fun v y ρ1 G1 H1 e1 S1 d1 => by
    obtain ⟨rfl, rfl⟩ := e1
    refine h1.runG S1 fun G2 H2 S2 g2 => h2.runG S2 fun G3 H3 S3 g3 => ?_
    obtain ⟨a, vs, rfl, ha, hg, da⟩ := ((d1.mono g2).mono g3).tupH S3.sub
    refine ⟨a, vs, rfl, ha, fun hw => ?_, fun _ p hp => ?_⟩
    · have e : cutP xs lo hi = xs := by
        unfold cutP
        rw [← da.length, hw.1, hw.2, da.length]
        simp
      rw [e] at q
      exact q _ _ _ G3 H3 ⟨rfl, rfl⟩ S3 (.tup hg da)
    · have st := Step.lay S3.sub (.tup (cutV vs lo hi)) hp
      exact q _ _ _ _ _ ⟨rfl, rfl⟩ (S3.step st) (.tup (SqT.of upd_same) ((cutD da lo hi).mono st.gg))
theorem ed_slL {xs : List PyData} {tlo thi : TO} {lo hi : Option Int} (h : Ed K te ρ (.list xs)) (h1 : EvO K tlo ρ lo) (h2 : EvO K thi ρ hi) : Ed K (tSl (rSlL K) te tlo thi) ρ (.list (cutP xs lo hi)) := fun b G H σ S Q q =>
  h _ G H σ S _ fun v y ρ1 G1 H1 e1 S1 d1 => by
    obtain ⟨rfl, rfl⟩ := e1
    refine h1.runG S1 fun G2 H2 S2 g2 => h2.runG S2 fun G3 H3 S3 g3 => ?_
    obtain ⟨a, vs, rfl, ha, hg, da⟩ := ((d1.mono g2).mono g3).lstH S3.sub
    refine ⟨a, vs, rfl, SqL.of ha, fun p hp => ?_⟩
    have st := Step.lay S3.sub (.lst (cutV vs lo hi)) hp
    exact q _ _ _ _ _ ⟨rfl, rfl⟩ (S3.step st) (.lst upd_same ((cutD da lo hi).mono st.gg))
/-! xs[::-1] of a list -/
theorem ed_revL {xs : List PyData} (h : Ed K te ρ (.list xs)) : Ed K (tRevL K te) ρ (.list xs.reverse) := fun b G H σ S Q q =>
  h _ G H σ S _ fun v y ρ1 G1 H1 e1 S1 d1 => by
    obtain ⟨rfl, rfl⟩ := e1
    obtain ⟨a, vs, rfl, ha, hg, da⟩ := d1.lstH S1.sub
    refine ⟨a, vs, rfl, SqL.of ha, fun p hp => ?_⟩
    have st := Step.lay S1.sub (.lst vs.reverse) hp
    exact q _ _ _ _ _ ⟨rfl, rfl⟩ (S1.step st) (.lst upd_same (da.reverse.mono st.gg))
/-! fields of an instance -/
def fldD (f : Str) : List (PyData × PyData) → Option PyData
  | [] => none
  | (.str g, d) :: r => if f = g then some d else fldD f r
  | _ :: r => fldD f r
theorem DFs.look {G : Hp} {f : Str} : ∀ {fs : List (Str × V)} {kvs : List (PyData × PyData)}, DFs K G fs kvs → fldD f kvs = some x → ∃ v, fs.lookup f = some v ∧ DA K G v x
  | _, _, .nil, e => by cases e
  | _, _, .cons (f := g) (v := v) h r, e => by
    rw [lookup_put]
    unfold fldD at e
    by_cases c : f = g
    · rw [if_pos c] at e ⊢
      cases e
      exact ⟨_, rfl, h⟩
    · rw [if_neg c] at e ⊢
      exact DFs.look r e
theorem ed_fld {C : Addr} {kvs : List (PyData × PyData)} {f : Str} (h : Ed K te ρ (.dict ((.none, .int (C : Int)) :: kvs))) (hn : NoAttr K C f) (hf : fldD f kvs = some x) : Ed K (tFld K te f) ρ x := fun b G H σ S Q q =>
  h _ G H σ S _ fun v y ρ1 G1 H1 e1 S1 d1 => by
    obtain ⟨rfl, rfl⟩ := e1
    generalize hc : (C : Int) = ci at d1
    cases d1 with
    | obj h1 hcl hfs =>
      have e := Int.ofNat.inj hc
      subst e
      obtain ⟨w, hw, dw⟩ := hfs.look hf
      exact ⟨_, C, _, _, w, rfl, S1.sub _ _ h1, hcl, hn, hw, q _ _ _ G1 H1 ⟨rfl, rfl⟩ S1 dw⟩
end
end RS
end
section
set_option Elab.async false
set_option linter.all false
set_option autoImplicit false
set_option maxRecDepth 100000
set_option maxHeartbeats 2000000
/-! RS3: statements, targets, loops, comprehensions, defs -/
namespace RS
open PySem L2
inductive Out where
  | nx (ρ : En)
  | rt (ρ : En) (x : PyData)
  | bk (ρ : En)
  | ct (ρ : En)
/-- what follows is ready for these outcomes -/
structure To (K : PySem.W.Frag) (b : Bs) (D : Ends) (O : Out → Prop) : Prop where
  nx : ∀ ρ σ G H, O (.nx ρ) → SA K b G H σ ρ → D.nx σ H
  rt : ∀ ρ x v σ G H, O (.rt ρ x) → SA K b G H σ ρ → DA K G v x → D.rt v H
  bk : ∀ ρ σ G H, O (.bk ρ) → SA K b G H σ ρ → D.bk σ H
  ct : ∀ ρ σ G H, O (.ct ρ) → SA K b G H σ ρ → D.ct σ H
def Es (K : PySem.W.Frag) (ts : TS) (ρ : En) (O : Out → Prop) : Prop := ∀ b G H σ D, SA K b G H σ ρ → To K b D O → ts D σ H

/-- a slot's word made weaker -/
def Wk : Sl → Sl → Prop
  | .pen c, .pen c' => c ≤ c'
  | s, s' => s = s'
theorem Wk.refl : ∀ s, Wk s s
  | .pen c => Nat.le_refl c
  | .d x => rfl
  | .own xs => rfl
section
variable {K : PySem.W.Frag} {b : Bs} {G H : Hp} {σ σ' : L2.St} {ρ ρ' : En}
theorem SA.less (S : SA K b G H σ ρ) (hl : σ'.length = ρ'.length) (h : ∀ (i : Nat) (s : Sl), ρ'[i]? = some (some s) → σ'[i]? = σ[i]? ∧ ∃ s', ρ[i]? = some (some s') ∧ Wk s' s) : SA K b G H σ' ρ' where
  sub := S.sub
  gg := S.gg
  new := S.new
  keep := S.keep
  trk := S.trk
  ptr := S.ptr
  gtr := S.gtr
  dat := fun i x e => by
    obtain ⟨h1, s', h2, h3⟩ := h i _ e
    cases s' with
    | d y =>
      obtain ⟨v, q1, q2⟩ := S.dat i y h2
      have e : Sl.d y = Sl.d x := h3
      cases e
      exact ⟨v, h1.trans q1, q2⟩
    | own xs =>
      have e : Sl.own xs = Sl.d x := h3
      cases e
    | pen c =>
      have e : Sl.pen c = Sl.d x := h3
      cases e
  own := fun i xs e => by
    obtain ⟨h1, s', h2, h3⟩ := h i _ e
    cases s' with
    | d y =>
      have e : Sl.d y = Sl.own xs := h3
      cases e
    | own ys =>
      have e : Sl.own ys = Sl.own xs := h3
      cases e
      obtain ⟨a, vs, q1, q⟩ := S.own i _ h2
      exact ⟨a, vs, h1.trans q1, q⟩
    | pen c =>
      have e : Sl.pen c = Sl.own xs := h3
      cases e
  sep := fun i j xs ys a ei ej ne hi hj => by
    obtain ⟨h1, s1, h2, h3⟩ := h i _ ei
    obtain ⟨k1, s2, k2, k3⟩ := h j _ ej
    cases s1 with
    | own us =>
      cases s2 with
      | own ws => exact S.sep i j us ws a h2 k2 ne (h1.symm.trans hi) (k1.symm.trans hj)
      | d y => have e : Sl.d y = Sl.own ys := k3; cases e
      | pen y => have e : Sl.pen y = Sl.own ys := k3; cases e
    | d y => have e : Sl.d y = Sl.own xs := h3; cases e
    | pen y => have e : Sl.pen y = Sl.own xs := h3; cases e
  pen := fun i c e => by
    obtain ⟨h1, s', h2, h3⟩ := h i _ e
    cases s' with
    | pen c0 =>
      obtain ⟨p, q1, q2, q3, q4⟩ := S.pen i c0 h2
      exact ⟨p, h1.trans q1, q2, q3, q4.mono (Sub.refl G) (fun o z => z) h3⟩
    | d y => have e : Sl.d y = Sl.pen c := h3; cases e
    | own y => have e : Sl.own y = Sl.pen c := h3; cases e
  penp := fun i c e => by
    obtain ⟨h1, s', h2, h3⟩ := h i _ e
    cases s' with
    | pen c0 => exact h1.trans (S.penp i c0 h2)
    | d y => have e : Sl.d y = Sl.pen c := h3; cases e
    | own y => have e : Sl.own y = Sl.pen c := h3; cases e
  onep := fun i j c c' ei ej => by
    obtain ⟨h1, s1, h2, h3⟩ := h i _ ei
    obtain ⟨k1, s2, k2, k3⟩ := h j _ ej
    cases s1 with
    | pen u =>
      cases s2 with
      | pen w => exact S.onep i j u w h2 k2
      | d y => have e : Sl.d y = Sl.pen c' := k3; cases e
      | own y => have e : Sl.own y = Sl.pen c' := k3; cases e
    | d y => have e : Sl.d y = Sl.pen c := h3; cases e
    | own y => have e : Sl.own y = Sl.pen c := h3; cases e
  len := hl
/-- a name gets data -/
theorem SA.set {v : V} {x : PyData} (S : SA K b G H σ ρ) (i : Nat) (hd : DA K G v x) : SA K b G H (σ.set i (some v)) (ρ.set i (some (.d x))) := by
  have S0 : SA K b G H (σ.set i (some v)) (ρ.set i none) := S.less (by rw [List.length_set, List.length_set, S.len]) fun j s e => by
    rw [List.getElem?_set] at e
    by_cases hj : i = j
    · rw [if_pos hj] at e
      split at e
      · cases e
      · cases e
    · rw [if_neg hj] at e
      rw [List.getElem?_set, if_neg hj]
      exact ⟨rfl, s, e, Wk.refl s⟩
  have cases_ : ∀ (j : Nat) (s : Sl), (ρ.set i (some (.d x)))[j]? = some (some s) → (j = i ∧ s = .d x ∧ (σ.set i (some v))[j]? = some (some v)) ∨ (ρ.set i none)[j]? = some (some s) := fun j s e => by
    rw [List.getElem?_set] at e
    by_cases hj : i = j
    · subst hj
      rw [if_pos rfl] at e
      split at e
      · rename_i hl
        cases e
        refine .inl ⟨rfl, rfl, ?_⟩
        rw [List.getElem?_set, if_pos rfl, if_pos (by rw [S.len]; exact hl)]
      · cases e
    · rw [if_neg hj] at e
      right
      rw [List.getElem?_set, if_neg hj]
      exact e
  exact {
    sub := S.sub, gg := S.gg, new := S.new, keep := S.keep, trk := S.trk, ptr := S.ptr, gtr := S.gtr
    dat := fun j y e => by
      rcases cases_ j _ e with ⟨_, h2, h3⟩ | h
      · cases h2
        exact ⟨v, h3, hd⟩
      · exact S0.dat j y h
    own := fun j ys e => by
      rcases cases_ j _ e with ⟨_, h2, _⟩ | h
      · cases h2
      · exact S0.own j ys h
    sep := fun j k ys zs a ej ek ne hj hk => by
      rcases cases_ j _ ej with ⟨_, h2, _⟩ | h
      · cases h2
      · rcases cases_ k _ ek with ⟨_, h2, _⟩ | h'
        · cases h2
        · exact S0.sep j k ys zs a h h' ne hj hk
    pen := fun j c e => by
      rcases cases_ j _ e with ⟨_, h2, _⟩ | h
      · cases h2
      · exact S0.pen j c h
    penp := fun j c e => by
      rcases cases_ j _ e with ⟨_, h2, _⟩ | h
      · cases h2
      · exact S0.penp j c h
    onep := fun j k c c' ej ek => by
      rcases cases_ j _ ej with ⟨_, h2, _⟩ | h
      · cases h2
      · rcases cases_ k _ ek with ⟨_, h2, _⟩ | h'
        · cases h2
        · exact S0.onep j k c c' h h'
    len := by rw [List.length_set, List.length_set, S.len] }
end

/-! ### targets -/
structure OnlyAt (js : List Nat) (σ σ' : L2.St) (ρ ρ' : En) : Prop where
  l : σ'.length = σ.length
  s : ∀ (i : Nat), i ∉ js → σ'[i]? = σ[i]?
  r : ∀ (i : Nat), i ∉ js → ρ'[i]? = ρ[i]?
theorem OnlyAt.refl {σ : L2.St} {ρ : En} : OnlyAt [] σ σ ρ ρ := ⟨rfl, fun _ _ => rfl, fun _ _ => rfl⟩
theorem OnlyAt.trans {js ks : List Nat} {σ σ1 σ2 : L2.St} {ρ ρ1 ρ2 : En} (a : OnlyAt js σ σ1 ρ ρ1) (b : OnlyAt ks σ1 σ2 ρ1 ρ2) : OnlyAt (js ++ ks) σ σ2 ρ ρ2 :=
  ⟨b.l.trans a.l, fun i h => (b.s i fun z => h (List.mem_append_right _ z)).trans (a.s i fun z => h (List.mem_append_left _ z)), fun i h => (b.r i fun z => h (List.mem_append_right _ z)).trans (a.r i fun z => h (List.mem_append_left _ z))⟩
def Eg (K : PySem.W.Frag) (g : TG) (js : List Nat) (ρ : En) (x : PyData) (ρ' : En) : Prop :=
  ∀ b G H σ v, SA K b G H σ ρ → DA K G v x → ∀ Q : L2.St → Hp → Prop, (∀ σ', SA K b G H σ' ρ' → OnlyAt js σ σ' ρ ρ' → Q σ' H) → g v σ H Q
def Egs (K : PySem.W.Frag) (g : TGs) (js : List Nat) (ρ : En) (xs : List PyData) (ρ' : En) : Prop :=
  ∀ b G H σ vs, SA K b G H σ ρ → DAs K G vs xs → ∀ Q : L2.St → Hp → Prop, (∀ σ', SA K b G H σ' ρ' → OnlyAt js σ σ' ρ ρ' → Q σ' H) → g vs σ H Q
section
variable {K : PySem.W.Frag} {ρ ρ' ρ2 : En} {x : PyData}
theorem eg_name {i : Nat} : Eg K (gName i) [i] ρ x (ρ.set i (some (.d x))) := fun b G H σ v S hd Q q => q _ (S.set i hd) ⟨by rw [List.length_set], fun j hj => by
    rw [List.getElem?_set, if_neg (fun z => hj (by rw [z]; exact List.mem_singleton.mpr rfl))], fun j hj => by
    rw [List.getElem?_set, if_neg (fun z => hj (by rw [z]; exact List.mem_singleton.mpr rfl))]⟩
theorem egs_nil : Egs K gNil [] ρ [] ρ := fun b G H σ vs S hd Q q => by
  cases hd
  exact ⟨rfl, q σ S OnlyAt.refl⟩
theorem egs_cons {t : TG} {u : TGs} {js ks : List Nat} {xs : List PyData} (h1 : Eg K t js ρ x ρ') (h2 : Egs K u ks ρ' xs ρ2) : Egs K (gCons t u) (js ++ ks) ρ (x :: xs) ρ2 := fun b G H σ vs S hd Q q => by
  cases hd with
  | cons d1 d2 => exact ⟨_, _, rfl, h1 b G H σ _ S d1 _ fun σ1 S1 o1 => h2 b G H σ1 _ S1 d2 _ fun σ2 S2 o2 => q σ2 S2 (o1.trans o2)⟩
theorem eg_tup {t : TGs} {n : Nat} {js : List Nat} {xs : List PyData} (hl : xs.length = n) (h : Egs K t js ρ xs ρ') : Eg K (gTup K n t) js ρ (.tuple xs) ρ' := fun b G H σ v S hd Q q => by
  obtain ⟨a, vs, rfl, ha, _, da⟩ := hd.tupH S.sub
  exact ⟨a, vs, rfl, ha, by rw [da.length, hl], h b G H σ vs S da Q q⟩
theorem eg_unl {t : TGs} {n : Nat} {js : List Nat} {xs : List PyData} (hl : xs.length = n) (h : Egs K t js ρ xs ρ') : Eg K (gUnl K n t) js ρ (.list xs) ρ' := fun b G H σ v S hd Q q => by
  obtain ⟨a, vs, rfl, ha, _, da⟩ := hd.lstH S.sub
  exact ⟨a, vs, rfl, SqL.of ha, by rw [da.length, hl], h b G H σ vs S da Q q⟩
end

/-! ### statements -/
section
variable {K : PySem.W.Frag} {ρ : En} {O : Out → Prop} {te ta : TE} {t u : TS} {tt : TT} {g : TG}
theorem To.seq {b : Bs} {D : Ends} {O1 : Out → Prop} (T : To K b D O) (h : ∀ ρ', O1 (.nx ρ') → Es K u ρ' O) (hr : ∀ ρ' x, O1 (.rt ρ' x) → O (.rt ρ' x)) (hb : ∀ ρ', O1 (.bk ρ') → O (.bk ρ')) (hc : ∀ ρ', O1 (.ct ρ') → O (.ct ρ')) :
    To K b { D with nx := u D } O1 where
  nx := fun ρ' σ G H o S => h ρ' o b G H σ D S T
  rt := fun ρ' x v σ G H o S d => T.rt ρ' x v σ G H (hr _ _ o) S d
  bk := fun ρ' σ G H o S => T.bk ρ' σ G H (hb _ o) S
  ct := fun ρ' σ G H o S => T.ct ρ' σ G H (hc _ o) S
theorem es_seq {O1 : Out → Prop} (h1 : Es K t ρ O1) (h : ∀ ρ', O1 (.nx ρ') → Es K u ρ' O) (hr : ∀ ρ' x, O1 (.rt ρ' x) → O (.rt ρ' x)) (hb : ∀ ρ', O1 (.bk ρ') → O (.bk ρ')) (hc : ∀ ρ', O1 (.ct ρ') → O (.ct ρ')) : Es K (tSeq t u) ρ O :=
  fun b G H σ D S T => h1 b G H σ _ S (T.seq h hr hb hc)
/-- what a first statement's outcomes must be, when more follows -/
def Then (K : PySem.W.Frag) (u : TS) (O : Out → Prop) : Out → Prop
  | .nx ρ => Es K u ρ O
  | o => O o
theorem es_then (h1 : Es K t ρ (Then K u O)) : Es K (tSeq t u) ρ O := es_seq h1 (fun _ h => h) (fun _ _ h => h) (fun _ h => h) (fun _ h => h)
theorem Es.imp {O' : Out → Prop} (h : Es K t ρ O) (i : ∀ o, O o → O' o) : Es K t ρ O' := fun b G H σ D S T => h b G H σ D S ⟨fun ρ σ G H o => T.nx ρ σ G H (i _ o), fun ρ x v σ G H o => T.rt ρ x v σ G H (i _ o), fun ρ σ G H o => T.bk ρ σ G H (i _ o), fun ρ σ G H o => T.ct ρ σ G H (i _ o)⟩
theorem es_asg {R : En → PyData → Prop} (h : Ev K te ρ R) (k : ∀ ρ1 x, R ρ1 x → ∃ js ρ', Eg K g js ρ1 x ρ' ∧ O (.nx ρ')) : Es K (tAsg te g) ρ O := fun b G H σ D S T =>
  h b G H σ S _ fun v x ρ1 G1 H1 hr S1 d1 => by
    obtain ⟨js, ρ', hg, ho⟩ := k ρ1 x hr
    exact hg b G1 H1 σ v S1 d1 _ fun σ' S2 _ => T.nx ρ' σ' G1 H1 ho S2
theorem eq_asg {x : PyData} {js : List Nat} {ρ' : En} (h : Ed K te ρ x) (hg : Eg K g js ρ x ρ') (k : Es K u ρ' O) : Es K (tSeq (tAsg te g) u) ρ O :=
  es_then (es_asg h fun ρ1 y e => by obtain ⟨rfl, rfl⟩ := e; exact ⟨js, ρ', hg, k⟩)
/-- x = e -/
theorem eq_set {x : PyData} {i : Nat} (h : Ed K te ρ x) (k : Es K u (ρ.set i (some (.d x))) O) : Es K (tSeq (tAsg te (gName i)) u) ρ O := eq_asg h eg_name k
theorem eqv_set {R : En → PyData → Prop} {i : Nat} (h : Ev K te ρ R) (k : ∀ ρ1 x, R ρ1 x → Es K u (ρ1.set i (some (.d x))) O) : Es K (tSeq (tAsg te (gName i)) u) ρ O :=
  es_then (es_asg h fun ρ1 y e => ⟨_, _, eg_name, k ρ1 y e⟩)
theorem es_set {x : PyData} {i : Nat} (h : Ed K te ρ x) (k : O (.nx (ρ.set i (some (.d x))))) : Es K (tAsg te (gName i)) ρ O := es_asg h fun ρ1 y e => by
  obtain ⟨rfl, rfl⟩ := e
  exact ⟨_, _, eg_name, k⟩
theorem es_retv {R : En → PyData → Prop} (h : Ev K te ρ R) (k : ∀ ρ1 x, R ρ1 x → O (.rt ρ1 x)) : Es K (tRet te) ρ O := fun b G H σ D S T =>
  h b G H σ S _ fun v x ρ1 G1 H1 hr S1 d1 => T.rt ρ1 x v σ G1 H1 (k ρ1 x hr) S1 d1
theorem es_ret {x : PyData} (h : Ed K te ρ x) (k : O (.rt ρ x)) : Es K (tRet te) ρ O := es_retv h fun ρ1 y e => by
  obtain ⟨rfl, rfl⟩ := e
  exact k
theorem es_next (k : O (.nx ρ)) : Es K tNext ρ O := fun b G H σ D S T => T.nx ρ σ G H k S
theorem es_break (k : O (.bk ρ)) : Es K tBreak ρ O := fun b G H σ D S T => T.bk ρ σ G H k S
theorem es_cont (k : O (.ct ρ)) : Es K tCont ρ O := fun b G H σ D S T => T.ct ρ σ G H k S
theorem es_retSeq {x : PyData} (h : Ed K te ρ x) (k : O (.rt ρ x)) : Es K (tSeq (tRet te) u) ρ O := es_then (es_ret h k)
theorem es_if {c : Bool} (h : Eb K tt ρ c) (h1 : c = true → Es K t ρ O) (h2 : c = false → Es K u ρ O) : Es K (tIfS tt t u) ρ O := fun b G H σ D S T =>
  h b G H σ S _ fun x ρ1 G1 H1 e S1 => by
    obtain ⟨rfl, rfl⟩ := e
    cases x with
    | true =>
      show t D σ H1
      exact h1 rfl b G1 H1 σ D S1 T
    | false =>
      show u D σ H1
      exact h2 rfl b G1 H1 σ D S1 T
theorem esv_if {R : En → Bool → Prop} (h : EvT K tt ρ R) (h1 : ∀ ρ1, R ρ1 true → Es K t ρ1 O) (h2 : ∀ ρ1, R ρ1 false → Es K u ρ1 O) : Es K (tIfS tt t u) ρ O := fun b G H σ D S T =>
  h b G H σ S _ fun x ρ1 G1 H1 e S1 => by
    cases x with
    | true =>
      show t D σ H1
      exact h1 ρ1 e b G1 H1 σ D S1 T
    | false =>
      show u D σ H1
      exact h2 ρ1 e b G1 H1 σ D S1 T
theorem eq_if {c : Bool} {w : TS} (h : Eb K tt ρ c) (h1 : c = true → Es K t ρ (Then K w O)) (h2 : c = false → Es K u ρ (Then K w O)) : Es K (tSeq (tIfS tt t u) w) ρ O := es_then (es_if h h1 h2)
/-- if c: return .. (no else), the rest -/
theorem eq_when {c : Bool} {w : TS} (h : Eb K tt ρ c) (h1 : c = true → Es K t ρ (Then K w O)) (h2 : c = false → Es K w ρ O) : Es K (tSeq (tIfS tt t tNext) w) ρ O := eq_if h h1 fun e => es_next (h2 e)
theorem es_drop {R : En → PyData → Prop} (h : Ev K te ρ R) (k : ∀ ρ1 x, R ρ1 x → O (.nx ρ1)) : Es K (tDrop te) ρ O := fun b G H σ D S T =>
  h b G H σ S _ fun v x ρ1 G1 H1 hr S1 d1 => T.nx ρ1 σ G1 H1 (k ρ1 x hr) S1
end

/-! ### what is walked -/
structure Walks (K : PySem.W.Frag) (J : It) (G0 : Hp) (xs : List PyData) : Prop where
  go : ∀ i G H, Sub G0 G → Sub G H → i < xs.length → J.go i H
  stop : ∀ i G H, Sub G0 G → Sub G H → i = xs.length → J.stop i H
  yld : ∀ i G H v H', Sub G0 G → Sub G H → J.yld i H v H' → ∀ x, xs[i]? = some x → ∃ G', Step G H G' H' ∧ DA K G' v x
def EI (K : PySem.W.Frag) (wi : TI) (ρ : En) (R : En → List PyData → Prop) : Prop :=
  ∀ b G H σ, SA K b G H σ ρ → ∀ Q : It → Hp → Prop, (∀ J ρ1 xs G1 H1, R ρ1 xs → SA K b G1 H1 σ ρ1 → Walks K J G1 xs → Q J H1) → wi σ H Q
abbrev Ei (K : PySem.W.Frag) (wi : TI) (ρ : En) (xs : List PyData) : Prop := EI K wi ρ fun ρ' ys => ρ' = ρ ∧ ys = xs
section
variable {K : PySem.W.Frag} {ρ : En} {te tl : TE} {ta : TA} {G0 : Hp}
theorem walks_list {a : Addr} {vs : List V} {xs : List PyData} (h : G0 a = some (.lst vs)) (d : DAs K G0 vs xs) : Walks K (Itl K a) G0 xs where
  go := fun i G H g s hi => by
    obtain ⟨v, hv, _⟩ := d.get (i := i) (List.getElem?_eq_getElem hi)
    exact ⟨vs, v, SqL.of (s _ _ (g _ _ h)), hv⟩
  stop := fun i G H g s hi => ⟨vs, SqL.of (s _ _ (g _ _ h)), by rw [d.length]; exact Nat.le_of_eq hi.symm⟩
  yld := fun i G H v H' g s y x hx => by
    obtain ⟨e, y⟩ := y
    subst e
    obtain ⟨w, hw, dw⟩ := d.get hx
    have e := y vs (SqL.of (s _ _ (g _ _ h)))
    rw [hw] at e
    cases e
    exact ⟨G, Step.refl s, dw.mono g⟩
theorem walks_tup {a : Addr} {vs : List V} {xs : List PyData} (h : SqT K G0 a vs) (d : DAs K G0 vs xs) : Walks K (Itt K a) G0 xs where
  go := fun i G H g s hi => by
    obtain ⟨v, hv, _⟩ := d.get (i := i) (List.getElem?_eq_getElem hi)
    exact ⟨vs, v, sub_t s (sub_t g h), hv⟩
  stop := fun i G H g s hi => ⟨vs, sub_t s (sub_t g h), by rw [d.length]; exact Nat.le_of_eq hi.symm⟩
  yld := fun i G H v H' g s y x hx => by
    obtain ⟨e, y⟩ := y
    subst e
    obtain ⟨w, hw, dw⟩ := d.get hx
    have e := y vs (sub_t s (sub_t g h))
    rw [hw] at e
    cases e
    exact ⟨G, Step.refl s, dw.mono g⟩
theorem walks_range {lo : Int} {n : Nat} : Walks K (Itr lo n) G0 ((List.range n).map fun i => PyData.int (lo + (i : Nat))) where
  go := fun i G H g s hi => by
    rw [List.length_map, List.length_range] at hi
    exact hi
  stop := fun i G H g s hi => by
    rw [List.length_map, List.length_range] at hi
    exact Nat.le_of_eq hi.symm
  yld := fun i G H v H' g s y x hx => by
    obtain ⟨e, y⟩ := y
    subst e
    subst y
    rw [List.getElem?_map] at hx
    cases hr : (List.range n)[i]? with
    | none => rw [hr] at hx; cases hx
    | some j =>
      rw [hr] at hx
      cases hx
      have hj : j = i := by
        obtain ⟨_, e⟩ := List.getElem?_eq_some_iff.mp hr
        rw [List.getElem_range] at e
        exact e.symm
      subst hj
      exact ⟨G, Step.refl s, .int _⟩
theorem ei_list {xs : List PyData} (h : Ed K tl ρ (.list xs)) : Ei K (iList K tl) ρ xs := fun b G H σ S Q q => h b G H σ S _ fun v y ρ1 G1 H1 e S1 d1 => by
  obtain ⟨rfl, rfl⟩ := e
  cases d1 with
  | lst h1 hd => exact ⟨_, rfl, ⟨_, SqL.of (S1.sub _ _ h1)⟩, q _ _ _ G1 H1 ⟨rfl, rfl⟩ S1 (walks_list h1 hd)⟩
theorem ei_tup {xs : List PyData} (h : Ed K tl ρ (.tuple xs)) : Ei K (iTup K tl) ρ xs := fun b G H σ S Q q => h b G H σ S _ fun v y ρ1 G1 H1 e S1 d1 => by
  obtain ⟨rfl, rfl⟩ := e
  cases d1 with
  | tup h1 hd => exact ⟨_, rfl, ⟨_, sub_t S1.sub h1⟩, q _ _ _ G1 H1 ⟨rfl, rfl⟩ S1 (walks_tup h1 hd)⟩
/-- ints lo .. lo + n - 1 -/
def rgD (n : Nat) : List PyData := (List.range n).map fun i => PyData.int ((i : Nat) : Int)
theorem rgD_get {n i : Nat} {x : PyData} (h : (rgD n)[i]? = some x) : x = .int (i : Nat) ∧ i < n := by
  unfold rgD at h
  rw [List.getElem?_map] at h
  cases hr : (List.range n)[i]? with
  | none => rw [hr] at h; cases h
  | some j =>
    rw [hr] at h
    cases h
    obtain ⟨hl, e⟩ := List.getElem?_eq_some_iff.mp hr
    rw [List.getElem_range] at e
    subst e
    rw [List.length_range] at hl
    exact ⟨rfl, hl⟩
theorem rgD_len (n : Nat) : (rgD n).length = n := by unfold rgD; rw [List.length_map, List.length_range]
theorem eiv_rng1 {R1 : En → List PyData → Prop} {R : En → List PyData → Prop} (h : EvA K ta ρ R1) (hr : ∀ ρ1 xs, R1 ρ1 xs → ∃ n : Int, xs = [.int n] ∧ n ≤ 1000000 ∧ -1000000 ≤ n ∧ R ρ1 (rgD n.toNat)) : EI K (iRng1 ta) ρ R := fun b G H σ S Q q => h b G H σ S _ fun vs ys ρ1 G1 H1 e S1 d1 => by
  obtain ⟨n, rfl, h1, h2, h3⟩ := hr ρ1 ys e
  obtain ⟨v, rfl, d⟩ := d1.one
  cases d
  refine ⟨n, rfl, by omega, by omega, q _ ρ1 _ G1 H1 h3 S1 ?_⟩
  have w := walks_range (K := K) (G0 := G1) (lo := 0) (n := n.toNat)
  have e : ((List.range n.toNat).map fun i => PyData.int (0 + (i : Nat))) = rgD n.toNat := by
    unfold rgD
    congr 1
    funext i
    rw [Int.zero_add]
  rw [e] at w
  exact w
theorem ei_rng1 {n : Int} (h : Ea K ta ρ [.int n]) (h1 : n ≤ 1000000) (h2 : -1000000 ≤ n) : Ei K (iRng1 ta) ρ (rgD n.toNat) := eiv_rng1 h fun ρ1 xs e => by
  obtain ⟨rfl, rfl⟩ := e
  exact ⟨n, rfl, h1, h2, rfl, rfl⟩
end

/-! ### for -/
def LoopO (I : Nat → En → Prop) (O : Out → Prop) (k : Nat) : Out → Prop
  | .nx ρ => I (k + 1) ρ
  | .ct ρ => I (k + 1) ρ
  | .bk ρ => O (.nx ρ)
  | .rt ρ x => O (.rt ρ x)
theorem es_for {K : PySem.W.Frag} {ρ : En} {O : Out → Prop} {wi : TI} {g : TG} {tb : TS} {R : En → List PyData → Prop} (h : EI K wi ρ R)
    (k : ∀ ρ1 xs, R ρ1 xs → ∃ I : Nat → En → Prop, I 0 ρ1 ∧ (∀ i x ρ', xs[i]? = some x → I i ρ' → ∃ js ρ2, Eg K g js ρ' x ρ2 ∧ Es K tb ρ2 (LoopO I O i)) ∧ ∀ ρ', I xs.length ρ' → O (.nx ρ')) : Es K (tFor wi g tb) ρ O := fun b G H σ D S T =>
  h b G H σ S _ fun J ρ1 xs G1 H1 hr S1 w => by
    obtain ⟨I, i0, hs, hd⟩ := k ρ1 xs hr
    refine ⟨fun i m σ' H' => m = xs.length - i ∧ i ≤ xs.length ∧ ∃ ρ' G', I i ρ' ∧ SA K b G' H' σ' ρ' ∧ Sub G1 G', ⟨xs.length, rfl, Nat.zero_le _, ρ1, G1, i0, S1, Sub.refl G1⟩, ?_⟩
    rintro i m σ' H' ⟨rfl, hi, ρ', G', hI, S', g1⟩
    by_cases hlt : i < xs.length
    · refine .inr ⟨w.go i G' H' g1 S'.sub hlt, fun σ2 H2 => i + 1 ≤ xs.length ∧ ∃ ρ2 G2, I (i + 1) ρ2 ∧ SA K b G2 H2 σ2 ρ2 ∧ Sub G1 G2, fun σ2 H2 p => ⟨xs.length - (i + 1), by omega, rfl, p.1, p.2⟩, fun v H2 y => ?_⟩
      obtain ⟨G2, st, dv⟩ := w.yld i G' H' v H2 g1 S'.sub y xs[i] (List.getElem?_eq_getElem hlt)
      obtain ⟨js, ρ2, hg, hb⟩ := hs i xs[i] ρ' (List.getElem?_eq_getElem hlt) hI
      have S2 := S'.step st
      refine hg _ G2 H2 σ' v S2.here dv _ fun σ3 S3 _ => hb _ G2 H2 σ3 _ S3 ⟨fun ρ4 σ4 G4 H4 o S4 => ?_, fun ρ4 x v4 σ4 G4 H4 o S4 d4 => ?_, fun ρ4 σ4 G4 H4 o S4 => ?_, fun ρ4 σ4 G4 H4 o S4 => ?_⟩
      · exact ⟨hlt, ρ4, G4, o, S2.back S4, (g1.trans st.gg).trans S4.gg⟩
      · exact T.rt ρ4 x v4 σ4 G4 H4 o (S2.back S4) d4
      · exact T.nx ρ4 σ4 G4 H4 o (S2.back S4)
      · exact ⟨hlt, ρ4, G4, o, S2.back S4, (g1.trans st.gg).trans S4.gg⟩
    · have e : i = xs.length := by omega
      subst e
      exact .inl ⟨w.stop _ G' H' g1 S'.sub rfl, T.nx ρ' σ' G' H' (hd ρ' hI) S'⟩
/-- with the source known -/
theorem es_forD {K : PySem.W.Frag} {ρ : En} {O : Out → Prop} {wi : TI} {g : TG} {tb : TS} {xs : List PyData} (h : Ei K wi ρ xs) (I : Nat → En → Prop) (h0 : I 0 ρ)
    (hs : ∀ i x ρ', xs[i]? = some x → I i ρ' → ∃ js ρ2, Eg K g js ρ' x ρ2 ∧ Es K tb ρ2 (LoopO I O i)) (hd : ∀ ρ', I xs.length ρ' → O (.nx ρ')) : Es K (tFor wi g tb) ρ O :=
  es_for h fun ρ1 ys e => by
    obtain ⟨rfl, rfl⟩ := e
    exact ⟨I, h0, hs, hd⟩
end RS
end
section
set_option Elab.async false
set_option linter.all false
set_option autoImplicit false
set_option maxRecDepth 100000
set_option maxHeartbeats 2000000
/-! RS4: comprehensions -/
namespace RS
open PySem L2
def pn (c : Nat) : Option Sl → Option Sl
  | some (.pen _) => some (.pen c)
  | o => o
def setPen (c : Nat) (ρ : En) : En := ρ.map (pn c)
theorem pn_pn (c d : Nat) (o : Option Sl) : pn c (pn d o) = pn c o := by
  cases o with
  | none => rfl
  | some s => cases s <;> rfl
theorem setPen_setPen (c d : Nat) (ρ : En) : setPen c (setPen d ρ) = setPen c ρ := by
  unfold setPen
  rw [List.map_map]
  congr 1
  funext o
  exact pn_pn c d o
theorem setPen_get (c : Nat) (ρ : En) (i : Nat) : (setPen c ρ)[i]? = ρ[i]?.map (pn c) := List.getElem?_map ..
theorem setPen_d {c : Nat} {ρ : En} {i : Nat} {x : PyData} : (setPen c ρ)[i]? = some (some (Sl.d x)) ↔ ρ[i]? = some (some (Sl.d x)) := by
  rw [setPen_get]
  cases h : ρ[i]? with
  | none => simp
  | some o =>
    cases o with
    | none => simp [pn]
    | some s => cases s <;> simp [pn]
theorem setPen_own {c : Nat} {ρ : En} {i : Nat} {x : List PyData} : (setPen c ρ)[i]? = some (some (Sl.own x)) ↔ ρ[i]? = some (some (Sl.own x)) := by
  rw [setPen_get]
  cases h : ρ[i]? with
  | none => simp
  | some o =>
    cases o with
    | none => simp [pn]
    | some s => cases s <;> simp [pn]
theorem setPen_pen {c d : Nat} {ρ : En} {i : Nat} (h : (setPen c ρ)[i]? = some (some (Sl.pen d))) : d = c ∧ ∃ e, ρ[i]? = some (some (Sl.pen e)) := by
  rw [setPen_get] at h
  cases h' : ρ[i]? with
  | none => rw [h'] at h; cases h
  | some o =>
    rw [h'] at h
    cases o with
    | none => cases h
    | some s =>
      cases s with
      | pen e => cases h; exact ⟨rfl, e, rfl⟩
      | d y => cases h
      | own y => cases h
theorem setPen_len (c : Nat) (ρ : En) : (setPen c ρ).length = ρ.length := List.length_map ..
/-- slots forgotten -/
def wp (ρ : En) : List Nat → En
  | [] => ρ
  | v :: vs => (wp ρ vs).set v none
theorem wp_len (ρ : En) : ∀ vs : List Nat, (wp ρ vs).length = ρ.length
  | [] => rfl
  | v :: vs => by unfold wp; rw [List.length_set, wp_len ρ vs]
theorem wp_out {ρ : En} {i : Nat} : ∀ {vs : List Nat}, i ∉ vs → (wp ρ vs)[i]? = ρ[i]?
  | [], _ => rfl
  | v :: vs, h => by
    unfold wp
    rw [List.getElem?_set, if_neg (fun z => h (by rw [z]; exact List.mem_cons_self))]
    exact wp_out fun z => h (List.mem_cons_of_mem _ z)
theorem wp_in {ρ : En} {i : Nat} {s : Sl} : ∀ {vs : List Nat}, (wp ρ vs)[i]? = some (some s) → i ∉ vs
  | [], _ => by simp
  | v :: vs, h => by
    unfold wp at h
    rw [List.getElem?_set] at h
    by_cases hv : v = i
    · rw [if_pos hv] at h
      split at h <;> cases h
    · rw [if_neg hv] at h
      intro z
      rcases List.mem_cons.mp z with z | z
      · exact hv z.symm
      · exact wp_in h z
theorem wipe_same {σ σ' : L2.St} {vs js : List Nat} (hl : σ'.length = σ.length) (h : ∀ i : Nat, i ∉ js → σ'[i]? = (wipe σ vs)[i]?) (hj : ∀ j ∈ js, j ∈ vs) : wipe σ' vs = wipe σ vs := by
  apply List.ext_getElem?
  intro i
  by_cases hi : i ∈ vs
  · have key : ∀ (τ : L2.St) (us : List Nat), i ∈ us → i < τ.length → (wipe τ us)[i]? = some none := by
      intro τ us
      induction us with
      | nil => intro z; cases z
      | cons u us ih =>
        intro z hl
        unfold wipe
        rw [List.getElem?_set]
        by_cases hu : u = i
        · rw [if_pos hu, if_pos (by rw [wipe_length, hu]; exact hl)]
        · rw [if_neg hu]
          rcases List.mem_cons.mp z with z | z
          · exact absurd z.symm hu
          · exact ih z hl
    by_cases hlt : i < σ.length
    · rw [key σ vs hi hlt, key σ' vs hi (by rw [hl]; exact hlt)]
    · rw [List.getElem?_eq_none_iff.mpr (by rw [wipe_length]; omega), List.getElem?_eq_none_iff.mpr (by rw [wipe_length]; omega)]
  · rw [wipe_out hi, h i (fun z => hi (hj i z))]
section
variable {K : PySem.W.Frag} {b : Bs} {G H : Hp} {σ : L2.St} {ρ : En} {D : Addr} {o : HO}
/-- no slot's own object stands at D -/
structure NotAt (σ : L2.St) (ρ : En) (D : Addr) : Prop where
  own : ∀ (i : Nat) (xs : List PyData), ρ[i]? = some (some (Sl.own xs)) → σ[i]? ≠ some (some (V.ref D))
  pen : ∀ (i c : Nat), ρ[i]? = some (some (Sl.pen c)) → σ[i]? ≠ some (some (V.ref D))
theorem SA.notAt (S : SA K b G H σ ρ) (h : H D = none) : NotAt σ ρ D where
  own := fun i xs e z => by
    obtain ⟨a, vs, h1, _, _, h2, _⟩ := S.own i xs e
    rw [h1] at z
    cases z
    rw [h] at h2
    cases h2
  pen := fun i c e z => by
    obtain ⟨a, h1, _, _, h2⟩ := S.pen i c e
    obtain ⟨kvs, h2⟩ := h2.there
    rw [h1] at z
    cases z
    rw [h] at h2
    cases h2
/-- an object apart from all slots is to be kept for a while -/
theorem SA.guard (S : SA K b G H σ ρ) (n : NotAt σ ρ D) (h : H D = some o) : SA K ⟨G, upd b.P D o, fun a => H a ≠ none ∧ NoOwn σ ρ a, b.pp⟩ G H σ ρ where
  sub := S.sub
  gg := Sub.refl G
  new := fun a h _ => h
  keep := fun a u e0 => by
    have e : upd b.P D o a = some u := e0
    by_cases ha : a = D
    · subst ha
      rw [upd_same] at e
      exact h.trans e
    · rw [upd_ne ha] at e
      exact S.keep a u e
  trk := fun a h => h.1
  ptr := fun a e0 => by
    have e : upd b.P D o a ≠ none := e0
    by_cases ha : a = D
    · subst ha
      exact ⟨(by rw [h]; exact fun z => (nomatch z)), n.own⟩
    · rw [upd_ne ha] at e
      exact S.here.ptr a e
  gtr := S.here.gtr
  dat := S.dat
  own := fun i xs e => by
    obtain ⟨a, vs, h1, h2, h3, h4, h5, h6⟩ := S.here.own i xs e
    refine ⟨a, vs, h1, h2, ?_, h4, h5, h6⟩
    show upd b.P D o a = none
    rw [upd_ne (fun z => n.own i xs e (by rw [h1, z]))]
    exact h3
  sep := S.sep
  pen := fun i c e => by
    obtain ⟨a, h1, h2, h3, h4⟩ := S.pen i c e
    refine ⟨a, h1, h2, ?_, h4⟩
    show upd b.P D o a = none
    rw [upd_ne (fun z => n.pen i c e (by rw [h1, z]))]
    exact h3
  penp := S.penp
  onep := S.onep
  len := S.len
theorem SA.unguard {G2 H2 : Hp} {σ2 : L2.St} {ρ2 : En} (S : SA K b G H σ ρ) (hP : b.P D = none) (S2 : SA K ⟨G, upd b.P D o, fun a => H a ≠ none ∧ NoOwn σ ρ a, b.pp⟩ G2 H2 σ2 ρ2) : SA K b G2 H2 σ2 ρ2 where
  sub := S2.sub
  gg := S.gg.trans S2.gg
  new := fun a h q => S2.new a (S.new a h q) ⟨S.trk a q, S.noT q⟩
  keep := fun a u e => S2.keep a u (by
    show upd b.P D o a = some u
    rw [upd_ne (fun z => by rw [z, hP] at e; cases e)]
    exact e)
  trk := fun a q => S2.trk a ⟨S.trk a q, S.noT q⟩
  ptr := S.ptr
  gtr := S.gtr
  dat := S2.dat
  own := fun i xs e => by
    obtain ⟨a, vs, h1, h2, h3, h4, h5, h6⟩ := S2.own i xs e
    refine ⟨a, vs, h1, h2, ?_, h4, h5, fun z => h6 ⟨S.trk a z, S.noT z⟩⟩
    have h3' : upd b.P D o a = none := h3
    by_cases ha : a = D
    · rw [ha, upd_same] at h3'; cases h3'
    · rw [upd_ne ha] at h3'; exact h3'
  sep := S2.sep
  pen := fun i c e => by
    obtain ⟨a, h1, h2, h3, h4⟩ := S2.pen i c e
    refine ⟨a, h1, h2, ?_, h4⟩
    have h3' : upd b.P D o a = none := h3
    by_cases ha : a = D
    · rw [ha, upd_same] at h3'; cases h3'
    · rw [upd_ne ha] at h3'; exact h3'
  penp := S2.penp
  onep := S2.onep
  len := S2.len
/-- such an object changes -/
theorem SA.write (S : SA K b G H σ ρ) (n : NotAt σ ρ D) (hG : G D = none) (hP : b.P D = none) (ho : H D ≠ none) : SA K b G (upd H D o) σ ρ where
  sub := fun a u e => by
    rw [upd_ne (fun z => by rw [z, hG] at e; cases e)]
    exact S.sub a u e
  gg := S.gg
  new := S.new
  keep := fun a u e => by
    rw [upd_ne (fun z => by rw [z, hP] at e; cases e)]
    exact S.keep a u e
  trk := fun a q => by
    by_cases ha : a = D
    · subst ha; rw [upd_same]; exact fun z => nomatch z
    · rw [upd_ne ha]; exact S.trk a q
  ptr := S.ptr
  gtr := S.gtr
  dat := S.dat
  own := fun i xs e => by
    obtain ⟨a, vs, h1, h2, h3, h4, h5, h6⟩ := S.own i xs e
    refine ⟨a, vs, h1, h2, h3, ?_, h5, h6⟩
    rw [upd_ne (fun z => n.own i xs e (by rw [h1, z]))]
    exact h4
  sep := S.sep
  pen := fun i c e => by
    obtain ⟨a, h1, h2, h3, h4⟩ := S.pen i c e
    refine ⟨a, h1, h2, h3, h4.mono (Sub.refl G) (fun u q => ?_) (Nat.le_refl _)⟩
    rw [upd_ne (fun z => n.pen i c e (by rw [h1, z]))]
    exact q
  penp := S.penp
  onep := S.onep
  len := S.len
/-- such an object stands for ever from now on -/
theorem SA.adopt (S : SA K b G H σ ρ) (n : NotAt σ ρ D) (hT : ¬ b.T D) (hG : G D = none) (ho : H D = some o) : SA K b (upd G D o) H σ ρ where
  sub := fun a u e => by
    by_cases ha : a = D
    · subst ha; rw [upd_same] at e; exact ho.trans e
    · rw [upd_ne ha] at e; exact S.sub a u e
  gg := fun a u e => by
    have h := S.gg a u e
    rw [upd_ne (fun z => by rw [z, hG] at h; cases h)]
    exact h
  new := fun a h q => by
    rw [upd_ne (fun z => hT (by rw [← z]; exact q))]
    exact S.new a h q
  keep := S.keep
  trk := S.trk
  ptr := S.ptr
  gtr := S.gtr
  dat := fun i x e => by
    obtain ⟨v, h1, h2⟩ := S.dat i x e
    exact ⟨v, h1, h2.mono fun a u q => by rw [upd_ne (fun z => by rw [z, hG] at q; cases q)]; exact q⟩
  own := fun i xs e => by
    obtain ⟨a, vs, h1, h2, h3, h4, h5, h6⟩ := S.own i xs e
    refine ⟨a, vs, h1, ?_, h3, h4, h5.mono (fun a u q => by rw [upd_ne (fun z => by rw [z, hG] at q; cases q)]; exact q), h6⟩
    rw [upd_ne (fun z => n.own i xs e (by rw [h1, z]))]
    exact h2
  sep := S.sep
  pen := fun i c e => by
    obtain ⟨a, h1, h2, h3, h4⟩ := S.pen i c e
    refine ⟨a, h1, ?_, h3, h4.mono (fun a u q => by rw [upd_ne (fun z => by rw [z, hG] at q; cases q)]; exact q) (fun u q => q) (Nat.le_refl _)⟩
    rw [upd_ne (fun z => n.pen i c e (by rw [h1, z]))]
    exact h2
  penp := S.penp
  onep := S.onep
  len := S.len
end
theorem NotAt.less {σ σ' : L2.St} {ρ ρ' : En} {D : Addr} (n : NotAt σ ρ D) (h : ∀ (i : Nat) (s : Sl), ρ'[i]? = some (some s) → σ'[i]? = σ[i]? ∧ ∃ s', ρ[i]? = some (some s') ∧ Wk s' s) : NotAt σ' ρ' D where
  own := fun i xs e z => by
    obtain ⟨h1, s', h2, h3⟩ := h i _ e
    cases s' with
    | own ys => exact n.own i ys h2 (h1.symm.trans z)
    | d y => have e : Sl.d y = Sl.own xs := h3; cases e
    | pen y => have e : Sl.pen y = Sl.own xs := h3; cases e
  pen := fun i c e z => by
    obtain ⟨h1, s', h2, h3⟩ := h i _ e
    cases s' with
    | pen c' => exact n.pen i c' h2 (h1.symm.trans z)
    | d y => have e : Sl.d y = Sl.pen c := h3; cases e
    | own y => have e : Sl.own y = Sl.pen c := h3; cases e
theorem NotAt.same {σ : L2.St} {ρ : En} {D : Addr} (n : NotAt σ ρ D) (c : Nat) : NotAt σ (setPen c ρ) D where
  own := fun i xs e => n.own i xs (setPen_own.mp e)
  pen := fun i d e => by
    obtain ⟨_, e', h⟩ := setPen_pen e
    exact n.pen i e' h
theorem NotAt.wiped {σ : L2.St} {ρ : En} {D : Addr} (n : NotAt σ ρ D) (c : Nat) (vs : List Nat) : NotAt (wipe σ vs) (setPen c (wp ρ vs)) D where
  own := fun i xs e => by
    have e' := setPen_own.mp e
    have hi := wp_in e'
    rw [wipe_out hi]
    rw [wp_out hi] at e'
    exact n.own i xs e'
  pen := fun i d e => by
    obtain ⟨_, d', e'⟩ := setPen_pen e
    have hi := wp_in e'
    rw [wipe_out hi]
    rw [wp_out hi] at e'
    exact n.pen i d' e'
section
variable {K : PySem.W.Frag} {ρ : En} {wi : TI} {g : TG} {tt : TT} {te : TE} {vs : List Nat}
theorem ev_lc {R : En → List PyData → Prop} {R' : En → PyData → Prop} (h : EI K wi ρ R)
    (k : ∀ ρ1 xs, R ρ1 xs → xs.length ≤ 100000 ∧ (∀ (i : Nat) (s : Sl), i ∈ vs → ρ1[i]? = some (some s) → ∃ x, s = Sl.d x) ∧ ∃ (c0 : Nat) (J : Nat → Nat → List PyData → Prop), setPen c0 ρ1 = ρ1 ∧ J 0 c0 [] ∧
      (∀ i x c acc, xs[i]? = some x → J i c acc → ∃ js ρ2, (∀ j ∈ js, j ∈ vs) ∧ Eg K g js (setPen c (wp ρ1 vs)) x ρ2 ∧
        EvT K tt ρ2 (fun ρ3 t => ∃ c3, ρ3 = setPen c3 ρ2 ∧ (t = true → Ev K te ρ3 fun ρ4 y => ∃ c4, ρ4 = setPen c4 ρ2 ∧ J (i + 1) c4 (acc ++ [y])) ∧ (t = false → J (i + 1) c3 acc))) ∧
      ∀ c acc, J xs.length c acc → R' (setPen c ρ1) (.list acc)) : Ev K (tLc wi g tt te vs) ρ R' := fun b G H σ S Q q =>
  h b G H σ S _ fun It ρ1 xs G1 H1 hr S1 w => by
    obtain ⟨hz, hvs, c0, J, hc0, j0, hs, hd⟩ := k ρ1 xs hr
    intro D hD
    have hG1 : G1 D = none := S1.sub.none hD
    have hPD : b.P D = none := S1.keep.none hD
    have hTD : ¬ b.T D := fun z => S1.trk D z hD
    have nD : NotAt σ ρ1 D := S1.notAt hD
    have sigl : σ.length = ρ1.length := S1.len
    refine ⟨fun i m H' => m = xs.length - i ∧ i ≤ xs.length ∧ ∃ c acc G' av, J i c acc ∧ acc.length ≤ i ∧ SA K b G' H' (wipe σ vs) (setPen c (wp ρ1 vs)) ∧ Sub G1 G' ∧ G' D = none ∧ H' D = some (.lst av) ∧ DAs K G' av acc, ⟨xs.length, rfl, Nat.zero_le _, c0, [], G1, [], j0, Nat.le_refl _, ?_, Sub.refl G1, hG1, upd_same, .nil⟩, ?_⟩
    · have S2 : SA K b G1 (upd H1 D (.lst [])) σ ρ1 := S1.step (Step.layH S1.sub (.lst []) hD)
      refine S2.less (by rw [wipe_length, setPen_len, wp_len]; exact sigl) fun i s e => ?_
      have he : ∃ o, (wp ρ1 vs)[i]? = some (some o) := by
        rw [setPen_get] at e
        cases e1 : (wp ρ1 vs)[i]? with
        | none => rw [e1] at e; cases e
        | some o =>
          cases o with
          | none => rw [e1] at e; cases e
          | some o => exact ⟨o, rfl⟩
      obtain ⟨o, eo⟩ := he
      have hi := wp_in eo
      refine ⟨wipe_out hi, s, ?_, Wk.refl s⟩
      have e2 : (setPen c0 (wp ρ1 vs))[i]? = (setPen c0 ρ1)[i]? := by rw [setPen_get, setPen_get, wp_out hi]
      rw [e2, hc0] at e
      exact e
    · rintro i m H' ⟨rfl, hi, c, acc, G', av, hJ, hal, S', g1, gD, hHD, dacc⟩
      by_cases hlt : i < xs.length
      · refine .inr ⟨w.go i G' H' g1 S'.sub hlt, fun H2 => i + 1 ≤ xs.length ∧ ∃ c acc G2 av, J (i + 1) c acc ∧ acc.length ≤ i + 1 ∧ SA K b G2 H2 (wipe σ vs) (setPen c (wp ρ1 vs)) ∧ Sub G1 G2 ∧ G2 D = none ∧ H2 D = some (.lst av) ∧ DAs K G2 av acc, fun H2 p => ⟨xs.length - (i + 1), by omega, rfl, p.1, p.2⟩, fun v H2 y => ?_⟩
        obtain ⟨G2, st, dv⟩ := w.yld i G' H' v H2 g1 S'.sub y xs[i] (List.getElem?_eq_getElem hlt)
        obtain ⟨js, ρ2, hjs, hg, ht⟩ := hs i xs[i] c acc (List.getElem?_eq_getElem hlt) hJ
        have S2 := S'.step st
        have g2D : G2 D = none := st.new D gD (by rw [hHD]; exact fun z => nomatch z)
        have h2D : H2 D = some (.lst av) := st.hh _ _ hHD
        have nW : NotAt (wipe σ vs) (setPen c (wp ρ1 vs)) D := nD.wiped c vs
        have SG := S2.guard (o := .lst av) nW h2D
        refine hg _ G2 H2 _ v SG dv _ fun σ3 S3 o3 => ⟨?_, ?_⟩
        · exact wipe_same (js := js) (o3.l.trans (wipe_length σ vs)) o3.s hjs
        · -- what an env of the turn tells of the outer one
          have shrink : ∀ (c4 : Nat) (i : Nat) (s : Sl), (setPen c4 (wp ρ1 vs))[i]? = some (some s) → σ3[i]? = (wipe σ vs)[i]? ∧ (setPen c4 ρ2)[i]? = some (some s) := fun c4 i s e => by
            have hi : i ∉ vs := by
              rw [setPen_get] at e
              cases e1 : (wp ρ1 vs)[i]? with
              | none => rw [e1] at e; cases e
              | some o =>
                cases o with
                | none => rw [e1] at e; cases e
                | some o => exact wp_in e1
            have hj : i ∉ js := fun z => hi (hjs i z)
            refine ⟨o3.s i hj, ?_⟩
            have e3 := o3.r i hj
            rw [setPen_get] at e
            rw [setPen_get, e3, setPen_get, Option.map_map, show (pn c4 ∘ pn c) = pn c4 from by funext o; exact pn_pn c4 c o]
            exact e
          have next : ∀ (c4 : Nat) (G5 H5 : Hp) (av5 : List V) (acc5 : List PyData), SA K b G5 H5 σ3 (setPen c4 ρ2) → J (i + 1) c4 acc5 → acc5.length ≤ i + 1 → Sub G1 G5 → G5 D = none → H5 D = some (.lst av5) → DAs K G5 av5 acc5 →
              i + 1 ≤ xs.length ∧ ∃ c acc G2 av, J (i + 1) c acc ∧ acc.length ≤ i + 1 ∧ SA K b G2 H5 (wipe σ vs) (setPen c (wp ρ1 vs)) ∧ Sub G1 G2 ∧ G2 D = none ∧ H5 D = some (.lst av) ∧ DAs K G2 av acc := fun c4 G5 H5 av5 acc5 S5 hJ5 hl5 g5 gd5 hd5 da5 =>
            ⟨hlt, c4, acc5, G5, av5, hJ5, hl5, S5.less (by rw [wipe_length, setPen_len, wp_len]; exact sigl) (fun i s e => by
              obtain ⟨e1, e2⟩ := shrink c4 i s e
              exact ⟨e1.symm, s, e2, Wk.refl s⟩), g5, gd5, hd5, da5⟩
          refine ht.runG S3 fun t ρ3 G3 H3 ⟨c3, e3, hT, hF⟩ S4 g3 => ?_
          subst e3
          have h3D : H3 D = some (.lst av) := S4.keep D _ upd_same
          have g3D : G3 D = none := S4.new D g2D ⟨(by rw [h2D]; exact fun z => (nomatch z)), nW.own⟩
          have gg3 : Sub G1 G3 := (g1.trans st.gg).trans g3
          have nA : ∀ c4, NotAt σ3 (setPen c4 ρ2) D := fun c4 => {
            own := fun i ys e z => by
              obtain ⟨a, _, h1, _, h2, _⟩ := S3.own i ys (setPen_own.mp e)
              rw [h1] at z
              cases z
              have h2' : upd b.P D (.lst av) D = none := h2
              rw [upd_same] at h2'
              cases h2'
            pen := fun i d e z => by
              obtain ⟨_, d', e'⟩ := setPen_pen e
              obtain ⟨a, h1, _, h2, _⟩ := S3.pen i d' e'
              rw [h1] at z
              cases z
              have h2' : upd b.P D (.lst av) D = none := h2
              rw [upd_same] at h2'
              cases h2' }
          cases t with
          | true =>
            show te σ3 H3 _
            refine (hT rfl).runG S4 fun v5 y5 ρ5 G5 H5 ⟨c5, e5, hJ5⟩ S5 g5 d5 => ?_
            subst e5
            have h5D : H5 D = some (.lst av) := S5.keep D _ upd_same
            have g5D : G5 D = none := S5.new D g2D ⟨(by rw [h2D]; exact fun z => (nomatch z)), nW.own⟩
            have S5' := S2.unguard hPD S5
            have W := S5'.write (o := .lst (av ++ [v5])) (nA c5) g5D hPD (by rw [h5D]; exact fun z => nomatch z)
            refine ⟨av, h5D, Nat.lt_of_le_of_lt (show av.length ≤ 100000 by rw [dacc.length]; omega) (by decide), next c5 G5 _ (av ++ [v5]) (acc ++ [y5]) W hJ5 (by rw [List.length_append]; show acc.length + 1 ≤ i + 1; omega) (gg3.trans g5) g5D upd_same ?_⟩
            exact (((dacc.mono st.gg).mono g3).mono g5).append (.cons d5 .nil)
          | false =>
            exact next c3 G3 H3 av acc (S2.unguard hPD S4) (hF rfl) (by omega) gg3 g3D h3D ((dacc.mono st.gg).mono g3)
      · have e : i = xs.length := by omega
        subst e
        refine .inl ⟨w.stop _ G' H' g1 S'.sub rfl, ?_⟩
        -- the outer env again
        have SO : SA K b G' H' σ (setPen c ρ1) := {
          sub := S'.sub, gg := S'.gg, new := S'.new, keep := S'.keep, trk := S'.trk, ptr := S'.ptr, gtr := S'.gtr
          dat := fun i x e => by
            obtain ⟨v, h1, h2⟩ := S1.dat i x (setPen_d.mp e)
            exact ⟨v, h1, h2.mono g1⟩
          own := fun i ys e => by
            have e1 := setPen_own.mp e
            have hi : i ∉ vs := fun z => by
              obtain ⟨x, hx⟩ := hvs i _ z e1
              cases hx
            obtain ⟨a, us, h1, h2⟩ := S'.own i ys (setPen_own.mpr (by rw [wp_out hi]; exact e1))
            rw [wipe_out hi] at h1
            exact ⟨a, us, h1, h2⟩
          sep := fun i j ys zs a ei ej => S1.sep i j ys zs a (setPen_own.mp ei) (setPen_own.mp ej)
          pen := fun i d e => by
            obtain ⟨ed, d', e1⟩ := setPen_pen e
            subst ed
            have hi : i ∉ vs := fun z => by
              obtain ⟨x, hx⟩ := hvs i _ z e1
              cases hx
            have e2 : (setPen d (wp ρ1 vs))[i]? = some (some (Sl.pen d)) := by
              rw [setPen_get, wp_out hi, e1]
              rfl
            obtain ⟨a, h1, h2⟩ := S'.pen i d e2
            rw [wipe_out hi] at h1
            exact ⟨a, h1, h2⟩
          penp := fun i d e => by
            obtain ⟨_, d', e1⟩ := setPen_pen e
            exact S1.penp i d' e1
          onep := fun i j d d' ei ej => by
            obtain ⟨_, u, h1⟩ := setPen_pen ei
            obtain ⟨_, u', h2⟩ := setPen_pen ej
            exact S1.onep i j u u' h1 h2
          len := by rw [setPen_len]; exact sigl }
        have SD := SO.adopt (o := .lst av) (nD.same c) hTD gD hHD
        exact q _ _ _ _ _ (hd c acc hJ) SD (.lst upd_same (dacc.mono fun a u e => by rw [upd_ne (fun z => by rw [z, gD] at e; cases e)]; exact e))
end
end RS
end
section
set_option Elab.async false
set_option linter.all false
set_option autoImplicit false
set_option maxRecDepth 100000
set_option maxHeartbeats 2000000
/-! RS5: defs, calls; lists of one's own -/
namespace RS
open PySem L2
/-- a pure def: n arguments, what must hold of them, what may come back -/
def spR (K : PySem.W.Frag) (n : Nat) (Pre : List PyData → Prop) (R : List PyData → PyData → Prop) : Sp := fun vs H Q _ => ∃ G ds, Sub G H ∧ DAs K G vs ds ∧ ds.length = n ∧ Pre ds ∧
  ∀ v y G2 H2, R ds y → Step G H G2 H2 → DA K G2 v y → Q v H2
def LIM : Nat := 1000000000000000
structure StepP (p : Addr) (G H G2 H2 : Hp) : Prop where
  gg : Sub G G2
  sub : Sub G2 H2
  hh : ∀ a o, a ≠ p → H a = some o → H2 a = some o
  new : ∀ a, G a = none → H a ≠ none → G2 a = none
/-- a def that draws: the pen, then n arguments; at most B draws -/
def spP (K : PySem.W.Frag) (n : Nat) (Pre : List PyData → Prop) (B : Nat) (R : List PyData → PyData → Prop) : Sp := fun vs H Q _ => ∃ G p c vs' ds, vs = .ref p :: vs' ∧ Sub G H ∧ G p = none ∧ PenAt K G H p c ∧ c + B ≤ LIM ∧ DAs K G vs' ds ∧ ds.length = n ∧ Pre ds ∧
  ∀ v y G2 H2, R ds y → StepP p G H G2 H2 → PenAt K G2 H2 p (c + B) → DA K G2 v y → Q v H2
section
variable {K : PySem.W.Frag} {ρ : En} {ta : TA} {n B : Nat} {Pre : List PyData → Prop} {Rf : List PyData → PyData → Prop}
theorem ev_call {E : XK} {R1 : En → List PyData → Prop} {R : En → PyData → Prop} (h : EvA K ta ρ R1) (k : ∀ ρ1 ds, R1 ρ1 ds → ds.length = n ∧ Pre ds ∧ ∀ y, Rf ds y → R ρ1 y) : Ev K (tCall (spR K n Pre Rf) [] E ta) ρ R := fun b G H σ S Q q =>
  h _ G H σ S _ fun vs ds ρ1 G1 H1 h1 S1 d1 => by
    obtain ⟨hl, hp, hy⟩ := k ρ1 ds h1
    rw [List.append_nil]
    exact ⟨G1, ds, S1.sub, d1, hl, hp, fun v y G2 H2 r st d => q v y ρ1 G2 H2 (hy y r) (S1.step st) d⟩
/-- a def's value is known -/
theorem ed_call {E : XK} {ds : List PyData} {y : PyData} (h : Ea K ta ρ ds) (hl : ds.length = n) (hp : Pre ds) (hy : ∀ z, Rf ds z → z = y) : Ed K (tCall (spR K n Pre Rf) [] E ta) ρ y := ev_call h fun ρ1 es e => by
  obtain ⟨rfl, rfl⟩ := e
  exact ⟨hl, hp, fun z hz => ⟨rfl, hy z hz⟩⟩
theorem SA.stepP {b : Bs} {G H G2 H2 : Hp} {σ : L2.St} {i c c' : Nat} {p : Addr} (S : SA K b G H σ ρ) (hi : ρ[i]? = some (some (Sl.pen c))) (hs : σ[i]? = some (some (V.ref p))) (st : StepP p G H G2 H2) (P : PenAt K G2 H2 p c') : SA K b G2 H2 σ (setPen c' ρ) := by
  obtain ⟨p', e1, gp, bp, hp⟩ := S.pen i c hi
  rw [hs] at e1
  cases e1
  obtain ⟨kv, hpd⟩ := hp.there
  obtain ⟨kv2, hpd2⟩ := P.there
  exact {
    sub := st.sub
    gg := S.gg.trans st.gg
    new := fun a h q => st.new a (S.new a h q) (S.trk a q)
    keep := fun a o e => st.hh a o (fun z => by rw [z, bp] at e; cases e) (S.keep a o e)
    trk := fun a q => by
      by_cases ha : a = p
      · subst ha; rw [hpd2]; exact fun z => nomatch z
      · cases e : H a with
        | none => exact absurd e (S.trk a q)
        | some o => rw [st.hh a o ha e]; exact fun z => nomatch z
    ptr := S.ptr
    gtr := S.gtr
    dat := fun j x e => by
      obtain ⟨v, h1, h2⟩ := S.dat j x (setPen_d.mp e)
      exact ⟨v, h1, h2.mono st.gg⟩
    own := fun j xs e => by
      obtain ⟨a, vs, h1, h2, h3, h4, h5, h6⟩ := S.own j xs (setPen_own.mp e)
      exact ⟨a, vs, h1, st.new a h2 (by rw [h4]; exact fun z => nomatch z), h3, st.hh a _ (fun z => by rw [z, hpd] at h4; cases h4) h4, h5.mono st.gg, h6⟩
    sep := fun j k xs ys a ej ek => S.sep j k xs ys a (setPen_own.mp ej) (setPen_own.mp ek)
    pen := fun j d e => by
      obtain ⟨ed, e0, h⟩ := setPen_pen e
      subst ed
      have ij : i = j := S.onep i j c e0 hi h
      subst ij
      exact ⟨p, hs, st.new p gp (by rw [hpd]; exact fun z => nomatch z), bp, P⟩
    penp := fun j d e => by
      obtain ⟨_, e0, h⟩ := setPen_pen e
      exact S.penp j e0 h
    onep := fun j k d d' ej ek => by
      obtain ⟨_, u, h1⟩ := setPen_pen ej
      obtain ⟨_, u', h2⟩ := setPen_pen ek
      exact S.onep j k u u' h1 h2
    len := by rw [setPen_len]; exact S.len }
theorem setPen_at {c d : Nat} {ρ : En} {i : Nat} (h : ρ[i]? = some (some (Sl.pen d))) : (setPen c ρ)[i]? = some (some (Sl.pen c)) := by
  rw [setPen_get, h]
  rfl
theorem ev_callP {E : XK} {R1 : En → List PyData → Prop} {R : En → PyData → Prop} {i c0 : Nat} (hi : ρ[i]? = some (some (Sl.pen c0))) (h : EvA K ta ρ R1)
    (k : ∀ ρ1 ds, R1 ρ1 ds → ∃ c1, ρ1 = setPen c1 ρ ∧ ds.length = n ∧ Pre ds ∧ c1 + B ≤ LIM ∧ ∀ y, Rf ds y → R (setPen (c1 + B) ρ) y) : Ev K (tCall (spP K n Pre B Rf) [] E (tCons (tVar i) ta)) ρ R := fun b G H σ S Q q => by
  obtain ⟨p, hs, _, _, _⟩ := S.pen i c0 hi
  refine ⟨.ref p, hs, ?_⟩
  refine h _ G H σ S _ fun vs ds ρ1 G1 H1 h1 S1 d1 => ?_
  obtain ⟨c1, e1, hl, hp, hc, hy⟩ := k ρ1 ds h1
  subst e1
  have hi1 := setPen_at (c := c1) hi
  obtain ⟨p', hs', gp, bp, PA⟩ := S1.pen i c1 hi1
  rw [hs] at hs'
  cases hs'
  rw [List.append_nil]
  refine ⟨G1, p, c1, vs, ds, rfl, S1.sub, gp, PA, hc, d1, hl, hp, fun v y G2 H2 r st P2 d => ?_⟩
  have S2 := S1.stepP hi1 hs st P2
  rw [setPen_setPen] at S2
  exact q v y _ G2 H2 (hy y r) S2 d
end

/-! ### a def keeps its promise by its body -/
def startE (N : List Str) (ds : List PyData) : En := ds.map (fun d => some (Sl.d d)) ++ List.replicate (N.length - ds.length) none
def startP (N : List Str) (c : Nat) (ds : List PyData) : En := some (Sl.pen c) :: (ds.map (fun d => some (Sl.d d)) ++ List.replicate (N.length - (ds.length + 1)) none)
def RetO (R : PyData → Prop) : Out → Prop
  | .rt _ y => R y
  | .nx _ => R .none
  | _ => False
def RetP (c : Nat) (R : PyData → Prop) : Out → Prop
  | .rt ρ y => R y ∧ ∃ d, ρ[0]? = some (some (Sl.pen d)) ∧ d ≤ c
  | .nx ρ => R .none ∧ ∃ d, ρ[0]? = some (some (Sl.pen d)) ∧ d ≤ c
  | _ => False
theorem get_app {α : Type} {xs : List α} {m i : Nat} {y : α} {none_ : α} (h : (xs ++ List.replicate m none_)[i]? = some y) : xs[i]? = some y ∨ y = none_ := by
  rw [List.getElem?_append] at h
  split at h
  · exact .inl h
  · rw [List.getElem?_replicate] at h
    split at h
    · cases h; exact .inr rfl
    · cases h
theorem sa_start {K : PySem.W.Frag} {G H : Hp} {vs : List V} {ds : List PyData} {N : List Str} (s : Sub G H) (d : DAs K G vs ds) : SA K ⟨G, H, fun a => H a ≠ none, 0⟩ G H (L2.start N vs) (startE N ds) := by
  have key : ∀ (i : Nat) (s : Sl), (startE N ds)[i]? = some (some s) → ∃ x, s = Sl.d x ∧ ds[i]? = some x := fun i s e => by
    rcases get_app e with h | h
    · rw [List.getElem?_map] at h
      cases hd : ds[i]? with
      | none => rw [hd] at h; cases h
      | some x => rw [hd] at h; cases h; exact ⟨x, rfl, rfl⟩
    · cases h
  exact {
    sub := s, gg := Sub.refl G, new := fun a h _ => h, keep := Sub.refl H, trk := fun a h => h, ptr := fun a h => h
    gtr := fun a h => by
      show H a ≠ none
      cases e : G a with
      | none => exact absurd e h
      | some o => rw [s a o e]; exact fun z => nomatch z
    dat := fun i x e => by
      obtain ⟨y, h1, h2⟩ := key i _ e
      cases h1
      obtain ⟨v, hv, dv⟩ := d.get h2
      refine ⟨v, ?_, dv⟩
      unfold L2.start
      rw [List.getElem?_append_left (by rw [List.length_map]; exact (List.getElem?_eq_some_iff.mp hv).1), List.getElem?_map, hv]
      rfl
    own := fun i xs e => by obtain ⟨_, h, _⟩ := key i _ e; cases h
    sep := fun i j xs ys a e => by obtain ⟨_, h, _⟩ := key i _ e; cases h
    pen := fun i c e => by obtain ⟨_, h, _⟩ := key i _ e; cases h
    penp := fun i c e => by obtain ⟨_, h, _⟩ := key i _ e; cases h
    onep := fun i j c c' e => by obtain ⟨_, h, _⟩ := key i _ e; cases h
    len := by
      unfold L2.start startE
      rw [List.length_append, List.length_append, List.length_map, List.length_map, List.length_replicate, List.length_replicate, d.length] }
def wo (H : Hp) (p : Addr) : Hp := fun a => if a = p then none else H a
theorem sa_startP {K : PySem.W.Frag} {G H : Hp} {p : Addr} {c : Nat} {vs : List V} {ds : List PyData} {N : List Str} (s : Sub G H) (gp : G p = none) (P : PenAt K G H p c) (d : DAs K G vs ds) : SA K ⟨G, wo H p, fun a => H a ≠ none, p⟩ G H (L2.start N (.ref p :: vs)) (startP N c ds) := by
  have key : ∀ (i : Nat) (s : Sl), (startP N c ds)[i]? = some (some s) → (i = 0 ∧ s = Sl.pen c) ∨ ∃ x j, i = j + 1 ∧ s = Sl.d x ∧ ds[j]? = some x := fun i s e => by
    cases i with
    | zero =>
      cases (show some (some (Sl.pen c)) = some (some s) from e)
      exact .inl ⟨rfl, rfl⟩
    | succ j =>
      have e' : (ds.map (fun d => some (Sl.d d)) ++ List.replicate (N.length - (ds.length + 1)) none)[j]? = some (some s) := e
      rcases get_app e' with h | h
      · rw [List.getElem?_map] at h
        cases hd : ds[j]? with
        | none => rw [hd] at h; cases h
        | some x => rw [hd] at h; cases h; exact .inr ⟨x, j, rfl, rfl, hd⟩
      · cases h
  have hlen : vs.length = ds.length := d.length
  exact {
    sub := s, gg := Sub.refl G, new := fun a h _ => h
    keep := fun a o e => by
      have e' : (if a = p then none else H a) = some o := e
      split at e'
      · cases e'
      · exact e'
    trk := fun a h => h
    ptr := fun a h => by
      have e' : (if a = p then none else H a) ≠ none := h
      show H a ≠ none
      split at e'
      · exact absurd rfl e'
      · exact e'
    gtr := fun a h => by
      show H a ≠ none
      cases e : G a with
      | none => exact absurd e h
      | some o => rw [s a o e]; exact fun z => nomatch z
    dat := fun i x e => by
      rcases key i _ e with ⟨_, h⟩ | ⟨y, j, rfl, h, h2⟩
      · cases h
      · cases h
        obtain ⟨v, hv, dv⟩ := d.get h2
        refine ⟨v, ?_, dv⟩
        unfold L2.start
        show (((vs.map some) ++ List.replicate (N.length - (V.ref p :: vs).length) none))[j]? = some (some v)
        rw [List.getElem?_append_left (by rw [List.length_map]; exact (List.getElem?_eq_some_iff.mp hv).1), List.getElem?_map, hv]
        rfl
    own := fun i xs e => by
      rcases key i _ e with ⟨_, h⟩ | ⟨_, _, _, h, _⟩ <;> cases h
    sep := fun i j xs ys a e => by
      rcases key i _ e with ⟨_, h⟩ | ⟨_, _, _, h, _⟩ <;> cases h
    pen := fun i d' e => by
      rcases key i _ e with ⟨h0, h⟩ | ⟨_, _, _, h, _⟩
      · cases h
        subst h0
        refine ⟨p, rfl, gp, ?_, P⟩
        show (if p = p then none else H p) = none
        rw [if_pos rfl]
      · cases h
    penp := fun i c e => by
      rcases key i _ e with ⟨h0, h⟩ | ⟨_, _, _, h, _⟩
      · subst h0
        rfl
      · cases h
    onep := fun i j c c' e e' => by
      rcases key i _ e with ⟨h0, h⟩ | ⟨_, _, _, h, _⟩
      · rcases key j _ e' with ⟨h1, h'⟩ | ⟨_, _, _, h', _⟩
        · rw [h0, h1]
        · cases h'
      · cases h
    len := by
      unfold L2.start startP
      simp only [List.map_cons, List.cons_append, List.length_cons, List.length_append, List.length_map, List.length_replicate, hlen] }
section
variable {P : Program} {w : World} {K : PySem.W.Frag} {mg : Str → Option Value} {base : Heap}
theorem fn_pure {x qual : Str} {st : Stmt} {f : Addr} {fd : FuncData} {N ps : List Str} {k : Nat} {Pre : List PyData → Prop} {R : List PyData → PyData → Prop} (F : Fun K x qual st f fd) (S : FnScope N ps (defScope st))
    (hb : ∀ (cdv : Value) (A : Around) (outer : List PySem.Env) (s : Shared) (H : Hp) (E : XK), Room k (A.deeper (PyProof.Rows.envOfC qual (defScope st) s.heap.objs.size f cdv)) →
      ∃ t, PSs (cxOf CX0 P w K mg base N qual (defScope st) f cdv A outer s H E).nox (defBody st) t ∧ ∀ ds, ds.length = ps.length → Pre ds → Es K t (startE N ds) (RetO (R ds))) :
    FnOk P w K mg base CX0 (k + 1) f fd ps (spR K ps.length Pre R) := by
  refine F.ok S (fun vs H Q E h => ?_) (fun cdv A outer s H vs Q E hr h => ?_)
  · obtain ⟨G, ds, _, d, hl, _⟩ := h
    rw [d.length, hl]
  · obtain ⟨t, ht, hs⟩ := hb cdv A outer s H E hr
    obtain ⟨G, ds, sub, d, hl, hp, q⟩ := h
    refine ⟨t, ht, hs ds hl hp _ G H _ _ (sa_start sub d) ⟨fun ρ σ G2 H2 o S2 => ?_, fun ρ y v σ G2 H2 o S2 dv => ?_, fun _ _ _ _ o => o.elim, fun _ _ _ _ o => o.elim⟩⟩
    · exact q .non .none G2 H2 o ⟨S2.gg, S2.sub, S2.keep, S2.new⟩ .non
    · exact q v y G2 H2 o ⟨S2.gg, S2.sub, S2.keep, S2.new⟩ dv
theorem fn_pen {x qual : Str} {st : Stmt} {f : Addr} {fd : FuncData} {N ps : List Str} {a : Str} {k B : Nat} {Pre : List PyData → Prop} {R : List PyData → PyData → Prop} (F : Fun K x qual st f fd) (S : FnScope N (a :: ps) (defScope st))
    (hb : ∀ (cdv : Value) (A : Around) (outer : List PySem.Env) (s : Shared) (H : Hp) (E : XK), Room k (A.deeper (PyProof.Rows.envOfC qual (defScope st) s.heap.objs.size f cdv)) →
      ∃ t, PSs (cxOf CX0 P w K mg base N qual (defScope st) f cdv A outer s H E).nox (defBody st) t ∧ ∀ c ds, c + B ≤ LIM → ds.length = ps.length → Pre ds → Es K t (startP N c ds) (RetP (c + B) (R ds))) :
    FnOk P w K mg base CX0 (k + 1) f fd (a :: ps) (spP K ps.length Pre B R) := by
  refine F.ok S (fun vs H Q E h => ?_) (fun cdv A outer s H vs Q E hr h => ?_)
  · obtain ⟨G, p, c, vs', ds, rfl, _, _, _, _, d, hl, _⟩ := h
    rw [List.length_cons, List.length_cons, d.length, hl]
  · obtain ⟨t, ht, hs⟩ := hb cdv A outer s H E hr
    obtain ⟨G, p, c, vs', ds, rfl, sub, gp, PA, hc, d, hl, hp, q⟩ := h
    obtain ⟨kv, hpd⟩ := PA.there
    have kp : ∀ {ρ : En} {σ : L2.St} {G2 H2 : Hp}, SA K ⟨G, wo H p, fun a => H a ≠ none, p⟩ G2 H2 σ ρ → StepP p G H G2 H2 := fun S2 => ⟨S2.gg, S2.sub, fun a o ha e => S2.keep a o (by
      show (if a = p then none else H a) = some o
      rw [if_neg ha]; exact e), S2.new⟩
    refine ⟨t, ht, ?_⟩
    -- the pen stays where it is: slot 0 is never stored to, or the outcome says so
    refine hs c ds hc hl hp _ G H _ _ (sa_startP sub gp PA d) ⟨fun ρ σ G2 H2 o S2 => ?_, fun ρ y v σ G2 H2 o S2 dv => ?_, fun _ _ _ _ o => o.elim, fun _ _ _ _ o => o.elim⟩
    · obtain ⟨o1, d', e, le⟩ := o
      obtain ⟨p', h1, h2, h3, h4⟩ := S2.pen 0 d' e
      have h5 := S2.penp 0 d' e
      rw [h1] at h5
      cases h5
      exact q .non .none G2 H2 o1 (kp S2) (h4.mono (Sub.refl G2) (fun _ z => z) le) .non
    · obtain ⟨o1, d', e, le⟩ := o
      obtain ⟨p', h1, h2, h3, h4⟩ := S2.pen 0 d' e
      have h5 := S2.penp 0 d' e
      rw [h1] at h5
      cases h5
      exact q v y G2 H2 o1 (kp S2) (h4.mono (Sub.refl G2) (fun _ z => z) le) dv
end
end RS
end
section
set_option Elab.async false
set_option linter.all false
set_option autoImplicit false
set_option maxRecDepth 100000
set_option maxHeartbeats 2000000
/-! RS6: lists of one's own -/
namespace RS
open PySem L2
section
variable {K : PySem.W.Frag} {b : Bs} {G H : Hp} {σ : L2.St} {ρ : En}
/-- a name gets a list of one's own, at D -/
theorem SA.setOwn {D : Addr} {vs : List V} {xs : List PyData} (S : SA K b G H σ ρ) (i : Nat) (n : NotAt σ ρ D) (hG : G D = none) (hP : b.P D = none) (hD : H D = some (.lst vs)) (hd : DAs K G vs xs) (hT : ¬ b.T D) : SA K b G H (σ.set i (some (.ref D))) (ρ.set i (some (.own xs))) := by
  have hw : ∀ (j : Nat) (s : Sl), (ρ.set i none)[j]? = some (some s) → (σ.set i (some (.ref D)))[j]? = σ[j]? ∧ ∃ s', ρ[j]? = some (some s') ∧ Wk s' s := fun j s e => by
    rw [List.getElem?_set] at e
    by_cases hj : i = j
    · rw [if_pos hj] at e
      split at e <;> cases e
    · rw [if_neg hj] at e
      rw [List.getElem?_set, if_neg hj]
      exact ⟨rfl, s, e, Wk.refl s⟩
  have S0 : SA K b G H (σ.set i (some (.ref D))) (ρ.set i none) := S.less (by rw [List.length_set, List.length_set, S.len]) hw
  have n0 : NotAt (σ.set i (some (.ref D))) (ρ.set i none) D := n.less hw
  have cases_ : ∀ (j : Nat) (s : Sl), (ρ.set i (some (.own xs)))[j]? = some (some s) → (j = i ∧ s = .own xs ∧ (σ.set i (some (.ref D)))[j]? = some (some (.ref D))) ∨ (ρ.set i none)[j]? = some (some s) := fun j s e => by
    rw [List.getElem?_set] at e
    by_cases hj : i = j
    · subst hj
      rw [if_pos rfl] at e
      split at e
      · rename_i hl
        cases e
        refine .inl ⟨rfl, rfl, ?_⟩
        rw [List.getElem?_set, if_pos rfl, if_pos (by rw [S.len]; exact hl)]
      · cases e
    · rw [if_neg hj] at e
      right
      rw [List.getElem?_set, if_neg hj]
      exact e
  exact {
    sub := S.sub, gg := S.gg, new := S.new, keep := S.keep, trk := S.trk, ptr := S.ptr, gtr := S.gtr
    dat := fun j y e => by
      rcases cases_ j _ e with ⟨_, h2, _⟩ | h
      · cases h2
      · exact S0.dat j y h
    own := fun j ys e => by
      rcases cases_ j _ e with ⟨_, h2, h3⟩ | h
      · cases h2
        exact ⟨D, vs, h3, hG, hP, hD, hd, hT⟩
      · exact S0.own j ys h
    sep := fun j k ys zs a ej ek ne hj hk => by
      rcases cases_ j _ ej with ⟨e1, h2, h3⟩ | h
      · rcases cases_ k _ ek with ⟨e1', _, _⟩ | h'
        · exact ne (e1.trans e1'.symm)
        · rw [h3] at hj
          cases hj
          exact n0.own k zs h' hk
      · rcases cases_ k _ ek with ⟨_, h2, h3⟩ | h'
        · rw [h3] at hk
          cases hk
          exact n0.own j ys h hj
        · exact S0.sep j k ys zs a h h' ne hj hk
    pen := fun j c e => by
      rcases cases_ j _ e with ⟨_, h2, _⟩ | h
      · cases h2
      · exact S0.pen j c h
    penp := fun j c e => by
      rcases cases_ j _ e with ⟨_, h2, _⟩ | h
      · cases h2
      · exact S0.penp j c h
    onep := fun j k c c' ej ek => by
      rcases cases_ j _ ej with ⟨_, h2, _⟩ | h
      · cases h2
      · rcases cases_ k _ ek with ⟨_, h2, _⟩ | h'
        · cases h2
        · exact S0.onep j k c c' h h'
    len := by rw [List.length_set, List.length_set, S.len] }
/-- the list of one's own at slot i changes -/
theorem SA.own_write {i : Nat} {a : Addr} {vs' : List V} {xs xs' : List PyData} (S : SA K b G H σ ρ) (hi : ρ[i]? = some (some (Sl.own xs))) (hs : σ[i]? = some (some (V.ref a))) (hd : DAs K G vs' xs') : SA K b G (upd H a (.lst vs')) σ (ρ.set i (some (.own xs'))) := by
  obtain ⟨a', vs0, h1, hG, hP, hH, _, hT⟩ := S.own i xs hi
  rw [hs] at h1
  cases h1
  -- without slot i nothing of the env stands at a
  have hw : ∀ (j : Nat) (s : Sl), (ρ.set i none)[j]? = some (some s) → i ≠ j ∧ ρ[j]? = some (some s) := fun j s e => by
    rw [List.getElem?_set] at e
    by_cases hj : i = j
    · rw [if_pos hj] at e
      split at e <;> cases e
    · rw [if_neg hj] at e
      exact ⟨hj, e⟩
  have S0 : SA K b G H σ (ρ.set i none) := S.less (by rw [List.length_set, S.len]) fun j s e => ⟨rfl, s, (hw j s e).2, Wk.refl s⟩
  have n0 : NotAt σ (ρ.set i none) a := {
    own := fun j ys e z => S.sep i j xs ys a hi (hw j _ e).2 (hw j _ e).1 hs z
    pen := fun j c e z => by
      obtain ⟨p, q1, _, _, q4⟩ := S.pen j c (hw j _ e).2
      rw [z] at q1
      cases q1
      obtain ⟨kv, q⟩ := q4.there
      rw [hH] at q
      cases q }
  have S1 := S0.write (o := .lst vs') n0 hG hP (by rw [hH]; exact fun z => nomatch z)
  have S2 := S1.setOwn i n0 hG hP upd_same hd hT
  have es : σ.set i (some (V.ref a)) = σ := by
    apply List.ext_getElem?
    intro j
    rw [List.getElem?_set]
    by_cases hj : i = j
    · subst hj
      rw [if_pos rfl, if_pos (List.getElem?_eq_some_iff.mp hs).1, hs]
    · rw [if_neg hj]
  have er : (ρ.set i none).set i (some (Sl.own xs')) = ρ.set i (some (Sl.own xs')) := by
    rw [List.set_set]
  rw [es, er] at S2
  exact S2
/-- a list of one's own is data from now on -/
theorem SA.disown {i : Nat} {xs : List PyData} (S : SA K b G H σ ρ) (hi : ρ[i]? = some (some (Sl.own xs))) : ∃ G2, SA K b G2 H σ (ρ.set i (some (.d (.list xs)))) := by
  obtain ⟨a, vs, hs, hG, hP, hH, hd, hT⟩ := S.own i xs hi
  have hw : ∀ (j : Nat) (s : Sl), (ρ.set i none)[j]? = some (some s) → i ≠ j ∧ ρ[j]? = some (some s) := fun j s e => by
    rw [List.getElem?_set] at e
    by_cases hj : i = j
    · rw [if_pos hj] at e
      split at e <;> cases e
    · rw [if_neg hj] at e
      exact ⟨hj, e⟩
  have S0 : SA K b G H σ (ρ.set i none) := S.less (by rw [List.length_set, S.len]) fun j s e => ⟨rfl, s, (hw j s e).2, Wk.refl s⟩
  have n0 : NotAt σ (ρ.set i none) a := {
    own := fun j ys e z => S.sep i j xs ys a hi (hw j _ e).2 (hw j _ e).1 hs z
    pen := fun j c e z => by
      obtain ⟨p, q1, _, _, q4⟩ := S.pen j c (hw j _ e).2
      rw [z] at q1
      cases q1
      obtain ⟨kv, q⟩ := q4.there
      rw [hH] at q
      cases q }
  have S1 := S0.adopt n0 hT hG hH
  have S2 := S1.set i (v := .ref a) (x := .list xs) (.lst upd_same (hd.mono fun c u q => by rw [upd_ne (fun z => by rw [z, hG] at q; cases q)]; exact q))
  have es : σ.set i (some (V.ref a)) = σ := by
    apply List.ext_getElem?
    intro j
    rw [List.getElem?_set]
    by_cases hj : i = j
    · subst hj
      rw [if_pos rfl, if_pos (List.getElem?_eq_some_iff.mp hs).1, hs]
    · rw [if_neg hj]
  have er : (ρ.set i none).set i (some (Sl.d (.list xs))) = ρ.set i (some (Sl.d (.list xs))) := by
    rw [List.set_set]
  rw [es, er] at S2
  exact ⟨_, S2⟩
end
/-! ### statements on them -/
section
variable {K : PySem.W.Frag} {ρ : En} {O : Out → Prop} {te tj : TE} {ta : TA} {u : TS} {g : TG} {i : Nat} {xs : List PyData}
theorem es_disown (hi : ρ[i]? = some (some (Sl.own xs))) (k : Es K u (ρ.set i (some (.d (.list xs)))) O) : Es K u ρ O := fun b G H σ D S T => by
  obtain ⟨G2, S2⟩ := S.disown hi
  exact k b G2 H σ D S2 T
theorem SA.newOwn {b : Bs} {G H : Hp} {σ : L2.St} {D : Addr} {vs : List V} (S : SA K b G H σ ρ) (i : Nat) (hD : H D = none) (hd : DAs K G vs xs) : SA K b G (upd H D (.lst vs)) (σ.set i (some (.ref D))) (ρ.set i (some (.own xs))) :=
  (S.step (Step.layH S.sub (.lst vs) hD)).setOwn i (S.notAt hD) (S.sub.none hD) (S.keep.none hD) upd_same hd fun z => S.trk D z hD
theorem eqv_ownL {R1 : En → List PyData → Prop} (h : EvA K ta ρ R1) (k : ∀ ρ1 ys, R1 ρ1 ys → ys.length ≤ 1000 ∧ Es K u (ρ1.set i (some (.own ys))) O) : Es K (tSeq (tAsg (tLst ta) (gName i)) u) ρ O := fun b G H σ D S T =>
  h b G H σ S _ fun vs ys ρ1 G1 H1 h1 S1 d1 => ⟨by
    rw [d1.length]
    exact Nat.le_of_lt (small1000 (k _ _ h1).1), fun p hp => (k _ _ h1).2 b G1 _ _ D (S1.newOwn i hp d1) T⟩
theorem eq_ownL (h : Ea K ta ρ xs) (hl : xs.length ≤ 1000) (k : Es K u (ρ.set i (some (.own xs))) O) : Es K (tSeq (tAsg (tLst ta) (gName i)) u) ρ O := eqv_ownL h fun ρ1 ys e => by
  obtain ⟨rfl, rfl⟩ := e
  exact ⟨hl, k⟩
/-- x = list(t) -/
theorem eq_ownT (h : Ed K te ρ (.tuple xs)) (k : Es K u (ρ.set i (some (.own xs))) O) :
    Es K (tSeq (tAsg (tCB (fun vs H Q => ∃ p ys, vs = [.ref p] ∧ (SqL K H p ys ∨ SqT K H p ys) ∧ ∀ l, H l = none → Q (.ref l) (upd H l (.lst ys))) (tCons te tNil)) (gName i)) u) ρ O := fun b G H σ D S T =>
  h b G H σ S _ fun v y ρ1 G1 H1 h1 S1 d1 => by
    obtain ⟨rfl, rfl⟩ := h1
    obtain ⟨a, vs, rfl, ha, hg, da⟩ := d1.tupH S1.sub
    exact ⟨a, vs, rfl, .inr ha, fun p hp => k b G1 _ _ D (S1.newOwn i hp da) T⟩
theorem tyL {H : Hp} {a : Addr} {vs : List V} (h : H a = some (.lst vs)) : tyV K "list" (.ref a) H := Or.inl ⟨rfl, _, Or.inl (Or.inl h)⟩
theorem SA.own_at {b : Bs} {G H : Hp} {σ : L2.St} (S : SA K b G H σ ρ) (hi : ρ[i]? = some (some (Sl.own xs))) {a : Addr} (hs : σ[i]? = some (some (V.ref a))) : ∃ vs, H a = some (.lst vs) ∧ DAs K G vs xs := by
  obtain ⟨a', vs, h1, _, _, h2, h3, _⟩ := S.own i xs hi
  rw [hs] at h1
  cases h1
  exact ⟨vs, h2, h3⟩
theorem esv_app {R : En → PyData → Prop} (hi : ρ[i]? = some (some (Sl.own xs))) (hl : xs.length ≤ 100000) (h : Ev K te ρ R) (k : ∀ ρ1 y, R ρ1 y → ρ1[i]? = some (some (Sl.own xs)) ∧ O (.nx (ρ1.set i (some (.own (xs ++ [y])))))) :
    Es K (tDrop (tBM K "list" rAppend (tVar i) (tCons te tNil))) ρ O := fun b G H σ D S T => by
  obtain ⟨a, vs, hs, _, _, hH, _, _⟩ := S.own i xs hi
  refine ⟨.ref a, hs, tyL hH, ?_⟩
  refine h b G H σ S _ fun v y ρ1 G1 H1 h1 S1 d1 => ?_
  obtain ⟨h2, h3⟩ := k ρ1 y h1
  obtain ⟨vs1, hH1, hd1⟩ := S1.own_at h2 hs
  refine ⟨a, vs1, v, rfl, rfl, hH1, Nat.lt_of_le_of_lt (show vs1.length ≤ 100000 by rw [hd1.length]; exact hl) (by decide), ?_⟩
  exact T.nx _ σ G1 _ h3 (S1.own_write h2 hs (hd1.append (.cons d1 .nil)))
theorem eqv_app {R : En → PyData → Prop} (hi : ρ[i]? = some (some (Sl.own xs))) (hl : xs.length ≤ 100000) (h : Ev K te ρ R) (k : ∀ ρ1 y, R ρ1 y → ρ1[i]? = some (some (Sl.own xs)) ∧ Es K u (ρ1.set i (some (.own (xs ++ [y])))) O) :
    Es K (tSeq (tDrop (tBM K "list" rAppend (tVar i) (tCons te tNil))) u) ρ O := es_then (esv_app hi hl h k)
theorem eq_app {y : PyData} (hi : ρ[i]? = some (some (Sl.own xs))) (hl : xs.length ≤ 100000) (h : Ed K te ρ y) (k : Es K u (ρ.set i (some (.own (xs ++ [y])))) O) : Es K (tSeq (tDrop (tBM K "list" rAppend (tVar i) (tCons te tNil))) u) ρ O :=
  eqv_app hi hl h fun ρ1 z e => by
    obtain ⟨rfl, rfl⟩ := e
    exact ⟨hi, k⟩
theorem es_app {y : PyData} (hi : ρ[i]? = some (some (Sl.own xs))) (hl : xs.length ≤ 100000) (h : Ed K te ρ y) (k : O (.nx (ρ.set i (some (.own (xs ++ [y])))))) : Es K (tDrop (tBM K "list" rAppend (tVar i) (tCons te tNil))) ρ O :=
  esv_app hi hl h fun ρ1 z e => by
    obtain ⟨rfl, rfl⟩ := e
    exact ⟨hi, k⟩
/-- x[j] = y, x a list of one's own -/
theorem es_setIx {y : PyData} {j : Nat} (hi : ρ[i]? = some (some (Sl.own xs))) (h : Ed K te ρ y) (hj : Ed K tj ρ (.int (j : Nat))) (hl : j < xs.length) (k : O (.nx (ρ.set i (some (.own (xs.set j y)))))) : Es K (tAsg te (gSub (tVar i) tj rSetL)) ρ O := fun b G H σ D S T =>
  h b G H σ S _ fun v z ρ1 G1 H1 h1 S1 d1 => by
    obtain ⟨rfl, rfl⟩ := h1
    obtain ⟨a, vs, hs, _, _, hH, _, _⟩ := S1.own i xs hi
    refine ⟨.ref a, hs, ?_⟩
    refine hj.runG S1 fun w z2 ρ2 G2 H2 h2 S2 g2 d2 => ?_
    obtain ⟨rfl, rfl⟩ := h2
    cases d2
    obtain ⟨vs2, hH2, hd2⟩ := S2.own_at hi hs
    refine ⟨a, vs2, (j : Int), j, rfl, rfl, hH2, ?_, ?_⟩
    · unfold ixN
      rw [if_pos (Int.natCast_nonneg j), if_pos (by rw [hd2.length]; omega), Int.toNat_natCast]
    · exact T.nx _ σ G2 _ k (S2.own_write hi hs (hd2.set j (d1.mono g2)))
theorem eq_setIx {y : PyData} {j : Nat} (hi : ρ[i]? = some (some (Sl.own xs))) (h : Ed K te ρ y) (hj : Ed K tj ρ (.int (j : Nat))) (hl : j < xs.length) (k : Es K u (ρ.set i (some (.own (xs.set j y)))) O) : Es K (tSeq (tAsg te (gSub (tVar i) tj rSetL)) u) ρ O := es_then (es_setIx hi h hj hl k)
theorem ed_lenOwn (hi : ρ[i]? = some (some (Sl.own xs))) : Ed K (tCB (fun vs H Q => ∃ p ys, vs = [.ref p] ∧ (SqL K H p ys ∨ SqT K H p ys) ∧ Q (.int ys.length) H) (tCons (tVar i) tNil)) ρ (.int xs.length) := fun b G H σ S Q q => by
  obtain ⟨a, vs, hs, _, _, hH, hd, _⟩ := S.own i xs hi
  refine ⟨.ref a, hs, a, vs, rfl, .inl (SqL.of hH), ?_⟩
  rw [hd.length]
  exact q _ _ ρ G H ⟨rfl, rfl⟩ S (.int _)
end
end RS
end
section
set_option Elab.async false
set_option linter.all false
set_option autoImplicit false
set_option maxRecDepth 100000
set_option maxHeartbeats 2000000
/-! RS7: the pen -/
namespace RS
open PySem L2
theorem putK_length {kvs : List (Key × V)} {k : Key} {v x : V} (h : valV kvs k = some x) : (putK kvs k v).length = kvs.length := by
  unfold putK
  rw [valV_any, h]
  show (if true = true then _ else _ : List (Key × V)).length = _
  rw [if_pos rfl, List.length_map]
theorem kne (a b : Str) (h : a ≠ b) : ¬ ((Sum.inr a : Key) = Sum.inr b) := fun z => h (Sum.inr.inj z)
section
variable {kvs : List (Key × V)} {ca : Addr} {a d c b : Int}
theorem PenD.put_at (h : PenD kvs ca a d c b) (x : Int) : PenD (putK kvs (Sum.inr "at") (.int x)) ca x d c b :=
  ⟨(putK_length h.at_).trans h.len, by rw [valV_put, if_neg (kne _ _ (by decide))]; exact h.cells, by rw [valV_put, if_pos rfl], by rw [valV_put, if_neg (kne _ _ (by decide))]; exact h.digits, by rw [valV_put, if_neg (kne _ _ (by decide))]; exact h.count, by rw [valV_put, if_neg (kne _ _ (by decide))]; exact h.blend⟩
theorem PenD.put_digits (h : PenD kvs ca a d c b) (x : Int) : PenD (putK kvs (Sum.inr "digits") (.int x)) ca a x c b :=
  ⟨(putK_length h.digits).trans h.len, by rw [valV_put, if_neg (kne _ _ (by decide))]; exact h.cells, by rw [valV_put, if_neg (kne _ _ (by decide))]; exact h.at_, by rw [valV_put, if_pos rfl], by rw [valV_put, if_neg (kne _ _ (by decide))]; exact h.count, by rw [valV_put, if_neg (kne _ _ (by decide))]; exact h.blend⟩
theorem PenD.put_count (h : PenD kvs ca a d c b) (x : Int) : PenD (putK kvs (Sum.inr "count") (.int x)) ca a d x b :=
  ⟨(putK_length h.count).trans h.len, by rw [valV_put, if_neg (kne _ _ (by decide))]; exact h.cells, by rw [valV_put, if_neg (kne _ _ (by decide))]; exact h.at_, by rw [valV_put, if_neg (kne _ _ (by decide))]; exact h.digits, by rw [valV_put, if_pos rfl], by rw [valV_put, if_neg (kne _ _ (by decide))]; exact h.blend⟩
theorem PenD.put_blend (h : PenD kvs ca a d c b) (x : Int) : PenD (putK kvs (Sum.inr "blend") (.int x)) ca a d c x :=
  ⟨(putK_length h.blend).trans h.len, by rw [valV_put, if_neg (kne _ _ (by decide))]; exact h.cells, by rw [valV_put, if_neg (kne _ _ (by decide))]; exact h.at_, by rw [valV_put, if_neg (kne _ _ (by decide))]; exact h.digits, by rw [valV_put, if_neg (kne _ _ (by decide))]; exact h.count, by rw [valV_put, if_pos rfl]⟩
end
/-! ### the texts of the three defs, as every law has them; the promises -/
/-- a draw: a number from 0 to many - 1 -/
def rDraw : List PyData → PyData → Prop := fun ds y => ∃ many r : Int, ds = [.int many] ∧ y = .int r ∧ 0 ≤ r ∧ r < many
def pDraw : List PyData → Prop := fun ds => ∃ many : Int, ds = [.int many] ∧ 0 < many ∧ many < 1000000
def rPick : List PyData → PyData → Prop := fun ds y => ∃ xs, (ds = [.list xs] ∨ ds = [.tuple xs]) ∧ y ∈ xs
def pPick : List PyData → Prop := fun ds => ∃ xs, (ds = [.list xs] ∨ ds = [.tuple xs]) ∧ xs ≠ [] ∧ xs.length < 1000000
/-- the pen is made -/
def spMkPen (K : PySem.W.Frag) : Sp := fun vs H Q _ => ∃ (a : Addr) (ns : List Int), vs = [.ref a] ∧ SqL K H a (ns.map V.int) ∧ ns.length ≤ 63 ∧
  ∀ (p ca : Addr) (H2 : Hp), H p = none → H ca = none → p ≠ ca → (∀ b o, H b = some o → H2 b = some o) → H2 ca = some (.lst (ns.map V.int)) → (∀ G, G ca = some (.lst (ns.map V.int)) → PenAt K G H2 p 0) → Q (.ref p) H2
/-! ### the readings -/
def gD (k : Str) : TE := tDGet (tVar 0) (tC (.str k))
def rLenS (K : PySem.W.Frag) : List V → Hp → VK → Prop := fun xs H Q => ∃ p ys, xs = [.ref p] ∧ (SqL K H p ys ∨ SqT K H p ys) ∧ Q (.int ys.length) H
def rInt1 : List V → Hp → VK → Prop := fun xs H Q => (∃ i, xs = [.int i] ∧ Q (.int i) H) ∨ ∃ k, xs = [.bl k] ∧ Q (.int (if k then 1 else 0)) H
def rAddI : R2 := rI0 fun i j => .int (i + j)
def rSubI : R2 := rI0 fun i j => .int (i - j)
def rMulI : R2 := rI CMul fun i j => .int (i * j)
def rModI : R2 := rI (fun _ j => 0 < j) fun i j => .int (i % j)
def rDivI : R2 := rI CDiv fun i j => .int (i / j)
def rPowI : R2 := rI CPow fun i j => .int (i ^ j.toNat)
def rLtI : R2 := rI0 fun i j => .bl (decide (i < j))
def rGtI : R2 := rI0 fun i j => .bl (decide (j < i))
def rGeI : R2 := rI0 fun i j => .bl (decide (j ≤ i))
def tDraw (K : PySem.W.Frag) : TS :=
  tSeq (sDPut (tVar 0) (tC (.str "count")) (tOp rAddI (gD "count") (tC (.int 1))))
  (tSeq (tIfS (tAnd (tTest (tOp rEq (gD "digits") (tC (.int 0)))) (tTest (tOp rLtI (gD "at") (tCB (rLenS K) (tCons (gD "cells") tNil)))))
      (tSeq (tAsg (tOp (rIx K) (gD "cells") (gD "at")) (gName 2))
      (tSeq (sDPut (tVar 0) (tC (.str "at")) (tOp rAddI (gD "at") (tC (.int 1))))
        (tIfS (tTest (tOp rGeI (tVar 2) (tOp rPowI (tC (.int 10)) (tC (.int 18)))))
          (sDPut (tVar 0) (tC (.str "digits")) (tOp rSubI (tVar 2) (tOp rPowI (tC (.int 10)) (tC (.int 18)))))
          (sDPut (tVar 0) (tC (.str "blend")) (tOp rModI (tCB rInt1 (tCons (tOp rAddI (tOp rMulI (gD "blend") (tC (.int 69069))) (tVar 2)) tNil)) (tC (.int 2147483587)))))))
      tNext)
  (tSeq (tIfS (tTest (tOp rGtI (gD "digits") (tC (.int 0))))
      (tSeq (tAsg (tOp rModI (tCB rInt1 (tCons (gD "digits") tNil)) (tVar 1)) (gName 3))
      (tSeq (sDPut (tVar 0) (tC (.str "digits")) (tOp rDivI (gD "digits") (tVar 1)))
        (tRet (tVar 3))))
      tNext)
  (tSeq (tAsg (tOp rAddI (tOp rAddI (gD "blend") (tOp rMulI (gD "count") (tC (.int 7907)))) (tC (.int 41))) (gName 4))
    (tRet (tOp rModI (tOp rDivI (tCB rInt1 (tCons (tOp rModI (tOp rPowI (tVar 4) (tC (.int 17))) (tC (.int 2305843009213693951))) tNil)) (tC (.int 128))) (tVar 1))))))
section
variable {σ : L2.St} {H : Hp} {p : Addr} {kvs : List (Key × V)} {k : Str} {v x y : V} {i j : Int} {ta tb : TE} {D : Ends}
theorem v_get (h0 : σ[0]? = some (some (V.ref p))) (hH : H p = some (.dK kvs)) (hv : valV kvs (Sum.inr k : Key) = some v) : Val (gD k) σ H v := fun Q q =>
  ⟨_, h0, p, v, rfl, by rw [← hv]; exact DGet.k (k := Sum.inr k) hH, q⟩
theorem v_put (h0 : σ[0]? = some (some (V.ref p))) (hH : H p = some (.dK kvs)) (hl : kvs.length = 5) (hv : Val ta σ H v) (q : D.nx σ (upd H p (.dK (putK kvs (Sum.inr k) v)))) : sDPut (tVar 0) (tC (.str k)) ta D σ H :=
  hv _ ⟨_, h0, p, _, rfl, DPut.k (k := Sum.inr k) hH (by rw [hl]; decide), q⟩
theorem v_I0 {g : Int → Int → V} (ha : Val ta σ H (.int i)) (hb : Val tb σ H (.int j)) : Val (tOp (rI0 g) ta tb) σ H (g i j) := val_op ha hb fun Q q => ⟨i, j, rfl, rfl, q⟩
theorem v_I {C : Int → Int → Prop} {g : Int → Int → V} (ha : Val ta σ H (.int i)) (hb : Val tb σ H (.int j)) (hc : C i j) : Val (tOp (rI C g) ta tb) σ H (g i j) := val_op ha hb fun Q q => ⟨i, j, rfl, rfl, hc, q⟩
theorem v_int (ha : Val ta σ H (.int i)) : Val (tCB rInt1 (tCons ta tNil)) σ H (.int i) := fun Q q => ha _ (.inl ⟨i, rfl, q⟩)
theorem v_len {K : PySem.W.Frag} {a : Addr} {xs : List V} (ha : Val ta σ H (.ref a)) (h : H a = some (.lst xs)) : Val (tCB (rLenS K) (tCons ta tNil)) σ H (.int xs.length) := fun Q q => ha _ ⟨a, xs, rfl, .inl (SqL.of h), q⟩
theorem v_ix {K : PySem.W.Frag} {a : Addr} {xs : List V} {n : Nat} (ha : Val ta σ H (.ref a)) (hb : Val tb σ H (.int (n : Nat))) (h : H a = some (.lst xs)) (hx : xs[n]? = some v) : Val (tOp (rIx K) ta tb) σ H v :=
  val_op ha hb fun Q q => .inl ⟨a, xs, _, v, rfl, rfl, SqL.of h, atI_nat hx, q⟩
theorem a_test {b : Bool} (h : Val ta σ H (.bl b)) : Ans (tTest ta) σ H b := fun Q q => h _ ⟨b, rfl, q⟩
theorem v_eq (ha : Val ta σ H (.int i)) (hb : Val tb σ H (.int j)) : Val (tOp rEq ta tb) σ H (.bl (decide (i = j))) := val_op ha hb fun Q q => ⟨rfl, by rw [dec_int]; rw [Bool.beq_eq_decide_eq]; exact q⟩
end
theorem cpow10 : CPow 10 18 := ⟨by decide, by decide, by decide⟩
/-- a state of the pen between two steps of a draw -/
structure Dr (p ca : Addr) (ns : List Int) (many : Int) (ct0 : Int) (H0 H : Hp) (σ : L2.St) (a d ct b : Int) : Prop where
  s0 : σ[0]? = some (some (V.ref p))
  s1 : σ[1]? = some (some (V.int many))
  len : σ.length = 5
  pen : ∃ kvs, H p = some (.dK kvs) ∧ PenD kvs ca a d ct b
  hk : ∀ x, x ≠ p → H x = H0 x
  cs : H ca = some (.lst (ns.map V.int))
  ne : ca ≠ p
  a0 : 0 ≤ a
  d0 : 0 ≤ d
  c0 : 0 ≤ ct
  c1 : ct ≤ ct0
  b0 : 0 ≤ b
  b1 : b < 2147483648
theorem draw_ok {K : PySem.W.Frag} {G H : Hp} {p : Addr} {c : Nat} {many : Int} {Q : VK} {σ : L2.St} (s0 : σ[0]? = some (some (V.ref p))) (s1 : σ[1]? = some (some (V.int many))) (sl : σ.length = 5) (sub : Sub G H) (gp : G p = none) (PA : PenAt K G H p c) (hc : c + 1 ≤ LIM) (hm : 0 < many) (hm2 : many < 1000000)
    (q : ∀ (r : Int) (H2 : Hp), 0 ≤ r → r < many → (∀ x, x ≠ p → H2 x = H x) → PenAt K G H2 p (c + 1) → Q (.int r) H2) : tDraw K { nx := fun _ H' => Q .non H', rt := Q } σ H := by
  obtain ⟨kvs, ca, ns, a, d, ct, b, hp, PD, gc, hn, ha, hd, hct, hcc, hb, hb2⟩ := PA.ex
  have hca : H ca = some (.lst (ns.map V.int)) := sub _ _ gc
  have nec : ca ≠ p := fun z => by rw [z, gp] at gc; cases gc
  have LIMv : LIM = 1000000000000000 := rfl
  have fin : ∀ (H2 : Hp) (σ' : L2.St) (a d ct b : Int), Dr p ca ns many (c + 1) H H2 σ' a d ct b → PenAt K G H2 p (c + 1) := fun H2 σ' a d ct b h => by
    obtain ⟨kv, h1, h2⟩ := h.pen
    exact ⟨kv, ca, ns, a, d, ct, b, h1, h2, gc, hn, h.a0, h.d0, h.c0, h.c1, h.b0, h.b1⟩
  refine v_put s0 hp PD.len (v_I0 (v_get s0 hp PD.count) val_c) ?_
  have D1 : Dr p ca ns many (c + 1) H (upd H p (.dK (putK kvs (Sum.inr "count") (.int (ct + 1))))) σ a d (ct + 1) b :=
    ⟨s0, s1, sl, ⟨_, upd_same, PD.put_count _⟩, fun x hx => upd_ne hx, (upd_ne nec).trans hca, nec, ha, hd, by omega, by omega, hb, hb2⟩
  -- the last part, from any state of the pen
  have last : ∀ (H2 : Hp) (σ' : L2.St) (a d ct b : Int), Dr p ca ns many (c + 1) H H2 σ' a d ct b →
      (tSeq (tIfS (tTest (tOp rGtI (gD "digits") (tC (.int 0))))
          (tSeq (tAsg (tOp rModI (tCB rInt1 (tCons (gD "digits") tNil)) (tVar 1)) (gName 3))
          (tSeq (sDPut (tVar 0) (tC (.str "digits")) (tOp rDivI (gD "digits") (tVar 1)))
            (tRet (tVar 3))))
          tNext)
      (tSeq (tAsg (tOp rAddI (tOp rAddI (gD "blend") (tOp rMulI (gD "count") (tC (.int 7907)))) (tC (.int 41))) (gName 4))
        (tRet (tOp rModI (tOp rDivI (tCB rInt1 (tCons (tOp rModI (tOp rPowI (tVar 4) (tC (.int 17))) (tC (.int 2305843009213693951))) tNil)) (tC (.int 128))) (tVar 1))))) { nx := fun _ H' => Q .non H', rt := Q } σ' H2 := fun H2 σ' a d ct b h => by
    obtain ⟨kv, hp2, PD2⟩ := h.pen
    by_cases cd : 0 < d
    · refine st_yes ((a_test (v_I0 (g := fun i j => .bl (decide (j < i))) (v_get h.s0 hp2 PD2.digits) val_c)).to (decide_eq_true cd)) ?_
      refine st_set (v_I (C := fun _ j => 0 < j) (g := fun i j => .int (i % j)) (v_int (v_get h.s0 hp2 PD2.digits)) (val_var h.s1) hm) ?_
      have hcd : CDiv d many := ⟨hm, by omega⟩
      have s0' : (σ'.set 3 (some (V.int (d % many))))[0]? = some (some (V.ref p)) := by rw [List.getElem?_set, if_neg (by decide)]; exact h.s0
      have s1' : (σ'.set 3 (some (V.int (d % many))))[1]? = some (some (V.int many)) := by rw [List.getElem?_set, if_neg (by decide)]; exact h.s1
      refine v_put s0' hp2 PD2.len (v_I (v_get s0' hp2 PD2.digits) (val_var s1') hcd) ?_
      refine st_ret (val_var (v := .int (d % many)) ?_) ?_
      · rw [List.getElem?_set, if_pos rfl, if_pos (by rw [h.len]; decide)]
      · refine q _ _ (Int.emod_nonneg _ (by omega)) (Int.emod_lt_of_pos _ hm) (fun x hx => by rw [upd_ne hx]; exact h.hk x hx) (fin _ σ' a (d / many) ct b ⟨h.s0, h.s1, h.len, ⟨_, upd_same, PD2.put_digits _⟩, fun x hx => by rw [upd_ne hx]; exact h.hk x hx, (upd_ne nec).trans h.cs, nec, h.a0, Int.ediv_nonneg h.d0 (by omega), h.c0, h.c1, h.b0, h.b1⟩)
    · refine st_no ((a_test (v_I0 (g := fun i j => .bl (decide (j < i))) (v_get h.s0 hp2 PD2.digits) val_c)).to (decide_eq_false cd)) ?_
      have hm1 : CMul ct 7907 := Or.inr ⟨by decide, by decide⟩
      refine st_set (v_I0 (g := fun i j => .int (i + j)) (v_I0 (g := fun i j => .int (i + j)) (v_get h.s0 hp2 PD2.blend) (v_I (g := fun i j => .int (i * j)) (v_get h.s0 hp2 PD2.count) val_c hm1)) val_c) ?_
      have hct1 := h.c1
      have hct0 := h.c0
      have hbb := h.b1
      have hb0 := h.b0
      have hcc2 : (c : Int) + 1 ≤ 1000000000000000 := by
        have : ((c + 1 : Nat) : Int) ≤ ((LIM : Nat) : Int) := Int.ofNat_le.mpr hc
        rw [LIMv] at this
        omega
      have hpw : CPow (b + ct * 7907 + 41) 17 := ⟨by decide, by decide, by omega⟩
      refine st_ret (v_I (C := fun _ j => 0 < j) (g := fun i j => .int (i % j)) (v_I (g := fun i j => .int (i / j)) (v_int (v_I (C := fun _ j => 0 < j) (g := fun i j => .int (i % j)) (v_I (g := fun i j => .int (i ^ j.toNat)) (val_var (v := .int (b + ct * 7907 + 41)) ?_) val_c hpw) val_c (by decide))) val_c ⟨by decide, by decide⟩) (val_var (v := .int many) ?_) hm) ?_
      · rw [List.getElem?_set, if_pos rfl, if_pos (by rw [h.len]; decide)]
      · rw [List.getElem?_set, if_neg (by decide)]; exact h.s1
      · exact q _ _ (Int.emod_nonneg _ (by omega)) (Int.emod_lt_of_pos _ hm) h.hk (fin _ _ _ _ _ _ h)
  have hp1 : ∃ kv, upd H p (.dK (putK kvs (Sum.inr "count") (.int (ct + 1)))) p = some (.dK kv) ∧ PenD kv ca a d (ct + 1) b := ⟨_, upd_same, PD.put_count _⟩
  generalize upd H p (.dK (putK kvs (Sum.inr "count") (.int (ct + 1)))) = H1 at D1 hp1 ⊢
  obtain ⟨kv1, hp1, PD1⟩ := hp1
  by_cases c1 : d = 0
  · by_cases c2 : a < (ns.length : Int)
    · have hlen : ((ns.map V.int).length : Int) = (ns.length : Int) := by rw [List.length_map]
      refine st_yes (ans_and ((a_test (v_eq (v_get D1.s0 hp1 PD1.digits) val_c)).to (decide_eq_true c1)) ((a_test (v_I0 (g := fun i j => .bl (decide (i < j))) (v_get D1.s0 hp1 PD1.at_) (v_len (v_get D1.s0 hp1 PD1.cells) D1.cs))).to (decide_eq_true (by rw [hlen]; exact c2)))) ?_
      obtain ⟨m, rfl⟩ : ∃ m : Nat, a = (m : Int) := ⟨a.toNat, by omega⟩
      have hm' : m < ns.length := by omega
      have hx : (ns.map V.int)[m]? = some (V.int ns[m]) := by rw [List.getElem?_map, List.getElem?_eq_getElem hm']; rfl
      refine st_set (v_ix (v_get D1.s0 hp1 PD1.cells) (v_get D1.s0 hp1 PD1.at_) D1.cs hx) ?_
      have t0 : (σ.set 2 (some (V.int ns[m])))[0]? = some (some (V.ref p)) := by rw [List.getElem?_set, if_neg (by decide)]; exact s0
      have t1 : (σ.set 2 (some (V.int ns[m])))[1]? = some (some (V.int many)) := by rw [List.getElem?_set, if_neg (by decide)]; exact s1
      have t2 : (σ.set 2 (some (V.int ns[m])))[2]? = some (some (V.int ns[m])) := by rw [List.getElem?_set, if_pos rfl, if_pos (by rw [sl]; decide)]
      have tl : (σ.set 2 (some (V.int ns[m]))).length = 5 := by rw [List.length_set, sl]
      refine v_put t0 hp1 PD1.len (v_I0 (v_get t0 hp1 PD1.at_) val_c) ?_
      by_cases c3 : (10 : Int) ^ 18 ≤ ns[m]
      · refine st_yes ((a_test (v_I0 (g := fun i j => .bl (decide (j ≤ i))) (val_var t2) (v_I (g := fun i j => .int (i ^ j.toNat)) val_c val_c cpow10))).to (decide_eq_true c3)) ?_
        refine v_put t0 upd_same ((PD1.put_at _).len) (v_I0 (g := fun i j => .int (i - j)) (val_var t2) (v_I (g := fun i j => .int (i ^ j.toNat)) val_c val_c cpow10)) ?_
        refine last _ _ ((m : Int) + 1) (ns[m] - 10 ^ 18) (ct + 1) b ⟨t0, t1, tl, ⟨_, upd_same, (PD1.put_at _).put_digits _⟩, fun x hx => by rw [upd_ne hx, upd_ne hx]; exact D1.hk x hx, by rw [upd_ne nec, upd_ne nec]; exact D1.cs, nec, by omega, by
          show 0 ≤ ns[m] - 10 ^ 18
          omega, by omega, by omega, hb, hb2⟩
      · refine st_no ((a_test (v_I0 (g := fun i j => .bl (decide (j ≤ i))) (val_var t2) (v_I (g := fun i j => .int (i ^ j.toNat)) val_c val_c cpow10))).to (decide_eq_false c3)) ?_
        refine v_put t0 upd_same ((PD1.put_at _).len) (v_I (C := fun _ j => 0 < j) (g := fun i j => .int (i % j)) (v_int (v_I0 (g := fun i j => .int (i + j)) (v_I (g := fun i j => .int (i * j)) (v_get t0 upd_same (PD1.put_at _).blend) val_c (Or.inr ⟨by decide, by decide⟩)) (val_var t2))) val_c (by decide)) ?_
        refine last _ _ ((m : Int) + 1) d (ct + 1) _ ⟨t0, t1, tl, ⟨_, upd_same, (PD1.put_at _).put_blend _⟩, fun x hx => by rw [upd_ne hx, upd_ne hx]; exact D1.hk x hx, by rw [upd_ne nec, upd_ne nec]; exact D1.cs, nec, by omega, hd, by omega, by omega, Int.emod_nonneg _ (by decide), Int.lt_trans (Int.emod_lt_of_pos _ (by decide)) (by decide)⟩
    · have hlen : ((ns.map V.int).length : Int) = (ns.length : Int) := by rw [List.length_map]
      refine st_no (ans_and ((a_test (v_eq (v_get D1.s0 hp1 PD1.digits) val_c)).to (decide_eq_true c1)) ((a_test (v_I0 (g := fun i j => .bl (decide (i < j))) (v_get D1.s0 hp1 PD1.at_) (v_len (v_get D1.s0 hp1 PD1.cells) D1.cs))).to (decide_eq_false (by rw [hlen]; exact c2)))) ?_
      exact last H1 σ a d (ct + 1) b D1
  · refine st_no (ans_and0 ((a_test (v_eq (v_get D1.s0 hp1 PD1.digits) val_c)).to (decide_eq_false c1))) ?_
    exact last H1 σ a d (ct + 1) b D1
end RS
end
section
set_option Elab.async false
set_option linter.all false
set_option autoImplicit false
set_option maxRecDepth 100000
set_option maxHeartbeats 2000000
/-! RS8: the pen's defs keep their promises -/
namespace RS
open PySem L2
def rListS (K : PySem.W.Frag) : List V → Hp → VK → Prop := fun xs H Q => ∃ p ys, xs = [.ref p] ∧ (SqL K H p ys ∨ SqT K H p ys) ∧ ∀ l, H l = none → Q (.ref l) (upd H l (.lst ys))
def tMkPen (K : PySem.W.Frag) : TS :=
  tSeq (tAsg (tC (.int 0)) (gName 1))
  (tSeq (tFor (iList K (tVar 0)) (gName 2) (tAsg (tOp rModI (tCB rInt1 (tCons (tOp rAddI (tOp rMulI (tVar 1) (tC (.int 31))) (tVar 2)) tNil)) (tC (.int 1000000007))) (gName 1)))
  (tRet (tDisp [(tC (.str "cells"), tCB (rListS K) (tCons (tVar 0) tNil)), (tC (.str "at"), tC (.int 0)), (tC (.str "digits"), tC (.int 0)), (tC (.str "count"), tC (.int 0)), (tC (.str "blend"), tVar 1)])))
theorem pen_new (ca : Addr) (b : Int) : PenD (mergeK [] [(Sum.inr "cells", .ref ca), (Sum.inr "at", .int 0), (Sum.inr "digits", .int 0), (Sum.inr "count", .int 0), (Sum.inr "blend", .int b)]) ca 0 0 0 b := by
  have h1 : mergeK ([] : List (Key × V)) [(Sum.inr "cells", .ref ca), (Sum.inr "at", .int 0), (Sum.inr "digits", .int 0), (Sum.inr "count", .int 0), (Sum.inr "blend", .int b)] = putK (putK (putK (putK (putK ([] : List (Key × V)) (Sum.inr "cells" : Key) (.ref ca)) (Sum.inr "at" : Key) (.int 0)) (Sum.inr "digits" : Key) (.int 0)) (Sum.inr "count" : Key) (.int 0)) (Sum.inr "blend" : Key) (.int b) := by
    unfold mergeK
    simp only [List.foldl]
  rw [h1]
  have ne : ∀ a b : Str, a ≠ b → ¬ ((Sum.inr a : Key) = Sum.inr b) := kne
  refine ⟨?_, ?_, ?_, ?_, ?_, ?_⟩
  · rw [putK_new, putK_new, putK_new, putK_new, putK_new]
    · rfl
    · rfl
    all_goals (repeat rw [valV_put, if_neg (kne _ _ (by decide))])
    all_goals rfl
  · rw [valV_put, if_neg (kne _ _ (by decide)), valV_put, if_neg (kne _ _ (by decide)), valV_put, if_neg (kne _ _ (by decide)), valV_put, if_neg (kne _ _ (by decide)), valV_put, if_pos rfl]
  · rw [valV_put, if_neg (kne _ _ (by decide)), valV_put, if_neg (kne _ _ (by decide)), valV_put, if_neg (kne _ _ (by decide)), valV_put, if_pos rfl]
  · rw [valV_put, if_neg (kne _ _ (by decide)), valV_put, if_neg (kne _ _ (by decide)), valV_put, if_pos rfl]
  · rw [valV_put, if_neg (kne _ _ (by decide)), valV_put, if_pos rfl]
  · rw [valV_put, if_pos rfl]
theorem mkpen_ok {K : PySem.W.Frag} {H : Hp} {a : Addr} {ns : List Int} {Q : VK} (hS : SqL K H a (ns.map V.int)) (hn : ns.length ≤ 63)
    (q : ∀ (p ca : Addr) (H2 : Hp), H p = none → H ca = none → p ≠ ca → (∀ b o, H b = some o → H2 b = some o) → H2 ca = some (.lst (ns.map V.int)) → (∀ G, G ca = some (.lst (ns.map V.int)) → PenAt K G H2 p 0) → Q (.ref p) H2) :
    tMkPen K { nx := fun _ H' => Q .non H', rt := Q } [some (V.ref a), none, none] H := by
  refine st_set (val_c (v := .int 0)) ?_
  refine ⟨_, rfl, a, rfl, ⟨_, hS⟩, for_list (K := K) (a := a) (xs := ns.map V.int) (fun i σ' H' => H' = H ∧ ∃ (b : Int) (x : Option V), σ' = [some (.ref a), some (.int b), x] ∧ 0 ≤ b ∧ b < 2147483648) ⟨rfl, 0, none, rfl, by decide, by decide⟩ (fun i σ' H' _ h => by rw [h.1]; exact hS) ?_ ?_⟩
  · rintro i y σ' H' hi ⟨rfl, b, x, rfl, b0, b1⟩
    obtain ⟨z, hz, rfl⟩ : ∃ z, ns[i]? = some z ∧ y = V.int z := by
      rw [List.getElem?_map] at hi
      cases e : ns[i]? with
      | none => rw [e] at hi; cases hi
      | some z => rw [e] at hi; exact ⟨z, rfl, (Option.some.inj hi).symm⟩
    refine st_set (v_I (C := fun _ j => 0 < j) (g := fun i j => .int (i % j)) (v_int (v_I0 (g := fun i j => .int (i + j)) (v_I (g := fun i j => .int (i * j)) (val_var (v := .int b) rfl) val_c (Or.inr ⟨by decide, by decide⟩)) (val_var (v := .int z) rfl))) val_c (by decide)) ?_
    exact ⟨rfl, _, _, rfl, Int.emod_nonneg _ (by decide), Int.lt_trans (Int.emod_lt_of_pos _ (by decide)) (by decide)⟩
  · rintro σ' H' ⟨rfl, b, x, rfl, b0, b1⟩
    intro p hp
    have sS : SqL K (upd H' p (.dK [])) a (ns.map V.int) := Evl.ex_l (Evl.Ex.new hp) hS
    refine ⟨_, rfl, a, _, rfl, .inl sS, fun ca hca => ?_⟩
    have nca : ca ≠ p := fun z => by rw [z, upd_same] at hca; cases hca
    have hca' : H' ca = none := by rw [upd_ne nca] at hca; exact hca
    refine ⟨.int b, rfl, ?_⟩
    refine ⟨by rw [upd_ne (Ne.symm nca)]; exact upd_same, [(Sum.inr "cells", .ref ca), (Sum.inr "at", .int 0), (Sum.inr "digits", .int 0), (Sum.inr "count", .int 0), (Sum.inr "blend", .int b)], rfl, (show 5 ≤ 15 by decide), ?_⟩
    refine q p ca _ hp hca' (Ne.symm nca) (fun c o e => ?_) ?_ fun G hG => ⟨_, ca, ns, 0, 0, 0, b, upd_same, pen_new ca b, hG, hn, by decide, by decide, by decide, by decide, b0, b1⟩
    · rw [upd_ne (ne_of_none e hp), upd_ne (ne_of_none e hca'), upd_ne (ne_of_none e hp)]
      exact e
    · rw [upd_ne nca, upd_same]
theorem draw_sp {K : PySem.W.Frag} {vs : List V} {H : Hp} {Q : VK} {E : XK} {N : List Str} (hN : N.length = 5) (h : spP K 1 pDraw 1 rDraw vs H Q E) : tDraw K { nx := fun _ H' => Q .non H', rt := Q } (L2.start N vs) H := by
  obtain ⟨G, p, c, vs', ds, rfl, sub, gp, PA, hc, hd, hl, ⟨many, rfl, hm, hm2⟩, q⟩ := h
  obtain ⟨v, rfl, d1⟩ := hd.one
  cases d1
  have es : L2.start N [V.ref p, V.int many] = [some (V.ref p), some (V.int many), none, none, none] := by
    unfold L2.start
    rw [hN]
    rfl
  rw [es]
  refine draw_ok (p := p) (many := many) rfl rfl rfl sub gp PA hc hm hm2 fun r H2 h0 h1 hk P2 => ?_
  refine q (.int r) (.int r) G H2 ⟨many, r, rfl, rfl, h0, h1⟩ ⟨Sub.refl G, fun a o e => ?_, fun a o ha e => ?_, fun a e _ => e⟩ P2 (.int r)
  · rw [hk a (fun z => by rw [z, gp] at e; cases e)]
    exact sub a o e
  · rw [hk a ha]
    exact e
end RS
end
section
set_option Elab.async false
set_option linter.all false
set_option autoImplicit false
set_option maxRecDepth 100000
set_option maxHeartbeats 2000000
/-! RS9: defs by their names; the pick -/
namespace RS
open PySem L2
structure OwnD (P : Program) (w : World) (K : PySem.W.Frag) (mg : Str → Option Value) (base : Heap) (k : Nat) (x : Str) (ps : List Str) (sp : Sp) : Prop where
  ex : ∃ (f : Addr) (fd : FuncData), FnOk P w K mg base CX0 k f fd ps sp ∧ mg x = some (.ref f) ∧ PySem.W.keepIn K (.ref f) = true ∧ Binds K fd ps []
theorem pe_own {X : Cx} {k : Nat} {x : Str} {ps : List Str} {sp : Sp} {e : Expr} {es : List Expr} {t : TA} {p pos : Pos} (O : OwnD X.prog X.w X.K X.mg X.base k x ps sp) (hr : Room k X.A) (ha : PA X (e :: es) t) (hg : Gl X x := by rfl)
    (hdb : (x == ("__debug__" : Str)) = false := by decide) (he : starEach (e :: es) X.env = (false, eval e X.env) :: starEach es X.env := by rfl) (hpl : (backTo pos (starEach es X.env)).any (·.1) = false := by rfl) :
    PE X (.Call (.Name x p) (e :: es) [] pos) (tCall sp [] E0 t) := by
  obtain ⟨f, fd, F, hm, hk, hb⟩ := O.ex
  exact pe_call F hr hg hm hk hb .nil pass0 ha hdb he hpl
/-- what of the built-ins is used -/
structure Bi (mg : Str → Option Value) : Prop where
  n_len : mg "len" = none
  n_int : mg "int" = none
  n_list : mg "list" = none
  n_tuple : mg "tuple" = none
  n_isinstance : mg "isinstance" = none
  n_range : mg "range" = none
  n_all : mg "all" = none
  n_any : mg "any" = none
  n_enumerate : mg "enumerate" = none
  n_zip : mg "zip" = none
  n_min : mg "min" = none
  n_max : mg "max" = none
  n_bool : mg "bool" = none
  n_str : mg "str" = none
  n_ValueError : mg "ValueError" = none
def tPick (K : PySem.W.Frag) : TS := tRet (tOp (rIx K) (tVar 1) (tCall (spP K 1 pDraw 1 rDraw) [] E0 (tCons (tVar 0) (tCons (tCB (rLenS K) (tCons (tVar 1) tNil)) tNil))))
theorem pick_es {K : PySem.W.Frag} {c : Nat} {ds : List PyData} {N : List Str} (hN : N.length = 2) (hc : c + 1 ≤ LIM) (h : pPick ds) : Es K (tPick K) (startP N c ds) (RetP (c + 1) (rPick ds)) := by
  obtain ⟨xs, hd, ne, hl⟩ := h
  have hpos : 0 < xs.length := by cases xs with | nil => exact absurd rfl ne | cons _ _ => exact Nat.succ_pos _
  have key : ∀ y : PyData, (y = .list xs ∨ y = .tuple xs) → ds = [y] → Es K (tPick K) (startP N c ds) (RetP (c + 1) (rPick ds)) := fun y hy e => by
    subst e
    have es : startP N c [y] = [some (Sl.pen c), some (Sl.d y)] := by
      unfold startP
      rw [hN]
      rfl
    rw [es]
    have hv : Ed K (tVar 1) [some (Sl.pen c), some (Sl.d y)] y := ed_var rfl
    have hlen : Ed K (tCB (rLenS K) (tCons (tVar 1) tNil)) [some (Sl.pen c), some (Sl.d y)] (.int xs.length) := by
      rcases hy with rfl | rfl
      · exact ed_cb (ea_cons hv ea_nil) rc_lenL
      · exact ed_cb (ea_cons hv ea_nil) rc_lenT
    refine es_retv (R := fun ρ1 z => ρ1 = [some (Sl.pen (c + 1)), some (Sl.d y)] ∧ z ∈ xs) (ev_op hv (R2 := fun _ ρ2 z => ρ2 = [some (Sl.pen (c + 1)), some (Sl.d y)] ∧ ∃ r : Int, z = .int r ∧ 0 ≤ r ∧ r < xs.length) (fun ρ1 x1 e => ?_) fun ρ1 x1 ρ2 y2 e1 e2 => ?_) fun ρ1 z e => ?_
    · obtain ⟨rfl, rfl⟩ := e
      refine ev_callP (c0 := c) rfl (ea_cons hlen ea_nil) fun ρ1 ds e => ?_
      obtain ⟨rfl, rfl⟩ := e
      refine ⟨c, rfl, rfl, ⟨_, rfl, by omega, by omega⟩, hc, fun z hz => ?_⟩
      obtain ⟨many, r, h1, h2, h3, h4⟩ := hz
      cases h1
      exact ⟨rfl, r, h2, h3, h4⟩
    · obtain ⟨rfl, rfl⟩ := e1
      obtain ⟨rfl, r, rfl, h0, h1⟩ := e2
      obtain ⟨n, rfl⟩ : ∃ n : Nat, r = (n : Int) := ⟨r.toNat, by omega⟩
      have hn : n < xs.length := by omega
      have hx : atI xs (n : Int) = some xs[n] := atI_nat (List.getElem?_eq_getElem hn)
      refine ⟨xs[n], ?_, rfl, List.getElem_mem hn⟩
      rcases hy with rfl | rfl
      · exact rd_ixL hx
      · exact rd_ixT hx
    · obtain ⟨rfl, hz⟩ := e
      exact ⟨⟨xs, by rcases hy with rfl | rfl; exact .inl rfl; exact .inr rfl, hz⟩, c + 1, rfl, Nat.le_refl _⟩
  rcases hd with h | h
  · exact key _ (.inl rfl) h
  · exact key _ (.inr rfl) h
end RS
end
section
set_option Elab.async false
set_option linter.all false
set_option autoImplicit false
set_option maxRecDepth 100000
set_option maxHeartbeats 2000000
/-! RS10: exceptions of one's own as values -/
namespace RS
open PySem PySem.Spec PyProof.Rows L2
/-- what is asked of an own exception class -/
structure XC (K : PySem.W.Frag) (C : Addr) : Prop where
  o : OexC K C
  ga : PySem.W.findIn K (.ref C) "__getattribute__" = some (some (.builtin "BaseException.__getattribute__"))
  gg : PySem.W.findIn K (.ref C) "__getattr__" = some none
  hd : PySem.W.hasDictIn K C = true
  ha : PySem.W.findIn K (.ref C) "__class__" = some (some (.builtin "object.__class__"))
  hn : PySem.W.specialIn K (.builtin "object.__class__") "__get__" = some (some (.builtin "getset_descriptor.__get__"))
  ht : PySem.W.takesIn K (.builtin "object.__class__") = some true
  hm : PySem.W.mroIn K C (.type "object") = some true
theorem XC.cl {K : PySem.W.Frag} {C : Addr} (c : XC K C) : (PySem.W.clsIn K C).isSome = true := by
  obtain ⟨cd, hc, _⟩ := PySem.W.any_some c.hd
  rw [hc]
  rfl
/-- an exception object that stands: without a dict, or with one -/
def ExAt (H : Hp) (a C : Addr) : Option Addr → List (Str × V) → Prop
  | none, fs => H a = some (exo a C none) ∧ fs = []
  | some d, fs => H a = some (exo a C (some d)) ∧ H d = some (exd d fs)
section
variable {X : Cx} {pins : List (Addr × Obj)} {σ : L2.St} {H : Hp} {s : Shared}
theorem ex_inst {a C : Addr} {d : Option Addr} {fs : List (Str × V)} (I : Inv X pins σ H s) (h : ExAt H a C d fs) : ∃ ox od, PySem.W.InstAt s.heap a ox C od := by
  cases d with
  | none =>
    obtain ⟨t1, ho⟩ := exo_at I.hok h.1
    exact ⟨_, none, ho, rfl, rfl, trivial⟩
  | some d =>
    obtain ⟨t1, ho⟩ := exo_at I.hok h.1
    obtain ⟨mA, hns, _⟩ := exd_at I.hok h.2
    obtain ⟨od, hod, _⟩ := lookIn_ns hns
    exact ⟨_, some od, ho, rfl, rfl, hod⟩
/-- isinstance(e, c), e an exception of one's own -/
def rIsX (K : PySem.W.Frag) : List V → Hp → VK → Prop := fun xs H Q => ∃ (a C : Addr) (d : Option Addr) (fs : List (Str × V)) (c : V) (cv : Value) (b : Bool), xs = [.ref a, c] ∧ XC K C ∧ ExAt H a C d fs ∧ (∀ u, RelV c u → u = cv) ∧ PySem.W.kitOne K (.ref C) cv = some b ∧ Q (.bl b) H
theorem call_isX : CallR X (.builtin "isinstance") (rIsX X.K) := by
  intro pins s σ H xs us Q I r h
  obtain ⟨a, C, d, fs, c, cv, b, rfl, T, hx, hcv, e, q⟩ := h
  cases r with
  | cons rx rr =>
    cases rr with
    | cons rt rr =>
      cases rr
      cases rx
      have ec := hcv _ rt
      subst ec
      obtain ⟨ox, od, J⟩ := ex_inst I hx
      exact PySem.W.kia_one (PySem.W.kitx_exc T.cl T.ga T.gg T.o.exC T.ha T.hn T.ht T.hm) I.kIn J e (fun z => nomatch z) fun tk => ⟨.bl b, H, I.kept (t' := tk) fun _ _ z => z, rfl, q⟩
/-- e.f, e an exception of one's own -/
def tOxf (K : PySem.W.Frag) (f : Str) (te : TE) : TE := fun σ H Q => te σ H fun x H1 => ∃ (a C d : Addr) (fs : List (Str × V)) (v : V), x = .ref a ∧ XC K C ∧ PySem.W.findIn K (.ref C) f = some none ∧ ExAt H1 a C (some d) fs ∧ fs.lookup f = some v ∧ Q v H1
theorem pe_oxf {e : Expr} {te : TE} {pos : Pos} {n : Str} (he : PE X e te) (hb : attributeBase e n X.env (eval e X.env) = eval e X.env := by rfl) : PE X (.Attribute e n pos) (tOxf X.K n te) := by
  refine ⟨fun pins s σ H Q I h => ?_⟩
  refine attr_of hb (thn (he.run pins s σ H _ I h) fun u s1 hh => ?_)
  obtain ⟨x, H1, I1, rx, a, C, d, fs, v, ex, T, hno, hx, l, q⟩ := hh
  subst ex
  obtain rfl : u = Value.ref a := rx
  obtain ⟨t1, ho⟩ := exo_at I1.hok hx.1
  obtain ⟨mA, hns, hr⟩ := exd_at I1.hok hx.2
  obtain ⟨od, hod, hl⟩ := lookIn_ns hns
  obtain ⟨u, hu, ru⟩ := RelO.some_of (v := v) (o := mA n) (by rw [← l]; exact hr n)
  have J : PySem.W.InstAt s1.heap a _ C (some od) := ⟨ho, rfl, rfl, hod⟩
  exact HandSPX.exc_get I1.kIn J T.ga T.gg T.o.exC (PySem.W.findObj_own T.hd hno rfl (by rw [hl, hu])) (handed_of ru) ⟨v, H1, I1.tok _, ru, q⟩
/-- C(e, ..) as a value -/
def tMkV (C : Addr) (sp : Sp) (ta : TA) : TE := fun σ H Q => ta σ H fun vs H1 => vs.length ≤ 1000 ∧ ∀ a, H1 a = none → sp (.ref a :: vs) (upd H1 a (exo a C none)) (fun v H2 => v = .non ∧ Q (.ref a) H2) (fun _ _ _ => False)
theorem pe_oex {x : Str} {C fI : Addr} {k : Nat} {fd : FuncData} {ps : List Str} {sp : Sp} {e : Expr} {es : List Expr} {ta : TA} {p pos : Pos} (T : OexC X.K C) (iC : PySem.W.findIn X.K (.ref C) "__init__" = some (some (.ref fI))) (tI : PySem.W.typeIn X.K (.ref fI) = some (.type "function"))
    (F1 : FnOk X.prog X.w X.K X.mg X.base CX0 k fI fd ps sp) (hr : Room (k + 1) X.A) (hb : Binds X.K fd ps []) (hm : X.mg x = some (.ref C)) (ha : PA X (e :: es) ta) (hg : Gl X x := by rfl)
    (hdb : (x == ("__debug__" : Str)) = false := by decide) (he : starEach (e :: es) X.env = (false, eval e X.env) :: starEach es X.env := by rfl) (hpl : (backTo pos (starEach es X.env)).any (·.1) = false := by rfl) :
    PE X (.Call (.Name x p) (e :: es) [] pos) (tMkV C sp ta) := by
  refine ⟨fun pins s σ H Q I h => ?_⟩
  obtain ⟨nm, q, N, bs, bm, sn, sub, ab, col, dd, k0, k1, k2, k3, k5, hC, hbm⟩ := T.cls
  refine wpAny_Call_Name_kw (ld_glob I hg hm ?_ hdb)
  refine PySem.W.callWith_K (h₀ := X.base) I.ok.mod.kin T.kC (thn (ha.run pos pins s σ H _ I h) fun us s1 ⟨vs, H1, I1, r1, hz, q1⟩ => ⟨I1.kIn, ?_⟩) he hpl
  show wpAny _ _ (call (.ref C) us) _ _ _
  obtain ⟨hp, g, dr, tk, os⟩ := s1
  have hsz : hp.objs.size ≤ hp.objs.size + 1 := Nat.le_succ _
  have hn : H1 (hp.objs.size + 1) = none := I1.hok.fresh hsz
  have hq := q1 (hp.objs.size + 1) hn
  have kk : ∀ b o, hp.get? b = some o → ((hp.push (PySem.W.kdv_tup us)).push (PySem.HandSPX.excO C hp.objs.size)).get? b = some o := fun b o e => Heap.get?_push_of_some _ (Heap.get?_push_of_some _ e)
  have hget : ((hp.push (PySem.W.kdv_tup us)).push (PySem.HandSPX.excO C hp.objs.size)).get? (hp.objs.size + 1) = some (PySem.HandSPX.excO C hp.objs.size) := by heap_get
  have I2 : Inv X pins σ (upd H1 (hp.objs.size + 1) (exo (hp.objs.size + 1) C none)) ⟨(hp.push (PySem.W.kdv_tup us)).push (PySem.HandSPX.excO C hp.objs.size), g, dr, tk, os⟩ :=
    I1.laid (t' := tk) (a := hp.objs.size + 1) (o := exo (hp.objs.size + 1) C none) (h' := (hp.push (PySem.W.kdv_tup us)).push (PySem.HandSPX.excO C hp.objs.size)) kk hsz (exo_ok hget)
  have r2 : Vals (V.ref (hp.objs.size + 1) :: vs) (Value.ref (hp.objs.size + 1) :: us) := .cons rfl r1
  have hl : (Value.ref (hp.objs.size + 1) :: us ++ []).length = ps.length := by
    rw [List.append_nil]
    have e := r2.length
    rw [F1.len _ _ _ _ hq] at e
    exact e.symm
  have hus : us.length ≤ sizeLine := by
    rw [← Paired.length r1, sizeLine_eq]
    omega
  have hbd := hb ⟨(hp.push (PySem.W.kdv_tup us)).push (PySem.HandSPX.excO C hp.objs.size), g, dr, tk, os⟩ (Value.ref (hp.objs.size + 1) :: us) I2.kIn hl
  rw [List.append_nil] at hbd
  refine wpAny_call (PySem.HandSPX.call_own F.excBase_ValueError (fun Y => PySem.HandSPX.refsVE_contains Y bm hbm) (I1.kIn _ _ hC) (PySem.W.looks_findIn I1.kIn iC) (fun self => PySem.W.bind_fn I1.kIn self tI) hus
    (codeAny_mono (F1.run _ X.stack _ _ ⟨Value.ref (hp.objs.size + 1) :: us, []⟩ (Value.ref (hp.objs.size + 1) :: us) _ _ (fun _ _ _ => False) (hr.make C us []) (I2.env0.make C us []) hbd r2 hq) fun r s' hq' => ?_))
  cases r with
  | error er => exact absurd (pass0 (X := X) pins σ _ _ er s' I2 hq') (fun z => by
      obtain z := z
      exact absurd hq' (fun y => by exact y.elim))
  | ok fl =>
    cases fl with
    | ret u =>
      obtain ⟨v, H2, os2, bare2, un2, hok2, rv, ev, q2⟩ := hq'
      subst ev
      obtain ⟨h2, g2, d2, t2, os'⟩ := s'
      have J := I2.call' (s' := ⟨h2, g2, d2, t2, os'⟩) (ch := []) os2 un2 hok2 bare2 (fun b z => absurd z (by simp))
      exact ⟨rv, .ref (hp.objs.size + 1), H2, J, rfl, q2⟩
    | next => exact False.elim hq'
    | brk => exact False.elim hq'
    | cont => exact False.elim hq'
end
end RS
end
section
set_option Elab.async false
set_option linter.all false
set_option autoImplicit false
set_option maxRecDepth 100000
set_option maxHeartbeats 2000000
/-! RS11: what making and reading such exceptions comes to -/
namespace RS
open PySem PySem.Spec PyProof.Rows L2
def tMk0 (C : Addr) : TE := fun σ H Q => ∀ a, H a = none → Q (.ref a) (upd H a (exo a C none))
section
variable {X : Cx}
/-- C() of a class without an __init__ of its own -/
theorem pe_exc0 {C : Addr} {bmB : List Value} {B newId initId : String} {x : Str} {p pos : Pos} (F : ExcBaseFacts B newId initId bmB) (q : PySem.W.excIn X.K C bmB newId = true) (gC : X.mg x = some (.ref C)) (kC : PySem.W.keepIn X.K (.ref C) = true) (hg : Gl X x := by rfl)
    (hdb : (x == ("__debug__" : Str)) = false := by decide) :
    PE X (.Call (.Name x p) [] [] pos) (tMk0 C) := by
  refine ⟨fun pins s σ H Q I h => ?_⟩
  refine wpAny_Call_Name_kw (ld_glob I hg gC ?_ hdb)
  refine PySem.W.callWith_K0 I.kIn kC ?_
  show wpAny _ _ (call (.ref C) []) _ _ _
  obtain ⟨bm, N, nm, qn, bs, hdct, sn, sub, ab, col, dd, k0, k1, k2, k3, k5, mN, hC, hN, hni, T⟩ := exc_obj I.kIn q
  refine wpAny_call_exc_subT F T hC hN hni (fun h' a hm => ?_) (by show 0 ≤ sizeLine; exact Nat.zero_le _)
  have hn : H a = none := I.hok.gone hm.new
  obtain ⟨t, ht, _, _⟩ := hm.there
  exact ⟨.ref a, upd H a (exo a C none), I.laidN hm.keeps hm.new hn (exo_ok ht), rfl, h a hn⟩
end
/-! ### the promise of an __init__ that stores one, two fields -/
def spIni1 (K : PySem.W.Frag) (C : Addr) (f : Str) : Sp := fun vs H Q _ => ∃ (a : Addr) (y : V), vs = [.ref a, y] ∧ H a = some (exo a C none) ∧ OexC K C ∧ PySem.W.findIn K (.ref C) f = some none ∧
  ∀ dx, H dx = none → dx ≠ a → Q .non (upd (upd H dx (exd dx [(f, y)])) a (exo a C (some dx)))
def spIni2 (K : PySem.W.Frag) (C : Addr) (f g : Str) : Sp := fun vs H Q _ => ∃ (a : Addr) (y z : V), vs = [.ref a, y, z] ∧ H a = some (exo a C none) ∧ OexC K C ∧ PySem.W.findIn K (.ref C) f = some none ∧ PySem.W.findIn K (.ref C) g = some none ∧
  ∀ dx, H dx = none → dx ≠ a → Q .non (upd (upd (upd H dx (exd dx [(f, y)])) a (exo a C (some dx))) dx (exd dx [(g, z), (f, y)]))
section
variable {P : Program} {w : World} {K : PySem.W.Frag} {mg : Str → Option Value} {base : Heap}
/-- self.f = f -/
theorem ok_ini1 {qual : Str} {st : Stmt} {f C : Addr} {fd : FuncData} {a fld : Str} {p1 p2 p3 p4 : Pos} (F : Fun K "__init__" qual st f fd) (S : FnScope [a, fld] [a, fld] (defScope st)) (hb : defBody st = [.Assign [.Attribute (.Name a p1) fld p2] (.Name fld p3) p4])
    (v0 : (defScope st).names.lookup a = some .local) (v1 : (defScope st).names.lookup fld = some .local) (d0 : (a == ("__debug__" : Str)) = false) (d1 : (fld == ("__debug__" : Str)) = false) (d2 : (a == ("__classdict__" : Str)) = false) (d3 : (fld == ("__classdict__" : Str)) = false) :
    FnOk P w K mg base CX0 1 f fd [a, fld] (spIni1 K C fld) := by
  refine F.ok S (fun vs H Q E h => ?_) (fun cdv A outer s H vs Q E hr h => ?_)
  · obtain ⟨_, _, rfl, _⟩ := h
    rfl
  · obtain ⟨x, y, rfl, hx, T, hno, k⟩ := h
    rw [hb]
    refine ⟨_, pss_one (ps_ost (pe_var (i := 0) rfl (Or.inl v0) d0 d2) (pe_var (i := 1) rfl (Or.inl v1) d1 d3) rfl), ?_⟩
    exact ⟨_, rfl, _, rfl, x, C, rfl, T, hno, .inl ⟨hx, fun dx n ne => k dx n ne⟩⟩
theorem ok_ini2 {qual : Str} {st : Stmt} {f C : Addr} {fd : FuncData} {a fld gld : Str} {p1 p2 p3 p4 q1 q2 q3 q4 : Pos} (F : Fun K "__init__" qual st f fd) (S : FnScope [a, fld, gld] [a, fld, gld] (defScope st)) (hb : defBody st = [.Assign [.Attribute (.Name a p1) fld p2] (.Name fld p3) p4, .Assign [.Attribute (.Name a q1) gld q2] (.Name gld q3) q4])
    (v0 : (defScope st).names.lookup a = some .local) (v1 : (defScope st).names.lookup fld = some .local) (v2 : (defScope st).names.lookup gld = some .local) (d0 : (a == ("__debug__" : Str)) = false) (d1 : (fld == ("__debug__" : Str)) = false) (d2 : (a == ("__classdict__" : Str)) = false) (d3 : (fld == ("__classdict__" : Str)) = false) (d4 : (gld == ("__debug__" : Str)) = false) (d5 : (gld == ("__classdict__" : Str)) = false) :
    FnOk P w K mg base CX0 1 f fd [a, fld, gld] (spIni2 K C fld gld) := by
  refine F.ok S (fun vs H Q E h => ?_) (fun cdv A outer s H vs Q E hr h => ?_)
  · obtain ⟨_, _, _, rfl, _⟩ := h
    rfl
  · obtain ⟨x, y, z, rfl, hx, T, hno, hno2, k⟩ := h
    rw [hb]
    refine ⟨_, pss_cons (ps_ost (pe_var (i := 0) rfl (Or.inl v0) d0 d2) (pe_var (i := 1) rfl (Or.inl v1) d1 d3) rfl) (pss_one (ps_ost (pe_var (i := 0) rfl (Or.inl v0) d0 d2) (pe_var (i := 2) rfl (Or.inl v2) d4 d5) rfl)), ?_⟩
    refine ⟨_, rfl, _, rfl, x, C, rfl, T, hno, .inl ⟨hx, fun dx n ne => ?_⟩⟩
    refine ⟨_, rfl, _, rfl, x, C, rfl, T, hno2, .inr ⟨dx, [(fld, y)], upd_same, by rw [upd_ne ne]; exact upd_same, by show 1 ≤ 900; decide, k dx n ne⟩⟩
end
/-! ### over data -/
def xD (C : Addr) (kvs : List (PyData × PyData)) : PyData := .dict ((.bool true, .int (C : Int)) :: kvs)
def xD0 (C : Addr) : PyData := .dict [(.bool false, .int (C : Int))]
section
variable {K : PySem.W.Frag} {ρ : En} {ta : TA} {te : TE} {C : Addr} {x y z : PyData} {f g : Str}
theorem ed_mk0 : Ed K (tMk0 C) ρ (xD0 C) := fun b G H σ S Q q => fun a ha => q _ _ ρ _ _ ⟨rfl, rfl⟩ (S.step (Step.lay S.sub (exo a C none) ha)) (.exn upd_same)
theorem step2 {G H : Hp} {a d : Addr} {o1 o2 : HO} (s : Sub G H) (ha : H a = none) (hd : H d = none) (ne : d ≠ a) : Step G H (upd (upd G d o2) a o1) (upd (upd H d o2) a o1) :=
  (Step.lay s o2 hd).trans (Step.lay (Step.lay s o2 hd).sub o1 (by rw [upd_ne (Ne.symm ne)]; exact ha))
theorem ev_mk1 {R1 R : En → PyData → Prop} {R0 : En → List PyData → Prop} (T : OexC K C) (hno : PySem.W.findIn K (.ref C) f = some none) (h : EvA K ta ρ R0) (hr : ∀ ρ1 xs, R0 ρ1 xs → ∃ x, xs = [x] ∧ R ρ1 (xD C [(.str f, x)])) : Ev K (tMkV C (spIni1 K C f) ta) ρ R := fun b G H σ S Q q =>
  h _ G H σ S _ fun vs xs ρ1 G1 H1 h1 S1 d1 => by
    obtain ⟨x, rfl, hx⟩ := hr ρ1 xs h1
    obtain ⟨v, rfl, dv⟩ := d1.one
    refine ⟨by show 1 ≤ 1000; decide, fun a ha => ⟨a, v, rfl, upd_same, T, hno, fun dx hdx ne => ⟨rfl, ?_⟩⟩⟩
    have hdx' : H1 dx = none := by rw [upd_ne ne] at hdx; exact hdx
    have e : upd (upd (upd H1 a (exo a C none)) dx (exd dx [(f, v)])) a (exo a C (some dx)) = upd (upd H1 dx (exd dx [(f, v)])) a (exo a C (some dx)) := by
      funext c
      by_cases hc : c = a
      · subst hc; rw [upd_same, upd_same]
      · rw [upd_ne hc, upd_ne hc]
        by_cases hd : c = dx
        · subst hd; rw [upd_same, upd_same]
        · rw [upd_ne hd, upd_ne hd, upd_ne hc]
    rw [e]
    have st := step2 (o1 := exo a C (some dx)) (o2 := exd dx [(f, v)]) S1.sub ha hdx' ne
    exact q _ _ ρ1 _ _ hx (S1.step st) (.exc upd_same (by rw [upd_ne ne]; exact upd_same) (.cons (dv.mono st.gg) .nil))
theorem ed_mk1 (T : OexC K C) (hno : PySem.W.findIn K (.ref C) f = some none) (h : Ea K ta ρ [x]) : Ed K (tMkV C (spIni1 K C f) ta) ρ (xD C [(.str f, x)]) := ev_mk1 (R1 := fun _ _ => True) T hno h fun ρ1 ys e => by
  obtain ⟨rfl, rfl⟩ := e
  exact ⟨x, rfl, rfl, rfl⟩
theorem ed_mk2 (T : OexC K C) (hno : PySem.W.findIn K (.ref C) f = some none) (hno2 : PySem.W.findIn K (.ref C) g = some none) (h : Ea K ta ρ [x, y]) : Ed K (tMkV C (spIni2 K C f g) ta) ρ (xD C [(.str g, y), (.str f, x)]) := fun b G H σ S Q q =>
  h _ G H σ S _ fun vs xs ρ1 G1 H1 h1 S1 d1 => by
    obtain ⟨rfl, rfl⟩ := h1
    obtain ⟨v, w, rfl, dv, dw⟩ : ∃ v w, vs = [v, w] ∧ DA K G1 v x ∧ DA K G1 w y := by
      cases d1 with
      | cons h1 h2 =>
        obtain ⟨w, rfl, hw⟩ := h2.one
        exact ⟨_, _, rfl, h1, hw⟩
    refine ⟨by show 2 ≤ 1000; decide, fun a ha => ⟨a, v, w, rfl, upd_same, T, hno, hno2, fun dx hdx ne => ⟨rfl, ?_⟩⟩⟩
    have hdx' : H1 dx = none := by rw [upd_ne ne] at hdx; exact hdx
    have e : upd (upd (upd (upd H1 a (exo a C none)) dx (exd dx [(f, v)])) a (exo a C (some dx))) dx (exd dx [(g, w), (f, v)]) = upd (upd H1 dx (exd dx [(g, w), (f, v)])) a (exo a C (some dx)) := by
      funext c
      by_cases hd : c = dx
      · subst hd; rw [upd_same, upd_ne ne, upd_same]
      · rw [upd_ne hd]
        by_cases hc : c = a
        · subst hc; rw [upd_same, upd_same]
        · rw [upd_ne hc, upd_ne hd, upd_ne hc, upd_ne hc, upd_ne hd]
    rw [e]
    have st := step2 (o1 := exo a C (some dx)) (o2 := exd dx [(g, w), (f, v)]) S1.sub ha hdx' ne
    exact q _ _ _ _ _ ⟨rfl, rfl⟩ (S1.step st) (.exc upd_same (by rw [upd_ne ne]; exact upd_same) (.cons (dw.mono st.gg) (.cons (dv.mono st.gg) .nil)))
theorem ed_oxf {kvs : List (PyData × PyData)} (T : XC K C) (hno : PySem.W.findIn K (.ref C) f = some none) (h : Ed K te ρ (xD C kvs)) (hf : fldD f kvs = some x) : Ed K (tOxf K f te) ρ x := fun b G H σ S Q q =>
  h _ G H σ S _ fun v y ρ1 G1 H1 e1 S1 d1 => by
    obtain ⟨rfl, rfl⟩ := e1
    unfold xD at d1
    generalize hc : (C : Int) = ci at d1
    cases d1 with
    | exc h1 h2 hfs =>
      have e := Int.ofNat.inj hc
      subst e
      obtain ⟨w, hw, dw⟩ := hfs.look hf
      exact ⟨_, C, _, _, w, rfl, T, hno, ⟨S1.sub _ _ h1, S1.sub _ _ h2⟩, hw, q _ _ _ G1 H1 ⟨rfl, rfl⟩ S1 dw⟩
/-- is data an exception of the class at C -/
def IsX (C : Addr) (x : PyData) : Prop := (∃ kvs, x = xD C kvs) ∨ x = xD0 C
theorem DA.exAt {G H : Hp} {v : V} (s : Sub G H) (hx : IsX C x) (h : DA K G v x) : ∃ a d fs, v = .ref a ∧ ExAt H a C d fs := by
  rcases hx with ⟨kvs, rfl⟩ | rfl
  · unfold xD at h
    generalize hc : (C : Int) = ci at h
    cases h with
    | exc h1 h2 _ =>
      have e := Int.ofNat.inj hc
      subst e
      exact ⟨_, some _, _, rfl, s _ _ h1, s _ _ h2⟩
  · unfold xD0 at h
    generalize hc : (C : Int) = ci at h
    cases h with
    | exn h1 =>
      have e := Int.ofNat.inj hc
      subst e
      exact ⟨_, none, [], rfl, s _ _ h1, rfl⟩
theorem ed_isXc {D : Addr} {b : Bool} (T : XC K C) (hx : IsX C x) (h : Ed K te ρ x) (e : PySem.W.kitOne K (.ref C) (.ref D) = some b) : Ed K (tCB (rIsX K) (tCons te (tCons (tC (.ref D)) tNil))) ρ (.bool b) := fun bs G H σ S Q q =>
  h _ G H σ S _ fun v y ρ1 G1 H1 e1 S1 d1 => by
    obtain ⟨rfl, rfl⟩ := e1
    obtain ⟨a, d, fs, rfl, hE⟩ := d1.exAt S1.sub hx
    exact ⟨a, C, d, fs, .ref D, .ref D, b, rfl, T, hE, fun u hu => hu, e, q _ _ _ G1 H1 ⟨rfl, rfl⟩ S1 (.bl b)⟩
theorem ed_isXt {n : String} {b : Bool} (T : XC K C) (hx : IsX C x) (h : Ed K te ρ x) (e : PySem.W.kitOne K (.ref C) (.type n) = some b) : Ed K (tCB (rIsX K) (tCons te (tCons (tC (.ty n)) tNil))) ρ (.bool b) := fun bs G H σ S Q q =>
  h _ G H σ S _ fun v y ρ1 G1 H1 e1 S1 d1 => by
    obtain ⟨rfl, rfl⟩ := e1
    obtain ⟨a, d, fs, rfl, hE⟩ := d1.exAt S1.sub hx
    exact ⟨a, C, d, fs, .ty n, .type n, b, rfl, T, hE, fun u hu => hu, e, q _ _ _ G1 H1 ⟨rfl, rfl⟩ S1 (.bl b)⟩
end
end RS
end
section
set_option Elab.async false
set_option linter.all false
set_option autoImplicit false
set_option maxRecDepth 100000
set_option maxHeartbeats 2000000
/-! RS12: == of sequences whose items are the same things -/
namespace RS
open PySem PySem.Spec PyProof.Rows L2
/-- a dict, told by where it stands -/
def opq (a : Addr) : PyData := .dict [(.str Str.empty, .int (a : Int))]
mutual
def okS : PyData → Bool
  | .none | .bool _ | .int _ | .str _ => true
  | .list xs => okAll xs
  | .tuple xs => okAll xs
  | .dict [(.str z, .int a)] => decide (z = Str.empty) && decide (0 ≤ a)
  | .dict _ => false
def okAll : List PyData → Bool
  | [] => true
  | x :: xs => okS x && okAll xs
end
theorem okAll_get : ∀ {xs : List PyData} {i : Nat} {x : PyData}, okAll xs = true → xs[i]? = some x → okS x = true
  | [], _, _, _, e => by cases e
  | y :: ys, 0, x, h, e => by
    cases (show some y = some x from e)
    unfold okAll at h
    exact (Bool.and_eq_true_iff.mp h).1
  | y :: ys, i + 1, x, h, e => by
    unfold okAll at h
    exact okAll_get (i := i) (Bool.and_eq_true_iff.mp h).2 e
theorem depth_get : ∀ {xs : List PyData} {i : Nat} {x : PyData}, xs[i]? = some x → x.depth ≤ PyData.depthAll xs
  | [], _, _, e => by cases e
  | y :: ys, 0, x, e => by
    cases (show some y = some x from e)
    unfold PyData.depthAll
    exact Nat.le_max_left _ _
  | y :: ys, i + 1, x, e => by
    unfold PyData.depthAll
    exact Nat.le_trans (depth_get (i := i) e) (Nat.le_max_right _ _)
section
variable {X : Cx} {pins : List (Addr × Obj)} {σ : L2.St} {H : Hp} {s : Shared}
theorem same_at (I : Inv X pins σ H s) : ∀ (n : Nat) (x : PyData) (v w : V) (u t : Value) (A : Around), x.depth ≤ n → okS x = true → DA X.K H v x → DA X.K H w x → RelV v u → RelV w t → A.units + n < cLine → SeqAt.EqAt A s u t true := by
  intro n
  induction n with
  | zero =>
    intro x v w u t A hd ok d1 d2 r1 r2 hu
    cases x with
    | none => cases d1; cases d2; exact (eqAt_V (y := .non) (x := .non) r1 r2 rfl rfl)
    | bool b => cases d1; cases d2; have h := eqAt_V (A := A) (s := s) (y := .bl b) (x := .bl b) r1 r2 rfl rfl; simpa [eqV] using h
    | int i => cases d1; cases d2; have h := eqAt_V (A := A) (s := s) (y := .int i) (x := .int i) r1 r2 rfl rfl; simpa [eqV] using h
    | str z => cases d1; cases d2; have h := eqAt_V (A := A) (s := s) (y := .str z) (x := .str z) r1 r2 rfl rfl; simpa [eqV] using h
    | list xs => simp [PyData.depth] at hd
    | tuple xs => simp [PyData.depth] at hd
    | dict kvs => simp [PyData.depth] at hd
  | succ n ih =>
    intro x v w u t A hd ok d1 d2 r1 r2 hu
    have seqs : ∀ (xs : List PyData) (vs ws : List V) (us ts : List Value), okAll xs = true → PyData.depthAll xs ≤ n → DAs X.K H vs xs → DAs X.K H ws xs → Vals vs us → Vals ws ts →
        ∀ j (h1 : j < us.toArray.size) (h2 : j < ts.toArray.size), SeqAt.EqAt A.in1 s us.toArray[j] ts.toArray[j] true := fun xs vs ws us ts hok hdd e1 e2 q1 q2 j h1 h2 => by
      have l1 : j < us.length := by simpa using h1
      have l2 : j < ts.length := by simpa using h2
      have lv : j < vs.length := by rw [q1.length]; exact l1
      have lx : j < xs.length := by rw [← e1.length]; exact lv
      obtain ⟨a, ha, da⟩ := e1.get (i := j) (List.getElem?_eq_getElem lx)
      obtain ⟨b, hb, db⟩ := e2.get (i := j) (List.getElem?_eq_getElem lx)
      obtain ⟨u', hu', ru⟩ := q1.get ha
      obtain ⟨t', ht', rt⟩ := q2.get hb
      have eu : us.toArray[j] = u' := by
        have : us[j]? = some us[j] := List.getElem?_eq_getElem l1
        rw [this] at hu'
        simpa using hu'
      have et : ts.toArray[j] = t' := by
        have : ts[j]? = some ts[j] := List.getElem?_eq_getElem l2
        rw [this] at ht'
        simpa using ht'
      rw [eu, et]
      exact ih xs[j] a b u' t' A.in1 (Nat.le_trans (depth_get (List.getElem?_eq_getElem lx)) hdd) (okAll_get hok (List.getElem?_eq_getElem lx)) da db ru rt (by show A.units + 1 + n < cLine; omega)
    cases x with
    | none => cases d1; cases d2; exact (eqAt_V (y := .non) (x := .non) r1 r2 rfl rfl)
    | bool b => cases d1; cases d2; have h := eqAt_V (A := A) (s := s) (y := .bl b) (x := .bl b) r1 r2 rfl rfl; simpa [eqV] using h
    | int i => cases d1; cases d2; have h := eqAt_V (A := A) (s := s) (y := .int i) (x := .int i) r1 r2 rfl rfl; simpa [eqV] using h
    | str z => cases d1; cases d2; have h := eqAt_V (A := A) (s := s) (y := .str z) (x := .str z) r1 r2 rfl rfl; simpa [eqV] using h
    | list xs =>
      have hdd : PyData.depthAll xs ≤ n := by simp [PyData.depth] at hd; exact hd
      have hok : okAll xs = true := by unfold okS at ok; exact ok
      cases d1 with
      | lst h1 e1 =>
        cases d2 with
        | lst h2 e2 =>
          cases r1
          cases r2
          rename_i a vs b ws
          by_cases hab : a = b
          · subst hab
            exact .same _
          · obtain ⟨us, q1, p1, _⟩ := I.list (SqL.of h1)
            obtain ⟨ts, q2, p2, _⟩ := I.list (SqL.of h2)
            have hsz : us.toArray.size = ts.toArray.size := by
              have := q1.length; have := q2.length; have := e1.length; have := e2.length
              simp; omega
            have key := SeqAt.RcAt.lists (A := A) (e := fun _ => true) p1.isList p2.isList hsz (by omega) (seqs xs _ _ us ts hok hdd e1 e2 q1 q2)
            have ee : ((List.range us.toArray.size).all fun _ => true) = true := List.all_eq_true.mpr fun _ _ => rfl
            rw [ee] at key
            exact .of_refs hab key
    | tuple xs =>
      have hdd : PyData.depthAll xs ≤ n := by simp [PyData.depth] at hd; exact hd
      have hok : okAll xs = true := by unfold okS at ok; exact ok
      cases d1 with
      | tup h1 e1 =>
        cases d2 with
        | tup h2 e2 =>
          cases r1
          cases r2
          rename_i a vs b ws
          by_cases hab : a = b
          · subst hab
            exact .same _
          · obtain ⟨us, q1, p1, _⟩ := I.tuple h1
            obtain ⟨ts, q2, p2, _⟩ := I.tuple h2
            have hsz : us.toArray.size = ts.toArray.size := by
              have := q1.length; have := q2.length; have := e1.length; have := e2.length
              simp; omega
            have key := SeqAt.RcAt.tuples (A := A) (e := fun _ => true) (show s.heap.IsTuple a us.toArray from p1) (show s.heap.IsTuple b ts.toArray from p2) (by omega) (seqs xs _ _ us ts hok hdd e1 e2 q1 q2)
            have ee : (((List.range (min us.toArray.size ts.toArray.size)).all fun _ => true) && us.toArray.size == ts.toArray.size) = true := by
              rw [List.all_eq_true.mpr fun _ _ => rfl, hsz]
              simp
            rw [ee] at key
            exact .of_refs hab key
    | dict kvs =>
      match kvs, ok, d1, d2 with
      | [(.str z, .int i)], ok, d1, d2 =>
        cases d1 with
        | opq h1 =>
          generalize hc : ((_ : Addr) : Int) = ci at d2
          cases d2 with
          | opq h2 =>
            have e := Int.ofNat.inj hc
            subst e
            cases r1
            cases r2
            exact .same _
/-- == and != where the data are the same -/
def rEqS (K : PySem.W.Frag) (neg : Bool) : R2 := fun v w H Q => ∃ xs, okAll xs = true ∧ PyData.depthAll xs ≤ 60 ∧ ((DA K H v (.list xs) ∧ DA K H w (.list xs)) ∨ (DA K H v (.tuple xs) ∧ DA K H w (.tuple xs))) ∧ Q (.bl (!neg)) H
theorem same_items (I : Inv X pins σ H s) {A : Around} {xs : List PyData} {vs ws : List V} {us ts : List Value} (hok : okAll xs = true) (hdd : PyData.depthAll xs ≤ 60) (e1 : DAs X.K H vs xs) (e2 : DAs X.K H ws xs) (q1 : Vals vs us) (q2 : Vals ws ts) (hu : A.units + 64 < cLine) :
    ∀ j (h1 : j < us.toArray.size) (h2 : j < ts.toArray.size), SeqAt.EqAt A.in1 s us.toArray[j] ts.toArray[j] true := fun j h1 h2 => by
  have l1 : j < us.length := by simpa using h1
  have l2 : j < ts.length := by simpa using h2
  have lv : j < vs.length := by rw [q1.length]; exact l1
  have lx : j < xs.length := by rw [← e1.length]; exact lv
  obtain ⟨a, ha, da⟩ := e1.get (i := j) (List.getElem?_eq_getElem lx)
  obtain ⟨b, hb, db⟩ := e2.get (i := j) (List.getElem?_eq_getElem lx)
  obtain ⟨u', hu', ru⟩ := q1.get ha
  obtain ⟨t', ht', rt⟩ := q2.get hb
  have eu : us.toArray[j] = u' := by
    have : us[j]? = some us[j] := List.getElem?_eq_getElem l1
    rw [this] at hu'
    simpa using hu'
  have et : ts.toArray[j] = t' := by
    have : ts[j]? = some ts[j] := List.getElem?_eq_getElem l2
    rw [this] at ht'
    simpa using ht'
  rw [eu, et]
  exact same_at I 60 xs[j] a b u' t' A.in1 (Nat.le_trans (depth_get (List.getElem?_eq_getElem lx)) hdd) (okAll_get hok (List.getElem?_eq_getElem lx)) da db ru rt (by show A.units + 1 + 60 < cLine; omega)
theorem all_true (n : Nat) : ((List.range n).all fun _ => true) = true := List.all_eq_true.mpr fun _ _ => rfl
theorem op_eqS (hu : X.A.units + 64 < cLine) : OpR X (compareOp .Eq) (rEqS X.K false) := by
  intro pins s σ H x y v u Q I rx ry h
  obtain ⟨xs, hok, hd, h, q⟩ := h
  rcases h with ⟨d1, d2⟩ | ⟨d1, d2⟩
  · cases d1 with
    | lst h1 e1 =>
      cases d2 with
      | lst h2 e2 =>
        cases rx
        cases ry
        obtain ⟨us, q1, p1, _⟩ := I.list (SqL.of h1)
        obtain ⟨ts, q2, p2, _⟩ := I.list (SqL.of h2)
        have hsz : us.toArray.size = ts.toArray.size := by
          have := q1.length; have := q2.length; have := e1.length; have := e2.length
          simp; omega
        refine SeqAt.eq_listAt (e := fun _ => true) p1.isList p2.isList hsz (by omega) (same_items I hok hd e1 e2 q1 q2 hu) ?_
        rw [all_true]
        exact ⟨.bl true, H, I, rfl, q⟩
  · cases d1 with
    | tup h1 e1 =>
      cases d2 with
      | tup h2 e2 =>
        cases rx
        cases ry
        obtain ⟨us, q1, p1, _⟩ := I.tuple h1
        obtain ⟨ts, q2, p2, _⟩ := I.tuple h2
        have hsz : us.toArray.size = ts.toArray.size := by
          have := q1.length; have := q2.length; have := e1.length; have := e2.length
          simp; omega
        refine SeqAt.eq_tupleAt (e := fun _ => true) (show s.heap.IsTuple _ us.toArray from p1) (show s.heap.IsTuple _ ts.toArray from p2) (by omega) (same_items I hok hd e1 e2 q1 q2 hu) ?_
        rw [all_true, hsz]
        have ee : (ts.toArray.size == ts.toArray.size) = true := by simp
        rw [ee]
        exact ⟨.bl true, H, I, rfl, q⟩
theorem op_neS (hu : X.A.units + 64 < cLine) : OpR X (compareOp .NotEq) (rEqS X.K true) := by
  intro pins s σ H x y v u Q I rx ry h
  obtain ⟨xs, hok, hd, h, q⟩ := h
  rcases h with ⟨d1, d2⟩ | ⟨d1, d2⟩
  · cases d1 with
    | lst h1 e1 =>
      cases d2 with
      | lst h2 e2 =>
        cases rx
        cases ry
        obtain ⟨us, q1, p1, _⟩ := I.list (SqL.of h1)
        obtain ⟨ts, q2, p2, _⟩ := I.list (SqL.of h2)
        have hsz : us.toArray.size = ts.toArray.size := by
          have := q1.length; have := q2.length; have := e1.length; have := e2.length
          simp; omega
        refine SeqAt.RcNeAt.lists (e := fun _ => true) p1.isList p2.isList hsz (by omega) (same_items I hok hd e1 e2 q1 q2 hu) _ _ _ _ ?_
        rw [all_true]
        exact ⟨.bl false, H, I, rfl, q⟩
  · cases d1 with
    | tup h1 e1 =>
      cases d2 with
      | tup h2 e2 =>
        cases rx
        cases ry
        obtain ⟨us, q1, p1, _⟩ := I.tuple h1
        obtain ⟨ts, q2, p2, _⟩ := I.tuple h2
        have hsz : us.toArray.size = ts.toArray.size := by
          have := q1.length; have := q2.length; have := e1.length; have := e2.length
          simp; omega
        refine SeqAt.RcNeAt.tuples (e := fun _ => true) (show s.heap.IsTuple _ us.toArray from p1) (show s.heap.IsTuple _ ts.toArray from p2) (by omega) (same_items I hok hd e1 e2 q1 q2 hu) _ _ _ _ ?_
        rw [all_true, hsz]
        have ee : (ts.toArray.size == ts.toArray.size) = true := by simp
        rw [ee]
        exact ⟨.bl false, H, I, rfl, q⟩
/-- both rules together -/
def rEqA (K : PySem.W.Frag) : R2 := fun x y H Q => rEqD K x y H Q ∨ rEqS K false x y H Q
def rNeA (K : PySem.W.Frag) : R2 := fun x y H Q => rNeD K x y H Q ∨ rEqS K true x y H Q
theorem op_eqA (hu : X.A.units + 64 < cLine) : OpR X (compareOp .Eq) (rEqA X.K) := (op_eqD hu).or (op_eqS hu)
theorem op_neA (hu : X.A.units + 64 < cLine) : OpR X (compareOp .NotEq) (rNeA X.K) := (op_neD hu).or (op_neS hu)
end
section
variable {K : PySem.W.Frag} {x y : PyData} {xs : List PyData}
theorem rd_eqA (hx : SeqAt.shaped x = true) (hy : SeqAt.shaped y = true) : RD K (rEqA K) x y (.bool (PyData.eqv x y)) := RD.left (rd_eq hx hy)
theorem rd_neA (hx : SeqAt.shaped x = true) (hy : SeqAt.shaped y = true) : RD K (rNeA K) x y (.bool (!PyData.eqv x y)) := RD.left (rd_ne hx hy)
theorem rd_sameL (ok : okAll xs = true) (hd : PyData.depthAll xs ≤ 60) : RD K (rEqA K) (.list xs) (.list xs) (.bool true) := RD.right (RD.val fun G H v w s d1 d2 => ⟨_, .bl true, fun Q q => ⟨xs, ok, hd, .inl ⟨d1.mono s, d2.mono s⟩, q⟩⟩)
theorem rd_sameT (ok : okAll xs = true) (hd : PyData.depthAll xs ≤ 60) : RD K (rEqA K) (.tuple xs) (.tuple xs) (.bool true) := RD.right (RD.val fun G H v w s d1 d2 => ⟨_, .bl true, fun Q q => ⟨xs, ok, hd, .inr ⟨d1.mono s, d2.mono s⟩, q⟩⟩)
theorem rd_nsameL (ok : okAll xs = true) (hd : PyData.depthAll xs ≤ 60) : RD K (rNeA K) (.list xs) (.list xs) (.bool false) := RD.right (RD.val fun G H v w s d1 d2 => ⟨_, .bl false, fun Q q => ⟨xs, ok, hd, .inl ⟨d1.mono s, d2.mono s⟩, q⟩⟩)
theorem rd_nsameT (ok : okAll xs = true) (hd : PyData.depthAll xs ≤ 60) : RD K (rNeA K) (.tuple xs) (.tuple xs) (.bool false) := RD.right (RD.val fun G H v w s d1 d2 => ⟨_, .bl false, fun Q q => ⟨xs, ok, hd, .inr ⟨d1.mono s, d2.mono s⟩, q⟩⟩)
/-- list * int -/
theorem rd_repL {k : Int} (h0 : 0 ≤ k) (h1 : k ≤ 1000) (hl : xs.length ≤ 1000) : RD K rRep (.list xs) (.int k) (.list (List.replicate k.toNat xs).flatten) := fun G H v w s d1 d2 Q q => by
  obtain ⟨a, vs, rfl, ha, hg, da⟩ := d1.lstH s
  cases d2
  refine ⟨a, k, vs, rfl, rfl, ha, by omega, by omega, ?_, fun p hp => ?_⟩
  · rw [da.length]
    have h2 : k.toNat ≤ 1000 := by omega
    exact szK (Nat.mul_le_mul hl h2)
  · have st := Step.lay s (.lst (List.replicate k.toNat vs).flatten) hp
    exact q _ _ _ st (.lst upd_same ((da.rep k.toNat).mono st.gg))
/-- a dict as a thing -/
theorem ev_dnew {ρ : En} : Ev K tDNewK ρ fun ρ' y => ρ' = ρ ∧ ∃ a, y = opq a := fun b G H σ S Q q => fun p hp => q _ _ ρ _ _ ⟨rfl, p, rfl⟩ (S.step (Step.lay S.sub (.dK []) hp)) (.opq upd_same)
end
end RS
end
section
set_option Elab.async false
set_option linter.all false
set_option autoImplicit false
set_option maxRecDepth 100000
set_option maxHeartbeats 2000000
/-! RS13: own exception classes by their names; the law's own start -/
namespace RS
open PySem PySem.Spec PyProof.Rows L2
structure MkX (P : Program) (w : World) (K : PySem.W.Frag) (mg : Str → Option Value) (base : Heap) (x : Str) (C : Addr) (ps : List Str) (sp : Sp) : Prop where
  xc : XC K C
  m : mg x = some (.ref C)
  i : ∃ (fI : Addr) (fd : FuncData), PySem.W.findIn K (.ref C) "__init__" = some (some (.ref fI)) ∧ PySem.W.typeIn K (.ref fI) = some (.type "function") ∧ FnOk P w K mg base CX0 1 fI fd ps sp ∧ Binds K fd ps []
structure Mk0X (K : PySem.W.Frag) (mg : Str → Option Value) (x : Str) (C : Addr) : Prop where
  xc : XC K C
  m : mg x = some (.ref C)
  q : PySem.W.excIn K C [.type "ValueError", .type "Exception", .type "BaseException", .type "object"] "ValueError.__new__" = true
section
variable {X : Cx}
theorem pe_mkx {x : Str} {C : Addr} {ps : List Str} {sp : Sp} {e : Expr} {es : List Expr} {ta : TA} {p pos : Pos} (M : MkX X.prog X.w X.K X.mg X.base x C ps sp) (hr : Room 2 X.A) (ha : PA X (e :: es) ta) (hg : Gl X x := by rfl)
    (hdb : (x == ("__debug__" : Str)) = false := by decide) (he : starEach (e :: es) X.env = (false, eval e X.env) :: starEach es X.env := by rfl) (hpl : (backTo pos (starEach es X.env)).any (·.1) = false := by rfl) :
    PE X (.Call (.Name x p) (e :: es) [] pos) (tMkV C sp ta) := by
  obtain ⟨fI, fd, h1, h2, h3, h4⟩ := M.i
  exact pe_oex M.xc.o h1 h2 h3 hr h4 M.m ha hg hdb he hpl
theorem pe_mk0 {x : Str} {C : Addr} {p pos : Pos} (M : Mk0X X.K X.mg x C) (hg : Gl X x := by rfl) (hdb : (x == ("__debug__" : Str)) = false := by decide) : PE X (.Call (.Name x p) [] [] pos) (tMk0 C) :=
  pe_exc0 PySem.F.excBase_ValueError M.q M.m M.xc.o.kC hg hdb
end
/-! ### the law -/
def spLaw (K : PySem.W.Frag) : Sp := fun vs H Q _ => ∃ (a : Addr) (ns : List Int), vs = [.ref a] ∧ SqL K H a (ns.map V.int) ∧ ns.length ≤ 63 ∧ ∀ H', Q (.bl true) H'
def startL (n : Nat) : En := none :: some (Sl.pen 0) :: List.replicate (n - 2) none
def LawO : Out → Prop
  | .rt _ y => y = .bool true
  | _ => False
theorem sa_law {K : PySem.W.Frag} {H : Hp} {a p ca : Addr} {ns : List Int} {N : List Str} (hN : 2 ≤ N.length) (hca : H ca = some (.lst (ns.map V.int))) (ne : p ≠ ca) (PA : ∀ G, G ca = some (.lst (ns.map V.int)) → PenAt K G H p 0) :
    SA K ⟨fun x => if x = ca then some (.lst (ns.map V.int)) else none, fun _ => none, fun x => H x ≠ none, p⟩ (fun x => if x = ca then some (.lst (ns.map V.int)) else none) H ((L2.start N [.ref a]).set 1 (some (.ref p))) (startL N.length) := by
  have gc : (fun x => if x = ca then some (HO.lst (ns.map V.int)) else none) ca = some (.lst (ns.map V.int)) := if_pos rfl
  have sub : Sub (fun x => if x = ca then some (HO.lst (ns.map V.int)) else none) H := fun x o e => by
    have e' : (if x = ca then some (HO.lst (ns.map V.int)) else none) = some o := e
    by_cases hx : x = ca
    · rw [if_pos hx] at e'
      cases e'
      rw [hx]
      exact hca
    · rw [if_neg hx] at e'
      cases e'
  have key : ∀ (i : Nat) (s : Sl), (startL N.length)[i]? = some (some s) → i = 1 ∧ s = Sl.pen 0 := fun i s e => by
    unfold startL at e
    match i, e with
    | 0, e => cases e
    | 1, e => cases e; exact ⟨rfl, rfl⟩
    | i + 2, e =>
      have e' : (List.replicate (N.length - 2) (none : Option Sl))[i]? = some (some s) := e
      rw [List.getElem?_replicate] at e'
      split at e' <;> cases e'
  have hs : ((L2.start N [.ref a]).set 1 (some (.ref p)))[1]? = some (some (V.ref p)) := by
    rw [List.getElem?_set, if_pos rfl, if_pos]
    unfold L2.start
    rw [List.length_append, List.length_map, List.length_replicate]
    show 1 < 1 + (N.length - 1)
    omega
  exact {
    sub := sub, gg := Sub.refl _, new := fun x h _ => h
    keep := fun x o e => nomatch e
    trk := fun x h => h
    ptr := fun x h => absurd rfl h
    gtr := fun x h => by
      show H x ≠ none
      cases e : (fun x => if x = ca then some (HO.lst (ns.map V.int)) else none) x with
      | none => exact absurd e h
      | some o => rw [sub x o e]; exact fun z => nomatch z
    dat := fun i x e => by obtain ⟨_, h⟩ := key i _ e; cases h
    own := fun i xs e => by obtain ⟨_, h⟩ := key i _ e; cases h
    sep := fun i j xs ys a e => by obtain ⟨_, h⟩ := key i _ e; cases h
    pen := fun i c e => by
      obtain ⟨h1, h2⟩ := key i _ e
      cases h2
      subst h1
      exact ⟨p, hs, if_neg ne, rfl, PA _ gc⟩
    penp := fun i c e => by
      obtain ⟨h1, _⟩ := key i _ e
      subst h1
      exact hs
    onep := fun i j c c' e e' => by rw [(key i _ e).1, (key j _ e').1]
    len := by
      unfold L2.start startL
      rw [List.length_set, List.length_append, List.length_map, List.length_replicate]
      show 1 + (N.length - 1) = (List.replicate (N.length - 2) (none : Option Sl)).length + 1 + 1
      rw [List.length_replicate]
      omega }
section
variable {P : Program} {w : World} {K : PySem.W.Frag} {mg : Str → Option Value} {base : Heap}
theorem fn_law {st : Stmt} {f : Addr} {fd : FuncData} {N : List Str} {k : Nat} (F : Fun K "law" "law" st f fd) (S : FnScope N ["script"] (defScope st)) (hN : 2 ≤ N.length)
    (hb : ∀ (cdv : Value) (A : Around) (outer : List PySem.Env) (s : Shared) (H : Hp) (E : XK), Room k (A.deeper (PyProof.Rows.envOfC "law" (defScope st) s.heap.objs.size f cdv)) →
      ∃ t, PSs (cxOf CX0 P w K mg base N "law" (defScope st) f cdv A outer s H E).nox (defBody st) (tSeq (tAsg (tCall (spMkPen K) [] E0 (tCons (tVar 0) tNil)) (gName 1)) t) ∧ Es K t (startL N.length) LawO) :
    FnOk P w K mg base CX0 (k + 1) f fd ["script"] (spLaw K) := by
  refine F.ok S (fun vs H Q E h => ?_) (fun cdv A outer s H vs Q E hr h => ?_)
  · obtain ⟨_, _, rfl, _⟩ := h
    rfl
  · obtain ⟨t, ht, hs⟩ := hb cdv A outer s H E hr
    obtain ⟨a, ns, rfl, hS, hl, q⟩ := h
    refine ⟨_, ht, ?_⟩
    refine ⟨.ref a, rfl, a, ns, rfl, hS, hl, fun p ca H2 hp hca ne keep h2 hP => ?_⟩
    refine hs _ _ H2 _ _ (sa_law (N := N) (a := a) hN h2 ne hP) ⟨fun _ _ _ _ o => o.elim, fun ρ y v σ G3 H3 o S3 dv => ?_, fun _ _ _ _ o => o.elim, fun _ _ _ _ o => o.elim⟩
    have e : y = .bool true := o
    subst e
    cases dv
    exact q H3
/-- as HandS.Words' walk -/
theorem walk {l : PySem.W.OpenLaw} {q : Program} {loose : List Str} {XP : (Str → Option Value) → Heap → Prop} {YP : World → Heap → Prop} {d : DefRec} {K : Params → PySem.W.Frag} {k : Nat} (hn : l.most = some 63) (hdf : d.params.defaults = []) (hk : Room k callerA)
    (hY : ∀ (w : World) (h : Heap), YP w h → (K w.params).In h)
    (F : ∀ (w : World) (mg : Str → Option Value) (fa : Addr) (h : Heap), (K w.params).In h → h.Ns mainGlobals mg → mg d.name = some (.ref fa) →
      ∃ fd : FuncData, (∀ (s : Shared) (u : Value), BindsTo s fd ⟨[u], []⟩ [("script", u)]) ∧ ∀ base : Heap, (K w.params).In base → base.Ns mainGlobals mg → FnOk l.prog w (K w.params) mg base CX0 k fa fd ["script"] (spLaw (K w.params))) :
    PySem.W.WalkO q loose XP YP l.row.toRowW d [] (fun f vs => PySem.call f vs) :=
  L2.walk_of (n := 63) (k := k) (x := "script") (CX := fun _ => CX0) (sp := fun w => spLaw (K w.params)) hn (by decide) hdf hk hY F (fun _ _ a ns hl _ hS => ⟨a, ns, rfl, hS, hl, fun _ => rfl⟩) fun _ _ _ _ _ z => z
end
end RS
end
section
set_option Elab.async false
set_option linter.all false
set_option autoImplicit false
set_option maxRecDepth 100000
set_option maxHeartbeats 2000000
/-! RS14: more of statements and comprehensions -/
namespace RS
open PySem PySem.Spec PyProof.Rows L2
section
variable {K : PySem.W.Frag} {ρ : En} {O : Out → Prop} {te : TE} {ta : TA} {u : TS} {x y z : PyData} {i j l : Nat}
theorem DAs.two {G : Hp} {vs : List V} (h : DAs K G vs [x, y]) : ∃ v w, vs = [v, w] ∧ DA K G v x ∧ DA K G w y := by
  cases h with
  | cons h1 h2 =>
    obtain ⟨w, rfl, hw⟩ := h2.one
    exact ⟨_, _, rfl, h1, hw⟩
theorem DAs.three {G : Hp} {vs : List V} (h : DAs K G vs [x, y, z]) : ∃ u v w, vs = [u, v, w] ∧ DA K G u x ∧ DA K G v y ∧ DA K G w z := by
  cases h with
  | cons h1 h2 =>
    obtain ⟨v, w, rfl, hv, hw⟩ := h2.two
    exact ⟨_, _, _, rfl, h1, hv, hw⟩
theorem es_par2v {R : En → List PyData → Prop} (h : EvA K ta ρ R) (k : ∀ ρ1 xs, R ρ1 xs → ∃ x y, xs = [x, y] ∧ O (.nx ((ρ1.set i (some (.d x))).set j (some (.d y))))) : Es K (tPar i j ta) ρ O := fun b G H σ D S T =>
  h b G H σ S _ fun vs xs ρ1 G1 H1 h1 S1 d1 => by
    obtain ⟨x, y, rfl, ho⟩ := k ρ1 xs h1
    obtain ⟨v, w, rfl, dv, dw⟩ := d1.two
    exact ⟨v, w, rfl, T.nx _ _ G1 H1 ho ((S1.set i dv).set j dw)⟩
theorem eq_par2v {R : En → List PyData → Prop} (h : EvA K ta ρ R) (k : ∀ ρ1 xs, R ρ1 xs → ∃ x y, xs = [x, y] ∧ Es K u ((ρ1.set i (some (.d x))).set j (some (.d y))) O) : Es K (tSeq (tPar i j ta) u) ρ O := es_then (es_par2v h k)
theorem eq_par2 (h : Ea K ta ρ [x, y]) (k : Es K u ((ρ.set i (some (.d x))).set j (some (.d y))) O) : Es K (tSeq (tPar i j ta) u) ρ O := eq_par2v h fun ρ1 xs e => by
  obtain ⟨rfl, rfl⟩ := e
  exact ⟨x, y, rfl, k⟩
theorem eq_par3 (h : Ea K ta ρ [x, y, z]) (k : Es K u (((ρ.set i (some (.d x))).set j (some (.d y))).set l (some (.d z))) O) : Es K (tSeq (tPar3 i j l ta) u) ρ O := es_then fun b G H σ D S T =>
  h b G H σ S _ fun vs xs ρ1 G1 H1 h1 S1 d1 => by
    obtain ⟨rfl, rfl⟩ := h1
    obtain ⟨a, b', c, rfl, da, db, dc⟩ := d1.three
    exact ⟨a, b', c, rfl, T.nx _ _ G1 H1 k (((S1.set i da).set j db).set l dc)⟩
/-- the parts' outcomes may hang on the env between -/
theorem eva_cons2 {ta : TE} {tl : TA} {R1 : En → PyData → Prop} {R2 : En → PyData → En → List PyData → Prop} {R : En → List PyData → Prop} (ha : Ev K ta ρ R1) (hb : ∀ ρ1 x, R1 ρ1 x → EvA K tl ρ1 (R2 ρ1 x))
    (hr : ∀ ρ1 x ρ2 xs, R1 ρ1 x → R2 ρ1 x ρ2 xs → R ρ2 (x :: xs)) : EvA K (tCons ta tl) ρ R := fun b G H σ S Q q =>
  ha _ G H σ S _ fun v x ρ1 G1 H1 h1 S1 d1 => (hb ρ1 x h1).runG S1 fun vs xs ρ2 G2 H2 h2 S2 g d2 => q (v :: vs) (x :: xs) ρ2 G2 H2 (hr _ _ _ _ h1 h2) S2 (.cons (d1.mono g) d2)
theorem ev_op2 {ta tb : TE} {r : R2} {R1 : En → PyData → Prop} {R : En → PyData → Prop} {R2 : En → PyData → En → PyData → Prop} (ha : Ev K ta ρ R1) (hb : ∀ ρ1 x, R1 ρ1 x → Ev K tb ρ1 (R2 ρ1 x))
    (hr : ∀ ρ1 x ρ2 y, R1 ρ1 x → R2 ρ1 x ρ2 y → ∃ z, RD K r x y z ∧ R ρ2 z) : Ev K (tOp r ta tb) ρ R := fun b G H σ S Q q =>
  ha _ G H σ S _ fun v x ρ1 G1 H1 h1 S1 d1 => (hb ρ1 x h1).runG S1 fun w y ρ2 G2 H2 h2 S2 g d2 => by
    obtain ⟨z, rd, rz⟩ := hr ρ1 x ρ2 y h1 h2
    exact rd G2 H2 v w S2.sub (d1.mono g) d2 Q fun u G3 H3 st d3 => q u z ρ2 G3 H3 rz (S2.step st) d3
/-- a pure head -/
theorem eva_consd {ta : TE} {tl : TA} {R : En → List PyData → Prop} (h : Ed K ta ρ x) (hb : EvA K tl ρ R) : EvA K (tCons ta tl) ρ fun ρ' ys => ∃ zs, ys = x :: zs ∧ R ρ' zs :=
  eva_cons2 h (R2 := fun _ _ ρ2 zs => R ρ2 zs) (fun ρ1 y e => by obtain ⟨rfl, rfl⟩ := e; exact hb) fun ρ1 y ρ2 zs e h2 => by
    obtain ⟨rfl, rfl⟩ := e
    exact ⟨zs, rfl, h2⟩
/-- one argument -/
theorem eva_one {ta : TE} {R1 : En → PyData → Prop} (h : Ev K ta ρ R1) : EvA K (tCons ta tNil) ρ fun ρ' ys => ∃ y, ys = [y] ∧ R1 ρ' y :=
  eva_cons2 h (R2 := fun ρ1 _ ρ2 ys => ρ2 = ρ1 ∧ ys = []) (fun ρ1 y _ => ea_nil) fun ρ1 y ρ2 ys h1 h2 => by
    obtain ⟨rfl, rfl⟩ := h2
    exact ⟨y, rfl, h1⟩
/-- a pick from a list that is known, up to what is free in it -/
theorem ev_pickv {E : XK} {R1 : En → PyData → Prop} {c0 : Nat} (hi : ρ[i]? = some (some (Sl.pen c0))) (h : Ev K te ρ R1) (hr : ∀ ρ1 y, R1 ρ1 y → ∃ c1 xs, ρ1 = setPen c1 ρ ∧ (y = .list xs ∨ y = .tuple xs) ∧ xs ≠ [] ∧ xs.length < 1000000 ∧ c1 + 1 ≤ LIM) :
    Ev K (tCall (spP K 1 pPick 1 rPick) [] E (tCons (tVar i) (tCons te tNil))) ρ fun ρ' y => ∃ c1 xs, (R1 (setPen c1 ρ) (.list xs) ∨ R1 (setPen c1 ρ) (.tuple xs)) ∧ ρ' = setPen (c1 + 1) ρ ∧ y ∈ xs :=
  ev_callP hi (eva_one h) fun ρ1 ds e => by
    obtain ⟨y, rfl, h1⟩ := e
    obtain ⟨c1, xs, rfl, hy, ne, hl, hc⟩ := hr _ _ h1
    refine ⟨c1, rfl, rfl, ⟨xs, by rcases hy with rfl | rfl; exact .inl rfl; exact .inr rfl, ne, hl⟩, hc, fun z hz => ?_⟩
    obtain ⟨ys, hys, hm⟩ := hz
    rcases hy with rfl | rfl
    · rcases hys with e | e
      · cases e
        exact ⟨c1, xs, .inl h1, rfl, hm⟩
      · cases e
    · rcases hys with e | e
      · cases e
      · cases e
        exact ⟨c1, xs, .inr h1, rfl, hm⟩
theorem ev_pick {E : XK} {c0 : Nat} {xs : List PyData} (hi : ρ[i]? = some (some (Sl.pen c0))) (hp : setPen c0 ρ = ρ) (h : Ed K te ρ (.list xs)) (ne : xs ≠ []) (hl : xs.length < 1000000) (hc : c0 + 1 ≤ LIM) :
    Ev K (tCall (spP K 1 pPick 1 rPick) [] E (tCons (tVar i) (tCons te tNil))) ρ fun ρ' y => ρ' = setPen (c0 + 1) ρ ∧ y ∈ xs :=
  ev_callP hi (ea_cons h ea_nil) fun ρ1 ds e => by
    obtain ⟨rfl, rfl⟩ := e
    refine ⟨c0, hp.symm, rfl, ⟨xs, .inl rfl, ne, hl⟩, hc, fun z hz => ?_⟩
    obtain ⟨ys, hys, hm⟩ := hz
    rcases hys with e | e
    · cases e
      exact ⟨rfl, hm⟩
    · cases e
theorem ev_draw {E : XK} {c0 : Nat} {many : Int} (hi : ρ[i]? = some (some (Sl.pen c0))) (hp : setPen c0 ρ = ρ) (h : Ed K te ρ (.int many)) (h0 : 0 < many) (h1 : many < 1000000) (hc : c0 + 1 ≤ LIM) :
    Ev K (tCall (spP K 1 pDraw 1 rDraw) [] E (tCons (tVar i) (tCons te tNil))) ρ fun ρ' y => ρ' = setPen (c0 + 1) ρ ∧ ∃ r : Int, y = .int r ∧ 0 ≤ r ∧ r < many :=
  ev_callP hi (ea_cons h ea_nil) fun ρ1 ds e => by
    obtain ⟨rfl, rfl⟩ := e
    refine ⟨c0, hp.symm, rfl, ⟨many, rfl, h0, h1⟩, hc, fun z hz => ?_⟩
    obtain ⟨m, r, e1, e2, e3, e4⟩ := hz
    cases e1
    exact ⟨rfl, r, e2, e3, e4⟩
/-- fields -/
theorem fld_here {f : Str} {r : List (PyData × PyData)} : fldD f ((.str f, x) :: r) = some x := by
  unfold fldD
  rw [if_pos rfl]
theorem fld_next {f g : Str} {r : List (PyData × PyData)} (h : f ≠ g) : fldD f ((.str g, y) :: r) = fldD f r := by
  rw [fldD, if_neg h]
/-- a comprehension that draws nothing -/
theorem ed_lc {wi : TI} {g : TG} {tt : TT} {vs : List Nat} {xs : List PyData} (c0 : Nat) (p : PyData → Bool) (f : PyData → PyData) (h : Ei K wi ρ xs) (hl : xs.length ≤ 100000) (hp : setPen c0 ρ = ρ) (hv : ∀ (i : Nat) (s : Sl), i ∈ vs → ρ[i]? = some (some s) → ∃ x, s = Sl.d x)
    (k : ∀ (i : Nat) x, xs[i]? = some x → ∃ js ρ2, (∀ j ∈ js, j ∈ vs) ∧ Eg K g js (setPen c0 (wp ρ vs)) x ρ2 ∧ setPen c0 ρ2 = ρ2 ∧ Eb K tt ρ2 (p x) ∧ (p x = true → Ed K te ρ2 (f x))) : Ed K (tLc wi g tt te vs) ρ (.list ((xs.filter p).map f)) :=
  ev_lc h fun ρ1 ys e => by
    obtain ⟨rfl, rfl⟩ := e
    refine ⟨hl, hv, c0, fun i c acc => c = c0 ∧ acc = ((ys.take i).filter p).map f, hp, ⟨rfl, by simp⟩, fun i x c acc hx hJ => ?_, fun c acc hJ => ?_⟩
    · obtain ⟨rfl, rfl⟩ := hJ
      obtain ⟨js, ρ2, h1, h2, h3, h4, h5⟩ := k i x hx
      have et : ys.take (i + 1) = ys.take i ++ [x] := by
        rw [List.take_add_one, hx]
        rfl
      refine ⟨js, ρ2, h1, h2, h4.imp fun ρ3 t e => ?_⟩
      obtain ⟨rfl, rfl⟩ := e
      refine ⟨c, h3.symm, fun ht => (h5 ht).imp fun ρ4 y e => ?_, fun ht => ⟨rfl, ?_⟩⟩
      · obtain ⟨rfl, rfl⟩ := e
        refine ⟨c, h3.symm, rfl, ?_⟩
        rw [et, List.filter_append, List.map_append, List.filter_cons, if_pos ht]
        rfl
      · rw [et, List.filter_append, List.filter_cons, if_neg (by rw [ht]; exact Bool.false_ne_true)]
        simp
    · obtain ⟨rfl, rfl⟩ := hJ
      rw [List.take_length]
      exact ⟨hp, rfl⟩
theorem eb_yes : Eb K tYes ρ true := fun b G H σ S Q q => q true ρ G H ⟨rfl, rfl⟩ S
/-- without a test -/
theorem ed_lcm {wi : TI} {g : TG} {vs : List Nat} {xs : List PyData} (c0 : Nat) (f : PyData → PyData) (h : Ei K wi ρ xs) (hl : xs.length ≤ 100000) (hp : setPen c0 ρ = ρ) (hv : ∀ (i : Nat) (s : Sl), i ∈ vs → ρ[i]? = some (some s) → ∃ x, s = Sl.d x)
    (k : ∀ (i : Nat) x, xs[i]? = some x → ∃ js ρ2, (∀ j ∈ js, j ∈ vs) ∧ Eg K g js (setPen c0 (wp ρ vs)) x ρ2 ∧ setPen c0 ρ2 = ρ2 ∧ Ed K te ρ2 (f x)) : Ed K (tLc wi g tYes te vs) ρ (.list (xs.map f)) := by
  have q := ed_lc c0 (fun _ => true) f h hl hp hv (tt := tYes) (te := te) (g := g) fun i x hx => by
    obtain ⟨js, ρ2, h1, h2, h3, h4⟩ := k i x hx
    exact ⟨js, ρ2, h1, h2, h3, eb_yes, fun _ => h4⟩
  have e : xs.filter (fun _ => true) = xs := List.filter_eq_self.mpr fun _ _ => rfl
  rw [e] at q
  exact q
/-- {'a': 1} -/
theorem ev_disp1 {k : Str} {n : Int} : Ev K (tDisp [(tC (.str k), tC (.int n))]) ρ fun ρ' y => ρ' = ρ ∧ ∃ a, y = opq a := fun b G H σ S Q q => fun p hp => by
  refine ⟨upd_same, [(Sum.inr k, .int n)], rfl, (show 1 ≤ 15 by decide), ?_⟩
  rw [upd_upd]
  exact q _ _ ρ _ _ ⟨rfl, p, rfl⟩ (S.step (Step.lay S.sub (.dK _) hp)) (.opq upd_same)
end
theorem paired_get {α β : Type} {F : α → β → Prop} : ∀ {xs : List α} {ys : List β} {i : Nat} {y : β}, Paired F xs ys → ys[i]? = some y → ∃ x, xs[i]? = some x ∧ F x y
  | _, _, _, _, .nil, e => by simp at e
  | _, _, 0, _, .cons r _, e => by simp at e; subst e; exact ⟨_, rfl, r⟩
  | _, _, i + 1, y, .cons _ t, e => by
    obtain ⟨u, h1, h2⟩ := paired_get (i := i) (y := y) t (by simpa using e)
    exact ⟨u, by simpa using h1, h2⟩
end RS
end
section
set_option Elab.async false
set_option linter.all false
set_option autoImplicit false
set_option maxRecDepth 100000
set_option maxHeartbeats 2000000
/-! RS15: the rules with the written part said (within a comprehension it must be) -/
namespace RS
open PySem PySem.Spec PyProof.Rows L2
section
variable {X : Cx} {K : PySem.W.Frag}
theorem k_eqA (hu : X.A.units + 64 < cLine) (hK : X.K = K := by rfl) : OpR X (compareOp .Eq) (rEqA K) := by subst hK; exact op_eqA hu
theorem k_neA (hu : X.A.units + 64 < cLine) (hK : X.K = K := by rfl) : OpR X (compareOp .NotEq) (rNeA K) := by subst hK; exact op_neA hu
theorem k_catA (hK : X.K = K := by rfl) : OpR X (binaryOp .Add) (rCatA K) := by subst hK; exact op_catA
theorem k_repT (hK : X.K = K := by rfl) : OpR X (binaryOp .Mult) (rRepT K) := by subst hK; exact op_repT
theorem k_ix (hK : X.K = K := by rfl) : IxR X (rIx K) := by subst hK; exact ix_seq
theorem k_isi (hK : X.K = K := by rfl) : CallR X (.builtin "isinstance") (rIsi K) := by subst hK; exact call_isi
theorem k_isiT (hK : X.K = K := by rfl) : CallR X (.builtin "isinstance") (rIsiT K) := by subst hK; exact call_isiT
theorem k_isX (hK : X.K = K := by rfl) : CallR X (.builtin "isinstance") (rIsX K) := by subst hK; exact call_isX
theorem k_all (hc : X.calm = true) (hK : X.K = K := by rfl) : CallR X (.builtin "all") (rAll K) := by subst hK; exact cr_all hc
theorem k_any (hc : X.calm = true) (hK : X.K = K := by rfl) : CallR X (.builtin "any") (rAny K) := by subst hK; exact cr_any hc
theorem k_len (hK : X.K = K := by rfl) : CallR X (.builtin "len") (rLenS K) := by subst hK; exact call_len_seq
def rTupS (K : PySem.W.Frag) : List V → Hp → VK → Prop := fun xs H Q => ∃ p ys, xs = [.ref p] ∧ ((SqL K H p ys ∧ ∀ l, H l = none → Q (.ref l) (upd H l (.tup ys))) ∨ (SqT K H p ys ∧ Q (.ref p) H))
theorem k_tuple (hK : X.K = K := by rfl) : CallR X (.type "tuple") (rTupS K) := by subst hK; exact call_tuple_of
theorem k_list (hK : X.K = K := by rfl) : CallR X (.type "list") (rListS K) := by subst hK; exact call_list_of
theorem k_min (hc : X.calm = true) (hK : X.K = K := by rfl) : CallR X (.builtin "min") (rMin K) := by subst hK; exact cr_min hc
theorem k_max (hc : X.calm = true) (hK : X.K = K := by rfl) : CallR X (.builtin "max") (rMax K) := by subst hK; exact cr_max hc
theorem k_slT (hK : X.K = K := by rfl) : SlR X (rSlA K) := by subst hK; exact sl_tupA
theorem k_slL (hK : X.K = K := by rfl) : SlR X (rSlL K) := by subst hK; exact sl_list
theorem kpi_list {tg l : Expr} {tl : TE} (hl : PE X l tl) (hK : X.K = K := by rfl) : PI X tg l (iList K tl) := by subst hK; exact pi_list hl
theorem kpi_tup {tg l : Expr} {tl : TE} (hl : PE X l tl) (hK : X.K = K := by rfl) : PI X tg l (iTup K tl) := by subst hK; exact pi_tup hl
def isStar : Expr → Bool | .Starred _ _ => true | _ => false
theorem each_cons (t : Expr) (rest : List Expr) (env : Env) : ∃ g, assignEach (t :: rest) env = (isStar t, g) :: assignEach rest env := by
  cases t <;> exact ⟨_, rfl⟩
theorem each_len : ∀ (es : List Expr) (env : Env), (assignEach es env).length = es.length
  | [], _ => rfl
  | t :: r, env => by obtain ⟨g, hg⟩ := each_cons t r env; rw [hg]; simp [each_len r env]
theorem each_star : ∀ (es : List Expr) (env : Env), es.all (fun t => !isStar t) = true → (assignEach es env).findIdx? (·.1) = none
  | [], _, _ => rfl
  | t :: r, env, h => by
    obtain ⟨g, hg⟩ := each_cons t r env
    rw [List.all_cons, Bool.and_eq_true] at h
    have h1 : isStar t = false := by cases hh : isStar t <;> simp_all
    rw [hg, h1]; simp [List.findIdx?_cons, each_star r env h.2]
theorem kpg_tup {es : List Expr} {k : Nat} {t : TGs} (n : Nat) {pos : Pos} (hc : X.calm = true) (h : PGs X es t)
    (hn : es.length = n := by rfl) (hst : es.all (fun t => !isStar t) = true := by rfl) (hK : X.K = K := by rfl) : PG X (.Tuple es k pos) (gTup K n t) := by subst hK; exact pg_tup hc h ((each_len es X.env).trans hn) (each_star es X.env hst)
theorem kpg_unl {es : List Expr} {k : Nat} {t : TGs} (n : Nat) {pos : Pos} (hc : X.calm = true) (h : PGs X es t)
    (hn : es.length = n := by rfl) (hst : es.all (fun t => !isStar t) = true := by rfl) (hK : X.K = K := by rfl) : PG X (.Tuple es k pos) (gUnl K n t) := by subst hK; exact pg_unl hc h ((each_len es X.env).trans hn) (each_star es X.env hst)
theorem kpe_fld {e : Expr} {ta : TE} {f : Str} {pos : Pos} (he : PE X e ta) (hb : attributeBase e f X.env (eval e X.env) = eval e X.env) (hK : X.K = K := by rfl) : PE X (.Attribute e f pos) (tFld K ta f) := by subst hK; exact pe_fld he hb
theorem kpe_oxf {e : Expr} {te : TE} {n : Str} {pos : Pos} (he : PE X e te) (hb : attributeBase e n X.env (eval e X.env) = eval e X.env) (hK : X.K = K := by rfl) : PE X (.Attribute e n pos) (tOxf K n te) := by subst hK; exact pe_oxf he hb
theorem kpe_revL {e : Expr} {te : TE} {k : Nat} {p1 p2 p3 pos : Pos} (he : PE X e te) (hK : X.K = K := by rfl) : PE X (.Subscript e (.Slice none none (some (.UnaryOp .USub (.Constant (.int 1) k p1) p2)) p3) pos) (tRevL K te) := by subst hK; exact pe_revL he
end
end RS
end
section
set_option Elab.async false
set_option linter.all false
set_option autoImplicit false
set_option maxRecDepth 100000
set_option maxHeartbeats 2000000
/-! RS16: enumerate and zip over lists and tuples alike, as iterators of HandS -/
namespace RS
open PySem PySem.Spec PyProof.Rows L2
/-- what an iterator of new tuples says at each moment -/
def TupY (m : Nat → Array Value → Prop) : Nat → Heap → Value → Heap → Prop := fun i h0 v h => ∃ T vals, v = .ref T ∧ h0.objs.size ≤ T ∧ m i vals ∧ h.IsTuple T vals
theorem turn_gn {P : Program} {w : World} {K : PySem.W.Frag} {ts : List Expr} {n : Nat} {ps : Pos} {J : It} {z : Addr} {fp wr : List Addr} {tn : Nat → Heap → Prop} (hz : z ∈ fp) (hw : ∀ b ∈ wr, b ∈ fp)
    (hobj : ∀ i h, tn i h → ∀ b ∈ fp, ∃ o, h.get? b = some o ∧ ∀ v, o.data ≠ .cell v) (hkeep : ∀ i h h2, tn i h → (∀ b ∈ fp, ∀ o, h.get? b = some o → h2.get? b = some o) → tn i h2)
    (hself : ∀ (A : Around) (i : Nat) (s : Shared) (Q : Value → Shared → Prop) (E : Value → Shared → Prop), tn i s.heap → Q (.ref z) s → wpAny (model P w) A (pyIter (.ref z)) Q E s)
    (hgo : ∀ (X : Cx), X.prog = P → X.w = w → X.K = K → X.A.in1.handled = none → ∀ (i : Nat) (pins : List (Addr × Obj)) (s : Shared) (σ : L2.St) (H : Hp), Inv X pins σ H s → (∀ b ∈ fp, FpOk X pins H b) → tn i s.heap → J.go i H →
      ∃ (fq : List Addr) (m : Nat) (Pt : Nat → Array Value → Prop) (St : Nat → Heap → Prop), GoesN P w X.A (.Tuple ts n ps) z fq wr m (TupY Pt) St ∧ i < m ∧ St i s.heap ∧ (∀ h, St (i + 1) h → tn (i + 1) h) ∧
        ∀ vals, Pt i vals → ∃ ys, Vals ys vals.toList ∧ ys.length ≤ 1000 ∧ ∀ T, H T = none → J.yld i H (.ref T) (upd H T (.tup ys)))
    (hstop : ∀ (X : Cx), X.prog = P → X.w = w → X.K = K → X.A.in1.handled = none → ∀ (i : Nat) (pins : List (Addr × Obj)) (s : Shared) (σ : L2.St) (H : Hp), Inv X pins σ H s → (∀ b ∈ fp, FpOk X pins H b) → tn i s.heap → J.stop i H →
      ∃ (fq : List Addr) (Pt : Nat → Array Value → Prop) (St : Nat → Heap → Prop), GoesN P w X.A (.Tuple ts n ps) z fq wr i (TupY Pt) St ∧ St i s.heap) :
    Turn P w K (.Tuple ts n ps) J fp z tn := by
  refine { mem := hz, obj := hobj, keep := hkeep, item := ?_, done := ?_, self := hself }
  · intro X e1 e2 e3 hc i pins s σ H E I hf st hg
    subst e1 e2 e3
    obtain ⟨fq, m, Pt, St, W, hi, hst, hn, hy⟩ := hgo X rfl rfl rfl (I.ok.hd hc) i pins s σ H I hf st hg
    refine W.goes i s (fun u s2 => ∃ x H', Inv X pins σ H' s2 ∧ RelV x u ∧ J.yld i H x H' ∧ tn (i + 1) s2.heap ∧ ∀ b ∈ fp, H' b = none) E hi hst fun v h2 tk hv st2 hk ht => ?_
    obtain ⟨T, vals, rfl, hT, hp, ⟨o, ho, hoc, hod⟩⟩ := hv
    obtain ⟨ys, hvs, hl, hyy⟩ := hy vals hp
    have ok : ObjOk X.prog X.w (upd H T (.tup ys)) h2 T (.tup ys) := ⟨Nat.le_trans hl (by decide), vals.toList, hvs, ⟨o, ho, hoc, by obtain ⟨q, hq⟩ := hod; exact ⟨q, by simpa using hq⟩⟩⟩
    have I2 := I.turnedNew (t' := tk) (ch := wr) (fun b q hb z => hk b q hb z) (fun b hb => hf b (hw b hb)) hT ok
    have hTn : H T = none := I.hok.fresh hT
    refine ⟨.ref T, _, I2, rfl, hyy T hTn, hn _ st2, fun b hb => ?_⟩
    obtain ⟨ob, hob, _⟩ := hobj i s.heap st b hb
    rw [upd_ne (Nat.ne_of_lt (Nat.lt_of_lt_of_le (Heap.lt_size hob) hT))]
    exact (hf b hb).1
  · intro X e1 e2 e3 hc i pins s σ H E I hf st hg
    subst e1 e2 e3
    obtain ⟨fq, Pt, St, W, hst⟩ := hstop X rfl rfl rfl (I.ok.hd hc) i pins s σ H I hf st hg
    refine W.stops s (fun s1 => Inv X pins σ H s1) E hst fun h2 tk hk ht => ?_
    exact I.turnedL (t' := tk) (ch := wr) (fun b q hb z => hk b q hb z) fun b hb => hf b (hw b hb)
end RS
end
section
set_option Elab.async false
set_option linter.all false
set_option autoImplicit false
set_option maxRecDepth 100000
set_option maxHeartbeats 2000000
/-! RS17: enumerate(v), zip(v, w), zip(v, w, u), each of v, w, u a list or a tuple -/
namespace RS
open PySem PySem.Spec PyProof.Rows L2
/-- a list (false) or a tuple (true) stands at a -/
def Sq (K : PySem.W.Frag) (t : Bool) (H : Hp) (a : Addr) (l : List V) : Prop := match t with | true => SqT K H a l | false => SqL K H a l
def kIter (t : Bool) (h : Heap) (it a : Addr) (i : Nat) : Prop := match t with | true => h.IsTupleIter it a i | false => h.IsListIter it a i
def kSeq (t : Bool) (h : Heap) (a : Addr) (its : Array Value) : Prop := match t with | true => h.IsTuple a its | false => h.IsList a its
def kObj (t : Bool) (a : Addr) : Obj := match t with | true => { cls := .type "tuple_iterator", data := .fields #[.ref a, .int 0 0] } | false => { cls := .type "list_iterator", data := .fields #[.ref a, .int 0 0] }
section
variable {P : Program} {w : World} {K : PySem.W.Frag} {X : Cx} {t t1 t2 t3 : Bool} {it a : Addr} {i : Nat} {h h2 : Heap} {H : Hp} {l l2 : List V} {its : Array Value}
theorem k_draws (A : Around) (hh : A.handled = none) (t : Bool) (it a : Addr) (ne : a ≠ it) (its : Array Value) : Draws P w A it [it, a] its.size (fun i v => its[i]? = some v) (fun i h => kIter t h it a i ∧ kSeq t h a its) := by
  cases t
  · exact Draws.list hh it a ne its
  · exact Draws.tuple hh it a ne its
theorem k_begins (t : Bool) (a : Addr) (its : Array Value) : Begins (.ref a) (kObj t a) (fun h => kSeq t h a its) := by
  cases t
  · exact begins_list a its
  · exact begins_tuple a its
theorem k_inv {pins : List (Addr × Obj)} {s : Shared} {σ : L2.St} (I : Inv X pins σ H s) (hq : Sq X.K t H a l) : ∃ its : List Value, Vals l its ∧ kSeq t s.heap a its.toArray ∧ its.length = l.length := by
  cases t
  · obtain ⟨its, rv, p, _⟩ := I.list hq
    exact ⟨its, rv, p.isList, rv.length.symm⟩
  · obtain ⟨its, rv, p, _⟩ := I.tuple hq
    exact ⟨its, rv, p, rv.length.symm⟩
theorem k_inj {pins : List (Addr × Obj)} {s : Shared} {σ : L2.St} (I : Inv X pins σ H s) (hq : Sq X.K t H a l) (hq2 : Sq X.K t H a l2) : l = l2 := by
  cases t
  · exact I.list_inj hq hq2
  · exact I.tuple_inj hq hq2
theorem k_iter0 (e : h.get? it = some (kObj t a)) : kIter t h it a 0 := by
  cases t
  · exact ⟨_, e, rfl, rfl⟩
  · exact ⟨_, e, rfl, rfl⟩
theorem k_iter_at (q : kIter t h it a i) (k : ∀ o, h.get? it = some o → h2.get? it = some o) : kIter t h2 it a i := by
  cases t
  · exact Heap.IsListIter.at q k
  · exact Heap.IsTupleIter.at q k
theorem k_iter_obj (q : kIter t h it a i) : ∃ o, h.get? it = some o ∧ ∀ v, o.data ≠ .cell v := by
  cases t
  · obtain ⟨o, ho, _, hd⟩ := q
    exact ⟨o, ho, fun _ z => by rw [hd] at z; cases z⟩
  · obtain ⟨o, ho, _, hd⟩ := q
    exact ⟨o, ho, fun _ z => by rw [hd] at z; cases z⟩
theorem k_lt (q : kSeq t h a its) : a < h.objs.size := by
  cases t
  · obtain ⟨o, ho, _⟩ := q
    exact Heap.lt_size ho
  · obtain ⟨o, ho, _⟩ := q
    exact Heap.lt_size ho
/-! enumerate -/
def ItEn (K : PySem.W.Frag) (t : Bool) (a : Addr) : It where
  go := fun i H => ∃ (l : List V), Sq K t H a l ∧ i < l.length
  yld := fun i H r H2 => ∃ (p : Addr) (y : V), r = .ref p ∧ H p = none ∧ H2 = upd H p (.tup [.int ((i : Nat) : Int), y]) ∧ ∀ l, Sq K t H a l → l[i]? = some y
  stop := fun i H => ∃ l : List V, Sq K t H a l ∧ i = l.length
theorem turn_en {ts : List Expr} {n : Nat} {ps : Pos} {e : Addr} (n1 : e ≠ it) (n2 : a ≠ it) (n3 : a ≠ e) :
    Turn P w K (.Tuple ts n ps) (ItEn K t a) [e, it] e (fun i h => (∃ u, IsEnum h e it (0 + ((i : Nat) : Int)) u) ∧ kIter t h it a i) := by
  have hv : e ∉ [it, a] := fun z => by
    rcases List.mem_cons.mp z with z | z
    · exact n1 z
    · exact n3 (List.mem_singleton.mp z).symm
  have W : ∀ (A : Around) (hh : A.in1.handled = none) (its : Array Value), GoesN P w A (.Tuple ts n ps) e (e :: [it, a]) [e, it] its.size (TupY fun i vals => ∃ tk x, its[i]? = some x ∧ vals = #[.int (0 + (i : Int)) tk, x]) (fun i h => (∃ u, IsEnum h e it (0 + (i : Int)) u) ∧ (kIter t h it a i ∧ kSeq t h a its)) :=
    fun A hh its => GoesN.ofWalksT (WalksT.enumFrom 0 (k_draws A.in1 hh t it a n2 its) e n1 hv List.mem_cons_self)
  refine turn_gn (wr := [e, it]) List.mem_cons_self (fun _ z => z) ?_ ?_ ?_ ?_ ?_
  · rintro i h ⟨⟨u, he⟩, hi⟩ b hb
    rcases List.mem_cons.mp hb with rfl | hb
    · exact ⟨_, he, fun _ z => nomatch z⟩
    · cases List.mem_singleton.mp hb
      exact k_iter_obj hi
  · rintro i h h2 ⟨⟨u, he⟩, hi⟩ k
    exact ⟨⟨u, k e List.mem_cons_self _ he⟩, k_iter_at hi fun o z => k it (List.mem_cons_of_mem _ List.mem_cons_self) o z⟩
  · rintro A i s Q E ⟨⟨u, he⟩, _⟩ h
    exact wpAny_pyIter_enum he h
  · rintro X rfl rfl rfl hh i pins s σ H I hf ⟨he, hi⟩ ⟨l, hq, hlt⟩
    obtain ⟨its, rv, p, hl⟩ := k_inv I hq
    refine ⟨_, _, _, _, W X.A hh its.toArray, by simpa [hl] using hlt, ⟨he, hi, p⟩, fun h st => ⟨st.1, st.2.1⟩, ?_⟩
    rintro vals ⟨tk, x, hx, rfl⟩
    obtain ⟨y, hy, ry⟩ : ∃ y, l[i]? = some y ∧ RelV y x := by
      obtain ⟨u, hu, ru⟩ := rv.get (List.getElem?_eq_getElem hlt)
      have hx2 : its[i]? = some x := by simpa using hx
      rw [hu] at hx2
      cases hx2
      exact ⟨_, List.getElem?_eq_getElem hlt, ru⟩
    refine ⟨[.int (i : Nat), y], .cons ⟨tk, by rw [Int.zero_add]⟩ (.cons ry .nil), by show 2 ≤ 1000; decide, fun T hT => ⟨T, y, rfl, hT, rfl, fun l2 hq2 => by rw [k_inj I hq2 hq]; exact hy⟩⟩
  · rintro X rfl rfl rfl hh i pins s σ H I hf ⟨he, hi⟩ ⟨l, hq, rfl⟩
    obtain ⟨its, rv, p, hl⟩ := k_inv I hq
    have e1 : l.length = its.toArray.size := by simp [hl]
    rw [e1] at he hi ⊢
    exact ⟨_, _, _, W X.A hh its.toArray, he, hi, p⟩
end
end RS
end
section
set_option Elab.async false
set_option linter.all false
set_option autoImplicit false
set_option maxRecDepth 100000
set_option maxHeartbeats 2000000
/-! RS18: zip of two and of three; the calls that make them -/
namespace RS
open PySem PySem.Spec PyProof.Rows L2
section
variable {P : Program} {w : World} {K : PySem.W.Frag} {X : Cx} {t t1 t2 t3 : Bool} {it a b c z yI yO i1 i2 i3 : Addr} {i : Nat} {h h2 : Heap} {H : Hp} {l l2 : List V} {its : Array Value}
def ItZ2 (K : PySem.W.Frag) (t1 t2 : Bool) (a b : Addr) : It where
  go := fun i H => ∃ (l m : List V), Sq K t1 H a l ∧ Sq K t2 H b m ∧ i < l.length ∧ i < m.length
  yld := fun i H r H2 => ∃ (p : Addr) (x y : V), r = .ref p ∧ H p = none ∧ H2 = upd H p (.tup [x, y]) ∧ (∀ l, Sq K t1 H a l → l[i]? = some x) ∧ ∀ l, Sq K t2 H b l → l[i]? = some y
  stop := fun i H => ∃ l m : List V, Sq K t1 H a l ∧ Sq K t2 H b m ∧ i = min l.length m.length
def ItZ3 (K : PySem.W.Frag) (t1 t2 t3 : Bool) (a b c : Addr) : It where
  go := fun i H => ∃ (l m n : List V), Sq K t1 H a l ∧ Sq K t2 H b m ∧ Sq K t3 H c n ∧ i < l.length ∧ i < m.length ∧ i < n.length
  yld := fun i H r H2 => ∃ (p : Addr) (x y u : V), r = .ref p ∧ H p = none ∧ H2 = upd H p (.tup [x, y, u]) ∧ (∀ l, Sq K t1 H a l → l[i]? = some x) ∧ (∀ l, Sq K t2 H b l → l[i]? = some y) ∧ ∀ l, Sq K t3 H c l → l[i]? = some u
  stop := fun i H => ∃ l m n : List V, Sq K t1 H a l ∧ Sq K t2 H b m ∧ Sq K t3 H c n ∧ i = min (min l.length m.length) n.length
theorem k_item {pins : List (Addr × Obj)} {s : Shared} {σ : L2.St} {l : List V} {its : List Value} (rv : Vals l its) (hlt : i < l.length) {x : Value} (hx : its.toArray[i]? = some x) : ∃ y, l[i]? = some y ∧ RelV y x := by
  obtain ⟨u, hu, ru⟩ := rv.get (List.getElem?_eq_getElem hlt)
  have hx2 : its[i]? = some x := by simpa using hx
  rw [hu] at hx2
  cases hx2
  exact ⟨_, List.getElem?_eq_getElem hlt, ru⟩
theorem turn_z2 {ts : List Expr} {n : Nat} {ps : Pos} (S : ZipSep2 z yI yO i1 i2 [i1, a] [i2, b]) (n1 : a ≠ i1) (n2 : b ≠ i2) :
    Turn P w K (.Tuple ts n ps) (ItZ2 K t1 t2 a b) [z, yI, yO, i1, i2] z (fun i h => IsZip h z yI yO .none ∧ IsTupOf2 h yI (.ref i1) (.ref i2) ∧ (∃ x y, IsTupOf2 h yO x y) ∧ kIter t1 h i1 a i ∧ kIter t2 h i2 b i) := by
  have W : ∀ (A : Around) (hh : A.in1.handled = none) (its its2 : Array Value), GoesN P w A (.Tuple ts n ps) z (z :: yI :: yO :: ([i1, a] ++ [i2, b])) [z, yO, i1, i2] (min its.size its2.size) (TupY fun i vals => ∃ x y, its[i]? = some x ∧ its2[i]? = some y ∧ vals = #[x, y])
      (fun i h => IsZip h z yI yO .none ∧ IsTupOf2 h yI (.ref i1) (.ref i2) ∧ (∃ x y, IsTupOf2 h yO x y) ∧ (kIter t1 h i1 a i ∧ kSeq t1 h a its) ∧ (kIter t2 h i2 b i ∧ kSeq t2 h b its2)) :=
    fun A hh its its2 => GoesN.ofWalksT (WalksT.zipD2 S (k_draws A.in1 hh t1 i1 a n1 its) (k_draws A.in1 hh t2 i2 b n2 its2))
  refine turn_gn (wr := [z, yO, i1, i2]) List.mem_cons_self (fun q hq => by simp only [List.mem_cons, List.not_mem_nil, or_false] at hq; rcases hq with rfl | rfl | rfl | rfl <;> simp) ?_ ?_ ?_ ?_ ?_
  · rintro i h ⟨hz, hT, ⟨x, y, hO⟩, k1, k2⟩ q hq
    simp only [List.mem_cons, List.not_mem_nil, or_false] at hq
    rcases hq with rfl | rfl | rfl | rfl | rfl
    · exact ⟨_, hz, fun _ z => nomatch z⟩
    · exact ⟨_, hT, fun _ z => nomatch z⟩
    · exact ⟨_, hO, fun _ z => nomatch z⟩
    · exact k_iter_obj k1
    · exact k_iter_obj k2
  · rintro i h h2 ⟨hz, hT, ⟨x, y, hO⟩, k1, k2⟩ k
    exact ⟨k z (by simp) _ hz, k yI (by simp) _ hT, ⟨x, y, k yO (by simp) _ hO⟩, k_iter_at k1 fun o q => k i1 (by simp) o q, k_iter_at k2 fun o q => k i2 (by simp) o q⟩
  · rintro A i s Q E ⟨hz, _⟩ h
    exact wpAny_pyIter_zip hz h
  · rintro X rfl rfl rfl hh i pins s σ H I hf ⟨hz, hT, hO, k1, k2⟩ ⟨l, m, hq, hq2, hl1, hl2⟩
    obtain ⟨its, rv, p, hl⟩ := k_inv I hq
    obtain ⟨its2, rv2, p2, hl'⟩ := k_inv I hq2
    refine ⟨_, _, _, _, W X.A hh its.toArray its2.toArray, by simp only [List.size_toArray]; omega, ⟨hz, hT, hO, ⟨k1, p⟩, k2, p2⟩, fun h st => ⟨st.1, st.2.1, st.2.2.1, st.2.2.2.1.1, st.2.2.2.2.1⟩, ?_⟩
    rintro vals ⟨x, y, hx, hy, rfl⟩
    obtain ⟨u, hu, ru⟩ := k_item (pins := pins) (s := s) (σ := σ) rv hl1 hx
    obtain ⟨v, hv, rw_⟩ := k_item (pins := pins) (s := s) (σ := σ) rv2 hl2 hy
    exact ⟨[u, v], .cons ru (.cons rw_ .nil), by show 2 ≤ 1000; decide, fun T hT => ⟨T, u, v, rfl, hT, rfl, fun l2 q => by rw [k_inj I q hq]; exact hu, fun l2 q => by rw [k_inj I q hq2]; exact hv⟩⟩
  · rintro X rfl rfl rfl hh i pins s σ H I hf ⟨hz, hT, hO, k1, k2⟩ ⟨l, m, hq, hq2, rfl⟩
    obtain ⟨its, rv, p, hl⟩ := k_inv I hq
    obtain ⟨its2, rv2, p2, hl'⟩ := k_inv I hq2
    have e1 : min l.length m.length = min its.toArray.size its2.toArray.size := by simp [hl, hl']
    rw [e1] at k1 k2 ⊢
    exact ⟨_, _, _, W X.A hh its.toArray its2.toArray, hz, hT, hO, ⟨k1, p⟩, k2, p2⟩
theorem turn_z3 {ts : List Expr} {n : Nat} {ps : Pos} (S : ZipSep3 z yI yO i1 i2 i3 [i1, a] [i2, b] [i3, c]) (n1 : a ≠ i1) (n2 : b ≠ i2) (n3 : c ≠ i3) :
    Turn P w K (.Tuple ts n ps) (ItZ3 K t1 t2 t3 a b c) [z, yI, yO, i1, i2, i3] z (fun i h => IsZip h z yI yO .none ∧ IsTupOf3 h yI (.ref i1) (.ref i2) (.ref i3) ∧ (∃ x y u, IsTupOf3 h yO x y u) ∧ kIter t1 h i1 a i ∧ kIter t2 h i2 b i ∧ kIter t3 h i3 c i) := by
  have W : ∀ (A : Around) (hh : A.in1.handled = none) (its its2 its3 : Array Value), GoesN P w A (.Tuple ts n ps) z (z :: yI :: yO :: ([i1, a] ++ [i2, b] ++ [i3, c])) [z, yO, i1, i2, i3] (min (min its.size its2.size) its3.size) (TupY fun i vals => ∃ x y u, its[i]? = some x ∧ its2[i]? = some y ∧ its3[i]? = some u ∧ vals = #[x, y, u])
      (fun i h => IsZip h z yI yO .none ∧ IsTupOf3 h yI (.ref i1) (.ref i2) (.ref i3) ∧ (∃ x y u, IsTupOf3 h yO x y u) ∧ (kIter t1 h i1 a i ∧ kSeq t1 h a its) ∧ (kIter t2 h i2 b i ∧ kSeq t2 h b its2) ∧ (kIter t3 h i3 c i ∧ kSeq t3 h c its3)) :=
    fun A hh its its2 its3 => GoesN.ofWalksT (WalksT.zipD3 S (k_draws A.in1 hh t1 i1 a n1 its) (k_draws A.in1 hh t2 i2 b n2 its2) (k_draws A.in1 hh t3 i3 c n3 its3))
  refine turn_gn (wr := [z, yO, i1, i2, i3]) List.mem_cons_self (fun q hq => by simp only [List.mem_cons, List.not_mem_nil, or_false] at hq; rcases hq with rfl | rfl | rfl | rfl | rfl <;> simp) ?_ ?_ ?_ ?_ ?_
  · rintro i h ⟨hz, hT, ⟨x, y, u, hO⟩, k1, k2, k3⟩ q hq
    simp only [List.mem_cons, List.not_mem_nil, or_false] at hq
    rcases hq with rfl | rfl | rfl | rfl | rfl | rfl
    · exact ⟨_, hz, fun _ z => nomatch z⟩
    · exact ⟨_, hT, fun _ z => nomatch z⟩
    · exact ⟨_, hO, fun _ z => nomatch z⟩
    · exact k_iter_obj k1
    · exact k_iter_obj k2
    · exact k_iter_obj k3
  · rintro i h h2 ⟨hz, hT, ⟨x, y, u, hO⟩, k1, k2, k3⟩ k
    exact ⟨k z (by simp) _ hz, k yI (by simp) _ hT, ⟨x, y, u, k yO (by simp) _ hO⟩, k_iter_at k1 fun o q => k i1 (by simp) o q, k_iter_at k2 fun o q => k i2 (by simp) o q, k_iter_at k3 fun o q => k i3 (by simp) o q⟩
  · rintro A i s Q E ⟨hz, _⟩ h
    exact wpAny_pyIter_zip hz h
  · rintro X rfl rfl rfl hh i pins s σ H I hf ⟨hz, hT, hO, k1, k2, k3⟩ ⟨l, m, n, hq, hq2, hq3, hl1, hl2, hl3⟩
    obtain ⟨its, rv, p, hl⟩ := k_inv I hq
    obtain ⟨its2, rv2, p2, hl'⟩ := k_inv I hq2
    obtain ⟨its3, rv3, p3, hl''⟩ := k_inv I hq3
    refine ⟨_, _, _, _, W X.A hh its.toArray its2.toArray its3.toArray, by simp only [List.size_toArray]; omega, ⟨hz, hT, hO, ⟨k1, p⟩, ⟨k2, p2⟩, k3, p3⟩, fun h st => ⟨st.1, st.2.1, st.2.2.1, st.2.2.2.1.1, st.2.2.2.2.1.1, st.2.2.2.2.2.1⟩, ?_⟩
    rintro vals ⟨x, y, o, hx, hy, ho, rfl⟩
    obtain ⟨u, hu, ru⟩ := k_item (pins := pins) (s := s) (σ := σ) rv hl1 hx
    obtain ⟨v, hv, rw_⟩ := k_item (pins := pins) (s := s) (σ := σ) rv2 hl2 hy
    obtain ⟨r, hr, rr⟩ := k_item (pins := pins) (s := s) (σ := σ) rv3 hl3 ho
    exact ⟨[u, v, r], .cons ru (.cons rw_ (.cons rr .nil)), by show 3 ≤ 1000; decide, fun T hT => ⟨T, u, v, r, rfl, hT, rfl, fun l2 q => by rw [k_inj I q hq]; exact hu, fun l2 q => by rw [k_inj I q hq2]; exact hv, fun l2 q => by rw [k_inj I q hq3]; exact hr⟩⟩
  · rintro X rfl rfl rfl hh i pins s σ H I hf ⟨hz, hT, hO, k1, k2, k3⟩ ⟨l, m, n, hq, hq2, hq3, rfl⟩
    obtain ⟨its, rv, p, hl⟩ := k_inv I hq
    obtain ⟨its2, rv2, p2, hl'⟩ := k_inv I hq2
    obtain ⟨its3, rv3, p3, hl''⟩ := k_inv I hq3
    have e1 : min (min l.length m.length) n.length = min (min its.toArray.size its2.toArray.size) its3.toArray.size := by simp [hl, hl', hl'']
    rw [e1] at k1 k2 k3 ⊢
    exact ⟨_, _, _, W X.A hh its.toArray its2.toArray its3.toArray, hz, hT, hO, ⟨k1, p⟩, ⟨k2, p2⟩, k3, p3⟩
theorem nin {x p q : Nat} (h1 : x ≠ p) (h2 : x ≠ q) : (x : Addr) ∉ ([p, q] : List Addr) := fun z => by
  rcases List.mem_cons.mp z with z | z
  · exact h1 z
  · exact h2 (List.mem_singleton.mp z)
theorem sep2 {N a b : Nat} (la : a < N) (lb : b < N) : ZipSep2 (N + 4) (N + 2) (N + 3) N (N + 1) [N, a] [N + 1, b] :=
  ⟨(by omega : N + 2 ≠ N + 4), (by omega : N + 3 ≠ N + 4), (by omega : N + 2 ≠ N + 3), (by omega : N + 2 ≠ N), List.mem_cons_self, nin (by omega) (by omega), nin (by omega) (by omega), (by omega : N + 2 ≠ N + 1), List.mem_cons_self, nin (by omega) (by omega), nin (by omega) (by omega), nin (by omega) (by omega), nin (by omega) (by omega)⟩
theorem sep3 {N a b c : Nat} (la : a < N) (lb : b < N) (lc : c < N) : ZipSep3 (N + 5) (N + 3) (N + 4) N (N + 1) (N + 2) [N, a] [N + 1, b] [N + 2, c] :=
  ⟨(by omega : N + 3 ≠ N + 5), (by omega : N + 4 ≠ N + 5), (by omega : N + 3 ≠ N + 4), (by omega : N + 3 ≠ N), List.mem_cons_self, nin (by omega) (by omega), nin (by omega) (by omega), (by omega : N + 3 ≠ N + 1), List.mem_cons_self, nin (by omega) (by omega), nin (by omega) (by omega), (by omega : N + 3 ≠ N + 2), List.mem_cons_self, nin (by omega) (by omega), nin (by omega) (by omega),
   nin (by omega) (by omega), nin (by omega) (by omega), nin (by omega) (by omega), nin (by omega) (by omega), nin (by omega) (by omega), nin (by omega) (by omega)⟩
theorem news_ok {pins : List (Addr × Obj)} {s : Shared} {σ : L2.St} {fp : List Addr} (I : Inv X pins σ H s) (hf : ∀ b ∈ fp, s.heap.objs.size ≤ b) : ∀ b ∈ fp, FpOk X pins H b := fun b hb => I.fpOk (hf b hb) (I.hok.fresh (hf b hb))
/-! the calls -/
def iEn (K : PySem.W.Frag) (ta : TA) : TI := fun σ H R => ta σ H fun vs H1 => ∃ t a l, vs = [.ref a] ∧ Sq K t H1 a l ∧ R (ItEn K t a) H1
def iZ2 (K : PySem.W.Frag) (ta : TA) : TI := fun σ H R => ta σ H fun vs H1 => ∃ t1 t2 a b l m, vs = [.ref a, .ref b] ∧ Sq K t1 H1 a l ∧ Sq K t2 H1 b m ∧ R (ItZ2 K t1 t2 a b) H1
def iZ3 (K : PySem.W.Frag) (ta : TA) : TI := fun σ H R => ta σ H fun vs H1 => ∃ t1 t2 t3 a b c l m n, vs = [.ref a, .ref b, .ref c] ∧ Sq K t1 H1 a l ∧ Sq K t2 H1 b m ∧ Sq K t3 H1 c n ∧ R (ItZ3 K t1 t2 t3 a b c) H1
theorem pi_z2 {e e2 : Expr} {ta : TA} {p pos tpos : Pos} {es : List Expr} {k : Nat} (hg : Gl X "zip") (hm : X.mg "zip" = none) (ha : PA X [e, e2] ta)
    (hs : starEach [e, e2] X.env = (false, eval e X.env) :: starEach [e2] X.env := by rfl) (hpl : (backTo pos (starEach [e2] X.env)).any (·.1) = false := by rfl) :
    PI X (.Tuple es k tpos) (.Call (.Name "zip" p) [e, e2] [] pos) (iZ2 X.K ta) := ⟨fun pins s σ H R I h => by
  refine Call_ (ld_blt I hg hm PyProof.Rows.boot_zip (PyProof.Rows.callWith_type1 (thn (ha.run pos pins s σ H _ I h) fun us s1 q0 => ?_) hs hpl))
  obtain ⟨vs, H1, I1, r1, t1, t2, a, b, l, m, rfl, hq, hq2, q⟩ := q0
  obtain ⟨x1, y1, rfl, ra, rfl⟩ : ∃ x1 y1, us = [x1, y1] ∧ RelV (.ref a) x1 ∧ y1 = .ref b := by
    cases r1 with
    | cons ra rr => cases rr with
      | cons rb rr => cases rr; cases rb; exact ⟨_, _, rfl, ra, rfl⟩
  cases ra
  obtain ⟨its, rv, p1, _⟩ := k_inv I1 hq
  obtain ⟨its2, rv2, p2, _⟩ := k_inv I1 hq2
  have la := k_lt p1
  have lb := k_lt p2
  refine zip_begins2 (k_begins t1 a its.toArray) (k_begins t2 b its2.toArray) p1 p2 fun h' hz hTI hTO e1 e2 hsz hk => wpAny_pyIter_zip hz ?_
  have I2 : Inv X pins σ H1 { s1 with heap := h' } := I1.kept (t' := s1.toks) hk
  refine ⟨_, _, _, _, H1, rfl, I2, turn_z2 (sep2 la lb) (Nat.ne_of_lt la) (Nat.ne_of_lt (Nat.lt_succ_of_lt lb)), ⟨hz, hTI, ⟨_, _, hTO⟩, k_iter0 e1, k_iter0 e2⟩, news_ok I1 fun q hq => ?_, q⟩
  simp only [List.mem_cons, List.not_mem_nil, or_false] at hq
  rcases hq with rfl | rfl | rfl | rfl | rfl
  all_goals first | exact Nat.le_refl _ | exact Nat.le_add_right _ _⟩
theorem pi_z3 {e e2 e3 : Expr} {ta : TA} {p pos tpos : Pos} {es : List Expr} {k : Nat} (hg : Gl X "zip") (hm : X.mg "zip" = none) (ha : PA X [e, e2, e3] ta)
    (hs : starEach [e, e2, e3] X.env = (false, eval e X.env) :: starEach [e2, e3] X.env := by rfl) (hpl : (backTo pos (starEach [e2, e3] X.env)).any (·.1) = false := by rfl) :
    PI X (.Tuple es k tpos) (.Call (.Name "zip" p) [e, e2, e3] [] pos) (iZ3 X.K ta) := ⟨fun pins s σ H R I h => by
  refine Call_ (ld_blt I hg hm PyProof.Rows.boot_zip (PyProof.Rows.callWith_type1 (thn (ha.run pos pins s σ H _ I h) fun us s1 q0 => ?_) hs hpl))
  obtain ⟨vs, H1, I1, r1, t1, t2, t3, a, b, c, l, m, n, rfl, hq, hq2, hq3, q⟩ := q0
  obtain ⟨x1, rfl, ra⟩ : ∃ x1, us = [x1, .ref b, .ref c] ∧ x1 = .ref a := by
    cases r1 with
    | cons ra rr => cases rr with
      | cons rb rr => cases rr with
        | cons rc rr => cases rr; cases ra; cases rb; cases rc; exact ⟨_, rfl, rfl⟩
  cases ra
  obtain ⟨its, rv, p1, _⟩ := k_inv I1 hq
  obtain ⟨its2, rv2, p2, _⟩ := k_inv I1 hq2
  obtain ⟨its3, rv3, p3, _⟩ := k_inv I1 hq3
  have la := k_lt p1
  have lb := k_lt p2
  have lc := k_lt p3
  refine zip_begins3 (k_begins t1 a its.toArray) (k_begins t2 b its2.toArray) (k_begins t3 c its3.toArray) p1 p2 p3 fun h' hz hTI hTO e1 e2 e3 hsz hk => wpAny_pyIter_zip hz ?_
  have I2 : Inv X pins σ H1 { s1 with heap := h' } := I1.kept (t' := s1.toks) hk
  refine ⟨_, _, _, _, H1, rfl, I2, turn_z3 (sep3 la lb lc) (Nat.ne_of_lt la) (Nat.ne_of_lt (Nat.lt_succ_of_lt lb)) (Nat.ne_of_lt (Nat.lt_succ_of_lt (Nat.lt_succ_of_lt lc))), ⟨hz, hTI, ⟨_, _, _, hTO⟩, k_iter0 e1, k_iter0 e2, k_iter0 e3⟩, news_ok I1 fun q hq => ?_, q⟩
  simp only [List.mem_cons, List.not_mem_nil, or_false] at hq
  rcases hq with rfl | rfl | rfl | rfl | rfl | rfl
  all_goals first | exact Nat.le_refl _ | exact Nat.le_add_right _ _⟩
set_option maxHeartbeats 4000000 in
theorem en_meets {v : Value} {o : Obj} {F : Heap → Prop} (B : Begins v o F) :
    Meets (Builtin.«enumerate.__new__» ⟨[.type "enumerate", v], []⟩) (fun _ R s => F s.heap ∧ R (.ok (.ret (.ref (s.heap.push o).objs.size))) { s with heap := (s.heap.push o).push { cls := .type "enumerate", data := .fields #[.none, .bool false, .ref s.heap.objs.size, rawInt 0, .none, .none] } }) :=
  .of_wp fun prog w A R s h => by
    obtain ⟨m0, m1, m2, m3, m4⟩ := s
    obtain ⟨f, h⟩ := h
    have hsub := sub_enumerate
    have begins : ∀ {B' : Around} {E : Value → Shared → Prop} {Q : Value → Shared → Prop}, Q (.ref m0.objs.size) ⟨m0.push o, m1, m2, m3, m4⟩ → wpAny (model prog w) B' (pyIter v) Q E ⟨m0, m1, m2, m3, m4⟩ := fun q => B.iter prog w _ _ ⟨m0, m1, m2, m3, m4⟩ _ f q
    wp_walk
    refine wpAny_stack_any fun st => wpAny_pure ?_
    split
    · rename_i cc _ _ _ _ _
      cases hcc : (cc == Value.type "enumerate")
      all_goals
        wp_walk using begins
        exact ⟨_, rfl, h⟩
    · wp_walk using begins
      exact ⟨_, rfl, h⟩
theorem en_begins {prog : Program} {w : World} {A : Around} {E : Value → Shared → Prop} {s : Shared} {v : Value} {o : Obj} {S0 : Heap → Prop} {Q : Value → Shared → Prop} (B : Begins v o S0) (f : S0 s.heap)
    (k : ∀ h2, IsEnum h2 (s.heap.objs.size + 1) s.heap.objs.size 0 .none → h2.get? s.heap.objs.size = some o → (∀ b u, s.heap.get? b = some u → h2.get? b = some u) → Q (.ref (s.heap.objs.size + 1)) { s with heap := h2 }) :
    wpAny (model prog w) A (call (.type "enumerate") [v]) Q E s := by
  refine callType_new F.called_enumerate (by decide) (F.typeCall_enumerate_1 _) (F.newCall_enumerate_1 _) (fun obj => F.args_object_init_2 obj _) F.entry_enumerate_new (en_meets B) ⟨f, ?_⟩
  show _ ∧ _
  have sz : (s.heap.push o).objs.size = s.heap.objs.size + 1 := Heap.size_push ..
  have at1 := Heap.get?_push_size (s.heap.push o) (o := { cls := .type "enumerate", data := .fields #[.none, .bool false, .ref s.heap.objs.size, rawInt 0, .none, .none] }) rfl
  rw [sz] at at1 ⊢
  exact ⟨⟨_, at1, rfl⟩, k _ at1 (Heap.get?_push_of_some _ (Heap.get?_push_size _ B.free)) fun b u z => Heap.get?_push_of_some _ (Heap.get?_push_of_some _ z)⟩
theorem pi_en {e : Expr} {ta : TA} {p pos tpos : Pos} {es : List Expr} {k : Nat} (hg : Gl X "enumerate") (hm : X.mg "enumerate" = none) (ha : PA X [e] ta) (hs : starEach [e] X.env = [(false, eval e X.env)] := by rfl) :
    PI X (.Tuple es k tpos) (.Call (.Name "enumerate" p) [e] [] pos) (iEn X.K ta) := ⟨fun pins s σ H R I h => by
  refine Call_ (ld_blt I hg hm boot_enumerate (PyProof.Rows.callWith_type1 (thn (ha.run pos pins s σ H _ I h) fun us s1 q0 => ?_) hs rfl))
  obtain ⟨vs, H1, I1, r1, t, a, l, rfl, hq, q⟩ := q0
  obtain ⟨rfl⟩ : us = [.ref a] := by
    cases r1 with
    | cons ra rr => cases rr; cases ra; rfl
  obtain ⟨its, rv, p1, _⟩ := k_inv I1 hq
  have la := k_lt p1
  refine en_begins (k_begins t a its.toArray) p1 fun h' he e1 hk => wpAny_pyIter_enum he ?_
  have I2 : Inv X pins σ H1 { s1 with heap := h' } := I1.kept (t' := s1.toks) hk
  refine ⟨_, _, _, _, H1, rfl, I2, turn_en (Nat.succ_ne_self _) (Nat.ne_of_lt la) (Nat.ne_of_lt (Nat.lt_succ_of_lt la)), ⟨⟨.none, he⟩, k_iter0 e1⟩, news_ok I1 fun q hq => ?_, q⟩
  simp only [List.mem_cons, List.not_mem_nil, or_false] at hq
  rcases hq with rfl | rfl
  all_goals first | exact Nat.le_refl _ | exact Nat.le_add_right _ _⟩
end
end RS
end
section
set_option Elab.async false
set_option linter.all false
set_option autoImplicit false
set_option maxRecDepth 100000
set_option maxHeartbeats 2000000
/-! RS19: what enumerate and zip yield, over data; sources, targets and slices that are lists or tuples -/
namespace RS
open PySem PySem.Spec PyProof.Rows L2
def seqOf : PyData → Option (Bool × List PyData)
  | .list xs => some (false, xs)
  | .tuple xs => some (true, xs)
  | _ => none
def mkSeq (t : Bool) (xs : List PyData) : PyData := match t with | true => .tuple xs | false => .list xs
theorem seqOf_mk (t : Bool) (xs : List PyData) : seqOf (mkSeq t xs) = some (t, xs) := by cases t <;> rfl
section
variable {K : PySem.W.Frag} {ρ : En} {te tl : TE} {ta : TA} {G G0 H : Hp} {v : V} {x y z : PyData} {t t1 t2 t3 : Bool} {xs ys zs : List PyData} {a b c : Addr} {vs ws us : List V}
theorem DA.sq (d : DA K G v x) (e : seqOf x = some (t, xs)) : ∃ a vs, v = .ref a ∧ Sq K t G a vs ∧ DAs K G vs xs := by
  cases d <;> cases e
  · rename_i a vs h d
    exact ⟨a, vs, rfl, SqL.of h, d⟩
  · rename_i a vs h d
    exact ⟨a, vs, rfl, h, d⟩
theorem Sq.mono (s : Sub G H) (h : Sq K t G a vs) : Sq K t H a vs := by
  cases t
  · have h' : SqL K G a vs := h
    exact Evl.ex_l s h'
  · exact sub_t s h
def enD (xs : List PyData) : List PyData := xs.zipIdx.map fun p => .tuple [.int (p.2 : Nat), p.1]
def z2D (xs ys : List PyData) : List PyData := (xs.zip ys).map fun p => .tuple [p.1, p.2]
def z3D (xs ys zs : List PyData) : List PyData := ((xs.zip ys).zip zs).map fun p => .tuple [p.1.1, p.1.2, p.2]
theorem enD_get {i : Nat} (h : (enD xs)[i]? = some y) : ∃ x, xs[i]? = some x ∧ y = .tuple [.int (i : Nat), x] := by
  unfold enD at h
  rw [List.getElem?_map, List.getElem?_zipIdx] at h
  cases e : xs[i]? with
  | none => rw [e] at h; cases h
  | some u => rw [e] at h; cases h; exact ⟨u, rfl, by simp⟩
theorem enD_len : (enD xs).length = xs.length := by unfold enD; simp
theorem z2D_len : (z2D xs ys).length = min xs.length ys.length := by unfold z2D; simp
theorem z3D_len : (z3D xs ys zs).length = min (min xs.length ys.length) zs.length := by unfold z3D; simp
theorem z2D_get {i : Nat} (h : (z2D xs ys)[i]? = some z) : ∃ x y, xs[i]? = some x ∧ ys[i]? = some y ∧ z = .tuple [x, y] := by
  unfold z2D at h
  rw [List.getElem?_map] at h
  cases e : (xs.zip ys)[i]? with
  | none => rw [e] at h; cases h
  | some p =>
    rw [e] at h; cases h
    have := List.getElem?_zip_eq_some.mp e
    exact ⟨p.1, p.2, this.1, this.2, rfl⟩
theorem z3D_get {i : Nat} {o : PyData} (h : (z3D xs ys zs)[i]? = some o) : ∃ x y z, xs[i]? = some x ∧ ys[i]? = some y ∧ zs[i]? = some z ∧ o = .tuple [x, y, z] := by
  unfold z3D at h
  rw [List.getElem?_map] at h
  cases e : ((xs.zip ys).zip zs)[i]? with
  | none => rw [e] at h; cases h
  | some p =>
    rw [e] at h; cases h
    have h1 := List.getElem?_zip_eq_some.mp e
    have h2 := List.getElem?_zip_eq_some.mp h1.1
    exact ⟨_, _, _, h2.1, h2.2, h1.2, rfl⟩
theorem walks_en (h : Sq K t G0 a vs) (d : DAs K G0 vs xs) : Walks K (ItEn K t a) G0 (enD xs) where
  go := fun i G H g s hi => ⟨vs, (h.mono g).mono s, by rw [enD_len] at hi; rw [d.length]; exact hi⟩
  stop := fun i G H g s hi => ⟨vs, (h.mono g).mono s, by rw [enD_len] at hi; rw [d.length]; exact hi⟩
  yld := fun i G H v H2 g s y x hx => by
    obtain ⟨p, u, rfl, hp, rfl, q⟩ := y
    obtain ⟨w, hw, rfl⟩ := enD_get hx
    obtain ⟨u2, hu, du⟩ := d.get hw
    have e := q vs ((h.mono g).mono s)
    rw [hu] at e
    cases e
    have st := Step.lay s (.tup [.int (i : Nat), u]) hp
    exact ⟨_, st, .tup (SqT.of upd_same) (.cons (.int _) (.cons ((du.mono g).mono st.gg) .nil))⟩
theorem walks_z2 (h : Sq K t1 G0 a vs) (d : DAs K G0 vs xs) (h2 : Sq K t2 G0 b ws) (d2 : DAs K G0 ws ys) : Walks K (ItZ2 K t1 t2 a b) G0 (z2D xs ys) where
  go := fun i G H g s hi => ⟨vs, ws, (h.mono g).mono s, (h2.mono g).mono s, by rw [z2D_len] at hi; rw [d.length]; omega, by rw [z2D_len] at hi; rw [d2.length]; omega⟩
  stop := fun i G H g s hi => ⟨vs, ws, (h.mono g).mono s, (h2.mono g).mono s, by rw [z2D_len] at hi; rw [d.length, d2.length]; exact hi⟩
  yld := fun i G H v H2 g s y x hx => by
    obtain ⟨p, u, r, rfl, hp, rfl, q, q2⟩ := y
    obtain ⟨w, w2, hw, hw2, rfl⟩ := z2D_get hx
    obtain ⟨u2, hu, du⟩ := d.get hw
    obtain ⟨r2, hr, dr⟩ := d2.get hw2
    have e := q vs ((h.mono g).mono s)
    have e2 := q2 ws ((h2.mono g).mono s)
    rw [hu] at e
    rw [hr] at e2
    cases e
    cases e2
    have st := Step.lay s (.tup [u, r]) hp
    exact ⟨_, st, .tup (SqT.of upd_same) (.cons ((du.mono g).mono st.gg) (.cons ((dr.mono g).mono st.gg) .nil))⟩
theorem walks_z3 (h : Sq K t1 G0 a vs) (d : DAs K G0 vs xs) (h2 : Sq K t2 G0 b ws) (d2 : DAs K G0 ws ys) (h3 : Sq K t3 G0 c us) (d3 : DAs K G0 us zs) : Walks K (ItZ3 K t1 t2 t3 a b c) G0 (z3D xs ys zs) where
  go := fun i G H g s hi => ⟨vs, ws, us, (h.mono g).mono s, (h2.mono g).mono s, (h3.mono g).mono s, by rw [z3D_len] at hi; rw [d.length]; omega, by rw [z3D_len] at hi; rw [d2.length]; omega, by rw [z3D_len] at hi; rw [d3.length]; omega⟩
  stop := fun i G H g s hi => ⟨vs, ws, us, (h.mono g).mono s, (h2.mono g).mono s, (h3.mono g).mono s, by rw [z3D_len] at hi; rw [d.length, d2.length, d3.length]; exact hi⟩
  yld := fun i G H v H2 g s y x hx => by
    obtain ⟨p, u, r, o, rfl, hp, rfl, q, q2, q3⟩ := y
    obtain ⟨w, w2, w3, hw, hw2, hw3, rfl⟩ := z3D_get hx
    obtain ⟨u2, hu, du⟩ := d.get hw
    obtain ⟨r2, hr, dr⟩ := d2.get hw2
    obtain ⟨o2, ho, do_⟩ := d3.get hw3
    have e := q vs ((h.mono g).mono s)
    have e2 := q2 ws ((h2.mono g).mono s)
    have e3 := q3 us ((h3.mono g).mono s)
    rw [hu] at e
    rw [hr] at e2
    rw [ho] at e3
    cases e
    cases e2
    cases e3
    have st := Step.lay s (.tup [u, r, o]) hp
    exact ⟨_, st, .tup (SqT.of upd_same) (.cons ((du.mono g).mono st.gg) (.cons ((dr.mono g).mono st.gg) (.cons ((do_.mono g).mono st.gg) .nil)))⟩
theorem ei_en (h : Ea K ta ρ [x]) (e : seqOf x = some (t, xs)) : Ei K (iEn K ta) ρ (enD xs) := fun bs G H σ S Q q => h bs G H σ S _ fun vs ys ρ1 G1 H1 e1 S1 d1 => by
  obtain ⟨rfl, rfl⟩ := e1
  cases d1 with
  | cons d1 r => cases r; obtain ⟨a, vs, rfl, hq, dd⟩ := d1.sq e; exact ⟨t, a, vs, rfl, hq.mono S1.sub, q _ _ _ G1 H1 ⟨rfl, rfl⟩ S1 (walks_en hq dd)⟩
theorem ei_z2 (h : Ea K ta ρ [x, y]) (e : seqOf x = some (t1, xs)) (e2 : seqOf y = some (t2, ys)) : Ei K (iZ2 K ta) ρ (z2D xs ys) := fun bs G H σ S Q q => h bs G H σ S _ fun vs ds ρ1 G1 H1 e1 S1 d1 => by
  obtain ⟨rfl, rfl⟩ := e1
  cases d1 with
  | cons d1 r => cases r with
    | cons d2 r =>
      cases r
      obtain ⟨a, vs, rfl, hq, dd⟩ := d1.sq e
      obtain ⟨b, ws, rfl, hq2, dd2⟩ := d2.sq e2
      exact ⟨t1, t2, a, b, vs, ws, rfl, hq.mono S1.sub, hq2.mono S1.sub, q _ _ _ G1 H1 ⟨rfl, rfl⟩ S1 (walks_z2 hq dd hq2 dd2)⟩
theorem ei_z3 (h : Ea K ta ρ [x, y, z]) (e : seqOf x = some (t1, xs)) (e2 : seqOf y = some (t2, ys)) (e3 : seqOf z = some (t3, zs)) : Ei K (iZ3 K ta) ρ (z3D xs ys zs) := fun bs G H σ S Q q => h bs G H σ S _ fun vs ds ρ1 G1 H1 e1 S1 d1 => by
  obtain ⟨rfl, rfl⟩ := e1
  cases d1 with
  | cons d1 r => cases r with
    | cons d2 r => cases r with
      | cons d3 r =>
        cases r
        obtain ⟨a, vs, rfl, hq, dd⟩ := d1.sq e
        obtain ⟨b, ws, rfl, hq2, dd2⟩ := d2.sq e2
        obtain ⟨c, us, rfl, hq3, dd3⟩ := d3.sq e3
        exact ⟨t1, t2, t3, a, b, c, vs, ws, us, rfl, hq.mono S1.sub, hq2.mono S1.sub, hq3.mono S1.sub, q _ _ _ G1 H1 ⟨rfl, rfl⟩ S1 (walks_z3 hq dd hq2 dd2 hq3 dd3)⟩
/-! a list or a tuple is walked; unpacked; cut -/
def iSeq (K : PySem.W.Frag) (tl : TE) : TI := fun σ H R => iList K tl σ H R ∨ iTup K tl σ H R
theorem kpi_seq {X : Cx} {tg l : Expr} {tl : TE} (hl : PE X l tl) (hK : X.K = K := by rfl) : PI X tg l (iSeq K tl) := by
  subst hK
  exact ⟨fun pins s σ H R I h => h.elim (fun h => (pi_list hl).run pins s σ H R I h) fun h => (pi_tup hl).run pins s σ H R I h⟩
theorem ei_seq (h : Ed K tl ρ x) (e : seqOf x = some (t, xs)) : Ei K (iSeq K tl) ρ xs := fun bs G H σ S Q q => by
  cases x <;> cases e
  · exact .inl (ei_list h bs G H σ S Q q)
  · exact .inr (ei_tup h bs G H σ S Q q)
def gSeq (K : PySem.W.Frag) (n : Nat) (u : TGs) : TG := fun v σ H Q => gTup K n u v σ H Q ∨ gUnl K n u v σ H Q
theorem kpg_seq {X : Cx} {es : List Expr} {k : Nat} {u : TGs} (n : Nat) {pos : Pos} (hc : X.calm = true) (h : PGs X es u)
    (hn : es.length = n := by rfl) (hst : es.all (fun t => !isStar t) = true := by rfl) (hK : X.K = K := by rfl) : PG X (.Tuple es k pos) (gSeq K n u) := by
  have h1 := kpg_tup (k := k) (pos := pos) n hc h hn hst hK
  have h2 := kpg_unl (k := k) (pos := pos) n hc h hn hst hK
  exact ⟨fun pins s σ H v w Q I r z => z.elim (fun z => h1.run pins s σ H v w Q I r z) fun z => h2.run pins s σ H v w Q I r z⟩
theorem eg_seq {u : TGs} {n : Nat} {js : List Nat} {ρ2 : En} (e : seqOf x = some (t, xs)) (hl : xs.length = n) (h : Egs K u js ρ xs ρ2) : Eg K (gSeq K n u) js ρ x ρ2 := fun bs G H σ v S hd Q q => by
  cases x <;> cases e
  · exact .inr (eg_unl hl h bs G H σ v S hd Q q)
  · exact .inl (eg_tup hl h bs G H σ v S hd Q q)
def rSlS (K : PySem.W.Frag) : V → Option Int → Option Int → Hp → VK → Prop := fun x lo hi H Q => rSlA K x lo hi H Q ∨ rSlL K x lo hi H Q
theorem k_slS {X : Cx} (hK : X.K = K := by rfl) : SlR X (rSlS K) := by subst hK; exact SlR.or sl_tupA sl_list
end
end RS
end
section
set_option Elab.async false
set_option linter.all false
set_option autoImplicit false
set_option maxRecDepth 100000
set_option maxHeartbeats 4000000
/-! RS20: xs[a:] = ys; a tuple turned about -/
namespace RS
open PySem PySem.Spec PyProof.Rows L2
section
variable {prog : Program} {w : World} {A : Around} {E : Value → Shared → Prop} {s : Shared}
theorem put_cut {u v z : Addr} {xs ys : Array Value} {n m : Nat} {p q : Value} {lo hi : Option Int} {i j : Nat} {Q : Unit → Shared → Prop}
    (e : s.heap.get? u = some { cls := .type "list", data := .seq xs n }) (f : s.heap.get? v = some { cls := .type "list", data := .seq ys m }) (ne : u ≠ v)
    (hz : s.heap.IsSliceOf z p q .none) (hp : IsPart p lo) (hq : IsPart q hi) (bd : sliceBounds lo hi none xs.size = ((i : Int), (j : Int), 1)) (ij : i ≤ j) (jn : j ≤ xs.size)
    (big : xs.size + ys.size ≤ sizeLine) (k : Q () { s with heap := s.heap.update u (Obj.mapSeq fun o => o.extract 0 i ++ ys ++ o.extract j o.size) }) : wpAny (model prog w) A (setItem (.ref u) (.ref z) (.ref v)) Q E s := by
  have lu : s.heap.IsList u xs := PySem.IsL.isList e
  have lv : s.heap.IsList v ys := PySem.IsL.isList f
  obtain ⟨so, so1, so2, so3⟩ := id hz
  have tz : s.TypeIs (.ref z) "slice" := ⟨so, so1, so2⟩
  have mx : (max (i : Int) (j : Int)).toNat = j := by omega
  have fits : ((fun o : Array Value => o.extract 0 i ++ ys ++ o.extract j o.size) xs).size ≤ sizeLine + 1 := by
    simp only [Array.size_append, Array.size_extract]; omega
  unfold setItem
  try (with_reducible refine wpAny_holding ?_)
  first | (refine wpAny_bind (wpAny_pure ?_)) | skip
  refine wpAny_bind (wpAny_sequenceKey lu.typeIs (by decide) (wpAny_bind (wpAny_callSpecial?_slot (name := Str.ofString "__setitem__") lu.typeIs slot_list_setitem (wpAny_call_entry slot_list_setitem lu.typeIs entry_list_setitem ?_ (args_list_setitem _ _ _)))))
  show wpAny _ _ ((Builtin.List.listSubscript? (.ref z)) >>= _) _ _ s
  unfold Builtin.List.listSubscript?
  refine wpAny_bind (wpAny_bind (wpAny_specialOf tz slice_no_index ?_))
  simp only [Option.isNone_none, if_true]
  refine wpAny_pure ?_
  show wpAny _ _ ((typeOf (.ref z)) >>= _) _ _ s
  refine wpAny_bind (wpAny_typeOf tz ?_)
  rw [if_neg (by decide), listSliceParts_eq]
  refine wpAny_bind (wpAny_bind (wpAny_field so1 so3 (x := .none) rfl (wpAny_bind (wpAny_listPart .none ?_))))
  rw [if_neg (show ¬ ((rawPart none == rawInt 0) = true) from Bool.false_ne_true)]
  refine wpAny_bind (wpAny_field so1 so3 (x := p) rfl (wpAny_bind (wpAny_listPart hp (wpAny_bind (wpAny_field so1 so3 (x := q) rfl (wpAny_bind (wpAny_listPart hq (wpAny_pure ?_))))))))
  have other : Builtin.List.listSameRef (.ref u) (.ref v) = false := by unfold Builtin.List.listSameRef; exact beq_eq_false_iff_ne.mpr ne
  dsimp only
  rw [if_neg (by rw [other]; exact Bool.false_ne_true)]
  refine wpAny_bind (m := Builtin.List.listAllItems (.ref v) "must assign iterable to extended slice") ?_
  unfold Builtin.List.listAllItems
  refine wpAny_bind (wpAny_typeOf lv.typeIs ?_)
  rw [if_pos (by decide)]
  unfold Builtin.List.listItems
  refine wpAny_bind (wpAny_seqItems f rfl (wpAny_pure (wpAny_bind (wpAny_bind (wpAny_seqItems e rfl (wpAny_pure ?_))))))
  refine wpAny_bind (wpAny_of_eq ((sliceIndices_raw lo hi none xs.size (by simp)).trans (congrArg (pure : Int × Int × Int → Sem (Int × Int × Int)) bd)) ?_)
  show wpAny _ _ ((if ((1 : Int) == 1) = true then _ else _)) _ _ s
  rw [if_pos (by decide)]
  refine wpAny_bind (wpAny_rule ?_)
  simp only [notLongL big, Bool.false_eq_true, if_false]
  first | (refine wpAny_bind (wpAny_pure ?_)) | skip
  show wpAny _ _ ((updateSeq u (fun o => o.extract 0 ((i : Int)).toNat ++ ys ++ o.extract (max (i : Int) (j : Int)).toNat o.size)) >>= _) _ _ s
  rw [mx, Int.toNat_natCast]
  refine wpAny_bind (wpAny_updateSeq (hz := Nat.le_trans (Nat.le_add_right _ _) big) (_hz' := fits) e rfl (wpAny_bind (wpAny_letGo ?_)))
  first
    | exact (wpAny_bind (wpAny_pure (wpAny_pure ⟨.none, rfl, wpAny_pure k⟩)))
    | exact (wpAny_pure ⟨.none, rfl, wpAny_pure k⟩)
end
section
variable {X : Cx} {K : PySem.W.Frag}
theorem from_run {a n : Nat} (h : a ≤ n) : sliceBounds (some (a : Int)) none none n = ((a : Int), (n : Int), 1) := by
  unfold sliceBounds
  simp only [Option.getD_none]
  have h1 : ¬ ((a : Int) < 0) := by omega
  simp only [h1, if_false, show (1 : Int) > 0 by decide, if_true]
  congr 1
  omega
/-- o[lo:] = v, both lists -/
def gCut (to tl : TE) : TG := fun v σ H Q => to σ H fun o H1 => tPart tl σ H1 fun k H2 => ∃ p b xs ys a, o = .ref p ∧ v = .ref b ∧ k = some ((a : Nat) : Int) ∧ p ≠ b ∧ H2 p = some (.lst xs) ∧ H2 b = some (.lst ys) ∧ a ≤ xs.length ∧ xs.length + ys.length ≤ sizeLine ∧ Q σ (upd H2 p (.lst (xs.take a ++ ys)))
theorem pg_cut {o i : Expr} {to tl : TE} {pos p2 : Pos} (ho : PE X o to) (hi : PE X i tl) : PG X (.Subscript o (.Slice (some i) none none p2) pos) (gCut to tl) := ⟨fun pins s σ H v u Q I r h => by
  rw [arm_assign_Subscript]
  refine wpAny_bind (wpAny_holding (thn (ho.run pins s σ H _ I h) fun ov s1 ⟨x, H1, I1, r1, q1⟩ => ?_))
  refine wpAny_bind (wpAny_holding (wpAny_Slice (thn ((po_some hi).run pins s1 σ H1 _ I1 q1) fun vl s2 ⟨k, H2, I2, pl, p, b, xs, ys, a, e1, e2, e3, ne, hp, hb, hl, hz, q⟩ => ?_)))
  subst e1 e2 e3
  cases r1
  cases r
  rw [evalPart_none]
  refine wpAny_pure (wpAny_pure ?_)
  have I3 : Inv X pins σ H2 { s2 with heap := s2.heap.push { cls := .type "slice", data := .fields #[vl, .none, .none] } } := I2.kept (t' := s2.toks) fun b ob q => Heap.get?_push_of_some _ q
  refine wpAny_bind (wpAny_standAt (wpAny_bind (wpAny_holding ?_)))
  obtain ⟨z1, its, n, rv, hl1, e⟩ := I3.lstM hp
  obtain ⟨z2, its2, n2, rv2, hl2, e2⟩ := I3.lstM hb
  have el : its.length = xs.length := hl1.symm ▸ rfl
  have len1 : xs.length = its.length := rv.length
  have len2 : ys.length = its2.length := rv2.length
  refine put_cut e e2 ne (Heap.IsSliceOf.new s2.heap vl .none .none) pl .none (from_run (a := a) (by simp; omega)) (by simp; omega) (Nat.le_refl _) (by simp; omega) ?_
  refine wpAny_release ⟨σ, _, ?_, q⟩
  refine I3.lset (its' := its.take a ++ its2) (t' := s2.toks) hp e ?_ ((rv.take a).append rv2) (by rw [List.length_append, List.length_take]; omega)
  rw [splice_eq its its2 a its.toArray.size]
  simp⟩
/-! a tuple turned about -/
def tRevT (K : PySem.W.Frag) (te : TE) : TE := fun σ H Q => te σ H fun x H1 => ∃ a xs, x = .ref a ∧ SqT K H1 a xs ∧ xs.length ≤ 1000 ∧ ∀ p, H1 p = none → Q (.ref p) (upd H1 p (.tup xs.reverse))
end
theorem back_places (n : Nat) : Builtin.Slice.slicePlaces ((n : Int) - 1) (-1) (-1) = n := by
  unfold Builtin.Slice.slicePlaces
  rw [if_neg (by decide)]
  by_cases h : (n : Int) - 1 > -1
  · rw [if_pos h]
    have : (- (-1 : Int)) = 1 := rfl
    rw [this, Int.ediv_one]
    omega
  · rw [if_neg h]; omega
theorem back_range (n : Nat) : (List.range n).map (fun (m : Nat) => ((n : Int) - 1 + (m : Int) * (-1)).toNat) = (List.range n).reverse := by
  apply List.ext_getElem
  · simp
  · intro i h1 h2
    simp only [List.getElem_map, List.getElem_range, List.getElem_reverse, List.length_range]
    simp only [List.length_map, List.length_range] at h1
    omega
theorem back_items (xs : Array Value) : ((List.range xs.size).filterMap fun (m : Nat) => xs[((xs.size : Int) - 1 + (m : Int) * (-1)).toNat]?) = xs.toList.reverse := by
  have e : (fun (m : Nat) => xs[((xs.size : Int) - 1 + (m : Int) * (-1)).toNat]?) = (fun j => xs.toList[j]?) ∘ (fun (m : Nat) => ((xs.size : Int) - 1 + (m : Int) * (-1)).toNat) := by
    funext m; simp
  have all := PySem.W.krv_all xs
  have e2 : (fun (j : Nat) => xs.toList[j]?) = fun (j : Nat) => xs[j]? := by funext j; simp
  rw [e, ← List.filterMap_map, back_range, List.filterMap_reverse, e2, all]
section
variable {prog : Program} {w : World} {A : Around} {E : Value → Shared → Prop} {s : Shared}
theorem get_back {u z : Addr} {items : Array Value} {pv : Value} {Q : Value → Shared → Prop} (ht : IsTup s.heap u items) (hz : s.heap.IsSliceOf z .none .none pv) (ps : IsPart pv (some (-1))) (k : Q (.ref s.heap.objs.size) { s with heap := s.heap.push { cls := .type "tuple", data := .seq items.toList.reverse.toArray } })
    (big : items.size ≤ sizeLine) : wpAny (model prog w) A (getItem (.ref u) (.ref z)) Q E s := by
  obtain ⟨so, so1, so2, so3⟩ := id hz
  have tz : s.TypeIs (.ref z) "slice" := ⟨so, so1, so2⟩
  unfold getItem
  try (with_reducible refine wpAny_holding ?_)
  first | (refine wpAny_bind (wpAny_pure ?_)) | skip
  refine wpAny_bind (wpAny_sequenceKey ht.typeIs (by decide) (wpAny_bind (wpAny_callSpecial?_slot (name := Str.ofString "__getitem__") ht.typeIs PyProof.Rows.slot_tuple_getitem (wpAny_call_entry PyProof.Rows.slot_tuple_getitem ht.typeIs entry_tuple_getitem ?_ (args_tuple_getitem _ _)))))
  show wpAny _ _ ((Builtin.Tuple.tupleItemsOf (.ref u)) >>= _) _ _ s
  refine wpAny_bind (tupleItemsOf_ ht (wpAny_bind (wpAny_typeOf tz ?_)))
  rw [if_pos (by decide)]
  refine wpAny_bind (?_ : wpAny _ _ (Builtin.Slice.sliceApplied (.ref z) (pure (items.size : Int))) _ _ _)
  unfold Builtin.Slice.sliceApplied Builtin.Slice.sliceFields
  refine wpAny_bind (wpAny_bind (wpAny_field so1 so3 (x := .none) rfl (wpAny_bind (wpAny_field so1 so3 (x := .none) rfl (wpAny_bind (wpAny_field so1 so3 (x := pv) rfl (wpAny_pure ?_)))))))
  refine wpAny_bind (HT.slicePart_ ps ?_)
  show wpAny _ _ ((if ((-1 : Int) == 0) = true then _ else _)) _ _ s
  rw [if_neg (by decide)]
  refine wpAny_bind (HT.slicePart_ .none (wpAny_bind (HT.slicePart_ .none (wpAny_bind (wpAny_pure (wpAny_pure ?_))))))
  show wpAny _ _ ((if (((items.size : Int) - 1) == 0 && (-1 : Int) == 1 && (Builtin.Slice.slicePlaces ((items.size : Int) - 1) (-1) (-1)) == items.size) = true then _ else _)) _ _ s
  rw [if_neg (by simp)]
  show wpAny _ _ ((Builtin.Tuple.tupleExact ((List.range (Builtin.Slice.slicePlaces ((items.size : Int) - 1) (-1) (-1))).filterMap fun (m : Nat) => items[(((items.size : Int) - 1) + (m : Int) * (-1)).toNat]?).toArray) >>= _) _ _ s
  rw [back_places, back_items]
  have fits : sizeOk (.seq items.toList.reverse.toArray) := by
    show items.toList.reverse.toArray.size ≤ sizeLine
    rw [List.size_toArray, List.length_reverse, Array.length_toList]; exact big
  first
    | exact wpAny_bind (m := Builtin.Tuple.tupleExact _) (wpAny_newObj_type (wpAny_pure ⟨_, rfl, wpAny_pure k⟩) fits)
    | exact wpAny_bind (wpAny_bind (m := Builtin.Tuple.tupleExact _) (wpAny_newObj_type (wpAny_pure (wpAny_pure ⟨_, rfl, wpAny_pure k⟩)) fits))
    | exact wpAny_bind (m := Builtin.Tuple.tupleExact _) (wpAny_newObj_type (wpAny_bind (wpAny_pure (wpAny_pure ⟨_, rfl, wpAny_pure k⟩))) fits)
end
section
variable {X : Cx} {K : PySem.W.Frag} {ρ : En} {te : TE} {x : PyData} {t : Bool} {xs : List PyData}
theorem pe_revT {e : Expr} {te : TE} {k : Nat} {p1 p2 p3 pos : Pos} (he : PE X e te) : PE X (.Subscript e (.Slice none none (some (.UnaryOp .USub (.Constant (.int 1) k p1) p2)) p3) pos) (tRevT X.K te) := ⟨fun pins s σ H Q I h => by
  refine Subscript_ (thn (he.run pins s σ H _ I h) fun v s1 ⟨x, H1, I1, r1, a, xs, ex, hx, hs, q⟩ => ?_)
  subst ex
  cases r1
  have st : PO X (some (.UnaryOp .USub (.Constant (.int 1) k p1) p2)) (tPart (tUn (rU fun i => .int (-i)) (tC (.int 1)))) := po_some (pe_un un_neg pe_int)
  refine wpAny_Slice ?_
  rw [evalPart_none]
  refine wpAny_pure ?_
  refine wpAny_pure (thn (st.run pins s1 σ H1 (fun o H4 => o = some (-1) ∧ H4 = H1) I1 ⟨1, rfl, -1, rfl, rfl, rfl⟩) fun vs s4 ⟨o, H4, I4, ps, eo, e4⟩ => ?_)
  subst eo e4
  have I5 : Inv X pins σ H4 { s4 with heap := s4.heap.push { cls := .type "slice", data := .fields #[.none, .none, vs] } } := I4.kept (t' := s4.toks) fun b ob q => Heap.get?_push_of_some _ q
  obtain ⟨its, r, ht, _⟩ := I5.tuple hx
  have hlen := r.length
  show wpAny (model X.prog X.w) X.A ((subscriptTail e (.Slice none none (some (.UnaryOp .USub (.Constant (.int 1) k p1) p2)) p3) (.ref a) (.ref s4.heap.objs.size))) (EP X pins σ Q) X.xe { s4 with heap := s4.heap.push { cls := .type "slice", data := .fields #[.none, .none, vs] } }
  refine tail_any (ops := [.ref a, .ref s4.heap.objs.size]) ht.typeIs PyProof.Rows.slot_tuple_getitem.lookup ?_ (by with_unfolding_all rfl)
  have big : xs.length ≤ sizeLine := Nat.le_trans hs (by decide)
  refine get_back ht (Heap.IsSliceOf.new s4.heap .none .none vs) ps ?_ (by rw [List.size_toArray, ← hlen]; exact big)
  refine ⟨.ref _, _, I5.laid (t' := s4.toks) (o := .tup xs.reverse) (fun b ob q => Heap.get?_push_of_some _ q) (Nat.le_refl _) ?_, rfl, q _ (I5.hok.fresh (Nat.le_refl _))⟩
  exact ⟨by rw [List.length_reverse]; exact big, its.reverse, r.reverse, ⟨_, Heap.get?_push_size _ rfl, rfl, 0, by simp⟩⟩⟩
def tRevS (K : PySem.W.Frag) (te : TE) : TE := fun σ H Q => tRevL K te σ H Q ∨ tRevT K te σ H Q
theorem kpe_revS {e : Expr} {te : TE} {k : Nat} {p1 p2 p3 pos : Pos} (he : PE X e te) (hK : X.K = K := by rfl) : PE X (.Subscript e (.Slice none none (some (.UnaryOp .USub (.Constant (.int 1) k p1) p2)) p3) pos) (tRevS K te) := by
  subst hK
  exact ⟨fun pins s σ H Q I h => h.elim (fun h => (pe_revL he).run pins s σ H Q I h) fun h => (pe_revT he).run pins s σ H Q I h⟩
theorem ed_revT (h : Ed K te ρ (.tuple xs)) (hs : xs.length ≤ 1000) : Ed K (tRevT K te) ρ (.tuple xs.reverse) := fun b G H σ S Q q =>
  h _ G H σ S _ fun v y ρ1 G1 H1 e1 S1 d1 => by
    obtain ⟨rfl, rfl⟩ := e1
    obtain ⟨a, vs, rfl, ha, hg, da⟩ := d1.tupH S1.sub
    refine ⟨a, vs, rfl, ha, by rw [da.length]; exact hs, fun p hp => ?_⟩
    have st := Step.lay S1.sub (.tup vs.reverse) hp
    exact q _ _ _ _ _ ⟨rfl, rfl⟩ (S1.step st) (.tup (SqT.of upd_same) (da.reverse.mono st.gg))
theorem ed_revS (h : Ed K te ρ x) (e : seqOf x = some (t, xs)) (hs : xs.length ≤ 1000) : Ed K (tRevS K te) ρ (mkSeq t xs.reverse) := fun b G H σ S Q q => by
  cases x <;> cases e
  · exact .inl (ed_revL h b G H σ S Q q)
  · exact .inr (ed_revT h hs b G H σ S Q q)
end
end RS
end
section
set_option Elab.async false
set_option linter.all false
set_option autoImplicit false
set_option maxRecDepth 100000
set_option maxHeartbeats 2000000
/-! RS21: while; pop, extend, cuts, items of a list of one's own -/
namespace RS
open PySem PySem.Spec PyProof.Rows L2
def WhileO (I : Nat → En → Prop) (O : Out → Prop) (n : Nat) : Out → Prop
  | .nx ρ => ∃ m, m < n ∧ I m ρ
  | .ct ρ => ∃ m, m < n ∧ I m ρ
  | .bk ρ => O (.nx ρ)
  | .rt ρ x => O (.rt ρ x)
section
variable {K : PySem.W.Frag} {ρ : En} {O : Out → Prop} {tt : TT} {tb u : TS} {te tj : TE} {i : Nat} {xs ys : List PyData} {x y : PyData}
theorem es_while (I : Nat → En → Prop) (n0 : Nat) (h0 : I n0 ρ) (st : ∀ n ρ2, I n ρ2 → ∃ c, Eb K tt ρ2 c ∧ (c = true → Es K tb ρ2 (WhileO I O n)) ∧ (c = false → O (.nx ρ2))) : Es K (tWhile tt tb) ρ O := fun b G H σ D S T => by
  refine ⟨fun n σ2 H2 => ∃ ρ2 G2, I n ρ2 ∧ SA K b G2 H2 σ2 ρ2, ⟨n0, ρ, G, h0, S⟩, ?_⟩
  rintro n σ2 H2 ⟨ρ2, G2, hI, S2⟩
  obtain ⟨c, hc, h1, h2⟩ := st n ρ2 hI
  refine hc _ G2 H2 σ2 S2.here _ fun c2 ρ3 G3 H3 e S3 => ?_
  obtain ⟨rfl, rfl⟩ := e
  cases c2 with
  | false =>
    rw [if_neg Bool.false_ne_true]
    exact T.nx _ σ2 G3 H3 (h2 rfl) (S2.back S3)
  | true =>
    rw [if_pos rfl]
    refine ⟨fun σ4 H4 => ∃ m, m < n ∧ ∃ ρ4 G4, I m ρ4 ∧ SA K b G4 H4 σ4 ρ4, fun σ4 H4 z => z, ?_⟩
    refine h1 rfl _ G3 H3 σ2 _ S3 ⟨fun ρ4 σ4 G4 H4 o S4 => ?_, fun ρ4 x v4 σ4 G4 H4 o S4 d4 => ?_, fun ρ4 σ4 G4 H4 o S4 => ?_, fun ρ4 σ4 G4 H4 o S4 => ?_⟩
    · obtain ⟨m, hm, hI2⟩ := o
      exact ⟨m, hm, ρ4, G4, hI2, S2.back S4⟩
    · exact T.rt ρ4 x v4 σ4 G4 H4 o (S2.back S4) d4
    · exact T.nx ρ4 σ4 G4 H4 o (S2.back S4)
    · obtain ⟨m, hm, hI2⟩ := o
      exact ⟨m, hm, ρ4, G4, hI2, S2.back S4⟩
theorem eq_while (I : Nat → En → Prop) (n0 : Nat) (h0 : I n0 ρ) (st : ∀ n ρ2, I n ρ2 → ∃ c, Eb K tt ρ2 c ∧ (c = true → Es K tb ρ2 (WhileO I (Then K u O) n)) ∧ (c = false → Es K u ρ2 O)) : Es K (tSeq (tWhile tt tb) u) ρ O :=
  es_then (es_while I n0 h0 fun n ρ2 h => by
    obtain ⟨c, h1, h2, h3⟩ := st n ρ2 h
    exact ⟨c, h1, h2, h3⟩)
/-- the last item of a list of one's own -/
theorem ev_pop (hi : ρ[i]? = some (some (Sl.own (xs ++ [y])))) : Ev K (tBM0 K "list" rPop (tVar i)) ρ fun ρ2 z => ρ2 = ρ.set i (some (.own xs)) ∧ z = y := fun b G H σ S Q q => by
  obtain ⟨a, vs, hs, _, _, hH, hd, _⟩ := S.own i _ hi
  have hl : (xs ++ [y])[xs.length]? = some y := by simp
  obtain ⟨v, hv, dv⟩ := hd.get hl
  have len : vs.length = xs.length + 1 := by rw [hd.length]; simp
  refine ⟨.ref a, hs, tyL hH, a, vs, v, rfl, rfl, hH, by rw [len]; exact hv, ?_⟩
  have dd := hd.dropLast
  rw [List.dropLast_concat] at dd
  exact q v y _ G _ ⟨rfl, rfl⟩ (S.own_write hi hs dd) dv
theorem es_ext (hi : ρ[i]? = some (some (Sl.own xs))) (h : Ed K te ρ (.list ys)) (hl : xs.length + ys.length ≤ 100000) (k : O (.nx (ρ.set i (some (.own (xs ++ ys)))))) : Es K (tDrop (tBM K "list" rExtend (tVar i) (tCons te tNil))) ρ O := fun b G H σ D S T => by
  obtain ⟨a, vs, hs, _, _, hH, _, _⟩ := S.own i xs hi
  refine ⟨.ref a, hs, tyL hH, ?_⟩
  refine h b G H σ S _ fun v y ρ1 G1 H1 h1 S1 d1 => ?_
  obtain ⟨rfl, rfl⟩ := h1
  obtain ⟨vs1, hH1, hd1⟩ := S1.own_at hi hs
  obtain ⟨p, ws, rfl, hp, hg, dw⟩ := d1.lstH S1.sub
  exact ⟨a, p, vs1, ws, rfl, rfl, hH1, hp, Nat.le_trans (show vs1.length + ws.length ≤ 100000 by rw [hd1.length, dw.length]; exact hl) (by decide), T.nx _ σ G1 _ k (S1.own_write hi hs (hd1.append dw))⟩
theorem eq_ext (hi : ρ[i]? = some (some (Sl.own xs))) (h : Ed K te ρ (.list ys)) (hl : xs.length + ys.length ≤ 100000) (k : Es K u (ρ.set i (some (.own (xs ++ ys)))) O) : Es K (tSeq (tDrop (tBM K "list" rExtend (tVar i) (tCons te tNil))) u) ρ O := es_then (es_ext hi h hl k)
/-- x[j:] = y -/
theorem es_cut {j : Nat} (hi : ρ[i]? = some (some (Sl.own xs))) (h : Ed K te ρ (.list ys)) (hj : Ed K tj ρ (.int (j : Nat))) (hl : j ≤ xs.length) (hz : xs.length + ys.length ≤ 100000) (k : O (.nx (ρ.set i (some (.own (xs.take j ++ ys)))))) : Es K (tAsg te (gCut (tVar i) tj)) ρ O := fun b G H σ D S T =>
  h b G H σ S _ fun v z ρ1 G1 H1 h1 S1 d1 => by
    obtain ⟨rfl, rfl⟩ := h1
    obtain ⟨a, vs, hs, _, _, hH, _, _⟩ := S1.own i xs hi
    refine ⟨.ref a, hs, ?_⟩
    refine hj.runG S1 fun w z2 ρ2 G2 H2 h2 S2 g2 d2 => ?_
    obtain ⟨rfl, rfl⟩ := h2
    cases d2
    obtain ⟨a2, vs2, hs2, hG2, _, hH2, hd2, _⟩ := S2.own i xs hi
    rw [hs] at hs2
    cases hs2
    obtain ⟨p, ws, rfl, hp, hg, dw⟩ := (d1.mono g2).lstH S2.sub
    refine ⟨(j : Int), rfl, a, p, vs2, ws, j, rfl, rfl, rfl, ?_, hH2, hp, by rw [hd2.length]; exact hl, Nat.le_trans (show vs2.length + ws.length ≤ 100000 by rw [hd2.length, dw.length]; exact hz) (by decide), ?_⟩
    · rintro rfl
      rw [hG2] at hg
      cases hg
    · exact T.nx _ σ G2 _ k (S2.own_write hi hs ((hd2.take j).append dw))
theorem ed_ixOwn {j : Nat} (hi : ρ[i]? = some (some (Sl.own xs))) (hj : Ed K tj ρ (.int (j : Nat))) (hx : xs[j]? = some x) : Ed K (tOp (rIx K) (tVar i) tj) ρ x := fun b G H σ S Q q => by
  obtain ⟨a, vs, hs, _, _, hH, hd, _⟩ := S.own i xs hi
  refine ⟨.ref a, hs, ?_⟩
  refine hj.runG S fun w z2 ρ2 G2 H2 h2 S2 g2 d2 => ?_
  obtain ⟨rfl, rfl⟩ := h2
  cases d2
  obtain ⟨vs2, hH2, hd2⟩ := S2.own_at hi hs
  obtain ⟨v, hv, dv⟩ := hd2.get hx
  exact .inl ⟨a, vs2, (j : Int), v, rfl, rfl, SqL.of hH2, atI_nat hv, q v x _ G2 H2 ⟨rfl, rfl⟩ S2 dv⟩
theorem ed_slOwn {tlo thi : TO} {lo hi : Option Int} (hi0 : ρ[i]? = some (some (Sl.own xs))) (h1 : EvO K tlo ρ lo) (h2 : EvO K thi ρ hi) : Ed K (tSl (rSlS K) (tVar i) tlo thi) ρ (.list (cutP xs lo hi)) := fun b G H σ S Q q => by
  obtain ⟨a, vs, hs, _, _, _, _, _⟩ := S.own i xs hi0
  refine ⟨.ref a, hs, ?_⟩
  refine h1.runG S fun G2 H2 S2 g2 => h2.runG S2 fun G3 H3 S3 g3 => ?_
  obtain ⟨vs3, hH3, hd3⟩ := S3.own_at hi0 hs
  refine .inr ⟨a, vs3, rfl, SqL.of hH3, fun p hp => ?_⟩
  have st := Step.lay S3.sub (.lst (cutV vs3 lo hi)) hp
  exact q _ _ _ _ _ ⟨rfl, rfl⟩ (S3.step st) (.lst upd_same ((cutD hd3 lo hi).mono st.gg))
theorem ed_slS {t : Bool} {tlo thi : TO} {lo hi : Option Int} (h : Ed K te ρ x) (e : seqOf x = some (t, xs)) (h1 : EvO K tlo ρ lo) (h2 : EvO K thi ρ hi) : Ed K (tSl (rSlS K) te tlo thi) ρ (mkSeq t (cutP xs lo hi)) := fun b G H σ S Q q =>
  h _ G H σ S _ fun v y ρ1 G1 H1 e1 S1 d1 => by
    obtain ⟨rfl, rfl⟩ := e1
    refine h1.runG S1 fun G2 H2 S2 g2 => h2.runG S2 fun G3 H3 S3 g3 => ?_
    have d3 := (d1.mono g2).mono g3
    cases y <;> cases e
    · obtain ⟨a, vs, rfl, ha, hg, da⟩ := d3.lstH S3.sub
      refine .inr ⟨a, vs, rfl, SqL.of ha, fun p hp => ?_⟩
      have st := Step.lay S3.sub (.lst (cutV vs lo hi)) hp
      exact q _ _ _ _ _ ⟨rfl, rfl⟩ (S3.step st) (.lst upd_same ((cutD da lo hi).mono st.gg))
    · obtain ⟨a, vs, rfl, ha, hg, da⟩ := d3.tupH S3.sub
      refine .inl ⟨a, vs, rfl, ha, fun hw => ?_, fun _ p hp => ?_⟩
      · have e : cutP xs lo hi = xs := by
          unfold cutP
          rw [← da.length, hw.1, hw.2, da.length]
          simp
        have q' := q (.ref a) (.tuple (cutP xs lo hi)) ρ1 G3 H3 ⟨rfl, rfl⟩ S3
        rw [e] at q'
        exact q' (.tup hg da)
      · have st := Step.lay S3.sub (.tup (cutV vs lo hi)) hp
        exact q _ _ _ _ _ ⟨rfl, rfl⟩ (S3.step st) (.tup (SqT.of upd_same) ((cutD da lo hi).mono st.gg))
/-! truth -/
def tTru (K : PySem.W.Frag) (te : TE) : TT := fun σ H Q => te σ H fun x H2 => ∃ k, TruV K x H2 k ∧ Q k H2
theorem kpt_tru {X : Cx} {a : Expr} {ta : TE} (ha : PE X a ta) (he : ∀ whole, isTrue a X.env whole = (do let v ← whole; standAt a.pos; holding [v] (truthy v))) (hK : X.K = K := by rfl) : PT X a (tTru K ta) := by subst hK; exact pt_truth ha he
theorem eb_truOwn (hi : ρ[i]? = some (some (Sl.own xs))) : Eb K (tTru K (tVar i)) ρ (!xs.isEmpty) := fun b G H σ S Q q => by
  obtain ⟨a, vs, hs, _, _, hH, hd, _⟩ := S.own i xs hi
  refine ⟨.ref a, hs, !xs.isEmpty, .inl ⟨vs, SqL.of hH, ?_⟩, q _ ρ G H ⟨rfl, rfl⟩ S⟩
  have := hd.nil_iff
  cases vs <;> cases xs <;> simp_all
theorem eb_truSeq {t : Bool} (h : Ed K te ρ x) (e : seqOf x = some (t, xs)) : Eb K (tTru K te) ρ (!xs.isEmpty) := fun b G H σ S Q q =>
  h _ G H σ S _ fun v y ρ1 G1 H1 e1 S1 d1 => by
    obtain ⟨rfl, rfl⟩ := e1
    cases y <;> cases e
    · obtain ⟨a, vs, rfl, ha, hg, da⟩ := d1.lstH S1.sub
      refine ⟨!xs.isEmpty, .inl ⟨vs, SqL.of ha, ?_⟩, q _ _ G1 H1 ⟨rfl, rfl⟩ S1⟩
      have := da.nil_iff
      cases vs <;> cases xs <;> simp_all
    · obtain ⟨a, vs, rfl, ha, hg, da⟩ := d1.tupH S1.sub
      refine ⟨!xs.isEmpty, .inr (.inl ⟨vs, ha, ?_⟩), q _ _ G1 H1 ⟨rfl, rfl⟩ S1⟩
      have := da.nil_iff
      cases vs <;> cases xs <;> simp_all
theorem eb_truBool {c : Bool} (h : Ed K te ρ (.bool c)) : Eb K (tTru K te) ρ c := fun b G H σ S Q q =>
  h _ G H σ S _ fun v y ρ1 G1 H1 e1 S1 d1 => by
    obtain ⟨rfl, rfl⟩ := e1
    cases d1
    exact ⟨c, rfl, q _ _ G1 H1 ⟨rfl, rfl⟩ S1⟩
end
end RS
end
section
set_option Elab.async false
set_option linter.all false
set_option autoImplicit false
set_option maxRecDepth 100000
set_option maxHeartbeats 2000000
/-! RS22: the calls of zip and enumerate with the written part said; checks over any data -/
namespace RS
open PySem PySem.Spec PyProof.Rows L2
section
variable {X : Cx} {K : PySem.W.Frag}
theorem kpi_z2 {e e2 : Expr} {ta : TA} {p pos tpos : Pos} {es : List Expr} {k : Nat} (hg : Gl X "zip") (hm : X.mg "zip" = none) (ha : PA X [e, e2] ta) (hK : X.K = K := by rfl)
    (hs : starEach [e, e2] X.env = (false, eval e X.env) :: starEach [e2] X.env := by rfl) (hpl : (backTo pos (starEach [e2] X.env)).any (·.1) = false := by rfl) : PI X (.Tuple es k tpos) (.Call (.Name "zip" p) [e, e2] [] pos) (iZ2 K ta) := by subst hK; exact pi_z2 hg hm ha hs hpl
theorem kpi_z3 {e e2 e3 : Expr} {ta : TA} {p pos tpos : Pos} {es : List Expr} {k : Nat} (hg : Gl X "zip") (hm : X.mg "zip" = none) (ha : PA X [e, e2, e3] ta) (hK : X.K = K := by rfl)
    (hs : starEach [e, e2, e3] X.env = (false, eval e X.env) :: starEach [e2, e3] X.env := by rfl) (hpl : (backTo pos (starEach [e2, e3] X.env)).any (·.1) = false := by rfl) : PI X (.Tuple es k tpos) (.Call (.Name "zip" p) [e, e2, e3] [] pos) (iZ3 K ta) := by subst hK; exact pi_z3 hg hm ha hs hpl
theorem kpi_en {e : Expr} {ta : TA} {p pos tpos : Pos} {es : List Expr} {k : Nat} (hg : Gl X "enumerate") (hm : X.mg "enumerate" = none) (ha : PA X [e] ta) (hK : X.K = K := by rfl) (hs : starEach [e] X.env = [(false, eval e X.env)] := by rfl) :
    PI X (.Tuple es k tpos) (.Call (.Name "enumerate" p) [e] [] pos) (iEn K ta) := by subst hK; exact pi_en hg hm ha hs
end
/-! isinstance of any data: what the written part says of the built-in kinds -/
def isInt : PyData → Bool
  | .int _ => true
  | _ => false
def isIntB : PyData → Bool
  | .int _ => true
  | .bool _ => true
  | _ => false
def isBoolD : PyData → Bool
  | .bool _ => true
  | _ => false
def isRow : PyData → Bool
  | .list _ => true
  | .tuple _ => true
  | _ => false
def isTup : PyData → Bool
  | .tuple _ => true
  | _ => false
/-- the kinds of data there are: of a type that isinstance can be asked of -/
def Kd (x : PyData) : Prop := (tyD x).isSome = true
/-- how the built-in types stand to one another -/
structure Ty (K : PySem.W.Frag) : Prop where
  int : ∀ x T, tyD x = some T → PySem.W.kitOne K T (.type "int") = some (isIntB x)
  bool : ∀ x T, tyD x = some T → PySem.W.kitOne K T (.type "bool") = some (isBoolD x)
  tup : ∀ x T, tyD x = some T → PySem.W.kitOne K T (.type "tuple") = some (isTup x)
  row : ∀ x T, tyD x = some T → PySem.W.kitAny K T [.type "tuple", .type "list"] = some (isRow x)
def kindsB (K : PySem.W.Frag) : Bool := ["NoneType", "bool", "int", "str", "list", "tuple", "dict"].all fun n => PySem.W.kitOne K (.type n) (.type "int") == some (n == "int" || n == "bool") && (PySem.W.kitOne K (.type n) (.type "bool") == some (n == "bool") &&
  (PySem.W.kitOne K (.type n) (.type "tuple") == some (n == "tuple") && PySem.W.kitAny K (.type n) [.type "tuple", .type "list"] == some (n == "tuple" || n == "list")))
theorem kinds_ty {K : PySem.W.Frag} (h : kindsB K = true) : Ty K := by
  unfold kindsB at h
  simp only [List.all_cons, List.all_nil, Bool.and_true, Bool.and_eq_true, beq_iff_eq] at h
  obtain ⟨⟨n1, n2, n3, n4⟩, ⟨b1, b2, b3, b4⟩, ⟨i1, i2, i3, i4⟩, ⟨s1, s2, s3, s4⟩, ⟨l1, l2, l3, l4⟩, ⟨t1, t2, t3, t4⟩, ⟨d1, d2, d3, d4⟩⟩ := h
  refine ⟨?_, ?_, ?_, ?_⟩
  all_goals
    intro x T e
    unfold tyD at e
    split at e
    all_goals first | (cases e; done) | (cases e; assumption)
section
variable {K : PySem.W.Frag} {ρ : En} {te : TE} {x : PyData}
theorem Kd.ty (h : Kd x) : ∃ T, tyD x = some T := Option.isSome_iff_exists.mp h
theorem ed_isInt (Y : Ty K) (k : Kd x) (h : Ed K te ρ x) : Ed K (tCB (rIsi K) (tCons te (tCons (tC (.ty "int")) tNil))) ρ (.bool (isIntB x)) := by
  obtain ⟨T, e⟩ := k.ty
  exact ed_isi h e (Y.int x T e)
theorem ed_isBool (Y : Ty K) (k : Kd x) (h : Ed K te ρ x) : Ed K (tCB (rIsi K) (tCons te (tCons (tC (.ty "bool")) tNil))) ρ (.bool (isBoolD x)) := by
  obtain ⟨T, e⟩ := k.ty
  exact ed_isi h e (Y.bool x T e)
theorem ed_isTup (Y : Ty K) (k : Kd x) (h : Ed K te ρ x) : Ed K (tCB (rIsi K) (tCons te (tCons (tC (.ty "tuple")) tNil))) ρ (.bool (isTup x)) := by
  obtain ⟨T, e⟩ := k.ty
  exact ed_isi h e (Y.tup x T e)
theorem ed_isRow (Y : Ty K) (k : Kd x) (h : Ed K te ρ x) : Ed K (tCB (rIsiT K) (tCons te (tCons (tTup (tCons (tC (.ty "tuple")) (tCons (tC (.ty "list")) tNil))) tNil))) ρ (.bool (isRow x)) := by
  obtain ⟨T, e⟩ := k.ty
  exact ed_isi2 h e (Y.row x T e)
end
end RS
end
section
set_option Elab.async false
set_option linter.all false
set_option autoImplicit false
set_option maxRecDepth 100000
set_option maxHeartbeats 2000000
/-! RS23: comprehensions whose names are new -/
namespace RS
open PySem PySem.Spec PyProof.Rows L2
section
variable {K : PySem.W.Frag} {ρ : En} {te tl : TE} {ta : TA} {tt : TT} {wi : TI} {g : TG} {vs : List Nat} {xs ys zs : List PyData} {x y z : PyData} {t t1 t2 t3 : Bool}
theorem set_none {ρ : En} {i : Nat} (h : ρ[i]? = some none) : ρ.set i none = ρ := by
  apply List.ext_getElem?
  intro m
  rw [List.getElem?_set]
  by_cases hm : i = m
  · subst hm
    rw [if_pos rfl, h, if_pos (List.getElem?_eq_some_iff.mp h).1]
  · rw [if_neg hm]
theorem wp_new : ∀ {vs : List Nat}, (∀ i ∈ vs, ρ[i]? = some none) → wp ρ vs = ρ
  | [], _ => rfl
  | v :: vs, h => by
    unfold wp
    rw [wp_new fun i hi => h i (List.mem_cons_of_mem _ hi), set_none (h v List.mem_cons_self)]
theorem setPen_set {c i : Nat} {x : PyData} (h : setPen c ρ = ρ) : setPen c (ρ.set i (some (.d x))) = ρ.set i (some (.d x)) := by
  unfold setPen at h ⊢
  rw [List.map_set, h]; rfl
theorem ed_lcN (c0 : Nat) (f : PyData → PyData) (h : Ei K wi ρ xs) (hl : xs.length ≤ 100000) (hp : setPen c0 ρ = ρ) (hv : ∀ i ∈ vs, ρ[i]? = some none)
    (k : ∀ x ∈ xs, ∃ js ρ2, (∀ j ∈ js, j ∈ vs) ∧ Eg K g js ρ x ρ2 ∧ setPen c0 ρ2 = ρ2 ∧ Ed K te ρ2 (f x)) : Ed K (tLc wi g tYes te vs) ρ (.list (xs.map f)) :=
  ed_lcm c0 f h hl hp (fun i s hi e => by rw [hv i hi] at e; cases e) fun i x hx => by
    rw [wp_new hv, hp]
    exact k x (List.mem_of_getElem? hx)
theorem ed_lcNT (c0 : Nat) (p : PyData → Bool) (f : PyData → PyData) (h : Ei K wi ρ xs) (hl : xs.length ≤ 100000) (hp : setPen c0 ρ = ρ) (hv : ∀ i ∈ vs, ρ[i]? = some none)
    (k : ∀ x ∈ xs, ∃ js ρ2, (∀ j ∈ js, j ∈ vs) ∧ Eg K g js ρ x ρ2 ∧ setPen c0 ρ2 = ρ2 ∧ Eb K tt ρ2 (p x) ∧ (p x = true → Ed K te ρ2 (f x))) : Ed K (tLc wi g tt te vs) ρ (.list ((xs.filter p).map f)) :=
  ed_lc c0 p f h hl hp (fun i s hi e => by rw [hv i hi] at e; cases e) fun i x hx => by
    rw [wp_new hv, hp]
    exact k x (List.mem_of_getElem? hx)
theorem all_bools (f : PyData → Bool) (h : Ed K te ρ (.list (xs.map fun y => .bool (f y)))) : Ed K (tCB (rAll K) (tCons te tNil)) ρ (.bool (xs.all f)) := by
  have e : (xs.map fun y => PyData.bool (f y)) = (xs.map f).map PyData.bool := by rw [List.map_map]; rfl
  rw [e] at h
  refine (ed_cb (ea_cons h ea_nil) rc_all).to ?_
  rw [List.all_map]; rfl
theorem any_bools (f : PyData → Bool) (h : Ed K te ρ (.list (xs.map fun y => .bool (f y)))) : Ed K (tCB (rAny K) (tCons te tNil)) ρ (.bool (xs.any f)) := by
  have e : (xs.map fun y => PyData.bool (f y)) = (xs.map f).map PyData.bool := by rw [List.map_map]; rfl
  rw [e] at h
  refine (ed_cb (ea_cons h ea_nil) rc_any).to ?_
  rw [List.any_map]; rfl
theorem ed_lenS (h : Ed K te ρ x) (e : seqOf x = some (t, xs)) : Ed K (tCB (rLenS K) (tCons te tNil)) ρ (.int xs.length) := by
  cases x <;> cases e
  · exact ed_cb (ea_cons h ea_nil) rc_lenL
  · exact ed_cb (ea_cons h ea_nil) rc_lenT
theorem eg_two {i j : Nat} : Eg K (gTup K 2 (gCons (gName i) (gCons (gName j) gNil))) [i, j] ρ (.tuple [x, y]) ((ρ.set i (some (.d x))).set j (some (.d y))) := eg_tup rfl (egs_cons eg_name (egs_cons eg_name egs_nil))
theorem eg_twoS {i j : Nat} : Eg K (gSeq K 2 (gCons (gName i) (gCons (gName j) gNil))) [i, j] ρ (.tuple [x, y]) ((ρ.set i (some (.d x))).set j (some (.d y))) := eg_seq (t := true) rfl rfl (egs_cons eg_name (egs_cons eg_name egs_nil))
theorem eg_three {i j k : Nat} : Eg K (gTup K 3 (gCons (gName i) (gCons (gName j) (gCons (gName k) gNil)))) [i, j, k] ρ (.tuple [x, y, z]) (((ρ.set i (some (.d x))).set j (some (.d y))).set k (some (.d z))) := eg_tup rfl (egs_cons eg_name (egs_cons eg_name (egs_cons eg_name egs_nil)))
theorem ed_slOwnL {i : Nat} {tlo thi : TO} {lo hi : Option Int} (hi0 : ρ[i]? = some (some (Sl.own xs))) (h1 : EvO K tlo ρ lo) (h2 : EvO K thi ρ hi) : Ed K (tSl (rSlL K) (tVar i) tlo thi) ρ (.list (cutP xs lo hi)) := fun b G H σ S Q q => by
  obtain ⟨a, vs, hs, _, _, _, _, _⟩ := S.own i xs hi0
  refine ⟨.ref a, hs, ?_⟩
  refine h1.runG S fun G2 H2 S2 g2 => h2.runG S2 fun G3 H3 S3 g3 => ?_
  obtain ⟨vs3, hH3, hd3⟩ := S3.own_at hi0 hs
  refine ⟨a, vs3, rfl, SqL.of hH3, fun p hp => ?_⟩
  have st := Step.lay S3.sub (.lst (cutV vs3 lo hi)) hp
  exact q _ _ _ _ _ ⟨rfl, rfl⟩ (S3.step st) (.lst upd_same ((cutD hd3 lo hi).mono st.gg))
theorem cut_from {n : Nat} (h : n ≤ xs.length) : cutP xs (some (n : Int)) none = xs.drop n := by
  unfold cutP
  rw [HT.sIx_nat, HT.sIx_none, Nat.min_eq_left h]
  exact List.take_of_length_le (by rw [List.length_drop]; exact Nat.le_refl _)
theorem eqv_asg {R : En → PyData → Prop} {O : Out → Prop} {u : TS} (h : Ev K te ρ R) (k : ∀ ρ1 x, R ρ1 x → ∃ js ρ2, Eg K g js ρ1 x ρ2 ∧ Es K u ρ2 O) : Es K (tSeq (tAsg te g) u) ρ O := es_then (es_asg h fun ρ1 x hr => by
  obtain ⟨js, ρ2, h1, h2⟩ := k ρ1 x hr
  exact ⟨js, ρ2, h1, h2⟩)
end
end RS
end
section
set_option Elab.async false
set_option linter.all false
set_option autoImplicit false
set_option maxRecDepth 100000
set_option maxHeartbeats 2000000
/-! RS24: comprehensions over a range that draw once for each item -/
namespace RS
open PySem PySem.Spec PyProof.Rows L2
section
variable {K : PySem.W.Frag} {ρ : En} {te tn : TE}
theorem ev_yes {R : En → Bool → Prop} (h : R ρ true) : EvT K tYes ρ R := fun b G H σ S Q q => q true ρ G H h S
theorem ev_lcD {i n c0 : Nat} {Q : PyData → Prop} (hn : Ed K tn ρ (.int (n : Nat))) (hb : n ≤ 1000) (hp : setPen c0 ρ = ρ) (hv : ρ[i]? = some none) (hc : c0 + n ≤ LIM)
    (el : ∀ c x, c + 1 ≤ LIM → Ev K te ((setPen c ρ).set i (some (.d x))) fun ρ2 y => ρ2 = setPen (c + 1) ((setPen c ρ).set i (some (.d x))) ∧ Q y) :
    Ev K (tLc (iRng1 (tCons tn tNil)) (gName i) tYes te [i]) ρ fun ρ2 y => ∃ ys, y = .list ys ∧ ys.length = n ∧ (∀ z ∈ ys, Q z) ∧ ρ2 = setPen (c0 + n) ρ :=
  ev_lc (ei_rng1 (ea_cons hn ea_nil) (by omega) (by omega)) fun ρ1 xs e => by
    obtain ⟨rfl, rfl⟩ := e
    have hlen : (rgD ((n : Int)).toNat).length = n := by rw [rgD_len]; exact Int.toNat_natCast n
    refine ⟨by rw [hlen]; omega, fun j s hj e => ?_, c0, fun j c acc => acc.length = j ∧ (∀ z ∈ acc, Q z) ∧ c = c0 + j, hp, ⟨rfl, (fun z hz => absurd hz List.not_mem_nil), rfl⟩, fun j x c acc hx hJ => ?_, fun c acc hJ => ?_⟩
    · rw [List.mem_singleton.mp hj, hv] at e; cases e
    · obtain ⟨h1, h2, rfl⟩ := hJ
      have hj : j < n := by
        have := (List.getElem?_eq_some_iff.mp hx).1
        rw [hlen] at this; exact this
      have ew : wp ρ1 [i] = ρ1 := wp_new fun k hk => by rw [List.mem_singleton.mp hk]; exact hv
      rw [ew]
      refine ⟨[i], _, fun k hk => hk, eg_name, ev_yes ⟨c0 + j, ?_, fun _ => (el (c0 + j) x (by omega)).imp fun ρ4 y hy => ?_, fun z => nomatch z⟩⟩
      · unfold setPen
        rw [List.map_set, List.map_map]
        have : pn (c0 + j) ∘ pn (c0 + j) = pn (c0 + j) := by funext o; exact pn_pn _ _ o
        rw [this]; rfl
      · obtain ⟨rfl, hq⟩ := hy
        refine ⟨c0 + j + 1, rfl, by rw [List.length_append, h1]; rfl, fun z hz => ?_, by omega⟩
        rcases List.mem_append.mp hz with hz | hz
        · exact h2 z hz
        · rw [List.mem_singleton.mp hz]; exact hq
    · obtain ⟨h1, h2, rfl⟩ := hJ
      rw [hlen] at h1 ⊢
      exact ⟨acc, rfl, h1, h2, rfl⟩
end
end RS
end
section
set_option Elab.async false
set_option linter.all false
set_option autoImplicit false
set_option maxRecDepth 100000
set_option maxHeartbeats 2000000
/-! RS25: what raises. -/
namespace RS
open PySem PySem.Spec PyProof.Rows L2
/-- from this base on E takes an exception of class C with these fields -/
def TakesX (K : PySem.W.Frag) (C : Addr) (kvs : List (PyData × PyData)) (E : XK) (b : Bs) : Prop := ∀ (ρ : En) (σ : L2.St) (G H : Hp) (dd : Addr) (fs : List (Str × V)), SA K b G H σ ρ → H dd = some (.xd fs) → DFs K G fs kvs → E (.ref C) (some dd) H
/-- as Es, of a base that keeps X -/
def EsX (K : PySem.W.Frag) (X : Bs → Prop) (ts : TS) (ρ : En) (O : Out → Prop) : Prop := ∀ b G H σ D, SA K b G H σ ρ → To K b D O → X b → ts D σ H
section
variable {K : PySem.W.Frag} {X : Bs → Prop} {ρ : En} {O : Out → Prop} {te : TE} {ta : TA} {t u : TS} {tt : TT} {g : TG} {C : Addr} {x y : PyData} {f f2 : Str} {E : XK}
theorem Es.toX (h : Es K t ρ O) : EsX K X t ρ O := fun b G H σ D S T _ => h b G H σ D S T
theorem esx_seq {O1 : Out → Prop} (h1 : EsX K X t ρ O1) (h : ∀ ρ', O1 (.nx ρ') → EsX K X u ρ' O) (hr : ∀ ρ' x, O1 (.rt ρ' x) → O (.rt ρ' x)) (hb : ∀ ρ', O1 (.bk ρ') → O (.bk ρ')) (hc : ∀ ρ', O1 (.ct ρ') → O (.ct ρ')) : EsX K X (tSeq t u) ρ O := fun b G H σ D S T a =>
  h1 b G H σ _ S ⟨fun ρ' σ' G' H' o S' => h ρ' o b G' H' σ' D S' T a, fun ρ' x v σ' G' H' o S' d => T.rt ρ' x v σ' G' H' (hr _ _ o) S' d, fun ρ' σ' G' H' o S' => T.bk ρ' σ' G' H' (hb _ o) S', fun ρ' σ' G' H' o S' => T.ct ρ' σ' G' H' (hc _ o) S'⟩ a
/-- what the first statement's outcomes must be -/
def ThenX (K : PySem.W.Frag) (X : Bs → Prop) (u : TS) (O : Out → Prop) : Out → Prop
  | .nx ρ => EsX K X u ρ O
  | o => O o
theorem esx_then (h1 : EsX K X t ρ (ThenX K X u O)) : EsX K X (tSeq t u) ρ O := esx_seq h1 (fun _ h => h) (fun _ _ h => h) (fun _ h => h) fun _ h => h
theorem esx_if {c : Bool} (h : Eb K tt ρ c) (h1 : c = true → EsX K X t ρ O) (h2 : c = false → EsX K X u ρ O) : EsX K X (tIfS tt t u) ρ O := fun b G H σ D S T a =>
  h b G H σ S _ fun x ρ1 G1 H1 e S1 => by
    obtain ⟨rfl, rfl⟩ := e
    cases x with
    | true =>
      show t D σ H1
      exact h1 rfl b G1 H1 σ D S1 T a
    | false =>
      show u D σ H1
      exact h2 rfl b G1 H1 σ D S1 T a
theorem eqx_if {c : Bool} {w : TS} (h : Eb K tt ρ c) (h1 : c = true → EsX K X t ρ (ThenX K X w O)) (h2 : c = false → EsX K X u ρ (ThenX K X w O)) : EsX K X (tSeq (tIfS tt t u) w) ρ O := esx_then (esx_if h h1 h2)
/-- raise C(x), C keeping one field -/
def tRs (C : Addr) (sp : Sp) (E : XK) (ta : TA) : TS := fun _ σ H => tMkO C sp [] ta σ H fun cls d H' => E cls d H'
theorem esx_raise1 (T : OexC K C) (hno : PySem.W.findIn K (.ref C) f = some none) (h : Ea K ta ρ [x]) : EsX K (TakesX K C [(.str f, x)] E) (tRs C (spIni1 K C f) E ta) ρ O := fun b G H σ D S _ hx =>
  h b G H σ S _ fun vs xs ρ1 G1 H1 e S1 d1 => by
    obtain ⟨rfl, rfl⟩ := e
    obtain ⟨v, rfl, dv⟩ := d1.one
    refine ⟨by show 1 ≤ 1000; decide, fun a ha => ⟨a, v, rfl, upd_same, T, hno, fun dx hdx ne => ⟨rfl, dx, [(f, v)], upd_same, by rw [upd_ne ne]; exact upd_same, by rw [upd_ne ne] at hdx; exact hdx, ?_⟩⟩⟩
    have hd2 : H1 dx = none := by rw [upd_ne ne] at hdx; exact hdx
    have e : upd (del (upd (upd (upd H1 a (exo a C none)) dx (exd dx [(f, v)])) a (exo a C (some dx))) a) dx (.xd [(f, v)]) = upd H1 dx (.xd [(f, v)]) := by
      funext c
      by_cases hc : c = dx
      · rw [hc, upd_same, upd_same]
      · rw [upd_ne hc, upd_ne hc]
        by_cases h2 : c = a
        · rw [h2, del_same, ha]
        · rw [del_ne h2, upd_ne h2, upd_ne hc, upd_ne h2]
    rw [e]
    have st := Step.layH S1.sub (.xd [(f, v)]) hd2
    exact hx ρ1 σ G1 _ dx [(f, v)] (S1.step st) upd_same (.cons dv .nil)
theorem esx_raise2 (T : OexC K C) (hno : PySem.W.findIn K (.ref C) f = some none) (hno2 : PySem.W.findIn K (.ref C) f2 = some none) (h : Ea K ta ρ [x, y]) : EsX K (TakesX K C [(.str f2, y), (.str f, x)] E) (tRs C (spIni2 K C f f2) E ta) ρ O := fun b G H σ D S _ hx =>
  h b G H σ S _ fun vs xs ρ1 G1 H1 e S1 d1 => by
    obtain ⟨rfl, rfl⟩ := e
    obtain ⟨v, w, rfl, dv, dw⟩ := d1.two
    refine ⟨by show 2 ≤ 1000; decide, fun a ha => ⟨a, v, w, rfl, upd_same, T, hno, hno2, fun dx hdx ne => ⟨rfl, dx, [(f2, w), (f, v)], by rw [upd_ne (Ne.symm ne), upd_same], upd_same, by rw [upd_ne ne] at hdx; exact hdx, ?_⟩⟩⟩
    have hd2 : H1 dx = none := by rw [upd_ne ne] at hdx; exact hdx
    have e : upd (del (upd (upd (upd (upd H1 a (exo a C none)) dx (exd dx [(f, v)])) a (exo a C (some dx))) dx (exd dx [(f2, w), (f, v)])) a) dx (.xd [(f2, w), (f, v)]) = upd H1 dx (.xd [(f2, w), (f, v)]) := by
      funext c
      by_cases hc : c = dx
      · rw [hc, upd_same, upd_same]
      · rw [upd_ne hc, upd_ne hc]
        by_cases h2 : c = a
        · rw [h2, del_same, ha]
        · rw [del_ne h2, upd_ne hc, upd_ne h2, upd_ne hc, upd_ne h2]
    rw [e]
    have st := Step.layH S1.sub (.xd [(f2, w), (f, v)]) hd2
    exact hx ρ1 σ G1 _ dx [(f2, w), (f, v)] (S1.step st) upd_same (.cons dw (.cons dv .nil))
theorem esx_for {wi : TI} {tb : TS} {xs : List PyData} (h : Ei K wi ρ xs) (I : Nat → En → Prop) (h0 : I 0 ρ) (hs : ∀ i x ρ', xs[i]? = some x → I i ρ' → ∃ js ρ2, Eg K g js ρ' x ρ2 ∧ EsX K X tb ρ2 (LoopO I O i)) (hd : ∀ ρ', I xs.length ρ' → O (.nx ρ'))
    (hX : ∀ b G H σ ρ, SA K b G H σ ρ → X b → X (b.here G H σ ρ)) : EsX K X (tFor wi g tb) ρ O := fun b G H σ D S T a =>
  h b G H σ S _ fun J ρ1 zs G1 H1 hr S1 w => by
    obtain ⟨rfl, rfl⟩ := hr
    refine ⟨fun i m σ' H' => m = zs.length - i ∧ i ≤ zs.length ∧ ∃ ρ' G', I i ρ' ∧ SA K b G' H' σ' ρ' ∧ Sub G1 G', ⟨zs.length, rfl, Nat.zero_le _, ρ1, G1, h0, S1, Sub.refl G1⟩, ?_⟩
    rintro i m σ' H' ⟨rfl, hi, ρ', G', hI, S', g1⟩
    by_cases hlt : i < zs.length
    · refine .inr ⟨w.go i G' H' g1 S'.sub hlt, fun σ2 H2 => i + 1 ≤ zs.length ∧ ∃ ρ2 G2, I (i + 1) ρ2 ∧ SA K b G2 H2 σ2 ρ2 ∧ Sub G1 G2, fun σ2 H2 p => ⟨zs.length - (i + 1), by omega, rfl, p.1, p.2⟩, fun v H2 y => ?_⟩
      obtain ⟨G2, st, dv⟩ := w.yld i G' H' v H2 g1 S'.sub y zs[i] (List.getElem?_eq_getElem hlt)
      obtain ⟨js, ρ2, hg, hb⟩ := hs i zs[i] ρ' (List.getElem?_eq_getElem hlt) hI
      have S2 := S'.step st
      refine hg _ G2 H2 σ' v S2.here dv _ fun σ3 S3 _ => hb _ G2 H2 σ3 _ S3 ⟨fun ρ4 σ4 G4 H4 o S4 => ?_, fun ρ4 x v4 σ4 G4 H4 o S4 d4 => ?_, fun ρ4 σ4 G4 H4 o S4 => ?_, fun ρ4 σ4 G4 H4 o S4 => ?_⟩ (hX b G2 H2 σ' ρ' S2 a)
      · exact ⟨hlt, ρ4, G4, o, S2.back S4, (g1.trans st.gg).trans S4.gg⟩
      · exact T.rt ρ4 x v4 σ4 G4 H4 o (S2.back S4) d4
      · exact T.nx ρ4 σ4 G4 H4 o (S2.back S4)
      · exact ⟨hlt, ρ4, G4, o, S2.back S4, (g1.trans st.gg).trans S4.gg⟩
    · have e : i = zs.length := by omega
      subst e
      exact .inl ⟨w.stop _ G' H' g1 S'.sub rfl, T.nx ρ' σ' G' H' (hd ρ' hI) S'⟩
theorem TakesX.here {kvs : List (PyData × PyData)} {b : Bs} {G H : Hp} {σ : L2.St} (S : SA K b G H σ ρ) (h : TakesX K C kvs E b) : TakesX K C kvs E (b.here G H σ ρ) := fun ρ2 σ2 G2 H2 dd fs S2 e d => h ρ2 σ2 G2 H2 dd fs (S.back S2) e d
end
/-- the promise of a def that raises -/
def spX (K : PySem.W.Frag) (n : Nat) (Pre : List PyData → Prop) (C : Addr) (kv : List PyData → List (PyData × PyData)) : Sp := fun vs H _ E => ∃ G ds, Sub G H ∧ DAs K G vs ds ∧ ds.length = n ∧ Pre ds ∧
  ∀ G2 H2 dd fs, Step G H G2 H2 → H2 dd = some (.xd fs) → DFs K G2 fs (kv ds) → E (.ref C) (some dd) H2
section
variable {P : Program} {w : World} {K : PySem.W.Frag} {mg : Str → Option Value} {base : Heap}
theorem fn_raise {x qual : Str} {st : Stmt} {f : Addr} {fd : FuncData} {N ps : List Str} {k : Nat} {Pre : List PyData → Prop} {C : Addr} {kv : List PyData → List (PyData × PyData)} (F : Fun K x qual st f fd) (S : FnScope N ps (defScope st))
    (hb : ∀ (cdv : Value) (A : Around) (outer : List PySem.Env) (s : Shared) (H : Hp) (E : XK), Room k (A.deeper (PyProof.Rows.envOfC qual (defScope st) s.heap.objs.size f cdv)) →
      ∃ t, PSs (cxOf (L2.CX P w) P w K mg base N qual (defScope st) f cdv A outer s H E) (defBody st) t ∧ ∀ ds, ds.length = ps.length → Pre ds → EsX K (TakesX K C (kv ds) E) t (startE N ds) fun _ => False) :
    FnOk P w K mg base (L2.CX P w) (k + 1) f fd ps (spX K ps.length Pre C kv) := by
  refine F.okX S (fun vs H Q E h => ?_) (fun cdv A outer s H vs Q E hr h => ?_)
  · obtain ⟨G, ds, _, d, hl, _⟩ := h
    rw [d.length, hl]
  · obtain ⟨t, ht, hs⟩ := hb cdv A outer s H E hr
    obtain ⟨G, ds, sub, d, hl, hp, q⟩ := h
    exact ⟨t, ht, hs ds hl hp _ G H _ _ (sa_start sub d) ⟨fun _ _ _ _ o => o.elim, fun _ _ _ _ _ _ o => o.elim, fun _ _ _ _ o => o.elim, fun _ _ _ _ o => o.elim⟩ fun ρ σ G2 H2 dd fs S2 e d2 => q G2 H2 dd fs ⟨S2.gg, S2.sub, S2.keep, S2.new⟩ e d2⟩
/-- raise C(..), C an own class with its own __init__ -/
theorem ps_raiseX {X : Cx} {W : WX} {x : Str} {C : Addr} {ps : List Str} {sp : Sp} {e : Expr} {es : List Expr} {ta : TA} {p pos pos2 : Pos} (hc : X.calm = true) (tk : Takes X W) (M : MkX X.prog X.w X.K X.mg X.base x C ps sp) (hr : Room 2 X.A) (ha : PA X (e :: es) ta) (hg : Gl X x := by rfl)
    (hdb : (x == ("__debug__" : Str)) = false := by decide) (he : starEach (e :: es) X.env = (false, eval e X.env) :: starEach es X.env := by rfl) (hpl : (backTo pos (starEach es X.env)).any (·.1) = false := by rfl) :
    PS X (.Raise (some (.Call (.Name x p) (e :: es) [] pos)) none pos2) (fun _ σ H => tMkO C sp [] ta σ H fun cls d H' => W cls d σ H') := by
  obtain ⟨fI, fd, h1, h2, h3, h4⟩ := M.i
  exact ps_raise hc tk (pmk_oex M.xc.o h1 h2 h3 hr h4 .nil (fun _ _ _ _ _ _ _ z => z.elim) hg M.m ha hdb he hpl)
end
end RS
end
section
set_option Elab.async false
set_option linter.all false
set_option autoImplicit false
set_option maxRecDepth 100000
set_option maxHeartbeats 2000000
/-! RS26: several except clauses with a name. -/
namespace RS
open PySem PySem.Spec PyProof.Rows L2
abbrev Sui := Addr → Value → Option Addr → TS
/-- the ends of a suite with a name in slot i -/
abbrev endsA (i : Nat) (D : Ends) : Ends := ⟨fun τ J => D.nx (τ.set i none) J, D.rt, fun τ J => D.bk (τ.set i none) J, fun τ J => D.ct (τ.set i none) J⟩
def wAsM (K : PySem.W.Frag) (i : Nat) (Wo : WX) (D : Ends) : List (Value × Sui) → WX
  | [] => Wo
  | p :: r => fun cls d τ J => ∃ y, PySem.W.exmOne K cls p.1 = some y ∧ (y = true → ∀ a, J a = none → p.2 a cls d (endsA i D) (τ.set i (some (.ref a))) J) ∧ (y = false → wAsM K i Wo D r cls d τ J)
inductive HdsA (X : Cx) (n : Str) : List ExceptHandler → List (Value × Sui) → Prop
  | nil : HdsA X n [] []
  | cons {x : Str} {c : Value} {ts : Sui} {b₀ : Stmt} {suite : List Stmt} {np pp : Pos} {hds : List ExceptHandler} {l : List (Value × Sui)} (nm : Names X x c)
      (su : ∀ (a : Addr) (oe : Obj) (cls : Value) (d : Option Addr) (pn : List (Addr × Obj)), Zc cls d oe → (∃ vs, oe.data = .fields vs) → PSs (X.suite a ((a, oe) :: pn)) (b₀ :: suite) (ts a cls d)) (r : HdsA X n hds l) :
      HdsA X n (.ExceptHandler (some (.Name x np)) (some n) (b₀ :: suite) pp :: hds) ((c, ts) :: l)
section
variable {X : Cx} {n : Str} {i : Nat} {body : List Stmt} {h₀ : ExceptHandler} {hds : List ExceptHandler} {l : List (Value × Sui)} {pos : Pos} {tb : WX → TS} {Wo : WX}
theorem frs_not {B h : Heap} {l : List PySem.Env} {a : Addr} {o : Obj} {vs : Array Value} (ff : h.FunFrames B l) (e : h.get? a = some o) (dd : o.data = .fields vs) : a ∉ frs l := fun m => by
  obtain ⟨_, o2, e2, nf⟩ := ff.mem m
  rw [e] at e2
  injection e2 with e2
  subst e2
  exact nf _ dd
theorem ps_try_manyA (hs : X.stack = X.env :: X.outer) (hf : X.env.frame = some X.env.locals) (hN : X.N.Nodup) (hi : X.N[i]? = some n) (hln : X.env.kindOf n = some .local) (tk : Takes X Wo)
    (hb : ∀ (W : WX) (pn : List (Addr × Obj)) (xe : Value → Shared → Prop), Takes (X.tr pn xe) W → PassesOwn (model X.prog X.w) X.A X.env xe → PSs (X.tr pn xe) body (tb W))
    (hh : HdsA X n (h₀ :: hds) l) : PS X (.Try body (h₀ :: hds) [] [] pos) (fun D σ H => tb (wAsM X.K i Wo D l) D σ H) := by
  constructor
  intro pins s σ H D I hyp
  have good := I.ok
  have frm : X.A.frames = some (X.env :: X.outer) := by rw [good.frames, hs]
  have own : Loc X.env.scope n := .inl hln
  apply wpAny_Try_except
  refine wpAny_mono ((hb (wAsM X.K i Wo D l) (X.pn ++ pins) (fun ev z1 => wpAny (model X.prog X.w) X.A (noteFrame ev X.env) (fun _ z2 => wpAny (model X.prog X.w) X.A (setFlight ev none) (fun _ z3 => wpAny (model X.prog X.w) X.A (handleBy ev X.env (h₀ :: hds)) (SP X pins D) X.xe z3) X.xe z2) X.xe z1) (fun ev z hx => ?_) PassesOwn.looking).run [] s σ H D (I.toTry _) hyp) (fun fl z1 sp => ?_) (fun ev z1 q => q)
  · obtain ⟨a, B, sJ, pins2, τ, J, cls, d, rfl, K0, nb, up, sky, na, os, ag, wish⟩ := hx
    have K1 : Inv X pins τ J sJ := K0.ofTry good
    rw [hs] at sky
    show wpAny (model X.prog X.w) X.A (noteFrame (.ref a) X.env) _ _ _
    refine Sky.land Zc.steady frm hf sky fun g3 fly3 up3 => ?_
    have K3 : Inv X pins τ J { z with heap := g3 } := K1.landed nb fly3.1 (up.trans up3) os ag
    obtain ⟨oe3, vs3, at3, z3, dat3⟩ := fly3.there
    have off := frs_not fly3.2.2.1 at3 dat3
    have offL : a ≠ X.env.locals := fun q => off (List.mem_filterMap.mpr ⟨X.env, List.mem_cons_self, by rw [hf, q]⟩)
    have offF : a ∉ X.fs := fun m => by
      obtain ⟨ev, m1, m2⟩ := List.mem_filterMap.mp m
      exact off (List.mem_filterMap.mpr ⟨ev, List.mem_cons_of_mem _ m1, m2⟩)
    have K4 := K3.suite at3 dat3 na offL offF
    have run : ∀ {hs2 : List ExceptHandler} {l2 : List (Value × Sui)}, HdsA X n hs2 l2 → wAsM X.K i Wo D l2 cls d τ J → wpAny (model X.prog X.w) X.A (handleBy (.ref a) X.env hs2) (SP X pins D) X.xe { z with heap := g3 } := by
      intro hs2 l2 ok2
      induction ok2 with
      | nil =>
        intro wi
        apply wpAny_handleBy_nil
        obtain ⟨_, _, _, o9, v9, T9, _, _, at9, _, dat9, one9, _⟩ := id fly3
        unfold PySem.passOn
        refine wpAny_bind (wpAny_field at9 dat9 one9 ?_)
        rw [if_neg (by simp)]
        have last : wpAny (model X.prog X.w) X.A (setFlight (.ref a) X.env.frame) (fun _ z4 => wpAny (model X.prog X.w) X.A (throw (.ref a) : Sem Flow) (SP X pins D) X.xe z4) X.xe { z with heap := g3 } := by
          rw [hf]
          exact HandSPX.setFlight_upZ fly3 fun g4 fly4 up4 => wpAny_throw (tk _ _ ⟨a, B, sJ, pins, τ, J, cls, d, rfl, K1, nb, (up.trans up3).trans up4, .inr (.inr (by rw [hs]; exact fly4)), na, os, ag, wi⟩)
        first | exact wpAny_bind (wpAny_pure (wpAny_bind last)) | exact wpAny_bind last
      | @cons x c ts b₀ su2 np pp hs3 l3 nm su _ ih =>
        intro wi
        obtain ⟨y, y1, y2, y3⟩ := wi
        refine wpAny_handleBy_cons (codeAny_handlers_test ?_) (by intro q; cases q)
        have cl : PySem.W.Looks (model X.prog X.w) g3 (typeOf (.ref a)) cls := fun A Q E s5 k5 q => wpAny_typeOf_ref (k5 _ _ at3) (by rw [z3.1]; exact q)
        have say : ∀ {Q E : Value → Shared → Prop}, Q c { z with heap := g3 } → wpAny (model X.prog X.w) (X.A.mark (some (.ref a))) (eval (.Name x np) X.env) Q E { z with heap := g3 } := fun {Q E} q => by
          obtain ⟨n1, n2, n3 | ⟨n3, n4, n5⟩⟩ := nm
          · exact ld_glob (X := X.suite a ((a, oe3) :: (X.pn ++ pins))) K4 n1 n3 q n2
          · exact ld_blt (X := X.suite a ((a, oe3) :: (X.pn ++ pins))) K4 n1 n3 n4 q n5 n2
        refine say ((PySem.W.exm_one (M := model X.prog X.w) (K3.kIn) cl y1).here ?_)
        cases y with
        | false =>
          show wpAny _ X.A (handleBy (.ref a) X.env hs3) _ _ _
          exact ih (y3 rfl)
        | true =>
          apply codeAny_handlers_suite_as
          refine HandSPX.lands_againZ fly3 fun g4 fly4 up4 => ?_
          have K5 : Inv X pins τ J { z with heap := g4 } := K1.landed nb fly4.1 ((up.trans up3).trans up4) os ag
          obtain ⟨oe4, vs4, at4, z4, dat4⟩ := fly4.there
          have K6 := K5.suite at4 dat4 na offL offF
          refine store_ok (X := X.suite a ((a, oe4) :: (X.pn ++ pins))) (v := .ref a) K6 hN hi own rfl (fun s5 K7 => ?_) (.inr hln)
          refine wpAny_mono ((su a oe4 cls d (X.pn ++ pins) z4 ⟨_, dat4⟩).run [] s5 _ J _ K7 (y2 rfl a na)) (fun fl s6 hsp => ?_) (fun _ _ q => q.elim)
          have away : ∀ {τ6 : L2.St} {J6 : Hp} {Q : Shared → Prop}, Inv (X.suite a ((a, oe4) :: (X.pn ++ pins))) [] τ6 J6 s6 → (∀ s7, Inv X pins (τ6.set i none) J6 s7 → Q s7) → wpAny (model X.prog X.w) X.A (do bindName X.env n .none; unbindBehindTheSuite X.env n pp) (fun _ s7 => Q s7) X.xe s6 := fun {τ6 J6 Q} K8 q => gone_ok (K8.unsuite good) hN hi hln q
          match fl, hsp with
          | .next, ⟨_, _, K8, q⟩ => exact away K8 fun s7 K9 => ⟨_, _, K9, q⟩
          | .brk, ⟨_, _, K8, q⟩ => exact away K8 fun s7 K9 => ⟨_, _, K9, q⟩
          | .cont, ⟨_, _, K8, q⟩ => exact away K8 fun s7 K9 => ⟨_, _, K9, q⟩
          | .ret u, ⟨_, _, _, K8, rv, q⟩ => exact away K8 fun s7 K9 => ⟨_, _, _, K9, rv, q⟩
    exact run hh wish
  · match fl, sp with
    | .next, ⟨τ, J, K9, q⟩ => exact wpAny_execs_nil ⟨τ, J, K9.ofTry good, q⟩
    | .brk, ⟨τ, J, K9, q⟩ => exact ⟨τ, J, K9.ofTry good, q⟩
    | .cont, ⟨τ, J, K9, q⟩ => exact ⟨τ, J, K9.ofTry good, q⟩
    | .ret u, ⟨v, τ, J, K9, rv, q⟩ => exact ⟨v, τ, J, K9.ofTry good, rv, q⟩
end
end RS
end
section
set_option Elab.async false
set_option linter.all false
set_option autoImplicit false
set_option maxRecDepth 100000
set_option maxHeartbeats 2000000
/-! RS27: a call that is handed over as a lambda, and told of what it raised. -/
namespace RS
open PySem PySem.Spec PyProof.Rows L2
theorem Takes.len {X : Cx} {W : WX} (tk : Takes X W) : Takes X fun cls d σ H => σ.length = X.N.length → W cls d σ H := fun u s' x => by
  obtain ⟨a, B, sI, pins, σ, H, cls, d, e, I, h1, h2, h3, h4, h5, h6, w⟩ := x
  exact tk u s' ⟨a, B, sI, pins, σ, H, cls, d, e, I, h1, h2, h3, h4, h5, h6, w I.len⟩
/-- an except clause: its class, the word that it tells, the fields behind it -/
abbrev Cl := Addr × Str × List Str
def flT (a : Addr) (cls : Value) (d : Option Addr) (C : Addr) : List Str → TA
  | [] => tNil
  | f :: r => tCons (tXf a cls d C f (tVar 1)) (flT a cls d C r)
/-- return (word, e.f, ..) -/
def suiT (p : Cl) : Sui := fun a cls d => tRet (tTup (tCons (tC (.str p.2.1)) (flT a cls d p.1 p.2.2)))
def suis (tab : List Cl) : List (Value × Sui) := tab.map fun p => (.ref p.1, suiT p)
inductive Lks (fs : List (Str × V)) : List Str → List V → Prop
  | nil : Lks fs [] []
  | cons {f : Str} {v : V} {fl : List Str} {vs : List V} : fs.lookup f = some v → Lks fs fl vs → Lks fs (f :: fl) (v :: vs)
structure TabOk (K : PySem.W.Frag) (tab : List Cl) : Prop where
  exm : ∀ p ∈ tab, ∀ q ∈ tab, PySem.W.exmOne K (.ref p.1) (.ref q.1) = some (decide (p.1 = q.1))
  one : ∀ p ∈ tab, ∀ q ∈ tab, p.1 = q.1 → p = q
def Told (tab : List Cl) (Q : VK) : XK := fun cls d H => ∃ p vs dd fs, p ∈ tab ∧ cls = .ref p.1 ∧ d = some dd ∧ H dd = some (.xd fs) ∧ Lks fs p.2.2 vs ∧ vs.length ≤ 100 ∧ ∀ x, H x = none → Q (.ref x) (upd H x (.tup (.str p.2.1 :: vs)))
def TTw (tab : List Cl) : (XK → Hp → VK → Prop) → Hp → VK → Prop := fun tl H Q => tl (Told tab Q) H fun _ H' => Q .non H'
theorem flT_ok {a dd C : Addr} {fs : List (Str × V)} {σ : L2.St} {H : Hp} (h1 : σ[1]? = some (some (.ref a))) (hd : H dd = some (.xd fs)) : ∀ {fl : List Str} {vs : List V} {Q : List V → Hp → Prop}, Lks fs fl vs → Q vs H → flT a (.ref C) (some dd) C fl σ H Q
  | _, _, _, .nil, q => q
  | _, _, _, .cons e r, q => ⟨.ref a, h1, rfl, rfl, dd, fs, _, rfl, hd, e, flT_ok h1 hd r q⟩
theorem told_ok {K : PySem.W.Frag} {tab : List Cl} (ok : TabOk K tab) {Q : VK} {D : Ends} (hD : D.rt = Q) {Wo : WX} {cls : Value} {d : Option Addr} {σ : L2.St} {H : Hp} (hl : σ.length = 2) (h : Told tab Q cls d H) : wAsM K 1 Wo D (suis tab) cls d σ H := by
  obtain ⟨p, vs, dd, fs, hp, rfl, rfl, hd, lk, hv, q⟩ := h
  have key : ∀ l : List Cl, (∀ r ∈ l, r ∈ tab) → p ∈ l → wAsM K 1 Wo D (suis l) (.ref p.1) (some dd) σ H := by
    intro l
    induction l with
    | nil => intro _ m; cases m
    | cons r l ih =>
      intro sub m
      refine ⟨_, ok.exm p hp r (sub r List.mem_cons_self), fun y a ha => ?_, fun y => ?_⟩
      · obtain rfl : p = r := ok.one p hp r (sub r List.mem_cons_self) (of_decide_eq_true y)
        have hs : (σ.set 1 (some (.ref a)))[1]? = some (some (V.ref a)) := List.getElem?_set_self (by omega)
        show tTup (tCons (tC (.str p.2.1)) (flT a (.ref p.1) (some dd) p.1 p.2.2)) (σ.set 1 (some (.ref a))) H D.rt
        rw [hD]
        refine flT_ok hs hd lk ⟨?_, fun x hx => q x hx⟩
        rw [List.length_cons]
        exact Nat.le_of_lt (small1000 (by omega))
      · rcases List.mem_cons.mp m with e | m
        · rw [e, decide_eq_true rfl] at y; cases y
        · exact ih (fun r hr => sub r (List.mem_cons_of_mem _ hr)) m
  exact key tab (fun _ h => h) hp
/-! ### the tables of code objects -/
open LamX in
/-- what the law's own base keeps: its tables, no table among what stands for ever -/
structure LB (T : List (Addr × Str)) (b : Bs) : Prop where
  nt : ∀ a ps, b.G0 a ≠ some (.tbl ps)
  tb : ∀ p ∈ T, ∃ ps, b.P p.1 = some (.tbl ps) ∧ TriplesOk ps.toList ∧ ∀ (pos : Pos) (cv : Value), codeAmong pos ps.toList = some cv → ∃ c, cv = .ref c ∧ b.G0 c = some (CodeO c p.2)
section
variable {K : PySem.W.Frag} {T : List (Addr × Str)} {b : Bs} {G H H1 : Hp} {σ : L2.St} {ρ : En}
theorem LB.tabs (L : LB T b) (S : SA K b G H σ ρ) : LamX.Tabs T H := fun p hp => by
  obtain ⟨ps, h1, h2, h3⟩ := L.tb p hp
  refine ⟨ps, S.keep _ _ h1, h2, fun pos cv hc => ?_⟩
  obtain ⟨c, e, h⟩ := h3 pos cv hc
  exact ⟨c, e, S.sub _ _ (S.gg _ _ h)⟩
def IsTbl (o : Option HO) : Prop := ∃ ps, o = some (.tbl ps)
theorem isTbl_not {u : HO} (h : ∀ ps, u ≠ .tbl ps) : ¬ IsTbl (some u) := fun ⟨ps, e⟩ => h ps (Option.some.inj e)
/-- the codes that the tables of T tell -/
def CodeIn (T : List (Addr × Str)) (H1 : Hp) (c : Addr) : Prop := ∃ p ∈ T, H1 c = some (LamX.CodeO c p.2)
open Classical in
noncomputable def glH (T : List (Addr × Str)) (H1 G : Hp) : Hp := fun a => if G a ≠ none ∧ ¬ IsTbl (G a) then G a else if CodeIn T H1 a then H1 a else none
theorem gl_at {a : Addr} {o : HO} (h : G a = some o) (n : ∀ ps, o ≠ .tbl ps) : glH T H1 G a = some o := by
  unfold glH
  rw [if_pos ⟨by rw [h]; exact fun z => (nomatch z), by rw [h]; exact isTbl_not n⟩]
  exact h
theorem gl_of {a : Addr} {o : HO} (h : glH T H1 G a = some o) : (G a = some o ∧ ∀ ps, o ≠ .tbl ps) ∨ (H1 a = some o ∧ CodeIn T H1 a) := by
  unfold glH at h
  by_cases h1 : G a ≠ none ∧ ¬ IsTbl (G a)
  · rw [if_pos h1] at h
    exact .inl ⟨h, fun ps z => h1.2 ⟨ps, by rw [h, z]⟩⟩
  · rw [if_neg h1] at h
    by_cases h2 : CodeIn T H1 a
    · rw [if_pos h2] at h
      exact .inr ⟨h, h2⟩
    · rw [if_neg h2] at h
      cases h
theorem code_at {a : Addr} (h : CodeIn T H1 a) (n : G a = none) : glH T H1 G a = H1 a := by
  unfold glH
  rw [if_neg (fun z => z.1 n), if_pos h]
theorem gl_none {a : Addr} (n : G a = none) (h : ¬ CodeIn T H1 a) : glH T H1 G a = none := by
  unfold glH
  rw [if_neg (fun z => z.1 n), if_neg h]
theorem exd_tbl {e : Addr} {fs : List (Str × V)} (ps : Array Value) : exd e fs ≠ .tbl ps := fun z => by
  have z' : HO.ext _ = HO.tbl ps := z
  cases z'
mutual
theorem DA.gl : ∀ {v : V} {d : PyData}, DA K G v d → DA K (glH T H1 G) v d
  | _, _, .non => .non
  | _, _, .bl b => .bl b
  | _, _, .int i => .int i
  | _, _, .str x => .str x
  | _, _, .lst h r => .lst (gl_at h (fun _ z => nomatch z)) (DAs.gl r)
  | _, _, .tup h r => .tup (match h with
    | .inl (.inl h) => .inl (.inl (gl_at h (fun _ z => nomatch z)))
    | .inl (.inr ⟨o, h⟩) => .inl (.inr ⟨o, gl_at h (fun _ z => nomatch z)⟩)
    | .inr h => .inr h) (DAs.gl r)
  | _, _, .opq h => .opq (gl_at h (fun _ z => nomatch z))
  | _, _, .obj h c r => .obj (gl_at h (fun _ z => nomatch z)) c (DFs.gl r)
  | _, _, .exc h c r => .exc (gl_at h (fun _ => exo_tbl)) (gl_at c exd_tbl) (DFs.gl r)
  | _, _, .exn h => .exn (gl_at h (fun _ => exo_tbl))
  | _, _, .adr => .adr
theorem DAs.gl : ∀ {vs : List V} {ds : List PyData}, DAs K G vs ds → DAs K (glH T H1 G) vs ds
  | _, _, .nil => .nil
  | _, _, .cons h r => .cons (DA.gl h) (DAs.gl r)
theorem DFs.gl : ∀ {vs : List (Str × V)} {ds : List (PyData × PyData)}, DFs K G vs ds → DFs K (glH T H1 G) vs ds
  | _, _, .nil => .nil
  | _, _, .cons h r => .cons (DA.gl h) (DFs.gl r)
end
open Classical in
noncomputable def tbOf (H : Hp) : Hp := fun a => if IsTbl (H a) then H a else none
theorem tbOf_of {a : Addr} {o : HO} (h : tbOf H a = some o) : H a = some o ∧ IsTbl (H a) := by
  unfold tbOf at h
  by_cases e : IsTbl (H a)
  · rw [if_pos e] at h
    exact ⟨h, e⟩
  · rw [if_neg e] at h; cases h
theorem tbOf_no {a : Addr} (h : ¬ IsTbl (H a)) : tbOf H a = none := by
  unfold tbOf
  rw [if_neg h]
theorem tbOf_at {a : Addr} {ps : Array Value} (h : H a = some (.tbl ps)) : tbOf H a = some (.tbl ps) := by
  unfold tbOf
  rw [if_pos ⟨ps, h⟩, h]
theorem codeO_not {c : Addr} {q : Str} {u : HO} (h : ∀ φ, u ≠ .ext φ) : LamX.CodeO c q ≠ u := fun z => by
  unfold LamX.CodeO at z
  exact h _ z.symm
/-- nothing of one's own stands in a slot -/
def NoOw (ρ : En) : Prop := ∀ (i : Nat) (xs : List PyData), ρ[i]? ≠ some (some (.own xs))
/-- behind the making of a lambda: another base -/
theorem SA.relam (L : LB T b) (S : SA K b G H σ ρ) (no : NoOw ρ) (e : LamX.ExtN H H1) (t : LamX.Tabs T H1) : ∃ b', LB T b' ∧ SA K b' (glH T H1 G) H1 σ ρ := by
  have g1 : ∀ a o, G a = some o → (∀ ps, o ≠ .tbl ps) → H1 a = some o := fun a o h n => e a o (S.sub a o h) n
  have sub1 : Sub (glH T H1 G) H1 := fun a o h => by
    rcases gl_of h with ⟨h, n⟩ | ⟨h, _⟩
    · exact g1 a o h n
    · exact h
  have gg0 : Sub (glH T H1 b.G0) (glH T H1 G) := fun a o h => by
    rcases gl_of h with ⟨h, n⟩ | ⟨h, c⟩
    · exact gl_at (S.gg a o h) n
    · cases q : G a with
      | none => rw [code_at c q]; exact h
      | some u =>
        obtain ⟨p, hp, hc⟩ := c
        by_cases n : ∀ ps, u ≠ .tbl ps
        · rw [gl_at q n]
          rw [g1 a u q n] at h
          exact h
        · unfold glH
          have y : IsTbl (G a) := by
            rw [q]
            exact Classical.byContradiction fun z => n fun ps e2 => z ⟨ps, by rw [e2]⟩
          rw [if_neg (fun z => z.2 y), if_pos ⟨p, hp, hc⟩]
          exact h
  have noCode : ∀ a u, H1 a = some u → (∀ φ, u ≠ .ext φ) → ¬ CodeIn T H1 a := fun a u h n ⟨p, _, hc⟩ => by
    rw [h] at hc
    exact codeO_not n (Option.some.inj hc).symm
  have penx : ∀ (i c : Nat), ρ[i]? = some (some (Sl.pen c)) → ∃ p, σ[i]? = some (some (.ref p)) ∧ glH T H1 G p = none ∧ tbOf H1 p = none ∧ PenAt K (glH T H1 G) H1 p c := fun i c h => by
    obtain ⟨p, h1, h2, _, h4⟩ := S.pen i c h
    obtain ⟨kvs, ca, ns, a0, dg, ct, bl, k1, kp, k2, kr⟩ := h4.ex
    have k3 := e p _ k1 (fun _ z => nomatch z)
    exact ⟨p, h1, gl_none h2 (noCode p _ k3 fun _ z => nomatch z), tbOf_no (by rw [k3]; exact isTbl_not fun _ z => nomatch z), ⟨kvs, ca, ns, a0, dg, ct, bl, k3, kp, gl_at k2 (fun _ z => nomatch z), kr⟩⟩
  refine ⟨⟨glH T H1 b.G0, tbOf H1, fun a => tbOf H1 a ≠ none ∨ glH T H1 b.G0 a ≠ none, b.pp⟩, ⟨fun a ps z => ?_, fun p hp => ?_⟩, {
    sub := sub1
    gg := gg0
    new := fun a h q => ?_
    keep := fun a o h => (tbOf_of h).1
    trk := fun a q z => ?_
    ptr := fun a h => .inl h
    gtr := fun a h => .inr h
    dat := fun i x h => let ⟨v, h1, h2⟩ := S.dat i x h; ⟨v, h1, DA.gl h2⟩
    own := fun i xs h => absurd h (no i xs)
    sep := fun i j xs ys a h => absurd h (no i xs)
    pen := penx
    penp := S.penp
    onep := S.onep
    len := S.len }⟩
  · rcases gl_of z with ⟨z, _⟩ | ⟨z, p, _, hc⟩
    · exact L.nt a ps z
    · rw [z] at hc
      exact codeO_not (u := .tbl ps) (fun _ z => nomatch z) (Option.some.inj hc).symm
  · obtain ⟨ps, h1, h2, h3⟩ := t p hp
    refine ⟨ps, tbOf_at h1, h2, fun pos cv hc => ?_⟩
    obtain ⟨c, rfl, h4⟩ := h3 pos cv hc
    refine ⟨c, rfl, ?_⟩
    show glH T H1 b.G0 c = some (LamX.CodeO c p.2)
    cases q : b.G0 c with
    | none => rw [code_at ⟨p, hp, h4⟩ q]; exact h4
    | some u =>
      have n : ∀ ps, u ≠ .tbl ps := fun ps z => L.nt c ps (by rw [q, z])
      rw [gl_at q n]
      have z := g1 c u (S.gg c u q) n
      rw [h4] at z
      exact z.symm
  · rcases q with q | q
    · cases w : glH T H1 G a with
      | none => rfl
      | some o =>
        have z := sub1 a o w
        cases y : tbOf H1 a with
        | none => exact absurd y q
        | some u =>
          obtain ⟨y1, y2⟩ := tbOf_of y
          obtain ⟨ps, y3⟩ := y2
          rcases gl_of w with ⟨w1, n⟩ | ⟨w1, p, _, hc⟩
          · rw [z] at y3
            exact absurd (Option.some.inj y3) (n ps)
          · rw [y3] at hc
            exact absurd (Option.some.inj hc).symm (codeO_not (u := .tbl ps) fun _ z => nomatch z)
    · exact absurd h q
  · rcases q with q | q
    · cases y : tbOf H1 a with
      | none => exact q y
      | some u =>
        rw [(tbOf_of y).1] at z
        cases z
    · cases y : glH T H1 b.G0 a with
      | none => exact q y
      | some u =>
        have w := sub1 a u (gg0 a u y)
        rw [z] at w
        cases w
end
end RS
end
section
set_option Elab.async false
set_option linter.all false
set_option autoImplicit false
set_option maxRecDepth 100000
set_option maxHeartbeats 2000000
/-! RS28: readings over changing tables; the law itself. -/
namespace RS
open PySem PySem.Spec PyProof.Rows L2
section
variable (K : PySem.W.Frag) (T : List (Addr × Str))
def EvL (te : TE) (ρ : En) (R : En → PyData → Prop) : Prop := ∀ b G H σ, LB T b → SA K b G H σ ρ → ∀ Q : VK, (∀ b' v x ρ' G2 H2, LB T b' → R ρ' x → SA K b' G2 H2 σ ρ' → DA K G2 v x → Q v H2) → te σ H Q
def EtL (tt : TT) (ρ : En) (R : En → Bool → Prop) : Prop := ∀ b G H σ, LB T b → SA K b G H σ ρ → ∀ Q : Bool → Hp → Prop, (∀ b' x ρ' G2 H2, LB T b' → R ρ' x → SA K b' G2 H2 σ ρ' → Q x H2) → tt σ H Q
def EsL (ts : TS) (ρ : En) (O : Out → Prop) : Prop := ∀ b G H σ D, LB T b → SA K b G H σ ρ → (∀ b', LB T b' → To K b' D O) → ts D σ H
end
section
variable {K : PySem.W.Frag} {T : List (Addr × Str)} {ρ : En} {O : Out → Prop} {te tb : TE} {ta : TA} {tt : TT} {t u : TS} {g : TG} {x y z : PyData}
theorem Ev.l {R : En → PyData → Prop} (h : Ev K te ρ R) : EvL K T te ρ R := fun b G H σ L S Q q => h b G H σ S Q fun v x ρ' G2 H2 r S2 d => q b v x ρ' G2 H2 L r S2 d
theorem Es.l (h : Es K t ρ O) : EsL K T t ρ O := fun b G H σ D L S To => h b G H σ D S (To b L)
theorem evl_op {r : R2} {R1 : En → PyData → Prop} {R : En → PyData → Prop} {R2 : En → PyData → En → PyData → Prop} (h1 : EvL K T te ρ R1) (h2 : ∀ ρ1 x, R1 ρ1 x → Ev K tb ρ1 (R2 ρ1 x)) (hr : ∀ ρ1 x ρ2 y, R1 ρ1 x → R2 ρ1 x ρ2 y → ∃ z, RD K r x y z ∧ R ρ2 z) : EvL K T (tOp r te tb) ρ R := fun b G H σ L S Q q =>
  h1 b G H σ L S _ fun b1 v x ρ1 G1 H1 L1 r1 S1 d1 => (h2 ρ1 x r1).runG S1 fun w y ρ2 G2 H2 r2 S2 g d2 => by
    obtain ⟨z, rd, rz⟩ := hr ρ1 x ρ2 y r1 r2
    exact rd G2 H2 v w S2.sub (d1.mono g) d2 Q fun u G3 H3 st d3 => q b1 u z ρ2 G3 H3 L1 rz (S2.step st) d3
theorem etl_test {R1 : En → PyData → Prop} {R : En → Bool → Prop} (h : EvL K T te ρ R1) (hr : ∀ ρ1 x, R1 ρ1 x → ∃ c, x = .bool c ∧ R ρ1 c) : EtL K T (tTest te) ρ R := fun b G H σ L S Q q =>
  h b G H σ L S _ fun b1 v x ρ1 G1 H1 L1 r1 S1 d1 => by
    obtain ⟨c, rfl, rc⟩ := hr ρ1 x r1
    cases d1
    exact ⟨c, rfl, q b1 c ρ1 G1 H1 L1 rc S1⟩
theorem esl_if {R : En → Bool → Prop} (h : EtL K T tt ρ R) (h1 : ∀ ρ1, R ρ1 true → EsL K T t ρ1 O) (h2 : ∀ ρ1, R ρ1 false → EsL K T u ρ1 O) : EsL K T (tIfS tt t u) ρ O := fun b G H σ D L S To =>
  h b G H σ L S _ fun b1 x ρ1 G1 H1 L1 r1 S1 => by
    cases x with
    | true =>
      show t D σ H1
      exact h1 ρ1 r1 b1 G1 H1 σ D L1 S1 To
    | false =>
      show u D σ H1
      exact h2 ρ1 r1 b1 G1 H1 σ D L1 S1 To
/-- what the first statement's outcomes must be -/
def ThenL (K : PySem.W.Frag) (T : List (Addr × Str)) (u : TS) (O : Out → Prop) : Out → Prop
  | .nx ρ => EsL K T u ρ O
  | o => O o
theorem esl_then (h : EsL K T t ρ (ThenL K T u O)) : EsL K T (tSeq t u) ρ O := fun b G H σ D L S To => h b G H σ _ L S fun b1 L1 =>
  ⟨fun ρ' σ' G' H' o S' => o b1 G' H' σ' D L1 S' To, fun ρ' x v σ' G' H' o S' d => (To b1 L1).rt ρ' x v σ' G' H' o S' d, fun ρ' σ' G' H' o S' => (To b1 L1).bk ρ' σ' G' H' o S', fun ρ' σ' G' H' o S' => (To b1 L1).ct ρ' σ' G' H' o S'⟩
theorem LB.here {b : Bs} {G H : Hp} {σ : L2.St} (L : LB T b) (S : SA K b G H σ ρ) : ∃ b', LB T b' ∧ b'.P = b.P ∧ b'.T = b.T ∧ b'.pp = b.pp := ⟨b, L, rfl, rfl, rfl⟩
/-- a base moved on to where a loop's turn stands: G0 stays -/
theorem esl_for {wi : TI} {ts : TS} {R : En → List PyData → Prop} (h : EI K wi ρ R) (k : ∀ ρ1 xs, R ρ1 xs → ∃ I : Nat → En → Prop, I 0 ρ1 ∧ (∀ i x ρ', xs[i]? = some x → I i ρ' → ∃ js ρ2, Eg K g js ρ' x ρ2 ∧ EsL K T ts ρ2 (LoopO I O i)) ∧ ∀ ρ', I xs.length ρ' → O (.nx ρ'))
    (rng : ∀ (b : Bs) (G H : Hp) (σ : L2.St), SA K b G H σ ρ → ∀ (Q : It → Hp → Prop), (∀ J ρ1 xs G1 H1, R ρ1 xs → SA K b G1 H1 σ ρ1 → (∀ G', Walks K J G' xs) → Q J H1) → wi σ H Q) : EsL K T (tFor wi g ts) ρ O := fun b G H σ D L S To =>
  rng b G H σ S _ fun J ρ1 xs G1 H1 hr S1 w => by
    obtain ⟨I, i0, hs, hd⟩ := k ρ1 xs hr
    refine ⟨fun i m σ' H' => m = xs.length - i ∧ i ≤ xs.length ∧ ∃ b' ρ' G', LB T b' ∧ I i ρ' ∧ SA K b' G' H' σ' ρ', ⟨xs.length, rfl, Nat.zero_le _, b, ρ1, G1, L, i0, S1⟩, ?_⟩
    rintro i m σ' H' ⟨rfl, hi, b', ρ', G', L', hI, S'⟩
    by_cases hlt : i < xs.length
    · refine .inr ⟨(w G').go i G' H' (Sub.refl G') S'.sub hlt, fun σ2 H2 => i + 1 ≤ xs.length ∧ ∃ b2 ρ2 G2, LB T b2 ∧ I (i + 1) ρ2 ∧ SA K b2 G2 H2 σ2 ρ2, fun σ2 H2 p => ⟨xs.length - (i + 1), by omega, rfl, p.1, p.2⟩, fun v H2 y => ?_⟩
      obtain ⟨G2, st, dv⟩ := (w G').yld i G' H' v H2 (Sub.refl G') S'.sub y xs[i] (List.getElem?_eq_getElem hlt)
      obtain ⟨js, ρ2, hg, hb⟩ := hs i xs[i] ρ' (List.getElem?_eq_getElem hlt) hI
      have S2 := S'.step st
      refine hg _ G2 H2 σ' v S2 dv _ fun σ3 S3 _ => hb _ G2 H2 σ3 _ L' S3 fun b3 L3 => ⟨fun ρ4 σ4 G4 H4 o S4 => ⟨hlt, b3, ρ4, G4, L3, o, S4⟩, fun ρ4 x v4 σ4 G4 H4 o S4 d4 => (To b3 L3).rt ρ4 x v4 σ4 G4 H4 o S4 d4, fun ρ4 σ4 G4 H4 o S4 => (To b3 L3).nx ρ4 σ4 G4 H4 o S4, fun ρ4 σ4 G4 H4 o S4 => ⟨hlt, b3, ρ4, G4, L3, o, S4⟩⟩
    · have e : i = xs.length := by omega
      subst e
      exact .inl ⟨(w G').stop _ G' H' (Sub.refl G') S'.sub rfl, (To b' L').nx ρ' σ' G' H' (hd ρ' hI) S'⟩
/-- over range(n) -/
theorem esl_rng {ts : TS} {n : Nat} (h : Ea K ta ρ [.int (n : Nat)]) (hn : n ≤ 1000) (I : Nat → En → Prop) (h0 : I 0 ρ) (hs : ∀ i ρ', i < n → I i ρ' → ∃ js ρ2, Eg K g js ρ' (.int (i : Nat)) ρ2 ∧ EsL K T ts ρ2 (LoopO I O i)) (hd : ∀ ρ', I n ρ' → O (.nx ρ')) : EsL K T (tFor (iRng1 ta) g ts) ρ O := by
  refine esl_for (R := fun ρ1 xs => ρ1 = ρ ∧ xs = rgD n) ?_ (fun ρ1 xs e => ?_) fun b G H σ S Q q => ?_
  · have e := ei_rng1 h (by omega) (by omega)
    rw [Int.toNat_natCast] at e
    exact e
  · obtain ⟨rfl, rfl⟩ := e
    refine ⟨I, h0, fun i x ρ' hx hI => ?_, fun ρ' hI => hd ρ' (by rw [rgD_len] at hI; exact hI)⟩
    obtain ⟨rfl, hlt⟩ := rgD_get hx
    exact hs i ρ' hlt hI
  · refine h b G H σ S _ fun vs xs ρ1 G1 H1 e S1 d1 => ?_
    obtain ⟨rfl, rfl⟩ := e
    obtain ⟨v, rfl, dv⟩ := d1.one
    cases dv
    refine ⟨(n : Int), rfl, by omega, by omega, ?_⟩
    rw [Int.toNat_natCast]
    refine q (Itr 0 n) ρ1 (rgD n) G1 H1 ⟨rfl, rfl⟩ S1 fun G' => ?_
    have w := walks_range (K := K) (lo := 0) (n := n) (G0 := G')
    have e : ((List.range n).map fun i => PyData.int (0 + (i : Nat))) = rgD n := by
      unfold rgD
      exact List.map_congr_left fun i _ => by rw [Int.zero_add]
    rw [e] at w
    exact w
/-- the fields that a clause tells -/
def OutsOk (kvs : List (PyData × PyData)) : List Str → List PyData → Prop
  | [], [] => True
  | f :: fl, x :: xs => fldD f kvs = some x ∧ OutsOk kvs fl xs
  | _, _ => False
theorem outs_lks {G : Hp} {fs : List (Str × V)} {kvs : List (PyData × PyData)} (h : DFs K G fs kvs) : ∀ {fl : List Str} {xs : List PyData}, OutsOk kvs fl xs → ∃ vs, Lks fs fl vs ∧ DAs K G vs xs ∧ vs.length = fl.length
  | [], [], _ => ⟨[], .nil, .nil, rfl⟩
  | f :: fl, x :: xs, ⟨h1, h2⟩ => by
    obtain ⟨v, e, d⟩ := DFs.look h h1
    obtain ⟨vs, l, ds, n⟩ := outs_lks h h2
    exact ⟨v :: vs, .cons e l, .cons d ds, by rw [List.length_cons, List.length_cons, n]⟩
/-- the lambda's call raises -/
theorem evl_lamX {tab : List Cl} {n : Nat} {Pre : List PyData → Prop} {C : Addr} {kv : List PyData → List (PyData × PyData)} {ds outs : List PyData} {w : Str} {fl : List Str} (no : NoOw ρ) (h : Ea K ta ρ ds) (hn : ds.length = n) (hp : Pre ds) (mem : (C, w, fl) ∈ tab) (hf : OutsOk (kv ds) fl outs) (hl : fl.length ≤ 100) :
    EvL K T (LamX.tLam T (TTw tab) fun E => tCallS (spX K n Pre C kv) (fun _ => E) ta) ρ fun ρ' y => ρ' = ρ ∧ y = .tuple (.str w :: outs) := fun b G H σ L S Q q => ⟨L.tabs S, fun H1 e t1 => by
    obtain ⟨b1, L1, S1⟩ := S.relam L no e t1
    refine h b1 _ H1 σ S1 _ fun vs xs ρ1 G2 H2 r S2 d2 => ?_
    obtain ⟨rfl, rfl⟩ := r
    refine ⟨G2, xs, S2.sub, d2, hn, hp, fun G3 H3 dd fs st hd hfs => ?_⟩
    obtain ⟨us, l, dus, lu⟩ := outs_lks hfs hf
    have S3 := S2.step st
    refine ⟨(C, w, fl), us, dd, fs, mem, rfl, rfl, hd, l, by rw [lu]; exact hl, fun x hx => ?_⟩
    have st2 := Step.lay S3.sub (.tup (.str w :: us)) hx
    exact q b1 (.ref x) _ ρ1 _ _ L1 ⟨rfl, rfl⟩ (S3.step st2) (.tup (SqT.of upd_same) ((DAs.cons (.str w) dus).mono st2.gg))⟩
end
/-! ### the law, with tables -/
def spLawT (K : PySem.W.Frag) (Ps : List Addr) : Sp := fun vs H Q _ => ∃ (a : Addr) (ns : List Int), vs = [.ref a] ∧ SqL K H a (ns.map V.int) ∧ ns.length ≤ 63 ∧ (∀ P ∈ Ps, H P = some (.tbl #[])) ∧ ∀ H', Q (.bl true) H'
theorem sa_lawT {K : PySem.W.Frag} {H : Hp} {a p ca : Addr} {ns : List Int} {N : List Str} {Ps : List Addr} (hN : 2 ≤ N.length) (hca : H ca = some (.lst (ns.map V.int))) (ne : p ≠ ca) (PA : ∀ G, G ca = some (.lst (ns.map V.int)) → PenAt K G H p 0) (hP : ∀ P ∈ Ps, H P = some (.tbl #[])) (np : p ∉ Ps) :
    SA K ⟨fun x => if x = ca then some (.lst (ns.map V.int)) else none, fun x => if x ∈ Ps then some (.tbl #[]) else none, fun x => H x ≠ none, p⟩ (fun x => if x = ca then some (.lst (ns.map V.int)) else none) H ((L2.start N [.ref a]).set 1 (some (.ref p))) (startL N.length) := by
  have S := sa_law (K := K) (a := a) hN hca ne PA
  have at_ : ∀ x o, (if x ∈ Ps then some (HO.tbl #[]) else none) = some o → H x = some o := fun x o e => by
    by_cases h : x ∈ Ps
    · rw [if_pos h] at e
      rw [hP x h, e]
    · rw [if_neg h] at e; cases e
  exact {
    sub := S.sub, gg := S.gg, new := S.new
    keep := at_
    trk := S.trk
    ptr := fun x h => by
      show H x ≠ none
      cases e : (if x ∈ Ps then some (HO.tbl #[]) else none) with
      | none => exact absurd e h
      | some o => rw [at_ x o e]; exact fun z => nomatch z
    gtr := S.gtr, dat := S.dat
    own := fun i xs e => by
      obtain ⟨a2, vs, h1, h2, h3, h4, h5, h6⟩ := S.own i xs e
      exact ⟨a2, vs, h1, h2, if_neg (fun z => by rw [hP a2 z] at h4; cases h4), h4, h5, h6⟩
    sep := S.sep
    pen := fun i c e => by
      obtain ⟨q, h1, h2, _, h4⟩ := S.pen i c e
      have h5 := S.penp i c e
      rw [h1] at h5
      obtain rfl : q = p := by injection h5 with h5; injection h5 with h5; injection h5
      exact ⟨q, h1, h2, if_neg np, h4⟩
    penp := S.penp, onep := S.onep, len := S.len }
section
variable {P : Program} {w : World} {K : PySem.W.Frag} {mg : Str → Option Value} {base : Heap}
theorem lb_new {T : List (Addr × Str)} {ca p : Addr} {ns : List Int} {TT : Addr → Prop} : LB T ⟨fun x => if x = ca then some (.lst (ns.map V.int)) else none, fun x => if x ∈ T.map (·.1) then some (.tbl #[]) else none, TT, p⟩ := by
  refine ⟨fun a ps z => ?_, fun q hq => ⟨#[], if_pos (List.mem_map.mpr ⟨q, hq, rfl⟩), True.intro, fun pos cv hc => ?_⟩⟩
  · have z2 : (if a = ca then some (HO.lst (ns.map V.int)) else none) = some (.tbl ps) := z
    by_cases h : a = ca
    · rw [if_pos h] at z2; cases z2
    · rw [if_neg h] at z2; cases z2
  · have z : codeAmong pos [] = some cv := hc
    simp [codeAmong] at z
theorem fn_lawT {st : Stmt} {f c : Addr} {N : List Str} {k : Nat} {T : List (Addr × Str)} {oc kV doc pm ct : Value} {od an : Option Addr} {osl : Array (Option Value)} (lk : K.lookup f = some ⟨oc, od, .func (PySem.W.fnOf "law" "law" (defArgs st) (defBody st) (defScope st) .none kV doc pm an (.ref c) ct), osl⟩)
    (hcd : PySem.W.codeIn K (.ref c) "law" = true) (S : FnScope N ["script"] (defScope st)) (hN : 2 ≤ N.length)
    (hb : ∀ (A : Around) (outer : List PySem.Env) (s : Shared) (H : Hp) (E : XK), Room k (A.deeper (PyProof.Rows.envOfC "law" (defScope st) s.heap.objs.size f (.ref c))) →
      ∃ t, PSs (cxOf CX0 P w K mg base N "law" (defScope st) f (.ref c) A outer s H E).nox (defBody st) (tSeq (tAsg (tCall (spMkPen K) [] E0 (tCons (tVar 0) tNil)) (gName 1)) t) ∧ EsL K T t (startL N.length) LawO) :
    FnOk P w K mg base CX0 (k + 1) f (PySem.W.fnOf "law" "law" (defArgs st) (defBody st) (defScope st) .none kV doc pm an (.ref c) ct) ["script"] (spLawT K (T.map (·.1))) := by
  refine fn_of lk hcd S (fun vs H Q E h => ?_) fun A outer s H vs Q E hr h => ?_
  · obtain ⟨_, _, rfl, _⟩ := h
    rfl
  · obtain ⟨t, ht, hs⟩ := hb A outer s H E hr
    obtain ⟨a, ns, rfl, hS, hl, hP, q⟩ := h
    refine ⟨_, ht.nox, ?_⟩
    refine ⟨.ref a, rfl, a, ns, rfl, hS, hl, fun p ca H2 hp hca ne keep h2 hPA => ?_⟩
    have hP2 : ∀ x ∈ T.map (·.1), H2 x = some (.tbl #[]) := fun x hx => keep x _ (hP x hx)
    refine hs _ _ H2 _ _ lb_new (sa_lawT (N := N) (a := a) hN h2 ne hPA hP2 fun z => ?_) fun b' _ => ⟨fun _ _ _ _ o => o.elim, fun ρ y v σ G3 H3 o S3 dv => ?_, fun _ _ _ _ o => o.elim, fun _ _ _ _ o => o.elim⟩
    · have e := hP p z
      rw [hp] at e; cases e
    · have e : y = .bool true := o
      subst e
      cases dv
      exact q H3
end
/-- the table of the law's own code -/
theorem own_tab {K : PySem.W.Frag} {fa c P : Addr} {h : Heap} {o : Obj} {fd : FuncData} (O : LamX.OwnTab K fa h) (h1 : K.lookup fa = some o) (h2 : o.data = .func fd) (h3 : fd.code = .ref c) (h4 : PySem.W.codeHdIn K c P = true) : h.get? P = some { cls := .none, data := .fields #[] } := by
  unfold PySem.W.codeHdIn at h4
  split at h4
  · rename_i dd vs sl hk
    simp only [Bool.and_eq_true] at h4
    have e1 := h4.1.1.1.1.1
    split at e1
    · rename_i P' h11
      obtain rfl : P' = P := beq_iff_eq.mp e1
      exact O c P' o fd _ dd vs sl h1 h2 h3 hk h11
    · cases e1
  · cases h4
/-- the walk of a law that hands lambdas over itself -/
theorem walkT {l : PySem.W.OpenLaw} {q : Program} {loose : List Str} {XP : (Str → Option Value) → Heap → Prop} {YP : World → Heap → Prop} {d : DefRec} {K : Params → PySem.W.Frag} {k : Nat} (hn : l.most = some 63) (hdf : d.params.defaults = []) (hk : Room k callerA)
    (hrec : ((recsOf q).any fun e => e.name == d.name) = true) (hY : ∀ (w : World) (h : Heap), YP w h → (K w.params).In h)
    (F : ∀ (w : World) (mg : Str → Option Value) (fa : Addr) (h : Heap), (K w.params).In h → h.Ns mainGlobals mg → mg d.name = some (.ref fa) →
      ∃ (fd : FuncData) (o : Obj) (c P : Addr) (T : List (Addr × Str)), T.map (·.1) = [P] ∧ (K w.params).lookup fa = some o ∧ o.data = .func fd ∧ fd.code = .ref c ∧ PySem.W.codeHdIn (K w.params) c P = true ∧ (K w.params).lookup P = none ∧
        (∀ (s : Shared) (u : Value), BindsTo s fd ⟨[u], []⟩ [("script", u)]) ∧ ∀ base : Heap, (K w.params).In base → base.Ns mainGlobals mg → LamX.TabB base mg c P → FnOk l.prog w (K w.params) mg base CX0 k fa fd ["script"] (spLawT (K w.params) (T.map (·.1)))) :
    PySem.W.WalkO q loose XP YP l.row.toRowW d [] (fun f vs => PySem.call f vs) := by
  refine LamX.walk_ofOwn (n := 63) (k := k) (x := "script") (CX := fun _ => CX0) hn (by decide) hdf hk hrec hY (fun w mg fa h Y KX G hm O => ?_) fun _ _ _ _ _ z => z
  obtain ⟨fd, o, c, P, T, hT, h1, h2, h3, h4, h5, h6, h7⟩ := F w mg fa h KX G hm
  refine ⟨fd, [(c, P)], spLawT (K w.params) (T.map (·.1)), fun p hp => ?_, fun p hp => ?_, fun p hp => ?_, h6, fun H a ns hl _ hH hS => ⟨a, ns, rfl, hS, hl, fun x hx => ?_, fun _ => rfl⟩, fun base k1 k2 k3 => h7 base k1 k2 (k3 (c, P) List.mem_cons_self)⟩
  · obtain rfl := List.mem_singleton.mp hp
    exact own_tab O h1 h2 h3 h4
  · obtain rfl := List.mem_singleton.mp hp
    exact h5
  · obtain rfl := List.mem_singleton.mp hp
    exact PySem.W.codeHd_of_K KX h4
  · rw [hT] at hx
    obtain rfl := List.mem_singleton.mp hx
    exact hH (c, x) List.mem_cons_self
end RS
end
section
set_option Elab.async false
set_option linter.all false
set_option autoImplicit false
set_option maxRecDepth 100000
set_option maxHeartbeats 2000000
/-! RS29: comprehensions over things that stand for others; small values. -/
namespace RS
open PySem PySem.Spec PyProof.Rows L2
section
variable {K : PySem.W.Frag} {ρ : En} {te tl : TE} {ta : TA} {tt : TT} {wi : TI} {g : TG} {vs : List Nat} {xs ys zs : List PyData} {x y z : PyData}
open Classical in
theorem ed_lcG {α : Type} (p q : α → PyData) (inj : ∀ a b, p a = p b → q a = q b) (ss : List α) (c0 : Nat) (h : Ei K wi ρ (ss.map p)) (hl : ss.length ≤ 100000) (hp : setPen c0 ρ = ρ) (hv : ∀ i ∈ vs, ρ[i]? = some none)
    (k : ∀ s ∈ ss, ∃ js ρ2, (∀ j ∈ js, j ∈ vs) ∧ Eg K g js ρ (p s) ρ2 ∧ setPen c0 ρ2 = ρ2 ∧ Ed K te ρ2 (q s)) : Ed K (tLc wi g tYes te vs) ρ (.list (ss.map q)) := by
  have key : ∀ s, (fun y => if e : ∃ s, p s = y then q e.choose else PyData.none) (p s) = q s := fun s => by
    show (if e : ∃ s2, p s2 = p s then q e.choose else PyData.none) = q s
    have e : ∃ s2, p s2 = p s := ⟨s, rfl⟩
    rw [dif_pos e]
    exact inj _ _ e.choose_spec
  have h2 := ed_lcN (K := K) (te := te) (vs := vs) (g := g) c0 (fun y => if e : ∃ s, p s = y then q e.choose else PyData.none) h (by rw [List.length_map]; exact hl) hp hv fun y hy => by
    obtain ⟨s, hs, rfl⟩ := List.mem_map.mp hy
    have e := key s
    dsimp only at e
    rw [e]
    exact k s hs
  refine h2.to (congrArg PyData.list ?_)
  rw [List.map_map]
  exact List.map_congr_left fun s _ => key s
/-- the first statement only goes on -/
def OnNx (R : En → Prop) : Out → Prop
  | .nx ρ => R ρ
  | _ => False
theorem es_nx {R : En → Prop} {O : Out → Prop} {t u : TS} (h1 : Es K t ρ (OnNx R)) (h : ∀ ρ', R ρ' → Es K u ρ' O) : Es K (tSeq t u) ρ O := es_seq h1 h (fun _ _ z => z.elim) (fun _ z => z.elim) fun _ z => z.elim
theorem esl_nx {T : List (Addr × Str)} {R : En → Prop} {O : Out → Prop} {t u : TS} (h1 : Es K t ρ (OnNx R)) (h : ∀ ρ', R ρ' → EsL K T u ρ' O) : EsL K T (tSeq t u) ρ O := esl_then (Es.l (h1.imp fun o ho => match o, ho with | .nx ρ', ho => h ρ' ho))
theorem evt_not {R1 R : En → Bool → Prop} (h : EvT K tt ρ R1) (hr : ∀ ρ1 c, R1 ρ1 c → R ρ1 (!c)) : EvT K (tNot tt) ρ R := fun b G H σ S Q q => h b G H σ S _ fun x ρ1 G1 H1 r S1 => q (!x) ρ1 G1 H1 (hr ρ1 x r) S1
theorem ru_neg {i : Int} : RU K (rU fun i => .int (-i)) (.int i) (.int (-i)) := fun G H v s d Q q => by
  cases d
  exact ⟨i, rfl, q _ G H (Step.refl s) (.int (-i))⟩
end
end RS
end
section
set_option Elab.async false
set_option linter.all false
set_option autoImplicit false
set_option maxRecDepth 100000
set_option maxHeartbeats 2000000
/-! RS30: facts of classes and defs, from what the kernel says of the written part. -/
namespace RS
open PySem PySem.Spec PyProof.Rows L2
section
variable {P : Program} {w : World} {K : PySem.W.Frag} {mg : Str → Option Value} {base : Heap}
def ownB (K : PySem.W.Frag) (C : Addr) : Bool := match K.lookup C with
  | some ⟨.type "type", _, .cls d, z⟩ => (match d.mro, z.toList with
    | .ref E :: t, [_, _, _, _, some (.builtin n), _] => d.hasDict && (!d.hasDel && (E == C && (n == "ValueError.__new__" && PySem.HandSPX.refsVE t)))
    | _, _ => false)
  | _ => false
def xcB (K : PySem.W.Frag) (C : Addr) : Bool := ownB K C && (PySem.W.findIn K (.ref C) "__setattr__" == some (some (.builtin "object.__setattr__")) && (PySem.W.subIn K (.ref C) (.type "BaseException") == some true && (PySem.W.typeIn K (.ref C) == some (.type "type") && (PySem.W.keepIn K (.ref C) &&
  (PySem.W.findIn K (.ref C) "__getattribute__" == some (some (.builtin "BaseException.__getattribute__")) && (PySem.W.findIn K (.ref C) "__getattr__" == some none && (PySem.W.hasDictIn K C && (PySem.W.findIn K (.ref C) "__class__" == some (some (.builtin "object.__class__")) &&
  (PySem.W.specialIn K (.builtin "object.__class__") "__get__" == some (some (.builtin "getset_descriptor.__get__")) && (PySem.W.takesIn K (.builtin "object.__class__") == some true && PySem.W.mroIn K C (.type "object") == some true))))))))))
theorem ownB_ok {C : Addr} (h : ownB K C = true) : ∃ nm q N bs bm sn sub ab col dd k0 k1 k2 k3 k5, K.lookup C = some (excClassObj nm q C N bs bm true sn sub ab col dd k0 k1 k2 k3 k5 "ValueError.__new__") ∧ PySem.HandSPX.refsVE bm = true := by
  unfold ownB at h
  split at h
  · rename_i dd d z hl
    split at h
    · rename_i E t a0 a1 a2 a3 n a5 hm hz
      simp only [Bool.and_eq_true, beq_iff_eq, Bool.not_eq_true'] at h
      obtain ⟨g1, g2, rfl, rfl, g3⟩ := h
      obtain ⟨nm, bs, mro, ns, qn, hd, sn, sub, ab, col, del⟩ := d
      have hz2 : z = #[a0, a1, a2, a3, some (.builtin "ValueError.__new__"), a5] := by
        cases z with
        | mk l => exact congrArg Array.mk hz
      dsimp only at hm g1 g2
      subst hm g1 g2 hz2
      exact ⟨nm, qn, ns, bs, t, sn, sub, ab, col, dd, a0, a1, a2, a3, a5, hl, g3⟩
    · cases h
  · cases h
theorem xcB_ok {C : Addr} (h : xcB K C = true) : XC K C := by
  unfold xcB at h
  simp only [Bool.and_eq_true, beq_iff_eq] at h
  obtain ⟨h0, h1, h2, h3, h4, h5, h6, h7, h8, h9, h10, h11⟩ := h
  exact { o := ⟨ownB_ok h0, h1, h2, h3, h4⟩, ga := h5, gg := h6, hd := h7, ha := h8, hn := h9, ht := h10, hm := h11 }
theorem mk_1 {h : Heap} (X : K.In h) (G : h.Ns mainGlobals mg) {x qual fld : Str} {st : Stmt} {C f : Addr} {oc : Value} {od an : Option Addr} {sl : Array (Option Value)} {kV dc pm cd ct : Value} {p1 p2 p3 p4 : Pos}
    (aC : PySem.W.nsIn K mainGlobals x = some (some (.ref C))) (xc : xcB K C = true) (af : PySem.W.findIn K (.ref C) "__init__" = some (some (.ref f))) (ty : PySem.W.typeIn K (.ref f) = some (.type "function"))
    (l : K.lookup f = some ⟨oc, od, .func (PySem.W.fnOf "__init__" qual (defArgs st) (defBody st) (defScope st) .none kV dc pm an cd ct), sl⟩) (c : PySem.W.codeIn K cd qual = true) (k : PySem.W.keepIn K (.ref f) = true)
    (S : FnScope ["self", fld] ["self", fld] (defScope st)) (hb : defBody st = [.Assign [.Attribute (.Name "self" p1) fld p2] (.Name fld p3) p4])
    (v0 : (defScope st).names.lookup ("self" : Str) = some .local) (v1 : (defScope st).names.lookup fld = some .local) (d1 : (fld == ("__debug__" : Str)) = false) (d3 : (fld == ("__classdict__" : Str)) = false)
    (hbi : ∀ (kV doc pm : Value) (an : Option Addr) (cdv ct : Value) (us : List Value), us.length = 2 → bindArgs (PySem.W.fnOf "__init__" qual (defArgs st) (defBody st) (defScope st) .none kV doc pm an cdv ct) ⟨us, []⟩ = pure ((["self", fld] : List Str).zip us)) :
    MkX P w K mg base x C ["self", fld] (spIni1 K C fld) := by
  have F := fun_mk (st := st) l c k
  exact ⟨xcB_ok xc, PySem.W.mg_of X G aC, f, _, af, ty, ok_ini1 F S hb v0 v1 (by decide) d1 (by decide) d3, F.binds hbi⟩
theorem mk_2 {h : Heap} (X : K.In h) (G : h.Ns mainGlobals mg) {x qual fld gld : Str} {st : Stmt} {C f : Addr} {oc : Value} {od an : Option Addr} {sl : Array (Option Value)} {kV dc pm cd ct : Value} {p1 p2 p3 p4 q1 q2 q3 q4 : Pos}
    (aC : PySem.W.nsIn K mainGlobals x = some (some (.ref C))) (xc : xcB K C = true) (af : PySem.W.findIn K (.ref C) "__init__" = some (some (.ref f))) (ty : PySem.W.typeIn K (.ref f) = some (.type "function"))
    (l : K.lookup f = some ⟨oc, od, .func (PySem.W.fnOf "__init__" qual (defArgs st) (defBody st) (defScope st) .none kV dc pm an cd ct), sl⟩) (c : PySem.W.codeIn K cd qual = true) (k : PySem.W.keepIn K (.ref f) = true)
    (S : FnScope ["self", fld, gld] ["self", fld, gld] (defScope st)) (hb : defBody st = [.Assign [.Attribute (.Name "self" p1) fld p2] (.Name fld p3) p4, .Assign [.Attribute (.Name "self" q1) gld q2] (.Name gld q3) q4])
    (v0 : (defScope st).names.lookup ("self" : Str) = some .local) (v1 : (defScope st).names.lookup fld = some .local) (v2 : (defScope st).names.lookup gld = some .local) (d1 : (fld == ("__debug__" : Str)) = false) (d3 : (fld == ("__classdict__" : Str)) = false) (d4 : (gld == ("__debug__" : Str)) = false) (d5 : (gld == ("__classdict__" : Str)) = false)
    (hbi : ∀ (kV doc pm : Value) (an : Option Addr) (cdv ct : Value) (us : List Value), us.length = 3 → bindArgs (PySem.W.fnOf "__init__" qual (defArgs st) (defBody st) (defScope st) .none kV doc pm an cdv ct) ⟨us, []⟩ = pure ((["self", fld, gld] : List Str).zip us)) :
    MkX P w K mg base x C ["self", fld, gld] (spIni2 K C fld gld) := by
  have F := fun_mk (st := st) l c k
  exact ⟨xcB_ok xc, PySem.W.mg_of X G aC, f, _, af, ty, ok_ini2 F S hb v0 v1 v2 (by decide) d1 (by decide) d3 d4 d5, F.binds hbi⟩
theorem mk_0 {h : Heap} (X : K.In h) (G : h.Ns mainGlobals mg) {x : Str} {C : Addr} (aC : PySem.W.nsIn K mainGlobals x = some (some (.ref C))) (xc : xcB K C = true)
    (q : PySem.W.excIn K C [.type "ValueError", .type "Exception", .type "BaseException", .type "object"] "ValueError.__new__" = true) : Mk0X K mg x C := ⟨xcB_ok xc, PySem.W.mg_of X G aC, q⟩
theorem own_mk {h : Heap} (X : K.In h) (G : h.Ns mainGlobals mg) {x : Str} {st : Stmt} {f : Addr} {oc : Value} {od an : Option Addr} {sl : Array (Option Value)} {kV dc pm cd ct : Value} {n : Nat} {ps : List Str} {sp : Sp}
    (a : PySem.W.nsIn K mainGlobals x = some (some (.ref f))) (l : K.lookup f = some ⟨oc, od, .func (PySem.W.fnOf x x (defArgs st) (defBody st) (defScope st) .none kV dc pm an cd ct), sl⟩) (c : PySem.W.codeIn K cd x = true) (k : PySem.W.keepIn K (.ref f) = true)
    (hbi : ∀ (kV doc pm : Value) (an : Option Addr) (cdv ct : Value) (us : List Value), us.length = ps.length → bindArgs (PySem.W.fnOf x x (defArgs st) (defBody st) (defScope st) .none kV doc pm an cdv ct) ⟨us, []⟩ = pure (ps.zip us))
    (hf : ∀ fd, Fun K x x st f fd → FnOk P w K mg base CX0 n f fd ps sp) : OwnD P w K mg base n x ps sp := by
  have F := fun_mk (st := st) l c k
  exact ⟨f, _, hf _ F, PySem.W.mg_of X G a, k, F.binds hbi⟩

theorem XC.xf {C : Addr} (h : XC K C) : XfC K C := ⟨h.ga, h.gg, h.o.exC, h.hd⟩
/-- a def that may raise -/
structure OwnX (P : Program) (w : World) (K : PySem.W.Frag) (mg : Str → Option Value) (base : Heap) (k : Nat) (x : Str) (ps : List Str) (sp : Sp) : Prop where
  ex : ∃ (f : Addr) (fd : FuncData), FnOk P w K mg base (L2.CX P w) k f fd ps sp ∧ mg x = some (.ref f) ∧ PySem.W.keepIn K (.ref f) = true ∧ Binds K fd ps []
theorem own_mkX {h : Heap} (X : K.In h) (G : h.Ns mainGlobals mg) {x : Str} {st : Stmt} {f : Addr} {oc : Value} {od an : Option Addr} {sl : Array (Option Value)} {kV dc pm cd ct : Value} {n : Nat} {ps : List Str} {sp : Sp}
    (a : PySem.W.nsIn K mainGlobals x = some (some (.ref f))) (l : K.lookup f = some ⟨oc, od, .func (PySem.W.fnOf x x (defArgs st) (defBody st) (defScope st) .none kV dc pm an cd ct), sl⟩) (c : PySem.W.codeIn K cd x = true) (k : PySem.W.keepIn K (.ref f) = true)
    (hbi : ∀ (kV doc pm : Value) (an : Option Addr) (cdv ct : Value) (us : List Value), us.length = ps.length → bindArgs (PySem.W.fnOf x x (defArgs st) (defBody st) (defScope st) .none kV doc pm an cdv ct) ⟨us, []⟩ = pure (ps.zip us))
    (hf : ∀ fd, Fun K x x st f fd → FnOk P w K mg base (L2.CX P w) n f fd ps sp) : OwnX P w K mg base n x ps sp := by
  have F := fun_mk (st := st) l c k
  exact ⟨f, _, hf _ F, PySem.W.mg_of X G a, k, F.binds hbi⟩
/-- a call that may raise, within a lambda -/
theorem pe_ownX {X : Cx} {k : Nat} {x : Str} {ps : List Str} {sp : Sp} {E : XK} {e : Expr} {es : List Expr} {t : TA} {p pos : Pos} (O : OwnX X.prog X.w X.K X.mg X.base k x ps sp) (hr : Room k X.A) (tk : Takes X fun cls d _ H => E cls d H) (ha : PA X (e :: es) t) (hg : Gl X x := by rfl)
    (hdb : (x == ("__debug__" : Str)) = false := by decide) (he : starEach (e :: es) X.env = (false, eval e X.env) :: starEach es X.env := by rfl) (hpl : (backTo pos (starEach es X.env)).any (·.1) = false := by rfl) :
    PE X (.Call (.Name x p) (e :: es) [] pos) (tCallS sp (fun _ => E) t) := by
  obtain ⟨f, fd, h1, h2, h3, h4⟩ := O.ex
  exact pe_callS h1 hr hg h2 h3 h4 (fun σ => passAt tk σ) ha hdb he hpl
/-- the kernel's table of the except clauses -/
def exmB (K : PySem.W.Frag) (Cs : List Addr) : Bool := ((Cs.zipIdx).all fun c => (Cs.zipIdx).all fun d => PySem.W.exmOne K (.ref c.1) (.ref d.1) == some (decide (c.2 = d.2)))
theorem exm_tab {tab : List Cl} (h : exmB K (tab.map (·.1)) = true) : TabOk K tab := by
  have key : ∀ (i j : Nat) (p q : Cl), tab[i]? = some p → tab[j]? = some q → PySem.W.exmOne K (.ref p.1) (.ref q.1) = some (decide (i = j)) := fun i j p q hi hj => by
    unfold exmB at h
    rw [List.all_eq_true] at h
    have h1 := h (p.1, i) (List.mem_zipIdx_iff_getElem?.mpr (by rw [List.getElem?_map, hi]; rfl))
    rw [List.all_eq_true] at h1
    exact beq_iff_eq.mp (h1 (q.1, j) (List.mem_zipIdx_iff_getElem?.mpr (by rw [List.getElem?_map, hj]; rfl)))
  have one : ∀ (i j : Nat) (p q : Cl), tab[i]? = some p → tab[j]? = some q → p.1 = q.1 → i = j := fun i j p q hi hj e => by
    have h1 := key i j p q hi hj
    rw [e] at h1
    have h3 := key j j q q hj hj
    rw [h3] at h1
    have h4 := Option.some.inj h1
    rw [decide_eq_true rfl] at h4
    exact of_decide_eq_true h4.symm
  refine ⟨fun p hp q hq => ?_, fun p hp q hq e => ?_⟩
  · obtain ⟨i, hi⟩ := List.mem_iff_getElem?.mp hp
    obtain ⟨j, hj⟩ := List.mem_iff_getElem?.mp hq
    rw [key i j p q hi hj]
    by_cases e : p.1 = q.1
    · rw [decide_eq_true e, decide_eq_true (one i j p q hi hj e)]
    · have n : i ≠ j := fun z => by
        subst z
        rw [hi] at hj
        cases hj
        exact e rfl
      rw [decide_eq_false e, decide_eq_false n]
  · obtain ⟨i, hi⟩ := List.mem_iff_getElem?.mp hp
    obtain ⟨j, hj⟩ := List.mem_iff_getElem?.mp hq
    have := one i j p q hi hj e
    subst this
    rw [hi] at hj
    cases hj; rfl
end
end RS
end
section
set_option Elab.async false
set_option linter.all false
set_option autoImplicit false
set_option maxRecDepth 100000
set_option maxHeartbeats 2000000
/-! RS31: defs that hand lambdas over: readings over changing tables that tell what stays. -/
namespace RS
open PySem PySem.Spec PyProof.Rows L2
theorem code_sat (a : Addr) (q : Str) : ∃ (h : Heap) (o : Obj), h.get? a = some o ∧ o.data = .fields #[.none, .str q 0] ∧ o.cls = .none := by
  refine ⟨{ objs := Array.replicate (a + 1) { cls := .none, data := .fields #[.none, .str q 0] } }, { cls := .none, data := .fields #[.none, .str q 0] }, ?_, rfl, rfl⟩
  unfold Heap.get?
  simp [Array.getElem?_replicate, Obj.isFreed]
theorem code_not_exo {a C : Addr} {d : Option Addr} {q : Str} : exo a C d ≠ LamX.CodeO a q := fun z => by
  unfold exo LamX.CodeO at z
  injection z with z
  obtain ⟨h, o, h1, h2, h3⟩ := code_sat a q
  have w : ∃ (oc : Obj) (vs : Array Value) (t : Tok), h.get? a = some oc ∧ oc.data = .fields vs ∧ vs[1]? = some (.str q t) := ⟨o, _, 0, h1, h2, rfl⟩
  obtain ⟨t1, e⟩ := (congrFun z h).mpr w
  rw [h1] at e
  have e2 := congrArg Obj.cls (Option.some.inj e)
  rw [h3] at e2
  cases e2
theorem code_not_exd {a : Addr} {fs : List (Str × V)} {q : Str} : exd a fs ≠ LamX.CodeO a q := fun z => by
  unfold exd LamX.CodeO at z
  injection z with z
  obtain ⟨h, o, h1, h2, h3⟩ := code_sat a q
  have w : ∃ (oc : Obj) (vs : Array Value) (t : Tok), h.get? a = some oc ∧ oc.data = .fields vs ∧ vs[1]? = some (.str q t) := ⟨o, _, 0, h1, h2, rfl⟩
  obtain ⟨mA, ⟨o2, es, ep, e, d, _⟩, _⟩ := (congrFun z h).mpr w
  rw [h1] at e
  obtain rfl := Option.some.inj e
  rw [h2] at d
  cases d
abbrev Tb := List (Addr × Str)
/-- a table, or a code object of T -/
def TC (T : Tb) (a : Addr) (o : HO) : Prop := (∃ ps, o = .tbl ps) ∨ ∃ p ∈ T, o = LamX.CodeO a p.2
theorem tc_not {T : Tb} {a : Addr} {o : HO} (h1 : ∀ ps, o ≠ .tbl ps) (h2 : ∀ φ, o ≠ .ext φ) : ¬ TC T a o := fun z => by
  rcases z with ⟨ps, z⟩ | ⟨p, _, z⟩
  · exact h1 ps z
  · unfold LamX.CodeO at z
    exact h2 _ z
open Classical in
noncomputable def strip (T : Tb) (G : Hp) : Hp := fun a => match G a with
  | some o => if TC T a o then none else some o
  | none => none
section
variable {K : PySem.W.Frag} {T : Tb} {G H : Hp}
theorem strip_of {a : Addr} {o : HO} (h : strip T G a = some o) : G a = some o ∧ ¬ TC T a o := by
  unfold strip at h
  cases e : G a with
  | none => rw [e] at h; cases h
  | some u =>
    rw [e] at h
    dsimp only at h
    by_cases c : TC T a u
    · rw [if_pos c] at h; cases h
    · rw [if_neg c] at h; cases h; exact ⟨rfl, c⟩
theorem strip_at {a : Addr} {o : HO} (h : G a = some o) (n : ¬ TC T a o) : strip T G a = some o := by
  unfold strip
  rw [h]
  dsimp only
  rw [if_neg n]
theorem strip_none {a : Addr} (h : G a = none) : strip T G a = none := by
  unfold strip
  rw [h]
theorem strip_sub : Sub (strip T G) G := fun a o h => (strip_of h).1
mutual
theorem DA.strip : ∀ {v : V} {d : PyData}, DA K G v d → DA K (strip T G) v d
  | _, _, .non => .non
  | _, _, .bl b => .bl b
  | _, _, .int i => .int i
  | _, _, .str x => .str x
  | _, _, .lst h r => .lst (strip_at h (tc_not (fun _ z => nomatch z) fun _ z => nomatch z)) (DAs.strip r)
  | _, _, .tup h r => .tup (match h with
    | .inl (.inl h) => .inl (.inl (strip_at h (tc_not (fun _ z => nomatch z) fun _ z => nomatch z)))
    | .inl (.inr ⟨o, h⟩) => .inl (.inr ⟨o, strip_at h (tc_not (fun _ z => nomatch z) fun _ z => nomatch z)⟩)
    | .inr h => .inr h) (DAs.strip r)
  | _, _, .opq h => .opq (strip_at h (tc_not (fun _ z => nomatch z) fun _ z => nomatch z))
  | _, _, .obj h c r => .obj (strip_at h (tc_not (fun _ z => nomatch z) fun _ z => nomatch z)) c (DFs.strip r)
  | _, _, .exc h c r => .exc (strip_at h (fun z => z.elim (fun ⟨_, z⟩ => exo_tbl z) fun ⟨_, _, z⟩ => code_not_exo z)) (strip_at c (fun z => z.elim (fun ⟨ps, z⟩ => exd_tbl ps z) fun ⟨_, _, z⟩ => code_not_exd z)) (DFs.strip r)
  | _, _, .exn h => .exn (strip_at h (fun z => z.elim (fun ⟨_, z⟩ => exo_tbl z) fun ⟨_, _, z⟩ => code_not_exo z))
  | _, _, .adr => .adr
theorem DAs.strip : ∀ {vs : List V} {ds : List PyData}, DAs K G vs ds → DAs K (strip T G) vs ds
  | _, _, .nil => .nil
  | _, _, .cons h r => .cons (DA.strip h) (DAs.strip r)
theorem DFs.strip : ∀ {vs : List (Str × V)} {ds : List (PyData × PyData)}, DFs K G vs ds → DFs K (strip T G) vs ds
  | _, _, .nil => .nil
  | _, _, .cons h r => .cons (DA.strip h) (DFs.strip r)
end
theorem PenAt.strip {p : Addr} {c : Nat} (h : PenAt K G H p c) : PenAt K (strip T G) H p c := by
  obtain ⟨kvs, ca, ns, a0, dg, ct, bl, k1, kp, k2, kr⟩ := h.ex
  exact ⟨kvs, ca, ns, a0, dg, ct, bl, k1, kp, strip_at k2 (tc_not (fun _ z => nomatch z) fun _ z => nomatch z), kr⟩
end
/-- tables and codes of T, as they stand in P -/
def TbIn (T : Tb) (P : Hp) : Prop := ∀ p ∈ T, ∃ ps, P p.1 = some (.tbl ps) ∧ TriplesOk ps.toList ∧ ∀ (pos : Pos) (cv : Value), codeAmong pos ps.toList = some cv → ∃ c, cv = .ref c ∧ P c = some (LamX.CodeO c p.2)
structure LT (T : Tb) (b : Bs) : Prop where
  nt : ∀ a o, b.G0 a = some o → ¬ TC T a o
  pt : ∀ a ps, b.P a = some (.tbl ps) → a ∈ T.map (·.1)
  tb : TbIn T b.P
  tt : ∀ a, b.T a → b.P a ≠ none ∨ b.G0 a ≠ none ∨ a = b.pp
/-- a later base: all but tables stays -/
structure Ge (b b' : Bs) : Prop where
  g : b'.G0 = b.G0
  pp : b'.pp = b.pp
  t : ∀ a, b.T a → b'.T a
  p : ∀ a o, b.P a = some o → (∀ ps, o ≠ .tbl ps) → b'.P a = some o
theorem Ge.refl (b : Bs) : Ge b b := ⟨rfl, rfl, fun _ h => h, fun _ _ h _ => h⟩
theorem Ge.trans {a b c : Bs} (h : Ge a b) (k : Ge b c) : Ge a c := ⟨k.g.trans h.g, k.pp.trans h.pp, fun x q => k.t x (h.t x q), fun x o q n => k.p x o (h.p x o q n) n⟩
section
variable {K : PySem.W.Frag} {T : Tb} {b : Bs} {G H H1 : Hp} {σ : L2.St} {ρ : En}
theorem TbIn.tabs {P : Hp} (t : TbIn T P) (s : Sub P H) : LamX.Tabs T H := fun p hp => by
  obtain ⟨ps, h1, h2, h3⟩ := t p hp
  refine ⟨ps, s _ _ h1, h2, fun pos cv hc => ?_⟩
  obtain ⟨c, e, h⟩ := h3 pos cv hc
  exact ⟨c, e, s _ _ h⟩
theorem LT.tabs (L : LT T b) (S : SA K b G H σ ρ) : LamX.Tabs T H := L.tb.tabs S.keep
open Classical in
/-- the tables listed and the codes of T as they stand in H1, all else as P has it -/
noncomputable def keepT (T : Tb) (P H1 : Hp) : Hp := fun a => match H1 a with
  | some o => if TC T a o then (if (∃ ps, o = .tbl ps) ∧ a ∉ T.map (·.1) then none else some o) else (if P a = some o then some o else none)
  | none => none
theorem keepT_of {P : Hp} {a : Addr} {o : HO} (h : keepT T P H1 a = some o) : H1 a = some o ∧ ((TC T a o ∧ ((∃ ps, o = .tbl ps) → a ∈ T.map (·.1))) ∨ (¬ TC T a o ∧ P a = some o)) := by
  unfold keepT at h
  cases e : H1 a with
  | none => rw [e] at h; cases h
  | some u =>
    rw [e] at h
    dsimp only at h
    by_cases c : TC T a u
    · rw [if_pos c] at h
      by_cases n : (∃ ps, u = .tbl ps) ∧ a ∉ T.map (·.1)
      · rw [if_pos n] at h; cases h
      · rw [if_neg n] at h
        cases h
        exact ⟨rfl, .inl ⟨c, fun q => Classical.byContradiction fun z => n ⟨q, z⟩⟩⟩
    · rw [if_neg c] at h
      by_cases n : P a = some u
      · rw [if_pos n] at h
        cases h
        exact ⟨rfl, .inr ⟨c, n⟩⟩
      · rw [if_neg n] at h; cases h
theorem keepT_tc {P : Hp} {a : Addr} {o : HO} (h : H1 a = some o) (c : TC T a o) (n : (∃ ps, o = .tbl ps) → a ∈ T.map (·.1)) : keepT T P H1 a = some o := by
  unfold keepT
  rw [h]
  dsimp only
  rw [if_pos c, if_neg (fun z => z.2 (n z.1))]
theorem keepT_p {P : Hp} {a : Addr} {o : HO} (h : H1 a = some o) (c : ¬ TC T a o) (p : P a = some o) : keepT T P H1 a = some o := by
  unfold keepT
  rw [h]
  dsimp only
  rw [if_neg c, if_pos p]
theorem keepT_in {P : Hp} (t : LamX.Tabs T H1) : TbIn T (keepT T P H1) := fun p hp => by
  obtain ⟨ps, h1, h2, h3⟩ := t p hp
  refine ⟨ps, keepT_tc h1 (.inl ⟨ps, rfl⟩) fun _ => List.mem_map.mpr ⟨p, hp, rfl⟩, h2, fun pos cv hc => ?_⟩
  obtain ⟨c, rfl, h4⟩ := h3 pos cv hc
  exact ⟨c, rfl, keepT_tc h4 (.inr ⟨p, hp, rfl⟩) fun ⟨ps, z⟩ => absurd z (by unfold LamX.CodeO; exact fun z => nomatch z)⟩
/-- the base behind something that only touches tables, codes and the pen -/
noncomputable def nextB (T : Tb) (b : Bs) (H1 : Hp) : Bs := ⟨b.G0, keepT T b.P H1, fun a => b.T a ∨ keepT T b.P H1 a ≠ none, b.pp⟩
theorem nextB_ok (L : LT T b) (S : SA K b G H σ ρ) (e : ∀ a o, a ≠ b.pp → H a = some o → (∀ ps, o ≠ .tbl ps) → H1 a = some o) (np : b.P b.pp = none) (t : LamX.Tabs T H1) : LT T (nextB T b H1) ∧ Ge b (nextB T b H1) := by
  refine ⟨⟨L.nt, fun a ps h => ?_, keepT_in t, fun a h => ?_⟩, ⟨rfl, rfl, fun a h => .inl h, fun a o h n => ?_⟩⟩
  · obtain ⟨_, h2⟩ := keepT_of h
    rcases h2 with ⟨_, h2⟩ | ⟨h2, _⟩
    · exact h2 ⟨ps, rfl⟩
    · exact absurd (Or.inl ⟨ps, rfl⟩) h2
  · rcases h with h | h
    · rcases L.tt a h with q | q | q
      · cases w : b.P a with
        | none => exact absurd w q
        | some o =>
          left
          by_cases n : ∃ ps, o = .tbl ps
          · obtain ⟨ps, rfl⟩ := n
            obtain ⟨p, hp, rfl⟩ := List.mem_map.mp (L.pt a ps w)
            obtain ⟨ps2, h1, _⟩ := t p hp
            show keepT T b.P H1 p.1 ≠ none
            rw [keepT_tc h1 (.inl ⟨ps2, rfl⟩) fun _ => List.mem_map.mpr ⟨p, hp, rfl⟩]
            exact fun z => nomatch z
          · have hn : ∀ ps, o ≠ .tbl ps := fun ps z => n ⟨ps, z⟩
            have h1 := e a o (fun z => by rw [z, np] at w; cases w) (S.keep a o w) hn
            show keepT T b.P H1 a ≠ none
            by_cases c : TC T a o
            · rw [keepT_tc h1 c fun z => absurd z n]; exact fun z => nomatch z
            · rw [keepT_p h1 c w]; exact fun z => nomatch z
      · exact .inr (.inl q)
      · exact .inr (.inr q)
    · exact .inl h
  · have h1 := e a o (fun z => by rw [z, np] at h; cases h) (S.keep a o h) n
    show keepT T b.P H1 a = some o
    by_cases c : TC T a o
    · exact keepT_tc h1 c fun ⟨ps, z⟩ => absurd z (n ps)
    · exact keepT_p h1 c h
/-- the state behind something that only touches tables, codes and the pen -/
theorem SA.nextM {G2 : Hp} {ρ2 : En} (L : LT T b) (S : SA K b G H σ ρ) (e : ∀ a o, a ≠ b.pp → H a = some o → (∀ ps, o ≠ .tbl ps) → H1 a = some o) (np : b.P b.pp = none) (hp : ∃ kvs, H b.pp = some (.dK kvs)) (hp1 : ∃ kvs, H1 b.pp = some (.dK kvs)) (t : LamX.Tabs T H1)
    (gg : Sub (strip T G) G2) (sub : Sub G2 H1) (new : ∀ a o, G a = none → H a = some o → (∀ ps, o ≠ .tbl ps) → G2 a = none) (nc : ∀ a o, G2 a = some o → ¬ TC T a o)
    (dat : ∀ (i : Nat) (x : PyData), ρ2[i]? = some (some (Sl.d x)) → ρ[i]? = some (some (Sl.d x))) (own : ∀ (i : Nat) (xs : List PyData), ρ2[i]? = some (some (Sl.own xs)) → ρ[i]? = some (some (Sl.own xs)))
    (pen : ∀ (i c : Nat), ρ2[i]? = some (some (Sl.pen c)) → (∃ c', ρ[i]? = some (some (Sl.pen c'))) ∧ PenAt K G2 H1 b.pp c) (len : ρ2.length = ρ.length) : SA K (nextB T b H1) G2 H1 σ ρ2 := by
  obtain ⟨L1, Ge1⟩ := nextB_ok (H1 := H1) L S e np t
  have at1 : ∀ a o, a ≠ b.pp → H a = some o → (∀ ps, o ≠ .tbl ps) → H1 a = some o := e
  have own1 : ∀ (i : Nat) (xs : List PyData), ρ[i]? = some (some (Sl.own xs)) → ∃ a vs, σ[i]? = some (some (.ref a)) ∧ G2 a = none ∧ (nextB T b H1).P a = none ∧ H1 a = some (.lst vs) ∧ DAs K G2 vs xs ∧ ¬ (nextB T b H1).T a := fun i xs h => by
    obtain ⟨a, vs, h1, h2, h3, h4, h5, h6⟩ := S.own i xs h
    obtain ⟨kvs, hp⟩ := hp
    have ne : a ≠ b.pp := fun z => by rw [z, hp] at h4; cases h4
    have h7 := at1 a _ ne h4 fun _ z => nomatch z
    have h8 : keepT T b.P H1 a = none := by
      cases w : keepT T b.P H1 a with
      | none => rfl
      | some o =>
        obtain ⟨w1, w2⟩ := keepT_of w
        rw [h7] at w1
        cases w1
        rcases w2 with ⟨w2, _⟩ | ⟨_, w2⟩
        · exact absurd w2 (tc_not (fun _ z => nomatch z) fun _ z => nomatch z)
        · rw [h3] at w2; cases w2
    exact ⟨a, vs, h1, new a _ h2 h4 (fun _ z => nomatch z), h8, h7, (DAs.strip (T := T) h5).mono gg, fun z => z.elim h6 fun z => z h8⟩
  exact {
    sub := sub
    gg := fun a o h => gg a o (strip_at (S.gg a o h) (L.nt a o h))
    new := fun a h q => by
      cases w : G2 a with
      | none => rfl
      | some o =>
        have w1 := sub a o w
        have w2 := nc a o w
        rcases q with q | q
        · have g := S.new a h q
          rcases L.tt a q with z | z | z
          · cases w3 : b.P a with
            | none => exact absurd w3 z
            | some u =>
              have k := S.keep a u w3
              by_cases n : ∃ ps, u = .tbl ps
              · obtain ⟨ps, rfl⟩ := n
                obtain ⟨p, hp2, rfl⟩ := List.mem_map.mp (L.pt a ps w3)
                obtain ⟨ps2, h1, _⟩ := t p hp2
                rw [w1] at h1
                cases h1
                exact absurd (Or.inl ⟨ps2, rfl⟩) w2
              · rw [new a u g k fun ps z => n ⟨ps, z⟩] at w; cases w
          · exact absurd h z
          · obtain ⟨kvs, hp⟩ := hp
            subst z
            rw [new b.pp _ g hp fun _ z => nomatch z] at w; cases w
        · have z : keepT T b.P H1 a ≠ none := q
          cases w3 : keepT T b.P H1 a with
          | none => exact absurd w3 z
          | some u =>
            obtain ⟨k1, k2⟩ := keepT_of w3
            rw [w1] at k1
            cases k1
            rcases k2 with ⟨k2, _⟩ | ⟨_, k2⟩
            · exact absurd k2 w2
            · have g := S.new a h (S.ptr a (by rw [k2]; exact fun z => nomatch z))
              have n : ∀ ps, o ≠ .tbl ps := fun ps z => w2 (.inl ⟨ps, z⟩)
              rw [new a o g (S.keep a o k2) n] at w; cases w
    keep := fun a o h => (keepT_of h).1
    trk := fun a q z => by
      rcases q with q | q
      · rcases L.tt a q with y | y | y
        · cases w3 : b.P a with
          | none => exact y w3
          | some u =>
            have k := S.keep a u w3
            by_cases n : ∃ ps, u = .tbl ps
            · obtain ⟨ps, rfl⟩ := n
              obtain ⟨p, hp2, rfl⟩ := List.mem_map.mp (L.pt a ps w3)
              obtain ⟨ps2, h1, _⟩ := t p hp2
              rw [z] at h1; cases h1
            · have ne : a ≠ b.pp := fun q => by rw [q, np] at w3; cases w3
              rw [at1 a u ne k fun ps y => n ⟨ps, y⟩] at z; cases z
        · cases w3 : b.G0 a with
          | none => exact y w3
          | some u =>
            have h1 := sub a u (gg a u (strip_at (S.gg a u w3) (L.nt a u w3)))
            rw [z] at h1; cases h1
        · obtain ⟨kvs, hp1⟩ := hp1
          rw [y, hp1] at z; cases z
      · have y : keepT T b.P H1 a ≠ none := q
        cases w3 : keepT T b.P H1 a with
        | none => exact y w3
        | some u => rw [(keepT_of w3).1] at z; cases z
    ptr := fun a h => .inr h
    gtr := fun a h => .inl (S.gtr a h)
    dat := fun i x h => by
      obtain ⟨v, h1, h2⟩ := S.dat i x (dat i x h)
      exact ⟨v, h1, (DA.strip (T := T) h2).mono gg⟩
    own := fun i xs h => own1 i xs (own i xs h)
    sep := fun i j xs ys a h1 h2 => S.sep i j xs ys a (own i xs h1) (own j ys h2)
    pen := fun i c h => by
      obtain ⟨⟨c', h1⟩, h2⟩ := pen i c h
      obtain ⟨kvs, hp⟩ := hp
      obtain ⟨p, k1, k2, _, _⟩ := S.pen i c' h1
      have k3 := S.penp i c' h1
      rw [k1] at k3
      obtain rfl : p = b.pp := by injection k3 with k3; injection k3 with k3; injection k3
      refine ⟨b.pp, k1, new b.pp _ k2 hp (fun _ z => nomatch z), ?_, h2⟩
      show keepT T b.P H1 b.pp = none
      obtain ⟨kvs1, hp1⟩ := hp1
      cases w : keepT T b.P H1 b.pp with
      | none => rfl
      | some o =>
        obtain ⟨w1, w2⟩ := keepT_of w
        rw [hp1] at w1
        cases w1
        rcases w2 with ⟨w2, _⟩ | ⟨_, w2⟩
        · exact absurd w2 (tc_not (fun _ z => nomatch z) fun _ z => nomatch z)
        · rw [np] at w2; cases w2
    penp := fun i c h => by
      obtain ⟨⟨c', h1⟩, _⟩ := pen i c h
      exact S.penp i c' h1
    onep := fun i j c c' h1 h2 => by
      obtain ⟨⟨d1, k1⟩, _⟩ := pen i c h1
      obtain ⟨⟨d2, k2⟩, _⟩ := pen j c' h2
      exact S.onep i j d1 d2 k1 k2
    len := by rw [len]; exact S.len }
end
end RS
end
section
set_option Elab.async false
set_option linter.all false
set_option autoImplicit false
set_option maxRecDepth 100000
set_option maxHeartbeats 2000000
/-! RS32: the readings of defs that hand lambdas over, and their promises. -/
namespace RS
open PySem PySem.Spec PyProof.Rows L2
section
variable (K : PySem.W.Frag) (T : Tb)
def EvM (te : TE) (ρ : En) (R : En → PyData → Prop) : Prop := ∀ b G H σ, LT T b → SA K b G H σ ρ → ∀ Q : VK, (∀ b' v x ρ' G2 H2, LT T b' → Ge b b' → R ρ' x → SA K b' G2 H2 σ ρ' → DA K G2 v x → Q v H2) → te σ H Q
def EtM (tt : TT) (ρ : En) (R : En → Bool → Prop) : Prop := ∀ b G H σ, LT T b → SA K b G H σ ρ → ∀ Q : Bool → Hp → Prop, (∀ b' x ρ' G2 H2, LT T b' → Ge b b' → R ρ' x → SA K b' G2 H2 σ ρ' → Q x H2) → tt σ H Q
def EsM (ts : TS) (ρ : En) (O : Out → Prop) : Prop := ∀ b G H σ D, LT T b → SA K b G H σ ρ → (∀ b', LT T b' → Ge b b' → To K b' D O) → ts D σ H
end
section
variable {K : PySem.W.Frag} {T : Tb} {ρ : En} {O : Out → Prop} {te tb : TE} {ta : TA} {tt : TT} {t u : TS} {g : TG} {x y z : PyData}
theorem Ev.m {R : En → PyData → Prop} (h : Ev K te ρ R) : EvM K T te ρ R := fun b G H σ L S Q q => h b G H σ S Q fun v x ρ' G2 H2 r S2 d => q b v x ρ' G2 H2 L (Ge.refl b) r S2 d
theorem EvT.m {R : En → Bool → Prop} (h : EvT K tt ρ R) : EtM K T tt ρ R := fun b G H σ L S Q q => h b G H σ S Q fun x ρ' G2 H2 r S2 => q b x ρ' G2 H2 L (Ge.refl b) r S2
theorem Es.m (h : Es K t ρ O) : EsM K T t ρ O := fun b G H σ D L S To => h b G H σ D S (To b L (Ge.refl b))
theorem evm_op {r : R2} {R1 : En → PyData → Prop} {R : En → PyData → Prop} {R2 : En → PyData → En → PyData → Prop} (h1 : EvM K T te ρ R1) (h2 : ∀ ρ1 x, R1 ρ1 x → Ev K tb ρ1 (R2 ρ1 x)) (hr : ∀ ρ1 x ρ2 y, R1 ρ1 x → R2 ρ1 x ρ2 y → ∃ z, RD K r x y z ∧ R ρ2 z) : EvM K T (tOp r te tb) ρ R := fun b G H σ L S Q q =>
  h1 b G H σ L S _ fun b1 v x ρ1 G1 H1 L1 g1 r1 S1 d1 => (h2 ρ1 x r1).runG S1 fun w y ρ2 G2 H2 r2 S2 g d2 => by
    obtain ⟨z, rd, rz⟩ := hr ρ1 x ρ2 y r1 r2
    exact rd G2 H2 v w S2.sub (d1.mono g) d2 Q fun u G3 H3 st d3 => q b1 u z ρ2 G3 H3 L1 g1 rz (S2.step st) d3
theorem etm_test {R1 : En → PyData → Prop} {R : En → Bool → Prop} (h : EvM K T te ρ R1) (hr : ∀ ρ1 x, R1 ρ1 x → ∃ c, x = .bool c ∧ R ρ1 c) : EtM K T (tTest te) ρ R := fun b G H σ L S Q q =>
  h b G H σ L S _ fun b1 v x ρ1 G1 H1 L1 g1 r1 S1 d1 => by
    obtain ⟨c, rfl, rc⟩ := hr ρ1 x r1
    cases d1
    exact ⟨c, rfl, q b1 c ρ1 G1 H1 L1 g1 rc S1⟩
theorem etm_not {R1 R : En → Bool → Prop} (h : EtM K T tt ρ R1) (hr : ∀ ρ1 c, R1 ρ1 c → R ρ1 (!c)) : EtM K T (tNot tt) ρ R := fun b G H σ L S Q q => h b G H σ L S _ fun b1 x ρ1 G1 H1 L1 g1 r S1 => q b1 (!x) ρ1 G1 H1 L1 g1 (hr ρ1 x r) S1
theorem etm_or {uu : TT} {R1 : En → Bool → Prop} {R : En → Bool → Prop} (h : EtM K T tt ρ R1) (h1 : ∀ ρ1, R1 ρ1 true → R ρ1 true) (h2 : ∀ ρ1, R1 ρ1 false → EtM K T uu ρ1 R) : EtM K T (tOr tt uu) ρ R := fun b G H σ L S Q q => h b G H σ L S _ fun b1 x ρ1 G1 H1 L1 g1 r S1 => by
  cases x with
  | true => exact q b1 true ρ1 G1 H1 L1 g1 (h1 ρ1 r) S1
  | false => exact h2 ρ1 r b1 G1 H1 σ L1 S1 Q fun b2 x ρ2 G2 H2 L2 g2 r2 S2 => q b2 x ρ2 G2 H2 L2 (g1.trans g2) r2 S2
theorem esm_if {R : En → Bool → Prop} (h : EtM K T tt ρ R) (h1 : ∀ ρ1, R ρ1 true → EsM K T t ρ1 O) (h2 : ∀ ρ1, R ρ1 false → EsM K T u ρ1 O) : EsM K T (tIfS tt t u) ρ O := fun b G H σ D L S To =>
  h b G H σ L S _ fun b1 x ρ1 G1 H1 L1 g1 r1 S1 => by
    cases x with
    | true =>
      show t D σ H1
      exact h1 ρ1 r1 b1 G1 H1 σ D L1 S1 fun b2 L2 g2 => To b2 L2 (g1.trans g2)
    | false =>
      show u D σ H1
      exact h2 ρ1 r1 b1 G1 H1 σ D L1 S1 fun b2 L2 g2 => To b2 L2 (g1.trans g2)
def ThenM (K : PySem.W.Frag) (T : Tb) (u : TS) (O : Out → Prop) : Out → Prop
  | .nx ρ => EsM K T u ρ O
  | o => O o
theorem esm_then (h : EsM K T t ρ (ThenM K T u O)) : EsM K T (tSeq t u) ρ O := fun b G H σ D L S To => h b G H σ _ L S fun b1 L1 g1 =>
  ⟨fun ρ' σ' G' H' o S' => o b1 G' H' σ' D L1 S' fun b2 L2 g2 => To b2 L2 (g1.trans g2), fun ρ' x v σ' G' H' o S' d => (To b1 L1 g1).rt ρ' x v σ' G' H' o S' d, fun ρ' σ' G' H' o S' => (To b1 L1 g1).bk ρ' σ' G' H' o S', fun ρ' σ' G' H' o S' => (To b1 L1 g1).ct ρ' σ' G' H' o S'⟩
theorem esm_imp {O' : Out → Prop} (h : EsM K T t ρ O) (i : ∀ o, O o → O' o) : EsM K T t ρ O' := fun b G H σ D L S To => h b G H σ D L S fun b' L' g' =>
  ⟨fun ρ' σ' G' H' o S' => (To b' L' g').nx ρ' σ' G' H' (i _ o) S', fun ρ' x v σ' G' H' o S' d => (To b' L' g').rt ρ' x v σ' G' H' (i _ o) S' d, fun ρ' σ' G' H' o S' => (To b' L' g').bk ρ' σ' G' H' (i _ o) S', fun ρ' σ' G' H' o S' => (To b' L' g').ct ρ' σ' G' H' (i _ o) S'⟩
theorem esm_nxM {R : En → Prop} (h1 : EsM K T t ρ (OnNx R)) (h : ∀ ρ', R ρ' → EsM K T u ρ' O) : EsM K T (tSeq t u) ρ O := esm_then (esm_imp h1 fun o ho => match o, ho with | .nx ρ', ho => h ρ' ho)
theorem esm_nx {R : En → Prop} (h1 : Es K t ρ (OnNx R)) (h : ∀ ρ', R ρ' → EsM K T u ρ' O) : EsM K T (tSeq t u) ρ O := esm_nxM h1.m h
theorem esm_ret {R : En → PyData → Prop} (h : EvM K T te ρ R) (k : ∀ ρ1 x, R ρ1 x → O (.rt ρ1 x)) : EsM K T (tRet te) ρ O := fun b G H σ D L S To => h b G H σ L S _ fun b1 v x ρ1 G1 H1 L1 g1 r1 S1 d1 => (To b1 L1 g1).rt ρ1 x v σ G1 H1 (k ρ1 x r1) S1 d1
theorem esm_asg {R : En → PyData → Prop} (h : EvM K T te ρ R) (k : ∀ ρ1 x, R ρ1 x → ∃ js ρ', Eg K g js ρ1 x ρ' ∧ O (.nx ρ')) : EsM K T (tAsg te g) ρ O := fun b G H σ D L S To => h b G H σ L S _ fun b1 v x ρ1 G1 H1 L1 g1 r1 S1 d1 => by
  obtain ⟨js, ρ', hg, ho⟩ := k ρ1 x r1
  exact hg b1 G1 H1 σ v S1 d1 _ fun σ' S2 _ => (To b1 L1 g1).nx ρ' σ' G1 H1 ho S2
/-- a loop whose source does not change -/
theorem esm_rng {ts : TS} {n : Nat} (h : Ea K ta ρ [.int (n : Nat)]) (hn : n ≤ 1000) (I : Nat → En → Prop) (h0 : I 0 ρ) (hs : ∀ i ρ', i < n → I i ρ' → ∃ js ρ2, Eg K g js ρ' (.int (i : Nat)) ρ2 ∧ EsM K T ts ρ2 (LoopO I O i)) (hd : ∀ ρ', I n ρ' → O (.nx ρ')) : EsM K T (tFor (iRng1 ta) g ts) ρ O := fun b G H σ D L S To => by
  refine h b G H σ S _ fun vs xs ρ1 G1 H1 e S1 d1 => ?_
  obtain ⟨rfl, rfl⟩ := e
  obtain ⟨v, rfl, dv⟩ := d1.one
  cases dv
  refine ⟨(n : Int), rfl, by omega, by omega, ?_⟩
  rw [Int.toNat_natCast]
  have w : ∀ G', Walks K (Itr 0 n) G' (rgD n) := fun G' => by
    have w := walks_range (K := K) (lo := 0) (n := n) (G0 := G')
    have e : ((List.range n).map fun i => PyData.int (0 + (i : Nat))) = rgD n := by
      unfold rgD
      exact List.map_congr_left fun i _ => by rw [Int.zero_add]
    rw [e] at w
    exact w
  refine ⟨fun i m σ' H' => m = n - i ∧ i ≤ n ∧ ∃ b' ρ' G', LT T b' ∧ Ge b b' ∧ I i ρ' ∧ SA K b' G' H' σ' ρ', ⟨n, rfl, Nat.zero_le _, b, ρ1, G1, L, Ge.refl b, h0, S1⟩, ?_⟩
  rintro i m σ' H' ⟨rfl, hi, b', ρ', G', L', g', hI, S'⟩
  by_cases hlt : i < n
  · have hlen : i < (rgD n).length := by rw [rgD_len]; exact hlt
    refine .inr ⟨(w G').go i G' H' (Sub.refl G') S'.sub hlen, fun σ2 H2 => i + 1 ≤ n ∧ ∃ b2 ρ2 G2, LT T b2 ∧ Ge b b2 ∧ I (i + 1) ρ2 ∧ SA K b2 G2 H2 σ2 ρ2, fun σ2 H2 p => ⟨n - (i + 1), by omega, rfl, p.1, p.2⟩, fun v H2 y => ?_⟩
    obtain ⟨G2, st, dv⟩ := (w G').yld i G' H' v H2 (Sub.refl G') S'.sub y (rgD n)[i] (List.getElem?_eq_getElem hlen)
    obtain ⟨ex, _⟩ := rgD_get (List.getElem?_eq_getElem hlen)
    rw [ex] at dv
    obtain ⟨js, ρ2, hg, hb⟩ := hs i ρ' hlt hI
    have S2 := S'.step st
    refine hg _ G2 H2 σ' v S2 dv _ fun σ3 S3 _ => hb _ G2 H2 σ3 _ L' S3 fun b3 L3 g3 => ⟨fun ρ4 σ4 G4 H4 o S4 => ⟨hlt, b3, ρ4, G4, L3, g'.trans g3, o, S4⟩, fun ρ4 x v4 σ4 G4 H4 o S4 d4 => (To b3 L3 (g'.trans g3)).rt ρ4 x v4 σ4 G4 H4 o S4 d4, fun ρ4 σ4 G4 H4 o S4 => (To b3 L3 (g'.trans g3)).nx ρ4 σ4 G4 H4 o S4, fun ρ4 σ4 G4 H4 o S4 => ⟨hlt, b3, ρ4, G4, L3, g'.trans g3, o, S4⟩⟩
  · have e : i = n := by omega
    subst e
    exact .inl ⟨(w G').stop _ G' H' (Sub.refl G') S'.sub (by rw [rgD_len]), (To b' L' g').nx ρ' σ' G' H' (hd ρ' hI) S'⟩
theorem pen_here {b : Bs} {G H : Hp} {σ : L2.St} {i c : Nat} (S : SA K b G H σ ρ) (hi : ρ[i]? = some (some (Sl.pen c))) : σ[i]? = some (some (.ref b.pp)) ∧ G b.pp = none ∧ b.P b.pp = none ∧ PenAt K G H b.pp c := by
  obtain ⟨p, h1, h2, h3, h4⟩ := S.pen i c hi
  have h5 := S.penp i c hi
  rw [h1] at h5
  obtain rfl : p = b.pp := by injection h5 with h5; injection h5 with h5; injection h5
  exact ⟨h1, h2, h3, h4⟩
/-- behind the making of a lambda -/
theorem SA.lam {b : Bs} {G H H1 : Hp} {σ : L2.St} {i c : Nat} (L : LT T b) (S : SA K b G H σ ρ) (hi : ρ[i]? = some (some (Sl.pen c))) (e : LamX.ExtN H H1) (t : LamX.Tabs T H1) : LT T (nextB T b H1) ∧ Ge b (nextB T b H1) ∧ SA K (nextB T b H1) (strip T G) H1 σ ρ := by
  obtain ⟨h1, h2, h3, h4⟩ := pen_here S hi
  have e2 : ∀ a o, a ≠ b.pp → H a = some o → (∀ ps, o ≠ .tbl ps) → H1 a = some o := fun a o _ h n => e a o h n
  obtain ⟨kvs, hk⟩ := h4.there
  have hk1 := e _ _ hk fun _ z => nomatch z
  obtain ⟨L1, g1⟩ := nextB_ok (H1 := H1) L S e2 h3 t
  refine ⟨L1, g1, S.nextM L e2 h3 ⟨kvs, hk⟩ ⟨kvs, hk1⟩ t (Sub.refl _) (fun a o h => ?_) (fun a o h _ _ => strip_none h) (fun a o h => (strip_of h).2) (fun _ _ h => h) (fun _ _ h => h) (fun j d h => ⟨⟨d, h⟩, ?_⟩) rfl⟩
  · obtain ⟨k1, k2⟩ := strip_of h
    exact e a o (S.sub a o k1) fun ps z => k2 (.inl ⟨ps, z⟩)
  · obtain ⟨_, _, _, k4⟩ := pen_here S h
    exact (PenAt.strip (T := T) k4).mono (Sub.refl _) (fun o z => by
      rw [hk] at z
      cases z
      exact hk1) (Nat.le_refl _)
/-- the lambda's call raises -/
theorem evm_lamX {tab : List Cl} {n i c0 : Nat} {Pre : List PyData → Prop} {C : Addr} {kv : List PyData → List (PyData × PyData)} {w : Str} {fl : List Str} {R1 : En → List PyData → Prop} {R : En → PyData → Prop} (hi : ρ[i]? = some (some (Sl.pen c0))) (h : EvA K ta ρ R1) (mem : (C, w, fl) ∈ tab) (hl : fl.length ≤ 100)
    (k : ∀ ρ1 ds, R1 ρ1 ds → ds.length = n ∧ Pre ds ∧ ∃ outs, OutsOk (kv ds) fl outs ∧ R ρ1 (.tuple (.str w :: outs))) : EvM K T (LamX.tLam T (TTw tab) fun E => tCallS (spX K n Pre C kv) (fun _ => E) ta) ρ R := fun b G H σ L S Q q => ⟨L.tabs S, fun H1 e t1 => by
    obtain ⟨L1, g1, S1⟩ := S.lam L hi e t1
    refine h _ _ H1 σ S1 _ fun vs xs ρ1 G2 H2 r S2 d2 => ?_
    obtain ⟨hn, hp, outs, hf, hr⟩ := k ρ1 xs r
    refine ⟨G2, xs, S2.sub, d2, hn, hp, fun G3 H3 dd fs st hd hfs => ?_⟩
    obtain ⟨us, l, dus, lu⟩ := outs_lks hfs hf
    have S3 := S2.step st
    refine ⟨(C, w, fl), us, dd, fs, mem, rfl, rfl, hd, l, by rw [lu]; exact hl, fun x hx => ?_⟩
    have st2 := Step.lay S3.sub (.tup (.str w :: us)) hx
    exact q _ (.ref x) _ ρ1 _ _ L1 g1 hr (S3.step st2) (.tup (SqT.of upd_same) ((DAs.cons (.str w) dus).mono st2.gg))⟩
/-- the lambda's call comes to an end -/
theorem evm_lamN {tab : List Cl} {i c0 : Nat} {tl : TE} {R1 : En → PyData → Prop} {R : En → PyData → Prop} (hi : ρ[i]? = some (some (Sl.pen c0))) (h : Ev K tl ρ R1) (k : ∀ ρ1 y, R1 ρ1 y → R ρ1 .none) : EvM K T (LamX.tLam T (TTw tab) fun _ => tl) ρ R := fun b G H σ L S Q q => ⟨L.tabs S, fun H1 e t1 => by
    obtain ⟨L1, g1, S1⟩ := S.lam L hi e t1
    exact h _ _ H1 σ S1 _ fun v y ρ1 G2 H2 r S2 _ => q _ .non .none ρ1 G2 H2 L1 g1 (k ρ1 y r) S2 .non⟩
end
/-! ### promises -/
structure StepT (p : Addr) (G H G2 H2 : Hp) : Prop where
  gg : Sub G G2
  sub : Sub G2 H2
  hh : ∀ a o, a ≠ p → H a = some o → (∀ ps, o ≠ .tbl ps) → H2 a = some o
  new : ∀ a o, G a = none → H a = some o → (∀ ps, o ≠ .tbl ps) → G2 a = none
/-- the promise of a def with a pen that hands lambdas over, or calls such a one -/
def spT (K : PySem.W.Frag) (T : Tb) (n : Nat) (Pre : List PyData → Prop) (B : Nat) (R : List PyData → PyData → Prop) : Sp := fun vs H Q _ => ∃ G p c vs' ds, vs = .ref p :: vs' ∧ Sub G H ∧ (∀ a o, G a = some o → ¬ TC T a o) ∧ G p = none ∧ PenAt K G H p c ∧ c + B ≤ LIM ∧ DAs K G vs' ds ∧ ds.length = n ∧ Pre ds ∧ LamX.Tabs T H ∧
  ∀ v y G2 H2, R ds y → StepT p G H G2 H2 → (∀ a o, G2 a = some o → ¬ TC T a o) → LamX.Tabs T H2 → PenAt K G2 H2 p (c + B) → DA K G2 v y → Q v H2
section
variable {K : PySem.W.Frag} {T : Tb} {ρ : En} {ta : TA} {n B : Nat} {Pre : List PyData → Prop} {Rf : List PyData → PyData → Prop}
theorem evm_callT {E : XK} {R1 : En → List PyData → Prop} {R : En → PyData → Prop} {i c0 : Nat} (hi : ρ[i]? = some (some (Sl.pen c0))) (h : EvA K ta ρ R1)
    (k : ∀ ρ1 ds, R1 ρ1 ds → ∃ c1, ρ1 = setPen c1 ρ ∧ ds.length = n ∧ Pre ds ∧ c1 + B ≤ LIM ∧ ∀ y, Rf ds y → R (setPen (c1 + B) ρ) y) : EvM K T (tCall (spT K T n Pre B Rf) [] E (tCons (tVar i) ta)) ρ R := fun b G H σ L S Q q => by
  obtain ⟨hs, _, _, _⟩ := pen_here S hi
  refine ⟨.ref b.pp, hs, ?_⟩
  refine h _ G H σ S _ fun vs ds ρ1 G1 H1 h1 S1 d1 => ?_
  obtain ⟨c1, e1, hl, hp, hc, hy⟩ := k ρ1 ds h1
  subst e1
  have hi1 := setPen_at (c := c1) hi
  obtain ⟨_, gp, np, PA⟩ := pen_here S1 hi1
  obtain ⟨kv, hk⟩ := PA.there
  rw [List.append_nil]
  refine ⟨strip T G1, b.pp, c1, vs, ds, rfl, fun a o z => S1.sub a o (strip_of z).1, fun a o z => (strip_of z).2, strip_none gp, PA.strip, hc, d1.strip, hl, hp, L.tabs S1, fun v y G2 H2 r st nc t2 P2 d => ?_⟩
  obtain ⟨kv2, hk2⟩ := P2.there
  obtain ⟨L2, g2⟩ := nextB_ok (H1 := H2) L S1 st.hh np t2
  have S2 := S1.nextM (ρ2 := setPen (c1 + B) (setPen c1 ρ)) L st.hh np ⟨kv, hk⟩ ⟨kv2, hk2⟩ t2 st.gg st.sub (fun a o z1 z2 z3 => st.new a o (strip_none z1) z2 z3) nc (fun j x z => setPen_d.mp z) (fun j x z => setPen_own.mp z) (fun j d2 z => by
    obtain ⟨rfl, e, he⟩ := setPen_pen z
    exact ⟨⟨e, he⟩, P2⟩) (by rw [setPen_len])
  rw [setPen_setPen] at S2
  exact q _ v y _ G2 H2 L2 g2 (hy y r) S2 d
end
section
variable {P : Program} {w : World} {K : PySem.W.Frag} {mg : Str → Option Value} {base : Heap}
theorem sa_startT {T : Tb} {G H : Hp} {p : Addr} {c : Nat} {vs : List V} {ds : List PyData} {N : List Str} (s : Sub G H) (gp : G p = none) (PA : PenAt K G H p c) (d : DAs K G vs ds) (nc : ∀ a o, G a = some o → ¬ TC T a o) (t : LamX.Tabs T H) :
    LT T ⟨G, keepT T (wo H p) H, fun a => keepT T (wo H p) H a ≠ none ∨ G a ≠ none ∨ a = p, p⟩ ∧ SA K ⟨G, keepT T (wo H p) H, fun a => keepT T (wo H p) H a ≠ none ∨ G a ≠ none ∨ a = p, p⟩ G H (L2.start N (.ref p :: vs)) (startP N c ds) := by
  have S := sa_startP (N := N) s gp PA d
  obtain ⟨kv, hk⟩ := PA.there
  have np : keepT T (wo H p) H p = none := by
    cases w : keepT T (wo H p) H p with
    | none => rfl
    | some o =>
      obtain ⟨w1, w2⟩ := keepT_of w
      rw [hk] at w1
      cases w1
      rcases w2 with ⟨w2, _⟩ | ⟨_, w2⟩
      · exact absurd w2 (tc_not (fun _ z => nomatch z) fun _ z => nomatch z)
      · unfold wo at w2
        rw [if_pos rfl] at w2; cases w2
  have noOwn : ∀ (i : Nat) (xs : List PyData), (startP N c ds)[i]? ≠ some (some (Sl.own xs)) := fun i xs e => by
    cases i with
    | zero => cases e
    | succ j =>
      have e' : (ds.map (fun d => some (Sl.d d)) ++ List.replicate (N.length - (ds.length + 1)) none)[j]? = some (some (Sl.own xs)) := e
      rcases get_app e' with h | h
      · rw [List.getElem?_map] at h
        cases hd : ds[j]? with
        | none => rw [hd] at h; cases h
        | some x => rw [hd] at h; cases h
      · cases h
  refine ⟨⟨nc, fun a ps h => ?_, keepT_in t, fun a h => ?_⟩, {
    sub := s, gg := Sub.refl G, new := fun a h _ => h
    keep := fun a o h => (keepT_of h).1
    trk := fun a h z => ?_
    ptr := fun a h => .inl h
    gtr := fun a h => .inr (.inl h)
    dat := S.dat
    own := fun i xs e => absurd e (noOwn i xs)
    sep := fun i j xs ys a e => absurd e (noOwn i xs)
    pen := fun i d' e => ?_
    penp := S.penp, onep := S.onep, len := S.len }⟩
  · obtain ⟨_, h2⟩ := keepT_of h
    rcases h2 with ⟨_, h2⟩ | ⟨h2, _⟩
    · exact h2 ⟨ps, rfl⟩
    · exact absurd (Or.inl ⟨ps, rfl⟩) h2
  · exact h
  · rcases h with h | h | h
    · cases w : keepT T (wo H p) H a with
      | none => exact h w
      | some o => rw [(keepT_of w).1] at z; cases z
    · cases w : G a with
      | none => exact h w
      | some o => rw [s a o w] at z; cases z
    · rw [h, hk] at z; cases z
  · obtain ⟨q, h1, h2, _, h4⟩ := S.pen i d' e
    have h5 := S.penp i d' e
    rw [h1] at h5
    obtain rfl : q = p := by injection h5 with h5; injection h5 with h5; injection h5
    exact ⟨q, h1, h2, np, h4⟩
/-- a def with a pen, at whose code object c hangs a table of T -/
theorem fn_T {x : Str} {st : Stmt} {f : Addr} {cdv : Value} {N ps : List Str} {a : Str} {k B : Nat} {T : Tb} {Pre : List PyData → Prop} {R : List PyData → PyData → Prop} {oc kV doc pm ct : Value} {od an : Option Addr} {osl : Array (Option Value)}
    (lk : K.lookup f = some ⟨oc, od, .func (PySem.W.fnOf x x (defArgs st) (defBody st) (defScope st) .none kV doc pm an cdv ct), osl⟩) (hcd : PySem.W.codeIn K cdv x = true) (S : FnScope N (a :: ps) (defScope st))
    (hb : ∀ (A : Around) (outer : List PySem.Env) (s : Shared) (H : Hp) (E : XK), Room k (A.deeper (PyProof.Rows.envOfC x (defScope st) s.heap.objs.size f cdv)) →
      ∃ t, PSs (cxOf CX0 P w K mg base N x (defScope st) f cdv A outer s H E).nox (defBody st) t ∧ ∀ c ds, c + B ≤ LIM → ds.length = ps.length → Pre ds → EsM K T t (startP N c ds) (RetP (c + B) (R ds))) :
    FnOk P w K mg base CX0 (k + 1) f (PySem.W.fnOf x x (defArgs st) (defBody st) (defScope st) .none kV doc pm an cdv ct) (a :: ps) (spT K T ps.length Pre B R) := by
  refine fn_of lk hcd S (fun vs H Q E h => ?_) fun A outer s H vs Q E hr h => ?_
  · obtain ⟨G, p, c, vs', ds, rfl, _, _, _, _, _, d, hl, _⟩ := h
    rw [List.length_cons, List.length_cons, d.length, hl]
  · obtain ⟨t, ht, hs⟩ := hb A outer s H E hr
    obtain ⟨G, p, c, vs', ds, rfl, sub, nc, gp, PA, hc, d, hl, hp, tb, q⟩ := h
    obtain ⟨L0, S0⟩ := sa_startT (N := N) sub gp PA d nc tb
    obtain ⟨kv, hk⟩ := PA.there
    refine ⟨t, ht.nox, hs c ds hc hl hp _ G H _ _ L0 S0 fun b' L' g' => ?_⟩
    have fin : ∀ {ρ : En} {σ : L2.St} {G2 H2 : Hp} {v : V} {y : PyData} {d' : Nat}, SA K b' G2 H2 σ ρ → ρ[0]? = some (some (Sl.pen d')) → d' ≤ c + B → R ds y → DA K G2 v y → Q v H2 := fun {ρ σ G2 H2 v y d'} S2 e le r dv => by
      obtain ⟨k1, k2, k3, k4⟩ := pen_here S2 e
      rw [g'.pp] at k2 k4
      have pin : ∀ a o, a ≠ p → H a = some o → (∀ ps, o ≠ .tbl ps) → keepT T (wo H p) H a = some o := fun a o ne h n => by
        by_cases tc : TC T a o
        · exact keepT_tc h tc fun ⟨ps, z⟩ => absurd z (n ps)
        · exact keepT_p h tc (by unfold wo; rw [if_neg ne]; exact h)
      refine q v y (strip T G2) H2 r ⟨fun a o h => strip_at (S2.gg a o (by rw [g'.g]; exact h)) (nc a o h), fun a o h => S2.sub a o (strip_of h).1, fun a o ne h n => S2.keep a o (g'.p a o (pin a o ne h n) n), fun a o h1 h2 n => strip_none ?_⟩ (fun a o h => (strip_of h).2) (L'.tabs S2) (k4.strip.mono (Sub.refl _) (fun _ z => z) le) dv.strip
      by_cases ne : a = p
      · rw [ne]; exact k2
      · exact S2.new a (by rw [g'.g]; exact h1) (g'.t a (.inl (by rw [pin a o ne h2 n]; exact fun z => nomatch z)))
    exact ⟨fun ρ σ G2 H2 o S2 => let ⟨o1, d', e, le⟩ := o; fin S2 e le o1 .non, fun ρ y v σ G2 H2 o S2 dv => let ⟨o1, d', e, le⟩ := o; fin S2 e le o1 dv, fun _ _ _ _ o => o.elim, fun _ _ _ _ o => o.elim⟩
end
end RS
end
section
set_option Elab.async false
set_option linter.all false
set_option autoImplicit false
set_option maxRecDepth 100000
set_option maxHeartbeats 2000000
/-! RS33: the law over defs that hand lambdas over, and its walk. -/
namespace RS
open PySem PySem.Spec PyProof.Rows L2
section
variable {P : Program} {w : World} {K : PySem.W.Frag} {mg : Str → Option Value} {base : Heap}
theorem lt_new {T : Tb} {ca p : Addr} {ns : List Int} : LT T ⟨fun x => if x = ca then some (.lst (ns.map V.int)) else none, fun x => if x ∈ T.map (·.1) then some (.tbl #[]) else none, fun x => x ∈ T.map (·.1) ∨ x = ca ∨ x = p, p⟩ := by
  refine ⟨fun a o z => ?_, fun a ps z => ?_, fun q hq => ⟨#[], if_pos (List.mem_map.mpr ⟨q, hq, rfl⟩), True.intro, fun pos cv hc => ?_⟩, fun a h => ?_⟩
  · have z2 : (if a = ca then some (HO.lst (ns.map V.int)) else none) = some o := z
    by_cases h : a = ca
    · rw [if_pos h] at z2
      cases z2
      exact tc_not (fun _ z => nomatch z) fun _ z => nomatch z
    · rw [if_neg h] at z2; cases z2
  · have z2 : (if a ∈ T.map (·.1) then some (HO.tbl #[]) else none) = some (.tbl ps) := z
    by_cases h : a ∈ T.map (·.1)
    · exact h
    · rw [if_neg h] at z2; cases z2
  · have z : codeAmong pos [] = some cv := hc
    simp [codeAmong] at z
  · rcases h with h | h | h
    · left
      show (if a ∈ T.map (·.1) then some (HO.tbl #[]) else none) ≠ none
      rw [if_pos h]; exact fun z => nomatch z
    · right; left
      show (if a = ca then some (HO.lst (ns.map V.int)) else none) ≠ none
      rw [if_pos h]; exact fun z => nomatch z
    · exact .inr (.inr h)
theorem sa_lawM {H : Hp} {a p ca : Addr} {ns : List Int} {N : List Str} {T : Tb} (hN : 2 ≤ N.length) (hca : H ca = some (.lst (ns.map V.int))) (ne : p ≠ ca) (PA : ∀ G, G ca = some (.lst (ns.map V.int)) → PenAt K G H p 0) (hP : ∀ x ∈ T.map (·.1), H x = some (.tbl #[])) (np : p ∉ T.map (·.1)) :
    SA K ⟨fun x => if x = ca then some (.lst (ns.map V.int)) else none, fun x => if x ∈ T.map (·.1) then some (.tbl #[]) else none, fun x => x ∈ T.map (·.1) ∨ x = ca ∨ x = p, p⟩ (fun x => if x = ca then some (.lst (ns.map V.int)) else none) H ((L2.start N [.ref a]).set 1 (some (.ref p))) (startL N.length) := by
  have S := sa_lawT (K := K) (a := a) hN hca ne PA hP np
  exact {
    sub := S.sub, gg := S.gg, new := fun x h _ => h
    keep := S.keep
    trk := fun x h z => by
      rcases h with h | h | h
      · rw [hP x h] at z; cases z
      · rw [h, hca] at z; cases z
      · obtain ⟨kv, hk⟩ := (PA (fun x => if x = ca then some (.lst (ns.map V.int)) else none) (if_pos rfl)).there
        rw [h, hk] at z; cases z
    ptr := fun x h => by
      left
      have h2 : (if x ∈ T.map (·.1) then some (HO.tbl #[]) else none) ≠ none := h
      by_cases e : x ∈ T.map (·.1)
      · exact e
      · rw [if_neg e] at h2; exact absurd rfl h2
    gtr := fun x h => by
      right; left
      have h2 : (if x = ca then some (HO.lst (ns.map V.int)) else none) ≠ none := h
      by_cases e : x = ca
      · exact e
      · rw [if_neg e] at h2; exact absurd rfl h2
    dat := S.dat
    own := fun i xs e => absurd e (by
      unfold startL
      match i with
      | 0 => exact fun z => nomatch z
      | 1 => exact fun z => nomatch z
      | i + 2 =>
        show (List.replicate (N.length - 2) (none : Option Sl))[i]? ≠ _
        rw [List.getElem?_replicate]
        split <;> exact fun z => nomatch z)
    sep := S.sep, pen := S.pen, penp := S.penp, onep := S.onep, len := S.len }
theorem fn_lawM {st : Stmt} {f : Addr} {cdv : Value} {N : List Str} {k : Nat} {T : Tb} {oc kV doc pm ct : Value} {od an : Option Addr} {osl : Array (Option Value)} (lk : K.lookup f = some ⟨oc, od, .func (PySem.W.fnOf "law" "law" (defArgs st) (defBody st) (defScope st) .none kV doc pm an cdv ct), osl⟩)
    (hcd : PySem.W.codeIn K cdv "law" = true) (S : FnScope N ["script"] (defScope st)) (hN : 2 ≤ N.length)
    (hb : ∀ (A : Around) (outer : List PySem.Env) (s : Shared) (H : Hp) (E : XK), Room k (A.deeper (PyProof.Rows.envOfC "law" (defScope st) s.heap.objs.size f cdv)) →
      ∃ t, PSs (cxOf CX0 P w K mg base N "law" (defScope st) f cdv A outer s H E).nox (defBody st) (tSeq (tAsg (tCall (spMkPen K) [] E0 (tCons (tVar 0) tNil)) (gName 1)) t) ∧ EsM K T t (startL N.length) LawO) :
    FnOk P w K mg base CX0 (k + 1) f (PySem.W.fnOf "law" "law" (defArgs st) (defBody st) (defScope st) .none kV doc pm an cdv ct) ["script"] (spLawT K (T.map (·.1))) := by
  refine fn_of lk hcd S (fun vs H Q E h => ?_) fun A outer s H vs Q E hr h => ?_
  · obtain ⟨_, _, rfl, _⟩ := h
    rfl
  · obtain ⟨t, ht, hs⟩ := hb A outer s H E hr
    obtain ⟨a, ns, rfl, hS, hl, hP, q⟩ := h
    refine ⟨_, ht.nox, ?_⟩
    refine ⟨.ref a, rfl, a, ns, rfl, hS, hl, fun p ca H2 hp hca ne keep h2 hPA => ?_⟩
    have hP2 : ∀ x ∈ T.map (·.1), H2 x = some (.tbl #[]) := fun x hx => keep x _ (hP x hx)
    refine hs _ _ H2 _ _ lt_new (sa_lawM (N := N) (a := a) hN h2 ne hPA hP2 fun z => ?_) fun b' _ _ => ⟨fun _ _ _ _ o => o.elim, fun ρ y v σ G3 H3 o S3 dv => ?_, fun _ _ _ _ o => o.elim, fun _ _ _ _ o => o.elim⟩
    · have e := hP p z
      rw [hp] at e; cases e
    · have e : y = .bool true := o
      subst e
      cases dv
      exact q H3
end
/-- the walk of a law whose defs hand lambdas over: cs, their code objects and tables -/
theorem walkM {l : PySem.W.OpenLaw} {q : Program} {loose : List Str} {XP : (Str → Option Value) → Heap → Prop} {YP : World → Heap → Prop} {d : DefRec} {K : Params → PySem.W.Frag} {k : Nat} (ts : List Addr) (hn : l.most = some 63) (hdf : d.params.defaults = []) (hk : Room k callerA)
    (hY : ∀ (w : World) (h : Heap), YP w h → (K w.params).In h) (hT : ∀ (w : World) (h : Heap), YP w h → ∀ x ∈ ts, h.get? x = some { cls := .none, data := .fields #[] })
    (F : ∀ (w : World) (mg : Str → Option Value) (fa : Addr) (h : Heap), (K w.params).In h → h.Ns mainGlobals mg → mg d.name = some (.ref fa) →
      ∃ (fd : FuncData) (cs : List (Addr × Addr)) (T : Tb), T.map (·.1) = cs.map (·.2) ∧ (∀ p ∈ cs, p.2 ∈ ts) ∧ (∀ p ∈ cs, PySem.W.codeHdIn (K w.params) p.1 p.2 = true) ∧ (∀ p ∈ cs, (K w.params).lookup p.2 = none) ∧
        (∀ (s : Shared) (u : Value), BindsTo s fd ⟨[u], []⟩ [("script", u)]) ∧ ∀ base : Heap, (K w.params).In base → base.Ns mainGlobals mg → (∀ p ∈ cs, LamX.TabB base mg p.1 p.2) → FnOk l.prog w (K w.params) mg base CX0 k fa fd ["script"] (spLawT (K w.params) (T.map (·.1)))) :
    PySem.W.WalkO q loose XP YP l.row.toRowW d [] (fun f vs => PySem.call f vs) := by
  refine LamX.walk_ofTs (n := 63) (k := k) (x := "script") (CX := fun _ => CX0) hn (by decide) hdf hk hY (fun w mg fa h Y KX G hm => ?_) fun _ _ _ _ _ z => z
  obtain ⟨fd, cs, T, h0, h1, h2, h3, h4, h5⟩ := F w mg fa h KX G hm
  refine ⟨fd, cs, spLawT (K w.params) (T.map (·.1)), fun p hp => hT w h Y _ (h1 p hp), h3, fun p hp => PySem.W.codeHd_of_K KX (h2 p hp), h4, fun H a ns hl _ hH hS => ⟨a, ns, rfl, hS, hl, fun x hx => ?_, fun _ => rfl⟩, h5⟩
  rw [h0] at hx
  obtain ⟨p, hp, rfl⟩ := List.mem_map.mp hx
  exact hH p hp
end RS
end
section
set_option Elab.async false
set_option linter.all false
set_option autoImplicit false
set_option maxRecDepth 100000
set_option maxHeartbeats 2000000
/-! RS34: objects: their making, raising or not; == of two by their own def; isinstance of one. -/
namespace RS
open PySem PySem.Spec PyProof.Rows L2
def adrD (a : Addr) : PyData := .dict [(.int (a : Int), .none)]
/-- data of an instance of C -/
abbrev insD (C : Addr) (kvs : List (PyData × PyData)) : PyData := .dict ((.none, .int (C : Int)) :: kvs)
theorem DA.insH {K : PySem.W.Frag} {G H : Hp} {v : V} {C : Addr} {kvs : List (PyData × PyData)} (s : Sub G H) (h : DA K G v (insD C kvs)) : ∃ a dx fs, v = .ref a ∧ H a = some (.ins C dx fs) ∧ Cls K C ∧ DFs K G fs kvs := by
  unfold insD at h
  generalize hc : (C : Int) = c at h
  cases h with
  | obj h1 h2 h3 =>
    have e := Int.ofNat.inj hc
    subst e
    exact ⟨_, _, _, rfl, s _ _ h1, h2, h3⟩
/-- the promise of an __init__ over data: the new object first -/
def spNew (K : PySem.W.Frag) (C : Addr) (n : Nat) (Pre : List PyData → Prop) (fl : List PyData → List (PyData × PyData)) : Sp := fun vs H Q _ => ∃ (G : Hp) (p dx : Addr) (vs2 : List V) (ds : List PyData), vs = .ref p :: vs2 ∧ Sub G H ∧ G p = none ∧ H p = some (.ins C dx []) ∧ DAs K G vs2 ds ∧ ds.length = n ∧ Pre ds ∧
  ∀ fs G2 H2, H2 p = some (.ins C dx fs) → G2 p = none → DFs K G2 fs (fl ds) → Sub G G2 → (∀ a o, G2 a = some o → H2 a = some o) → (∀ a o, a ≠ p → H a = some o → H2 a = some o) → (∀ a, G a = none → H a ≠ none → G2 a = none) → Q .non H2
theorem ev_make {K : PySem.W.Frag} {ρ : En} {ta : TA} {E : XK} {C : Addr} {n : Nat} {Pre : List PyData → Prop} {fl : List PyData → List (PyData × PyData)} {R1 : En → List PyData → Prop} {R : En → PyData → Prop} (c : Cls K C) (h : EvA K ta ρ R1) (k : ∀ ρ1 ds, R1 ρ1 ds → ds.length = n ∧ Pre ds ∧ R ρ1 (insD C (fl ds))) :
    Ev K (tMake C (spNew K C n Pre fl) [] E ta) ρ R := fun b G H σ S Q q =>
  h _ G H σ S _ fun vs ys ρ1 G1 H1 e1 S1 d1 => by
    obtain ⟨hn, hp, hr⟩ := k ρ1 ys e1
    intro x dx hx hdx ne
    rw [List.append_nil]
    have h1 : ∀ a o, G1 a = some o → a ≠ x ∧ a ≠ dx := fun a o e => by
      have := S1.sub a o e
      exact ⟨fun z => (by rw [z, hx] at this; cases this), fun z => (by rw [z, hdx] at this; cases this)⟩
    have h2 : ∀ a o, H1 a = some o → a ≠ x ∧ a ≠ dx := fun a o e => ⟨fun z => (by rw [z, hx] at e; cases e), fun z => (by rw [z, hdx] at e; cases e)⟩
    have up : ∀ a, a ≠ x → a ≠ dx → upd (upd H1 dx (.own x)) x (.ins C dx []) a = H1 a := fun a n1 n2 => by rw [upd_ne n1, upd_ne n2]
    have gx : G1 x = none := by
      cases e : G1 x with
      | none => rfl
      | some o => exact absurd rfl (h1 x o e).1
    refine ⟨G1, x, dx, vs, ys, rfl, fun a o e => ?_, gx, upd_same, d1, hn, hp, fun fs G2 H2 e2 g2 df gg sub keep new => ⟨rfl, ?_⟩⟩
    · rw [up a (h1 a o e).1 (h1 a o e).2]
      exact S1.sub a o e
    · have st : Step G1 H1 (upd G2 x (.ins C dx fs)) H2 := {
        gg := fun a o e => by rw [upd_ne (h1 a o e).1]; exact gg a o e
        sub := fun a o e => by
          by_cases ha : a = x
          · subst ha; rw [upd_same] at e; rw [e2]; exact e
          · rw [upd_ne ha] at e; exact sub a o e
        hh := fun a o e => keep a o (h2 a o e).1 (by rw [up a (h2 a o e).1 (h2 a o e).2]; exact e)
        new := fun a n1 n2 => by
          have nx : a ≠ x := fun z => n2 (by rw [z]; exact hx)
          rw [upd_ne nx]
          exact new a n1 (by
            by_cases hd : a = dx
            · subst hd; exact absurd hdx n2
            · rw [up a nx hd]; exact n2) }
      exact q _ _ ρ1 _ H2 hr (S1.step st) (.obj upd_same c (df.mono fun a o e => by
        rw [upd_ne (fun z => by rw [z, g2] at e; cases e)]; exact e))
/-- the promise of an __init__ that raises before it keeps a thing -/
def spNx (K : PySem.W.Frag) (n : Nat) (Pre : List PyData → Prop) (C : Addr) (kv : List PyData → List (PyData × PyData)) : Sp := spX K (n + 1) (fun ds => ∃ p ds', ds = adrD p :: ds' ∧ Pre ds') C fun ds => kv ds.tail
/-- a reading that raises C: with what fields -/
def EvX (K : PySem.W.Frag) (te : XK → TE) (ρ : En) (C : Addr) (R : En → List (PyData × PyData) → Prop) : Prop := ∀ b G H σ, SA K b G H σ ρ → ∀ (E : XK) (Q : VK),
  (∀ ρ1 G2 H2 dd fs kv, R ρ1 kv → SA K b G2 H2 σ ρ1 → H2 dd = some (.xd fs) → DFs K G2 fs kv → E (.ref C) (some dd) H2) → te E σ H Q
section
variable {K : PySem.W.Frag} {ρ : En} {ta : TA} {te : XK → TE} {n : Nat} {Pre : List PyData → Prop} {C D : Addr} {kv : List PyData → List (PyData × PyData)} {R1 : En → List PyData → Prop} {R : En → List (PyData × PyData) → Prop} {O : Out → Prop} {kvs : List (PyData × PyData)} {E : XK}
theorem evx_call (h : EvA K ta ρ R1) (k : ∀ ρ1 ds, R1 ρ1 ds → ds.length = n ∧ Pre ds ∧ R ρ1 (kv ds)) : EvX K (fun E => tCallS (spX K n Pre C kv) (fun _ => E) ta) ρ C R := fun b G H σ S E Q q =>
  h b G H σ S _ fun vs xs ρ1 G1 H1 r S1 d1 => by
    obtain ⟨hn, hp, hr⟩ := k ρ1 xs r
    exact ⟨G1, xs, S1.sub, d1, hn, hp, fun G2 H2 dd fs st e d => q ρ1 G2 H2 dd fs _ hr (S1.step st) e d⟩
theorem evx_make (h : EvA K ta ρ R1) (k : ∀ ρ1 ds, R1 ρ1 ds → ds.length = n ∧ Pre ds ∧ R ρ1 (kv ds)) : EvX K (fun E => tMake D (spNx K n Pre C kv) [] E ta) ρ C R := fun b G H σ S E Q q =>
  h b G H σ S _ fun vs xs ρ1 G1 H1 r S1 d1 => by
    obtain ⟨hn, hp, hr⟩ := k ρ1 xs r
    intro x dx hx hdx ne
    rw [List.append_nil]
    have st1 := Step.layH S1.sub (.own x) hdx
    have hx2 : upd H1 dx (.own x) x = none := by rw [upd_ne (Ne.symm ne)]; exact hx
    have st2 := Step.layH st1.sub (.ins D dx []) hx2
    exact ⟨G1, adrD x :: xs, st2.sub, .cons .adr d1, by rw [List.length_cons, hn], ⟨x, xs, rfl, hp⟩, fun G2 H2 dd fs st e d => q ρ1 G2 H2 dd fs _ hr (S1.step ((st1.trans st2).trans st)) e d⟩
/-- a statement that raises -/
theorem esx_drop (h : EvX K te ρ C fun _ kv => kv = kvs) : EsX K (TakesX K C kvs E) (tDrop (te E)) ρ O := fun b G H σ D S _ hx => h b G H σ S E _ fun ρ1 G2 H2 dd fs kv e S2 hd d => by
  subst e
  exact hx ρ1 σ G2 H2 dd fs S2 hd d
theorem esx_ret (h : EvX K te ρ C fun _ kv => kv = kvs) : EsX K (TakesX K C kvs E) (tRet (te E)) ρ O := fun b G H σ D S _ hx => h b G H σ S E _ fun ρ1 G2 H2 dd fs kv e S2 hd d => by
  subst e
  exact hx ρ1 σ G2 H2 dd fs S2 hd d
theorem eqx_drop {u : TS} (h : EvX K te ρ C fun _ kv => kv = kvs) : EsX K (TakesX K C kvs E) (tSeq (tDrop (te E)) u) ρ O := esx_then (esx_drop h)
/-- the lambda's call raises -/
theorem evm_lamG {T : Tb} {tab : List Cl} {i c0 : Nat} {w : Str} {fl : List Str} {R2 : En → PyData → Prop} (hi : ρ[i]? = some (some (Sl.pen c0))) (h : EvX K te ρ C R) (mem : (C, w, fl) ∈ tab) (hl : fl.length ≤ 100)
    (k : ∀ ρ1 kv, R ρ1 kv → ∃ outs, OutsOk kv fl outs ∧ R2 ρ1 (.tuple (.str w :: outs))) : EvM K T (LamX.tLam T (TTw tab) te) ρ R2 := fun b G H σ L S Q q => ⟨L.tabs S, fun H1 e t1 => by
    obtain ⟨L1, g1, S1⟩ := S.lam L hi e t1
    refine h _ _ H1 σ S1 _ _ fun ρ1 G2 H2 dd fs kv r S2 hd hfs => ?_
    obtain ⟨outs, hf, hr⟩ := k ρ1 kv r
    obtain ⟨us, l, dus, lu⟩ := outs_lks hfs hf
    refine ⟨(C, w, fl), us, dd, fs, mem, rfl, rfl, hd, l, by rw [lu]; exact hl, fun x hx => ?_⟩
    have st2 := Step.lay S2.sub (.tup (.str w :: us)) hx
    exact q _ (.ref x) _ ρ1 _ _ L1 g1 hr (S2.step st2) (.tup (SqT.of upd_same) ((DAs.cons (.str w) dus).mono st2.gg))⟩
end
/-! ### == of two objects by their own def -/
structure EqO (P : Program) (w : World) (K : PySem.W.Frag) (mg : Str → Option Value) (base : Heap) (C : Addr) (k : Nat) (sp : Sp) : Prop where
  ex : ∃ (f : Addr) (fd : FuncData) (ps : List Str), FnOk P w K mg base CX0 k f fd ps sp ∧ PySem.W.findIn K (.ref C) "__eq__" = some (some (.ref f)) ∧ PySem.W.isFn K (.ref f) = true ∧ Binds K fd ps []
def rEqO (C : Addr) (sp : Sp) : R2 := fun x y H Q => ∃ a b dx dy fs gs, x = .ref a ∧ y = .ref b ∧ H a = some (.ins C dx fs) ∧ H b = some (.ins C dy gs) ∧ sp [.ref a, .ref b] H (fun v H' => ∃ c, v = .bl c ∧ Q (.bl c) H') E0
theorem op_eqO {X : Cx} {C : Addr} {k : Nat} {sp : Sp} (O : EqO X.prog X.w X.K X.mg X.base C k sp) (hr : Room k X.A) : OpR X (compareOp .Eq) (rEqO C sp) := by
  intro pins s σ H x y v u Q I rx ry hq
  obtain ⟨a, b, dx, dy, fs, gs, rfl, rfl, ha, hb, hsp⟩ := hq
  obtain ⟨f, fd, ps, F, hs, hf, hbd⟩ := O.ex
  cases rx
  cases ry
  obtain ⟨mA, J, _⟩ := ins_get I.hok ha
  obtain ⟨mB, J', _⟩ := ins_get I.hok hb
  obtain ⟨od, J, _⟩ := J.look
  obtain ⟨od', J', _⟩ := J'.look
  obtain ⟨m, hF⟩ := I.fr
  show wpAny (model X.prog X.w) X.A (richCompare .Eq (.ref a) (.ref b)) (EP X pins σ Q) X.xe s
  refine PySem.W.cmp_K (op := .Eq) (tb := .ref C) hr.units0 hF I.ok.mod.kin J J'.type (by simp [PySem.W.notFirst]) hs hf ?_
  have hl := F.len _ _ _ _ hsp
  have r2 : Vals [V.ref a, V.ref b] [Value.ref a, Value.ref b] := .cons rfl (.cons rfl .nil)
  have hbi := hbd s [.ref a, .ref b] I.kIn (by simpa using hl)
  rw [List.append_nil] at hbi
  refine wpAny_call (codeAny_mono (F.run X.A X.stack s H ⟨[.ref a, .ref b], []⟩ [.ref a, .ref b] [.ref a, .ref b] _ E0 hr I.env0 hbi r2 hsp) fun r s' hq => ?_)
  cases r with
  | error e => exact pass0 pins σ H s e s' I hq
  | ok fl =>
    cases fl with
    | ret w =>
      obtain ⟨z, H', I', rz, c, ez, q⟩ := I.after hq
      subst ez
      cases rz
      exact ⟨.bl c, H', I', rfl, q⟩
    | next => exact False.elim hq
    | brk => exact False.elim hq
    | cont => exact False.elim hq
theorem rd_eqO {K : PySem.W.Frag} {C : Addr} {Pre : List PyData → Prop} {Rf : List PyData → PyData → Prop} {k1 k2 : List (PyData × PyData)} {c : Bool} (hp : Pre [insD C k1, insD C k2]) (hr : ∀ z, Rf [insD C k1, insD C k2] z → z = .bool c) : RD K (rEqO C (spR K 2 Pre Rf)) (insD C k1) (insD C k2) (.bool c) := fun G H v w s d1 d2 Q q => by
  obtain ⟨a, dx, fs, rfl, ha, _, _⟩ := d1.insH s
  obtain ⟨b, dy, gs, rfl, hb, _, _⟩ := d2.insH s
  refine ⟨a, b, dx, dy, fs, gs, rfl, rfl, ha, hb, G, [insD C k1, insD C k2], s, .cons d1 (.cons d2 .nil), rfl, hp, fun v y G2 H2 r st dv => ?_⟩
  obtain rfl := hr y r
  cases dv
  exact ⟨c, rfl, q (.bl c) G2 H2 st (.bl c)⟩
/-- what isinstance asks of a class -/
structure InsT (K : PySem.W.Frag) (C : Addr) : Prop where
  ha : PySem.W.findIn K (.ref C) "__class__" = some (some (.builtin "object.__class__"))
  hn : PySem.W.specialIn K (.builtin "object.__class__") "__get__" = some (some (.builtin "getset_descriptor.__get__"))
  ht : PySem.W.takesIn K (.builtin "object.__class__") = some true
  hm : PySem.W.mroIn K C (.type "object") = some true
section
variable {K : PySem.W.Frag} {ρ : En} {te : TE} {C D : Addr} {kvs : List (PyData × PyData)} {b : Bool} {x : PyData} {T : Value}
/-- isinstance(x, D), x an object -/
theorem ed_isIns (A : InsT K C) (h : Ed K te ρ (insD C kvs)) (e : PySem.W.kitOne K (.ref C) (.ref D) = some b) : Ed K (tCB (rIsi K) (tCons te (tCons (tC (.ref D)) tNil))) ρ (.bool b) := fun bs G H σ S Q q =>
  h _ G H σ S _ fun v y ρ1 G1 H1 h1 S1 d1 => by
    obtain ⟨rfl, rfl⟩ := h1
    obtain ⟨a, dx, fs, rfl, ha, cl, _⟩ := d1.insH S1.sub
    exact ⟨.ref a, .ref D, .ref C, .ref D, b, rfl, .own D, .base (.ins ha cl A.ha A.hn A.ht A.hm), e, q _ _ _ G1 H1 ⟨rfl, rfl⟩ S1 (.bl b)⟩
/-- isinstance(x, D), D an own class, x none of its objects -/
theorem ed_isOwn (h : Ed K te ρ x) (e1 : tyD x = some T) (e2 : PySem.W.kitOne K T (.ref D) = some b) : Ed K (tCB (rIsi K) (tCons te (tCons (tC (.ref D)) tNil))) ρ (.bool b) := fun bs G H σ S Q q =>
  h _ G H σ S _ fun v y ρ1 G1 H1 h1 S1 d1 => by
    obtain ⟨rfl, rfl⟩ := h1
    exact ⟨v, .ref D, T, .ref D, b, rfl, .own D, d1.ty S1.sub e1, e2, q _ _ _ G1 H1 ⟨rfl, rfl⟩ S1 (.bl b)⟩
end
/-! ### classes with an own __init__ -/
structure MkO (P : Program) (w : World) (K : PySem.W.Frag) (mg : Str → Option Value) (base : Heap) (x : Str) (C : Addr) (k : Nat) (ps : List Str) (sp : Sp) : Prop where
  cl : Cls K C
  m : mg x = some (.ref C)
  i : ∃ (f : Addr) (fd : FuncData), Mk K C f ∧ FnOk P w K mg base CX0 k f fd ps sp ∧ Binds K fd ps []
theorem pe_mko {X : Cx} {x : Str} {C : Addr} {k : Nat} {ps : List Str} {sp : Sp} {e : Expr} {es : List Expr} {ta : TA} {p pos : Pos} (M : MkO X.prog X.w X.K X.mg X.base x C k ps sp) (hr : Room (k + 1) X.A) (ha : PA X (e :: es) ta) (hg : Gl X x := by rfl)
    (hdb : (x == ("__debug__" : Str)) = false := by decide) (he : starEach (e :: es) X.env = (false, eval e X.env) :: starEach es X.env := by rfl) (hpl : (backTo pos (starEach es X.env)).any (·.1) = false := by rfl) :
    PE X (.Call (.Name x p) (e :: es) [] pos) (tMake C sp [] E0 ta) := by
  obtain ⟨f, fd, h1, h2, h3⟩ := M.i
  exact pe_make h1 h2 hr hg M.m h3 .nil pass0 ha hdb he hpl
/-- a class whose __init__ may raise -/
structure MkOX (P : Program) (w : World) (K : PySem.W.Frag) (mg : Str → Option Value) (base : Heap) (x : Str) (C : Addr) (k : Nat) (ps : List Str) (sp : Sp) : Prop where
  cl : Cls K C
  m : mg x = some (.ref C)
  i : ∃ (f : Addr) (fd : FuncData), Mk K C f ∧ FnOk P w K mg base (L2.CX P w) k f fd ps sp ∧ Binds K fd ps []
theorem pe_mkoX {X : Cx} {x : Str} {C : Addr} {k : Nat} {ps : List Str} {sp : Sp} {E : XK} {e : Expr} {es : List Expr} {ta : TA} {p pos : Pos} (M : MkOX X.prog X.w X.K X.mg X.base x C k ps sp) (hr : Room (k + 1) X.A) (tk : Takes X fun cls d _ H => E cls d H) (ha : PA X (e :: es) ta) (hg : Gl X x := by rfl)
    (hdb : (x == ("__debug__" : Str)) = false := by decide) (he : starEach (e :: es) X.env = (false, eval e X.env) :: starEach es X.env := by rfl) (hpl : (backTo pos (starEach es X.env)).any (·.1) = false := by rfl) :
    PE X (.Call (.Name x p) (e :: es) [] pos) (tMake C sp [] E ta) := by
  obtain ⟨f, fd, h1, h2, h3⟩ := M.i
  exact pe_make h1 h2 hr hg M.m h3 .nil (passes_call tk fun _ _ _ _ h => h) ha hdb he hpl
end RS
end
section
set_option Elab.async false
set_option linter.all false
set_option autoImplicit false
set_option maxRecDepth 100000
set_option maxHeartbeats 2000000
/-! RS35: tests that draw. -/
namespace RS
open PySem PySem.Spec PyProof.Rows L2
theorem sh_int (i : Int) : SeqAt.shaped (.int i) = true := by
  unfold SeqAt.shaped PyData.canLay0 PyData.depth; rfl
theorem sh_bool (i : Bool) : SeqAt.shaped (.bool i) = true := by
  unfold SeqAt.shaped PyData.canLay0 PyData.depth; rfl
section
variable {K : PySem.W.Frag} {ρ : En} {O : Out → Prop} {tt : TT} {t u w : TS} {te : TE} {i : Nat}
theorem es_ifT {R : En → Bool → Prop} (h : EvT K tt ρ R) (h1 : ∀ ρ1, R ρ1 true → Es K t ρ1 O) (h2 : ∀ ρ1, R ρ1 false → Es K u ρ1 O) : Es K (tIfS tt t u) ρ O := fun b G H σ D S T =>
  h b G H σ S _ fun x ρ1 G1 H1 r S1 => by
    cases x with
    | true =>
      show t D σ H1
      exact h1 ρ1 r b G1 H1 σ D S1 T
    | false =>
      show u D σ H1
      exact h2 ρ1 r b G1 H1 σ D S1 T
/-- if test: u, then w -/
theorem eq_ifT {R : En → Bool → Prop} (h : EvT K tt ρ R) (h1 : ∀ ρ1, R ρ1 true → Es K t ρ1 (Then K w O)) (h2 : ∀ ρ1, R ρ1 false → Es K w ρ1 O) : Es K (tSeq (tIfS tt t tNext) w) ρ O := es_then (es_ifT h h1 fun ρ1 r => es_next (h2 ρ1 r))
/-- a drawn number -/
theorem ev_drawN {E : XK} {c0 : Nat} {many : Nat} (hi : ρ[i]? = some (some (Sl.pen c0))) (hp : setPen c0 ρ = ρ) (h : Ed K te ρ (.int (many : Nat))) (h0 : 0 < many) (h1 : many < 1000000) (hc : c0 + 1 ≤ LIM) :
    Ev K (tCall (spP K 1 pDraw 1 rDraw) [] E (tCons (tVar i) (tCons te tNil))) ρ fun ρ' y => ρ' = setPen (c0 + 1) ρ ∧ ∃ r : Nat, y = .int (r : Nat) ∧ r < many :=
  (ev_draw hi hp h (by omega) (by omega) hc).imp fun ρ1 y h => by
    obtain ⟨rfl, r, rfl, h0, h1⟩ := h
    exact ⟨rfl, r.toNat, by rw [Int.toNat_of_nonneg h0], by omega⟩
/-- _law_draw(pen, many) == j -/
theorem evt_drawIs {E : XK} {c0 : Nat} {many : Nat} {j : Int} (hi : ρ[i]? = some (some (Sl.pen c0))) (hp : setPen c0 ρ = ρ) (h : Ed K te ρ (.int (many : Nat))) (h0 : 0 < many) (h1 : many < 1000000) (hc : c0 + 1 ≤ LIM) :
    EvT K (tTest (tOp (rEqA K) (tCall (spP K 1 pDraw 1 rDraw) [] E (tCons (tVar i) (tCons te tNil))) (tC (.int j)))) ρ fun ρ1 _ => ρ1 = setPen (c0 + 1) ρ :=
  evt_test (R1 := fun ρ1 y => ρ1 = setPen (c0 + 1) ρ ∧ ∃ c, y = .bool c) (ev_op2 (ev_drawN hi hp h h0 h1 hc) (R2 := fun ρ1 x ρ2 y => ρ2 = ρ1 ∧ y = .int j) (fun ρ1 x _ => ed_int) fun ρ1 x ρ2 y h1 h2 => by
    obtain ⟨rfl, r, rfl, _⟩ := h1
    obtain ⟨rfl, rfl⟩ := h2
    exact ⟨_, rd_eqA (sh_int _) (sh_int _), rfl, _, rfl⟩) fun ρ1 x h => by
    obtain ⟨rfl, c, rfl⟩ := h
    exact ⟨c, rfl, rfl⟩
end
end RS
end
section
set_option Elab.async false
set_option linter.all false
set_option autoImplicit false
set_option maxRecDepth 100000
set_option maxHeartbeats 2000000
/-! RS36: a comprehension each of whose elements draws up to B times. -/
namespace RS
open PySem PySem.Spec PyProof.Rows L2
/-- item by item -/
def Fa (Q : PyData → PyData → Prop) (xs ys : List PyData) : Prop := ys.length = xs.length ∧ ∀ (j : Nat) x y, xs[j]? = some x → ys[j]? = some y → Q x y
section
variable {K : PySem.W.Frag} {ρ : En} {te : TE} {wi : TI}
theorem ev_ifT {tt : TT} {ta tb : TE} {R0 : En → Bool → Prop} {R : En → PyData → Prop} (h : EvT K tt ρ R0) (h1 : ∀ ρ1, R0 ρ1 true → Ev K ta ρ1 R) (h2 : ∀ ρ1, R0 ρ1 false → Ev K tb ρ1 R) : Ev K (tIf tt ta tb) ρ R := fun b G H σ S Q q =>
  h b G H σ S _ fun x ρ1 G1 H1 r S1 => by
    cases x with
    | true =>
      show ta σ H1 Q
      exact h1 ρ1 r b G1 H1 σ S1 Q q
    | false =>
      show tb σ H1 Q
      exact h2 ρ1 r b G1 H1 σ S1 Q q
theorem ev_lcW {i B c0 : Nat} {xs : List PyData} {Q : PyData → PyData → Prop} (h : Ei K wi ρ xs) (hl : xs.length ≤ 100000) (hp : setPen c0 ρ = ρ) (hv : ρ[i]? = some none) (hc : c0 + xs.length * B ≤ LIM)
    (el : ∀ c x, x ∈ xs → c + B ≤ LIM → Ev K te ((setPen c ρ).set i (some (.d x))) fun ρ2 y => ρ2 = setPen (c + B) ((setPen c ρ).set i (some (.d x))) ∧ Q x y) :
    Ev K (tLc wi (gName i) tYes te [i]) ρ fun ρ2 y => ∃ ys, y = .list ys ∧ Fa Q xs ys ∧ ρ2 = setPen (c0 + xs.length * B) ρ :=
  ev_lc h fun ρ1 xs1 e => by
    obtain ⟨rfl, rfl⟩ := e
    refine ⟨hl, fun j s hj e => ?_, c0, fun j c acc => acc.length = j ∧ (∀ (k : Nat) x y, xs1[k]? = some x → acc[k]? = some y → Q x y) ∧ c = c0 + j * B, hp, ⟨rfl, (fun k x y _ e => by simp at e), by rw [Nat.zero_mul]; rfl⟩, fun j x c acc hx hJ => ?_, fun c acc hJ => ?_⟩
    · rw [List.mem_singleton.mp hj, hv] at e; cases e
    · obtain ⟨h1, h2, rfl⟩ := hJ
      have hj : j < xs1.length := (List.getElem?_eq_some_iff.mp hx).1
      have ew : wp ρ1 [i] = ρ1 := wp_new fun k hk => by rw [List.mem_singleton.mp hk]; exact hv
      rw [ew]
      have hb : c0 + j * B + B ≤ LIM := by
        have : (j + 1) * B ≤ xs1.length * B := Nat.mul_le_mul_right B hj
        rw [Nat.add_mul, Nat.one_mul] at this
        omega
      refine ⟨[i], _, fun k hk => hk, eg_name, ev_yes ⟨c0 + j * B, ?_, fun _ => (el (c0 + j * B) x (List.mem_of_getElem? hx) hb).imp fun ρ4 y hy => ?_, fun z => nomatch z⟩⟩
      · unfold setPen
        rw [List.map_set, List.map_map]
        have : pn (c0 + j * B) ∘ pn (c0 + j * B) = pn (c0 + j * B) := by funext o; exact pn_pn _ _ o
        rw [this]; rfl
      · obtain ⟨rfl, hq⟩ := hy
        refine ⟨c0 + j * B + B, rfl, by rw [List.length_append, h1]; rfl, fun k x2 y2 e1 e2 => ?_, by rw [Nat.add_mul, Nat.one_mul]; omega⟩
        rcases Nat.lt_trichotomy k acc.length with hk | hk | hk
        · rw [List.getElem?_append_left hk] at e2
          exact h2 k x2 y2 e1 e2
        · subst hk
          rw [List.getElem?_append_right (Nat.le_refl _), Nat.sub_self] at e2
          rw [h1, hx] at e1
          cases e1
          cases e2
          exact hq
        · rw [List.getElem?_eq_none (by rw [List.length_append]; show acc.length + 1 ≤ k; omega)] at e2
          cases e2
    · obtain ⟨h1, h2, rfl⟩ := hJ
      exact ⟨acc, rfl, ⟨h1, h2⟩, rfl⟩
end
end RS
end
section
set_option Elab.async false
set_option linter.all false
set_option autoImplicit false
set_option maxRecDepth 100000
set_option maxHeartbeats 2000000
/-! RS37: tuple * int for any small int, text * int. -/
namespace RS
open PySem PySem.Spec PyProof.Rows L2
theorem tmul_one (l : Addr) (items : Array Value) (n : Nat) (dd : Option Addr) (sl : Array (Option Value)) (u : Tok) :
    Meets (Builtin.«tuple.__mul__» ⟨[.ref l, .int 1 u], []⟩) (fun _ R s => s.heap.get? l = some { cls := .type "tuple", dict := dd, data := .seq items n, slots := sl } ∧ R (.ok (.ret (Value.ref l))) s) :=
  .of_wp fun prog w A R s h => by
    obtain ⟨hp, g, d, tk, os⟩ := s
    obtain ⟨hl, h⟩ := h
    have f1 := AutoSeq1.idx_int
    wp_walk using wpAny_loadPart' hl
    all_goals first | exact ⟨_, rfl, h⟩ | skip
theorem tmul_zero (l : Addr) (items : Array Value) (n : Nat) (dd : Option Addr) (sl : Array (Option Value)) (u : Tok) (hi : items.isEmpty = false) :
    Meets (Builtin.«tuple.__mul__» ⟨[.ref l, .int 0 u], []⟩) (fun _ R s => s.heap.get? l = some { cls := .type "tuple", dict := dd, data := .seq items n, slots := sl } ∧ R (.ok (.ret (Value.ref s.heap.objs.size))) { s with heap := s.heap.push { cls := Value.type "tuple", data := Data.seq #[] }, toks := s.toks }) :=
  .of_wp fun prog w A R s h => by
    obtain ⟨hp, g, d, tk, os⟩ := s
    obtain ⟨hl, h⟩ := h
    have f1 := AutoSeq1.idx_int
    have c1 : (items.isEmpty || (0 : Int) == 1) = false := by rw [hi]; rfl
    wp_walk using wpAny_loadPart' hl
    exact ⟨_, rfl, h⟩
def rRepU (K : PySem.W.Frag) : R2 := fun x y H Q => ∃ l k xs, x = .ref l ∧ y = .int k ∧ SqT K H l xs ∧ xs ≠ [] ∧ 0 ≤ k ∧ k ≤ 1000 ∧ xs.length ≤ 1000 ∧ (k = 1 → Q (.ref l) H) ∧ (k ≠ 1 → ∀ p, H p = none → Q (.ref p) (upd H p (.tup (List.replicate k.toNat xs).flatten)))
theorem op_repU {X : Cx} : OpR X (binaryOp .Mult) (rRepU X.K) := by
  intro pins s σ H x y v u Q I rx ry h
  obtain ⟨l, k, xs, rfl, rfl, hT, hne, h1, h2, hz, q1, q2⟩ := h
  by_cases hk : 2 ≤ k
  · exact op_repT pins s σ H _ _ v u Q I rx ry ⟨l, k, xs, rfl, rfl, hT, hne, hk, h2, hz, q2 (by omega)⟩
  · cases rx
    obtain ⟨t, rfl⟩ := ry
    obtain ⟨its, r, ⟨⟨cls, dd, data, sl⟩, ho, hc, n, hd⟩, hs⟩ := I.tuple hT
    simp only at hc hd
    subst hc hd
    have hi : its.toArray.isEmpty = false := by
      cases r with
      | nil => exact absurd rfl hne
      | cons a b => rfl
    rcases (show k = 0 ∨ k = 1 by omega) with rfl | rfl
    · refine wpAny_binaryOp_repeat_ref (T := "tuple") (U := "int") (by decide) ⟨_, ho, rfl⟩ (fun s' => typeIs_int s' 0 t) noFill_tuple_mul F.fills_int_mul F.slot_int_rmul repeat_tuple F.slot_int_index.lookup
        (call_meets F.slot_int_rmul (typeIs_int s 0 t) F.entry_int_rmul (F.args_int_rmul_2 _ _) (int_rmul_tuple 0 t l its.toArray n dd sl)
          ⟨ho, rfl, ⟨_, ho, rfl⟩, call_meets F.slot_tuple_mul ⟨_, ho, rfl⟩ F.entry_tuple_mul (F.args_tuple_mul_2 _ _) (tmul_zero l its.toArray n dd sl t hi) ⟨ho, ?_⟩⟩)
      exact ⟨.ref s.heap.objs.size, _, I.laid (t' := s.toks) (o := .tup []) (fun b ob q => Heap.get?_push_of_some _ q) (Nat.le_refl _) ⟨Nat.zero_le _, _, .nil, IsTup.new _ _⟩, rfl, q2 (by decide) _ (I.hok.fresh (Nat.le_refl _))⟩
    · refine wpAny_binaryOp_repeat_ref (T := "tuple") (U := "int") (by decide) ⟨_, ho, rfl⟩ (fun s' => typeIs_int s' 1 t) noFill_tuple_mul F.fills_int_mul F.slot_int_rmul repeat_tuple F.slot_int_index.lookup
        (call_meets F.slot_int_rmul (typeIs_int s 1 t) F.entry_int_rmul (F.args_int_rmul_2 _ _) (int_rmul_tuple 1 t l its.toArray n dd sl)
          ⟨ho, rfl, ⟨_, ho, rfl⟩, call_meets F.slot_tuple_mul ⟨_, ho, rfl⟩ F.entry_tuple_mul (F.args_tuple_mul_2 _ _) (tmul_one l its.toArray n dd sl t) ⟨ho, ?_⟩⟩)
      exact ⟨.ref l, H, I, rfl, q1 rfl⟩
theorem k_repU {K : PySem.W.Frag} {X : Cx} (hK : X.K = K := by rfl) : OpR X (binaryOp .Mult) (rRepU K) := by subst hK; exact op_repU
theorem rd_repU {K : PySem.W.Frag} {xs : List PyData} {k : Nat} (h1 : k ≤ 1000) (hl : xs.length ≤ 1000) (ne : xs ≠ []) : RD K (rRepU K) (.tuple xs) (.int (k : Nat)) (.tuple (List.replicate k xs).flatten) := fun G H v w s d1 d2 Q q => by
  obtain ⟨a, vs, rfl, ha, hg, da⟩ := d1.tupH s
  cases d2
  refine ⟨a, k, vs, rfl, rfl, ha, fun z => ne (da.nil_iff.mp z), by omega, by omega, by rw [da.length]; exact hl, fun e => ?_, fun _ p hp => ?_⟩
  · obtain rfl : k = 1 := by omega
    refine q _ G H (Step.refl s) ?_
    rw [show (List.replicate 1 xs).flatten = xs from by simp]
    exact .tup hg da
  · have st := Step.lay s (.tup (List.replicate ((k : Nat) : Int).toNat vs).flatten) hp
    rw [Int.toNat_natCast] at st ⊢
    exact q _ _ _ st (.tup (SqT.of upd_same) ((da.rep k).mono st.gg))
/-! ### text * int -/
theorem fold_size {α : Type} (a : Array α) : ∀ (k : Nat) (acc : Array α), ((List.replicate k a).foldl (· ++ ·) acc).size = acc.size + k * a.size
  | 0, acc => by rw [Nat.zero_mul]; rfl
  | k + 1, acc => by
    rw [List.replicate_succ, List.foldl_cons, fold_size a k, Array.size_append, Nat.add_mul, Nat.one_mul]
    omega
def repS (x : Str) (k : Nat) : Str := if k < 1 then Str.empty else if (((k : Nat) : Int) == 1 || x.length == 0) = true then x else ⟨(List.replicate k x.cps).foldl (· ++ ·) #[]⟩
def rRepS : R2 := fun x y H Q => ∃ (s : Str) (k : Nat), x = .str s ∧ y = .int (k : Nat) ∧ k ≤ 1000 ∧ s.length ≤ 1000 ∧ Q (.str (repS s k)) H
theorem op_repS {X : Cx} : OpR X (binaryOp .Mult) rRepS := by
  intro pins s σ H x y v u Q I rx ry h
  obtain ⟨x, k, rfl, rfl, hk, hx, q⟩ := h
  obtain ⟨t, rfl⟩ := rx
  obtain ⟨t2, rfl⟩ := ry
  refine P.mul_str (by rw [decide_eq_false (by omega), decide_eq_false (by omega)]; rfl) (fun h1 h2 => ?_) (fun h1 h2 => ?_) ?_
  · have e : (1000 : Int) ≤ (2 ^ 63 - 1) / (k : Int) := Int.le_ediv_of_mul_le (by omega) (by omega)
    omega
  · unfold Builtin.Str.tooLong
    rw [Int.toNat_natCast, sizeLine_eq]
    have : x.length * k ≤ 1000 * 1000 := Nat.mul_le_mul hx hk
    exact decide_eq_false (by omega)
  · have hk0 : ((k : Nat) : Int) < 1 ↔ k < 1 := by omega
    unfold repS at q
    by_cases h0 : k < 1
    · rw [if_pos h0] at q
      rw [if_pos (hk0.mpr h0)]
      exact ⟨by decide, .str Str.empty, H, I.tok _, ⟨_, rfl⟩, q⟩
    · rw [if_neg h0] at q
      rw [if_neg (fun z => h0 (hk0.mp z))]
      by_cases h1 : (((k : Nat) : Int) == 1 || x.length == 0) = true
      · rw [if_pos h1] at q ⊢
        exact ⟨.str x, H, I, ⟨_, rfl⟩, q⟩
      · rw [if_neg h1] at q ⊢
        rw [Int.toNat_natCast]
        refine ⟨?_, .str _, H, I.tok _, ⟨_, rfl⟩, q⟩
        show ((List.replicate k x.cps).foldl (· ++ ·) #[]).size ≤ sizeLine
        rw [fold_size, sizeLine_eq]
        have h3 : k * x.cps.size ≤ 1000 * 1000 := Nat.mul_le_mul hk hx
        show 0 + k * x.cps.size ≤ _
        omega
theorem rd_repS {K : PySem.W.Frag} {x : Str} {k : Nat} (hk : k ≤ 1000) (hx : x.length ≤ 1000) : RD K rRepS (.str x) (.int (k : Nat)) (.str (repS x k)) := fun G H v w s d1 d2 Q q => by
  cases d1
  cases d2
  exact ⟨x, k, rfl, rfl, hk, hx, q _ G H (Step.refl s) (.str _)⟩
end RS
end
section
set_option Elab.async false
set_option linter.all false
set_option autoImplicit false
set_option maxRecDepth 100000
set_option maxHeartbeats 2000000
/-! RS38: lambdas that are kept; called later, from within a comprehension of the def that made them. -/
namespace RS
open PySem PySem.Spec PyProof.Rows L2
/-- the words of a lambda without parameters -/
structure LW where
  params : Arguments
  body : Expr
  scope : Scope
/-- the object at f is the lambda W, its cells cl, its code object c' -/
def LamO (f : Addr) (q : Str) (W : LW) (cl : List (Str × Addr)) (c' : Addr) : HO := .ext fun hp => ∃ (pm ctv : Value), hp.get? f = some (PySem.W.kla_obj "<lambda>" q W.params W.body W.scope cl pm c' ctv)
theorem lamO_tbl {f c' : Addr} {q : Str} {W : LW} {cl : List (Str × Addr)} (ps : Array Value) : LamO f q W cl c' ≠ .tbl ps := fun e => by
  unfold LamO at e
  cases e
section
variable {X : Cx} {pins : List (Addr × Obj)} {σ : L2.St} {H : Hp} {s : Shared}
/-- a lambda's object just made is known from now on -/
theorem inv_lamO {q : Str} {W : LW} {cl : List (Str × Addr)} {c' : Addr} {pm ctv : Value} {hp : Heap} {tk : Nat} (I : Inv X pins σ H { s with heap := hp, toks := tk }) :
    Inv X pins σ (upd H hp.objs.size (LamO hp.objs.size q W cl c')) { s with heap := hp.push (PySem.W.kla_obj "<lambda>" q W.params W.body W.scope cl pm c' ctv), toks := tk } := by
  have at_ : (hp.push (PySem.W.kla_obj "<lambda>" q W.params W.body W.scope cl pm c' ctv)).get? hp.objs.size = some (PySem.W.kla_obj "<lambda>" q W.params W.body W.scope cl pm c' ctv) := Heap.get?_push_size _ rfl
  have J := I.laid (a := hp.objs.size) (o := LamO hp.objs.size q W cl c') (t' := tk) (h' := hp.push (PySem.W.kla_obj "<lambda>" q W.params W.body W.scope cl pm c' ctv)) (fun b u e => Heap.get?_push_of_some _ e) (Nat.le_refl _)
    ⟨⟨pm, ctv, at_⟩, ⟨_, at_⟩, fun h1 h2 ⟨p1, t1, e1⟩ st => ⟨p1, t1, st _ e1⟩⟩
  exact J
theorem lam_make3 {T : Tb} {c P : Addr} {params : Arguments} {body : Expr} {scope : Scope} {pos : Pos} {E : Value → Shared → Prop} {Q : Value → Shared → Prop} (I : Inv X pins σ H s) (TB : LamX.TabB X.base X.mg c P) (hcode : X.env.code = .ref c)
    (hm : (P, X.env.qual ++ "<lambda>") ∈ T) (hu : ∀ p ∈ T, p.1 = P → p.2 = X.env.qual ++ "<lambda>") (hT : LamX.Tabs T H) (hdef : defaultsOf params X.env = ([], [])) (hfree : ∀ y ∈ scope.names, y.2 = .free → ∃ c, X.env.cells.lookup y.1 = some c)
    (k : ∀ (f c' : Addr) (H1 : Hp) (s' : Shared), Inv X pins σ H1 s' → LamX.ExtN H H1 → LamX.Tabs T H1 → H f = none → H1 f = some (LamO f (X.env.qual ++ "<lambda>") ⟨params, body, scope⟩ (cloFrom X.env.cells scope.names []) c') → H1 c' = some (LamX.CodeO c' (X.env.qual ++ "<lambda>")) → Q (.ref f) s') :
    wpAny (model X.prog X.w) X.A (eval (.Lambda params body scope pos) X.env) Q E s := by
  obtain ⟨tb, atP, tri, told⟩ := hT _ hm
  refine PySem.W.kla_eval hdef ?_
  have bm := TB.bm.keeps I.bk
  have inP : s.heap.get? P = some { cls := .none, data := .fields tb } := I.hok P _ atP
  cases lk : codeAmong pos tb.toList with
  | some cv =>
    obtain ⟨c', rfl, atC⟩ := told pos cv lk
    refine PySem.W.kla_makeFunctionHit (mg := X.mg) (c := c) (P := P) (ps := tb) (closure_ok hfree) I.ok.glob (I.mod.glob.keeps I.bk) hcode (TB.code.keeps I.bk) inP tri lk bm fun ctv hp tk old le => ?_
    have J : Inv X pins σ H { s with heap := hp, toks := tk } := I.kept old
    have fr : H hp.objs.size = none := J.hok.fresh (Nat.le_refl _)
    have J2 := inv_lamO (q := X.env.qual ++ "<lambda>") (W := ⟨params, body, scope⟩) (cl := cloFrom X.env.cells scope.names []) (c' := c') (pm := (X.mg "__name__").getD .none) (ctv := ctv) J
    refine k hp.objs.size c' _ _ J2 (fun b o e _ => ?_) (hT.ext fun b o e => ?_) fr upd_same ?_
    · rw [upd_ne (ne_of_none e fr)]; exact e
    · rw [upd_ne (ne_of_none e fr)]; exact e
    · rw [upd_ne (ne_of_none atC fr)]; exact atC
  | none =>
    refine PySem.W.kla_makeFunction (mg := X.mg) (c := c) (P := P) (ps := tb) (closure_ok hfree) I.ok.glob (I.mod.glob.keeps I.bk) hcode (TB.code.keeps I.bk) inP tri lk TB.gP bm fun c' ctv hp tk old ge lt rec_ inP2 => ?_
    obtain ⟨c2, oc, vs, t, e2, ec, ed, ev⟩ := rec_
    cases e2
    have nC : H c' = none := I.hok.fresh ge
    have J := LamX.inv_table (t' := tk) (more := #[rawInt pos.line, rawInt pos.col, .ref c']) (h' := hp) I atP (fun b o hb e => old b o hb e) inP2 ge ⟨oc, vs, t, ec, ed, ev⟩
    generalize hH : upd (upd H P (.tbl (tb ++ #[rawInt pos.line, rawInt pos.col, .ref c']))) c' (LamX.CodeO c' (X.env.qual ++ "<lambda>")) = Ht at J
    have ext : LamX.ExtN H Ht := fun b o e n => by
      rw [← hH, upd_ne (ne_of_none e nC), upd_ne (fun z => n tb (Option.some.inj (e.symm.trans (by rw [z]; exact atP))))]
      exact e
    have tabs : LamX.Tabs T Ht := fun p hp => by
      by_cases hb : p.1 = P
      · rw [hu p hp hb, hb]
        have el : (tb ++ #[rawInt pos.line, rawInt pos.col, .ref c']).toList = tb.toList ++ [rawInt pos.line, rawInt pos.col, .ref c'] := by simp
        refine ⟨_, by rw [← hH, upd_ne (ne_of_none atP nC), upd_same], by rw [el]; exact PySem.TriplesOk_snoc _ _ _ _ tri, fun p' cv z => ?_⟩
        rw [el] at z
        rcases LamX.among_app _ tri z with y | y
        · obtain ⟨c0, e1, e3⟩ := told p' cv y
          exact ⟨c0, e1, ext _ _ e3 LamX.codeO_ne⟩
        · exact ⟨c', y, by rw [← hH]; exact upd_same⟩
      · obtain ⟨ps', a1, a2, a3⟩ := hT p hp
        refine ⟨ps', by rw [← hH, upd_ne (ne_of_none a1 nC), upd_ne hb]; exact a1, a2, fun p' cv z => ?_⟩
        obtain ⟨c0, e1, e3⟩ := a3 p' cv z
        exact ⟨c0, e1, ext _ _ e3 LamX.codeO_ne⟩
    have fr : Ht hp.objs.size = none := J.hok.fresh (Nat.le_refl _)
    have J2 := inv_lamO (q := X.env.qual ++ "<lambda>") (W := ⟨params, body, scope⟩) (cl := cloFrom X.env.cells scope.names []) (c' := c') (pm := (X.mg "__name__").getD .none) (ctv := ctv) J
    refine k hp.objs.size c' _ _ J2 (fun b o e n => ?_) (tabs.ext fun b o e => ?_) (I.hok.fresh (Nat.le_trans ge (Nat.le_of_lt lt))) upd_same ?_
    · have e1 := ext b o e n
      rw [upd_ne (ne_of_none e1 fr)]; exact e1
    · rw [upd_ne (ne_of_none e fr)]; exact e
    · rw [upd_ne (Nat.ne_of_lt lt), ← hH]; exact upd_same
end
/-- the reading of a lambda that is kept: the words of its object by its code object -/
def tMk (T : Tb) (q : Str) (W : LW) (cl : List (Str × Addr)) : TE := fun _ H Q => LamX.Tabs T H ∧ ∀ (f c' : Addr) (H1 : Hp), LamX.ExtN H H1 → LamX.Tabs T H1 → H f = none → H1 f = some (LamO f q W cl c') → H1 c' = some (LamX.CodeO c' q) → Q (.ref f) H1
section
variable {X : Cx}
theorem pe_mkLam {T : Tb} {c P : Addr} {params : Arguments} {body : Expr} {scope : Scope} {pos : Pos} (TB : LamX.TabB X.base X.mg c P) (hcode : X.env.code = .ref c) (hm : (P, X.env.qual ++ "<lambda>") ∈ T) (hu : ∀ p ∈ T, p.1 = P → p.2 = X.env.qual ++ "<lambda>")
    (L : LamX.LamS X.env.scope scope) (hdef : defaultsOf params X.env = ([], [])) : PE X (.Lambda params body scope pos) (tMk T (X.env.qual ++ "<lambda>") ⟨params, body, scope⟩ (cloFrom X.env.cells scope.names [])) := by
  refine ⟨fun pins s σ H Q I ⟨hT, k⟩ => ?_⟩
  exact lam_make3 I TB hcode hm hu hT hdef (L.has I.ok) fun f c' H1 s' J e t n lf lc => ⟨.ref f, H1, J, rfl, k f c' H1 e t n lf lc⟩
end
end RS
end
section
set_option Elab.async false
set_option linter.all false
set_option autoImplicit false
set_option maxRecDepth 100000
set_option maxHeartbeats 2000000
/-! RS39: a kept lambda is called: in the def that got it, and that def from within a block of the maker. -/
namespace RS
open PySem PySem.Spec PyProof.Rows L2
/-- what is known of a lambda of the maker X, t its body's reading -/
structure LamP (X : Cx) (k : Nat) (l : LW) (t : XK → TE) : Prop where
  sc : LamX.LamS X.env.scope l.scope
  bind : ∀ (q : Str) (cl : List (Str × Addr)) (pm cv ctv : Value), bindArgs (PySem.W.kla_fn "<lambda>" q l.params l.body l.scope cl pm cv ctv) ⟨[], []⟩ = pure []
  body : ∀ (A : Around) (outer : List Env) (s : Shared) (H : Hp) (E : XK) (f c' : Addr), Room k (A.deeper (LamX.lamEnv X l.scope s.heap.objs.size f c')) → PE (LamX.lamCx X A outer s H E l.scope f c') l.body (t E)
section
variable {X : Cx} {pins : List (Addr × Obj)} {σ : L2.St} {H : Hp} {s : Shared}
/-- in the def that got it, entered at s -/
theorem pe_actK {CXg : CXT} {Eg : XK} {Ng : List Str} {qg : Str} {sg : Scope} {g f c' : Addr} {cdg : Value} {l : LW} {t : XK → TE} {k i : Nat} {a : Str} {pn : List (Addr × Obj)} {xe : Value → Shared → Prop} {W : WX} {E : XK} {p1 p2 : Pos}
    (I : Inv X pins σ H s) (LP : LamP X k l t) (tk : Takes ((cxOf CXg X.prog X.w X.K X.mg X.base Ng qg sg g cdg X.A X.stack s H Eg).tr pn xe) W) (hW : ∀ cls d σ' H', E cls d H' → W cls d σ' H') (hr : Room (k + 1) (X.A.deeper (envOfC qg sg s.heap.objs.size g cdg)))
    (hN : Ng[i]? = some a) (hv : Vis sg a) (hd : (a == ("__debug__" : Str)) = false := by decide) (hcd : (a == ("__classdict__" : Str)) = false := by decide) :
    PE ((cxOf CXg X.prog X.w X.K X.mg X.base Ng qg sg g cdg X.A X.stack s H Eg).tr pn xe) (.Call (.Name a p1) [] [] p2)
      (fun σZ HZ Q => σZ[i]? = some (some (.ref f)) ∧ HZ c' = some (LamX.CodeO c' (X.env.qual ++ "<lambda>")) ∧ HZ f = some (LamO f (X.env.qual ++ "<lambda>") l (cloFrom X.env.cells l.scope.names []) c') ∧ t E σ HZ Q) := by
  refine ⟨fun pinsZ sZ σZ HZ Q IZ hh => ?_⟩
  obtain ⟨slot, code, fun_, red⟩ := hh
  have ev := (pe_var (pos := p1) (i := i) hN hv hd hcd).run pinsZ sZ σZ HZ (fun v H1 => v = .ref f ∧ H1 = HZ) IZ ⟨.ref f, slot, rfl, rfl⟩
  refine wpAny_Call_Name_kw (thn ev fun u s1 got => ?_)
  obtain ⟨v, H1, I1, rel, rfl, rfl⟩ := got
  obtain rfl : u = Value.ref f := rel
  obtain ⟨⟨pm, ctv, of_⟩, _, _⟩ := I1.hok f _ fun_
  refine PySem.W.callWith_F0 ⟨_, _, _, _, of_⟩ ?_
  obtain ⟨⟨oc, vs, tok, oc1, oc2, oc3⟩, _, _⟩ := I1.hok c' _ code
  have gone : codeAny (model X.prog X.w) (X.A.deeper (envOfC qg sg s.heap.objs.size g cdg)) (.call (.ref f) ⟨[], []⟩) (CR (L2.CX X.prog X.w) (envOfC qg sg s.heap.objs.size g cdg :: X.stack) X.prog X.w H1 s1 Q E) s1 := by
    refine PySem.W.kla_callFunE hr.depth of_ rfl LP.sc.co LP.sc.gen rfl ⟨c', oc, vs, tok, rfl, oc1, oc2, oc3⟩ ?_
    rw [LP.bind]
    refine wpAny_pure (wpAny_newFunctionEnv (fun y hy => (LP.sc.own y hy).2) (fun y hy => absurd hy (by simp)) (fun hn ns sb => ⟨I1.nolimit.fresh _ sb, ?_⟩) LP.sc.kind)
    show codeAny _ _ (.expr l.body (LamX.lamEnv X l.scope s1.heap.objs.size f c')) _ _
    have old : ∀ b o, s1.heap.get? b = some o → hn.get? b = some o := fun b o e => sb.extBut b o (Nat.ne_of_lt (Heap.lt_size e)) (Heap.get?_push_of_some _ e)
    have un0 : Un (frs X.stack) [] H H1 s.heap s1.heap := I1.base
    have J : Inv (LamX.lamCx X (X.A.deeper (envOfC qg sg s.heap.objs.size g cdg)) (envOfC qg sg s.heap.objs.size g cdg :: X.stack) s1 H1 E l.scope f c') [] σ H1 { s1 with heap := hn, toks := s1.toks + ([] : List (Str × Value)).length } :=
      LamX.lam_start2 I LP.sc I1.env0 hr.hd un0 ns old
    have run := (LP.body _ _ s1 H1 E f c' (hr.deeper _)).run [] _ σ H1 Q J red
    refine PySem.W.kla_codeExpr (wpAny_mono run (fun v s' hq => ?_) fun e s' hq => hq)
    obtain ⟨w', H', J', rv, q⟩ := hq
    exact ⟨w', H', J'.os, J'.bare, J'.base, J'.hok, rv, q⟩
  have out : Passes (L2.CX X.prog X.w) ((cxOf CXg X.prog X.w X.K X.mg X.base Ng qg sg g cdg X.A X.stack s H Eg).tr pn xe) E := passes_call tk hW
  refine wpAny_call (codeAny_mono gone fun r s' hq => ?_)
  match r, hq with
  | .error e, hq => exact out pinsZ σZ H1 s1 e s' I1 hq
  | .ok (.ret u), hq => exact I1.after hq
  | .ok .next, hq => exact False.elim hq
  | .ok .brk, hq => exact False.elim hq
  | .ok .cont, hq => exact False.elim hq
/-- back in the maker's eyes, within its block -/
theorem blk_back {scb : Scope} {cl : List (Str × Addr)} {C : Addr} {fp : List Addr} {pins' : List (Addr × Obj)} {σ' : L2.St} {H' : Hp} {s' : Shared} (I : Inv X pins σ H s) (hf : ∀ b ∈ fp, FpOk X pins H b) (I' : Inv (X.blk s H scb (compEnvC scb cl C X.env) fp) pins' σ' H' s') : Inv X pins σ H' s' :=
  I.call' (ch := fp) I'.os I'.base I'.hok I'.bare fun b hb => by
    obtain ⟨_, h1, _, h2, h3, h4⟩ := hf b hb
    exact ⟨h2, h1, h3, h4⟩
end
/-- g(x) in a block: x holds one of the maker's lambdas Ls; σ0 the maker's slots -/
def tKept (TT : (XK → Hp → VK → Prop) → Hp → VK → Prop) (q : Str) (cells : List (Str × Addr)) (Ls : List (LW × (XK → TE))) (i : Nat) (σ0 : L2.St) : TE := fun σ' H' Q => ∃ f c' l t, (l, t) ∈ Ls ∧ σ'[i]? = some (some (.ref f)) ∧
  H' f = some (LamO f q l (cloFrom cells l.scope.names []) c') ∧ H' c' = some (LamX.CodeO c' q) ∧ TT (fun E HZ Q' => HZ f = some (LamO f q l (cloFrom cells l.scope.names []) c') ∧ t E σ0 HZ Q') H' Q
theorem pe_kept {X : Cx} {pins0 : List (Addr × Obj)} {σ0 : L2.St} {H0 : Hp} {s0 : Shared} {TT : (XK → Hp → VK → Prop) → Hp → VK → Prop} {x y a : Str} {g : Addr} {k i : Nat} {pg : Arguments} {bg : List Stmt} {sg scb : Scope} {dV kV doc pm cdv ct oc : Value} {an od : Option Addr} {osl : Array (Option Value)} {Ng : List Str} {Ls : List (LW × (XK → TE))}
    {cl : List (Str × Addr)} {C : Addr} {fp : List Addr} {p py pos : Pos} (I0 : Inv X pins0 σ0 H0 s0) (hf : ∀ b ∈ fp, FpOk X pins0 H0 b)
    (hg : Gl (X.blk s0 H0 scb (compEnvC scb cl C X.env) fp) x) (hm : X.mg x = some (.ref g)) (hk : PySem.W.keepIn X.K (.ref g) = true)
    (lk : X.K.lookup g = some ⟨oc, od, .func (PySem.W.fnOf x x pg bg sg dV kV doc pm an cdv ct), osl⟩) (hcg : PySem.W.codeIn X.K cdv x = true) (hb : L2.Binds X.K (PySem.W.fnOf x x pg bg sg dV kV doc pm an cdv ct) [a] []) (Sg : FnScope Ng [a] sg) (hNg : Ng[0]? = some a) (hva : Vis sg a)
    (hGX : LamX.GivesTo (X.blk s0 H0 scb (compEnvC scb cl C X.env) fp) Ng x sg g cdv bg a (X.env.qual ++ "<lambda>") TT)
    (hr : Room (k + 2) X.A) (hL : ∀ l t, (l, t) ∈ Ls → LamP X k l t) (hN : X.N[i]? = some y) (hv : Vis (relS scb X.env.scope) y)
    (hdb : (x == ("__debug__" : Str)) = false := by decide) (hdy : (y == ("__debug__" : Str)) = false := by decide) (hcy : (y == ("__classdict__" : Str)) = false := by decide) (hd : (a == ("__debug__" : Str)) = false := by decide) (hcd : (a == ("__classdict__" : Str)) = false := by decide) :
    PE (X.blk s0 H0 scb (compEnvC scb cl C X.env) fp) (.Call (.Name x p) [.Name y py] [] pos) (tKept TT (X.env.qual ++ "<lambda>") X.env.cells Ls i σ0) := by
  refine ⟨fun pins s σ H Q I hh => ?_⟩
  obtain ⟨f, c', l, t, mem, slot, of_, oc_, red⟩ := hh
  have IM : Inv X pins0 σ0 H s := blk_back I0 hf I
  refine wpAny_Call_Name_kw (ld_glob I hg hm ?_ hdb)
  refine PySem.W.callWith_K (h₀ := X.base) I0.ok.mod.kin hk ?_ (by rfl) (by rfl)
  show wpAny _ _ (spliced ((false, eval (.Name y py) (compEnvC scb cl C X.env)) :: backTo pos (starEach [] (compEnvC scb cl C X.env)))) _ _ s
  have ev := (pe_var (X := X.blk s0 H0 scb (compEnvC scb cl C X.env) fp) (pos := py) (i := i) hN hv hdy hcy).run pins s σ H (fun v H1 => v = .ref f ∧ H1 = H) I ⟨.ref f, slot, rfl, rfl⟩
  refine Calls.spliced_cons (thn ev fun u s1 got => ?_)
  obtain ⟨v, H1, I1, rel, rfl, rfl⟩ := got
  obtain rfl : u = Value.ref f := rel
  have IM1 : Inv X pins0 σ0 H1 s1 := blk_back I0 hf I1
  refine Calls.spliced_nil ⟨IM1.kIn, ?_⟩
  have gone : codeAny (model X.prog X.w) X.A (.call (.ref g) ⟨[.ref f], []⟩) (CR C8.CX0 X.stack X.prog X.w H1 s1 Q C8.E0) s1 := by
    refine LamX.run_ofS (N := Ng) (ps := [a]) (us := [.ref f]) (vs := [.ref f]) lk hcg Sg hr IM1.env0 (hb s1 [.ref f] IM1.kIn rfl) (.cons rfl .nil) rfl fun hr' => ?_
    obtain ⟨t', ht', hq'⟩ := hGX f c' s1 H1 Q (fun E HZ Q' => HZ f = some (LamO f (X.env.qual ++ "<lambda>") l (cloFrom X.env.cells l.scope.names []) c') ∧ t E σ0 HZ Q') (fun W pn xe E p1 p2 tk hW => pe_actK (i := 0) IM1 (hL l t mem) tk hW hr' hNg hva hd hcd) oc_ red
    exact ⟨t', ht'.nox, hq'⟩
  refine wpAny_call (codeAny_mono gone fun r s2 hq => ?_)
  match r, hq with
  | .error e, hq => exact (show False from hq).elim
  | .ok (.ret u), hq => exact I1.after hq
  | .ok .next, hq => exact False.elim hq
  | .ok .brk, hq => exact False.elim hq
  | .ok .cont, hq => exact False.elim hq
end RS
end
section
set_option Elab.async false
set_option linter.all false
set_option autoImplicit false
set_option maxRecDepth 100000
set_option maxHeartbeats 2000000
/-! RS40: a list comprehension whose tests and element may use what its maker knows where the block begins. -/
namespace RS
open PySem PySem.Spec PyProof.Rows L2
section
variable {X : Cx} {pins : List (Addr × Obj)} {σ : L2.St} {H : Hp} {s : Shared}
theorem blk_fpOk {s3 : Shared} {H3 : Hp} {scb : Scope} {ce : Env} {fp : List Addr} {pins' : List (Addr × Obj)} {σ' : L2.St} {H' : Hp} {s' : Shared} (hp : pins' = []) (I : Inv (X.blk s3 H3 scb ce fp) pins' σ' H' s') (hn : ∀ b ∈ fp, H' b = none) : ∀ b ∈ fp, FpOk (X.blk s3 H3 scb ce fp) pins' H' b := fun b hb => by
  subst hp
  refine ⟨hn b hb, (I.ok.exf b hb).1, I.ok.exfs b hb, .inl hb, fun x c e => (I.ok.exf b hb).2 x c e, fun p z => ?_⟩
  have z2 : p ∈ ([] : List (Addr × Obj)) ++ [] := z
  simp at z2
/-- as L2.lc_core; tt and te told for the slots σ that the maker has -/
theorem lc_coreI {Q : VK} {elt tg iter : Expr} {ifs : List Expr} {scb : Scope} {own : List (Str × Nat)} {pos pos' : Pos} {wi : TI} {g : TG} {tt : TT} {te : TE} {use : Option (Value → Sem Unit)} {Qf : Value → Shared → Prop}
    (calm : X.calm = true) (nd : X.N.Nodup) (I : Inv X pins σ H s) (hi : PI X tg iter wi) (ok : BlkOk X.N X.env.scope scb own)
    (hg : ∀ (s : Shared) (H : Hp) (C : Addr) (cl : List (Str × Addr)) (fp : List Addr), PG (X.blk s H scb (compEnvC scb cl C X.env) fp) tg g)
    (ht : ∀ (s : Shared) (H : Hp) (C : Addr) (cl : List (Str × Addr)) (fp : List Addr), Inv X pins σ H s → (∀ b ∈ fp, FpOk X pins H b) → PTs (X.blk s H scb (compEnvC scb cl C X.env) fp) ifs tt)
    (he : ∀ (s : Shared) (H : Hp) (C : Addr) (cl : List (Str × Addr)) (fp : List Addr), Inv X pins σ H s → (∀ b ∈ fp, FpOk X pins H b) → PE (X.blk s H scb (compEnvC scb cl C X.env) fp) elt te)
    (fold : ∀ x, foldedSetIterable iter X.env x = pure x) (red : tLc wi g tt te (own.map (·.2)) σ H Q)
    (fin : ∀ (D C : Addr) (s' : Shared) (m : Str → Option Value) (H' : Hp), Inv X pins σ H' s' → Q (.ref D) H' → s'.heap.Ns C m → FpOk X pins H' C → compPost (model X.prog X.w) X.A X.xe use Qf (.ref D) C (.ok .next) s') :
    wpAny (model X.prog X.w) X.A (comprehension (.ListComp elt [⟨tg, iter, ifs, 0⟩] scb pos) scb X.env pos' (newList []) false (eval iter X.env) use) Qf X.xe s := by
  have cap : ∀ y ∈ scb.names, y.2 = .free → ∃ c, X.env.cells.lookup y.1 = some c := fun y hy e => (ok.free y hy e).elim (fun z => I.ok.has _ (.inl z)) fun z => I.ok.has _ (.inr z)
  have source := hi.run pins s σ H _ I red
  refine wpAny_comprehension_free (use := use) rfl fold (closure_ok cap) ok.kind (fun y hy e => by rw [ok.uniq y hy, e]) (thn source fun _ _ hx => thn hx fun _ s2 came => ?_)
  obtain ⟨it, fp, tn, J, H2, rfl, I2, T, tn2, fp2, q⟩ := came
  refine wpAny_newObj_type (newEnv_comp ?_) (by show 0 ≤ sizeLine; decide)
  generalize eD : s2.heap.objs.size = D
  have D0 : H2 D = none := I2.hok.fresh (Nat.le_of_eq eD)
  obtain ⟨Wv, ⟨m0, w0⟩, turn⟩ := q D D0
  generalize e3 : ({ s2 with heap := s2.heap.push { cls := .type "list", data := .seq ([] : List Value).toArray } } : Shared) = s3
  have heap3 : s3.heap = s2.heap.push { cls := .type "list", data := .seq ([] : List Value).toArray } := by rw [← e3]
  have I3 : Inv X pins σ (upd H2 D (.lst [])) s3 := by
    subst e3
    refine I2.laid (t' := s2.toks) (fun b u e => Heap.get?_push_of_some _ e) (Nat.le_of_eq eD) ⟨Nat.zero_le _, [], 0, .nil, ?_⟩
    subst eD
    exact Heap.get?_push_size _ rfl
  have small : ∀ b ∈ fp, b < s2.heap.objs.size := fun b hb => let ⟨_, e, _⟩ := T.obj _ _ tn2 b hb; Heap.lt_size e
  have fp3 : ∀ b ∈ fp, FpOk X pins (upd H2 D (.lst [])) b ∧ b < s3.heap.objs.size := fun b hb => by
    have lt := small b hb
    have ne : b ≠ D := by subst eD; exact Nat.ne_of_lt lt
    refine ⟨⟨?_, (fp2 b hb).2⟩, ?_⟩
    · rw [upd_ne ne]; exact (fp2 b hb).1
    · rw [heap3, Heap.size_push]; exact Nat.lt_succ_of_lt lt
  have tn3 : tn 0 s3.heap := T.keep _ _ _ tn2 fun b _ u e => by rw [heap3]; exact Heap.get?_push_of_some _ e
  have I4 := block_start I3 ok nd fp3
  have pg := hg s3 (upd H2 D (.lst [])) s3.heap.objs.size (cellsFrom (s3.heap.objs.size + 1) scb.names (cloFrom X.env.cells scb.names [])) fp
  have pt := ht s3 (upd H2 D (.lst [])) s3.heap.objs.size (cellsFrom (s3.heap.objs.size + 1) scb.names (cloFrom X.env.cells scb.names [])) fp I3 fun b hb => (fp3 b hb).1
  have pe := he s3 (upd H2 D (.lst [])) s3.heap.objs.size (cellsFrom (s3.heap.objs.size + 1) scb.names (cloFrom X.env.cells scb.names [])) fp I3 fun b hb => (fp3 b hb).1
  show codeAny _ _ (.compStart (.ListComp elt [⟨tg, iter, ifs, 0⟩] scb pos) 0 (.ref it) (.ref D) (compEnvC scb (cellsFrom (s3.heap.objs.size + 1) scb.names (cloFrom X.env.cells scb.names [])) s3.heap.objs.size X.env))
    (compPost (model X.prog X.w) X.A X.xe use Qf (.ref D) s3.heap.objs.size) { s3 with heap := pushCells (s3.heap.push { cls := .type "dict", data := .dict #[] }) scb.names }
  have fpn : ∀ b ∈ fp, (upd H2 D (.lst [])) b = none := fun b hb => (fp3 b hb).1.1
  generalize eE : compEnvC scb (cellsFrom (s3.heap.objs.size + 1) scb.names (cloFrom X.env.cells scb.names [])) s3.heap.objs.size X.env = ce at I4 pg pt pe ⊢
  have loc3 : ce.locals = s3.heap.objs.size := by rw [← eE]; rfl
  generalize eH : upd H2 D (.lst []) = H3 at I3 I4 pg pt pe w0 fpn fp3
  generalize e4 : ({ s3 with heap := pushCells (s3.heap.push { cls := .type "dict", data := .dict #[] }) scb.names } : Shared) = s4 at I4 ⊢
  have tn4 : tn 0 s4.heap := T.keep _ _ _ tn3 fun b _ u e => by subst e4; exact pushCells_keeps _ _ _ _ (Heap.get?_push_of_some _ e)
  have back : ∀ {pinsb : List (Addr × Obj)} {σb : L2.St} {Hb : Hp} {sb : Shared}, Inv (X.blk s3 H3 scb ce fp) pinsb σb Hb sb → Inv X pins σ Hb sb := fun {_ _ _ _} Ib =>
    I3.call' (ch := fp) Ib.os Ib.base Ib.hok Ib.bare fun b hb => let ⟨_, k1, _, k2, k3, k4⟩ := (fp3 b hb).1; ⟨k2, k1, k3, k4⟩
  have loop : codeAny (model X.prog X.w) X.A (.compLoop (.ListComp elt [⟨tg, iter, ifs, 0⟩] scb pos) 0 (.ref it) (.ref D) ce) (compPost (model X.prog X.w) X.A X.xe use Qf (.ref D) s3.heap.objs.size) s4 := by
    refine compLoop_any (fun n sx => ∃ i Hx, Inv (X.blk s3 H3 scb ce fp) [] (wipe σ (own.map (·.2))) Hx sx ∧ tn i sx.heap ∧ (∀ b ∈ fp, Hx b = none) ∧ Wv i n Hx) ?_ m0 ⟨0, H3, I4, tn4, fpn, w0⟩
    rintro n s5 ⟨i, H5, I5, tn5, fp5, w5⟩
    have fo5 := blk_fpOk rfl I5 fp5
    rcases turn i n H5 w5 with ⟨stop, qq⟩ | ⟨go, Nx, next, step⟩
    · have over := T.done (X.blk s3 H3 scb ce fp) rfl rfl rfl calm i [] s5 _ H5 (fun _ _ => False) I5 fo5 tn5 stop
      refine thnF over fun r s6 ⟨er, I6⟩ => ?_
      subst er
      have free6 : H5 s3.heap.objs.size = none := by
        have z : H5 ce.locals = none := I6.free
        rwa [loc3] at z
      obtain ⟨m, ns6, _⟩ := I6.loc
      have ns6 : s6.heap.Ns ce.locals m := ns6
      rw [loc3] at ns6
      exact fin D s3.heap.objs.size s6 m H5 (back I6) qq ns6 (I3.fpOk (Nat.le_refl _) free6)
    · have one := T.item (X.blk s3 H3 scb ce fp) rfl rfl rfl calm i [] s5 _ H5 (fun _ _ => False) I5 fo5 tn5 go
      refine thnF one fun r s6 ⟨u, er, after⟩ => ?_
      subst er
      refine thnF after fun _ s7 ⟨x, H7, I7, r7, y7, tn7, fp7⟩ => ?_
      have J7 := I7.pinned (blk_fpOk rfl I7 fp7) (T.obj _ _ tn7)
      refine thnF (pg.run _ s7 _ H7 x u _ J7 r7 (step x H7 y7)) fun _ s8 ⟨σ8, H8, I8, same, q8⟩ => ?_
      refine thnF (pt.run _ s8 σ8 H8 _ I8 q8) fun b s9 ⟨H9, I9, q9⟩ => ?_
      have ends : ∀ {se : Shared} {He : Hp}, Inv (X.blk s3 H3 scb ce fp) ([] ++ pinsAt fp s7.heap) σ8 He se → Nx He → ∃ m, m < n ∧ ∃ i Hx, Inv (X.blk s3 H3 scb ce fp) [] (wipe σ (own.map (·.2))) Hx se ∧ tn i se.heap ∧ (∀ b ∈ fp, Hx b = none) ∧ Wv i m Hx := fun {se He} Ie nx => by
        obtain ⟨m', lt, w'⟩ := next He nx
        have stay : ∀ b ∈ fp, ∀ u, s7.heap.get? b = some u → se.heap.get? b = some u ∧ He b = none := fun b hb u e =>
          have z := Ie.pin (b, u) (List.mem_append_right _ (List.mem_append_right _ (mem_pinsAt hb e)))
          ⟨z.1, z.2.1⟩
        have len8 : (wipe σ (own.map (·.2))).length = σ8.length := by rw [← same, wipe_length]
        have Iw := (Ie.unpinned (pins := [])).weak len8 fun j v e => by
          rw [← same] at e
          exact (wipe_some e).1
        exact ⟨m', lt, i + 1, He, Iw, T.keep _ _ _ tn7 fun b hb u e => (stay b hb u e).1, fun b hb => let ⟨u, e, _⟩ := T.obj _ _ tn7 b hb; (stay b hb u e).2, w'⟩
      cases b with
      | true =>
        simp only [if_true] at q9 ⊢
        refine thnF (pe.run _ s9 σ8 H9 _ I9 q9) fun z s10 ⟨yv, H10, I10, r10, acc, at10, le10, nx⟩ => ?_
        exact app_ok (X := X.blk s3 H3 scb ce fp) I10 at10 le10 r10 fun s11 I11 => ends I11 nx
      | false =>
        simp only [Bool.false_eq_true, if_false] at q9 ⊢
        exact ends I9 q9
  exact codeAny_compStart_list loop (T.self X.A 0 _ _ _ tn4 loop)
/-- as a value: tt, te by the maker's slots -/
def tLcI (wi : TI) (g : TG) (tt : L2.St → TT) (te : L2.St → TE) (vs : List Nat) : TE := fun σ H Q => tLc wi g (tt σ) (te σ) vs σ H Q
theorem pe_lcI {elt tg iter : Expr} {ifs : List Expr} {scb : Scope} {own : List (Str × Nat)} {pos : Pos} {wi : TI} {g : TG} {tt : L2.St → TT} {te : L2.St → TE} (calm : X.calm = true) (nd : X.N.Nodup) (hi : PI X tg iter wi) (ok : BlkOk X.N X.env.scope scb own)
    (hg : ∀ (s : Shared) (H : Hp) (C : Addr) (cl : List (Str × Addr)) (fp : List Addr), PG (X.blk s H scb (compEnvC scb cl C X.env) fp) tg g)
    (ht : ∀ (pins : List (Addr × Obj)) (σ : L2.St) (s : Shared) (H : Hp) (C : Addr) (cl : List (Str × Addr)) (fp : List Addr), Inv X pins σ H s → (∀ b ∈ fp, FpOk X pins H b) → PTs (X.blk s H scb (compEnvC scb cl C X.env) fp) ifs (tt σ))
    (he : ∀ (pins : List (Addr × Obj)) (σ : L2.St) (s : Shared) (H : Hp) (C : Addr) (cl : List (Str × Addr)) (fp : List Addr), Inv X pins σ H s → (∀ b ∈ fp, FpOk X pins H b) → PE (X.blk s H scb (compEnvC scb cl C X.env) fp) elt (te σ)) (fold : ∀ x, foldedSetIterable iter X.env x = pure x := by intro _; rfl) :
    PE X (.ListComp elt [⟨tg, iter, ifs, 0⟩] scb pos) (tLcI wi g tt te (own.map (·.2))) := by
  refine ⟨fun pins s σ H Q I red => ?_⟩
  rw [eval_ListComp]
  refine lc_coreI calm nd I hi ok hg (ht pins σ) (he pins σ) fold red fun D C s' m H' I' q ns f => ⟨m, ns, fun hp sb => ?_⟩
  obtain ⟨k0, k1, k2, k3, k4, k5⟩ := f
  exact ⟨.ref D, H', I'.turned (t' := s'.toks) (fun b u hb e => (sb.2 b hb).trans e) k0 k1 k3 k4 k5, rfl, q⟩
end
end RS
end
section
set_option Elab.async false
set_option linter.all false
set_option autoImplicit false
set_option maxRecDepth 100000
set_option maxHeartbeats 2000000
/-! RS41: lists of kept lambdas in a def's frame. -/
namespace RS
open PySem PySem.Spec PyProof.Rows L2
/-- the data x is the address of the kept lambda l -/
def Kp (q : Str) (cells : List (Str × Addr)) (l : LW) (x : PyData) (b : Bs) : Prop := ∃ (f c' : Addr), x = .dict [(.int (f : Int), .none)] ∧ b.P f = some (LamO f q l (cloFrom cells l.scope.names []) c') ∧ b.P c' = some (LamX.CodeO c' q)
theorem Kp.ge {q : Str} {cells : List (Str × Addr)} {l : LW} {x : PyData} {b b' : Bs} (h : Kp q cells l x b) (g : Ge b b') : Kp q cells l x b' := by
  obtain ⟨f, c', e, h1, h2⟩ := h
  exact ⟨f, c', e, g.p _ _ h1 fun ps z => lamO_tbl ps z, g.p _ _ h2 fun ps z => LamX.codeO_ne ps z⟩
def Up (B : Bs → Prop) : Prop := ∀ b b', Ge b b' → B b → B b'
theorem up_and {A B : Bs → Prop} (ha : Up A) (hb : Up B) : Up fun b => A b ∧ B b := fun b b' g h => ⟨ha b b' g h.1, hb b b' g h.2⟩
theorem up_kp {q : Str} {cells : List (Str × Addr)} {l : LW} {x : PyData} : Up (Kp q cells l x) := fun _ _ g h => h.ge g
section
variable (K : PySem.W.Frag) (T : Tb)
def EsF (ts : TS) (ρ : En) (B : Bs → Prop) (O : Out → Prop) : Prop := ∀ b G H σ D, LT T b → B b → SA K b G H σ ρ → (∀ b', LT T b' → Ge b b' → To K b' D O) → ts D σ H
end
section
variable {K : PySem.W.Frag} {T : Tb} {ρ : En} {O : Out → Prop} {b : Bs} {G H H1 : Hp} {σ : L2.St}
theorem EsF.m {t : TS} (h : EsF K T t ρ (fun _ => True) O) : EsM K T t ρ O := fun b G H σ D L S To => h b G H σ D L trivial S To
/-- a thing of one's own is to stand from now on -/
theorem SA.pinP {D : Addr} {o : HO} (L : LT T b) (S : SA K b G H σ ρ) (h : H D = some o) (hl : ∀ xs, o ≠ .lst xs) (hd : ∀ kvs, o ≠ .dK kvs) (ht : ∀ ps, o ≠ .tbl ps) (g : G D = none) :
    LT T ⟨b.G0, upd b.P D o, fun a => b.T a ∨ a = D, b.pp⟩ ∧ Ge b ⟨b.G0, upd b.P D o, fun a => b.T a ∨ a = D, b.pp⟩ ∧ SA K ⟨b.G0, upd b.P D o, fun a => b.T a ∨ a = D, b.pp⟩ G H σ ρ := by
  have same : ∀ a u, b.P a = some u → upd b.P D o a = some u := fun a u e => by
    by_cases ha : a = D
    · subst ha
      have := S.keep a u e
      rw [h] at this
      cases this
      exact upd_same
    · rw [upd_ne ha]; exact e
  have of_ : ∀ a u, upd b.P D o a = some u → (a = D ∧ u = o) ∨ b.P a = some u := fun a u e => by
    by_cases ha : a = D
    · subst ha
      rw [upd_same] at e
      cases e
      exact .inl ⟨rfl, rfl⟩
    · rw [upd_ne ha] at e
      exact .inr e
  refine ⟨⟨L.nt, fun a ps e => ?_, fun p hp => ?_, fun a e => ?_⟩, ⟨rfl, rfl, fun a e => .inl e, fun a u e _ => same a u e⟩, {
    sub := S.sub, gg := S.gg
    new := fun a e q => ?_
    keep := fun a u e => ?_
    trk := fun a q z => ?_
    ptr := fun a q => ?_
    gtr := fun a q => .inl (S.gtr a q)
    dat := S.dat
    own := fun i xs e => ?_
    sep := S.sep
    pen := fun i c e => ?_
    penp := S.penp, onep := S.onep, len := S.len }⟩
  · rcases of_ a _ e with ⟨_, z⟩ | z
    · exact absurd z.symm (ht ps)
    · exact L.pt a ps z
  · obtain ⟨ps, h1, h2, h3⟩ := L.tb p hp
    refine ⟨ps, same _ _ h1, h2, fun pos cv hc => ?_⟩
    obtain ⟨c, e, k⟩ := h3 pos cv hc
    exact ⟨c, e, same _ _ k⟩
  · rcases e with e | e
    · rcases L.tt a e with z | z | z
      · left
        cases w : b.P a with
        | none => exact absurd w z
        | some u =>
          show upd b.P D o a ≠ none
          rw [same a u w]; exact fun z => nomatch z
      · exact .inr (.inl z)
      · exact .inr (.inr z)
    · left
      show upd b.P D o a ≠ none
      rw [e, upd_same]; exact fun z => nomatch z
  · rcases q with q | q
    · exact S.new a e q
    · rw [q]; exact g
  · rcases of_ a u e with ⟨z, z2⟩ | z
    · rw [z, z2]; exact h
    · exact S.keep a u z
  · rcases q with q | q
    · exact S.trk a q z
    · rw [q, h] at z; cases z
  · cases w : upd b.P D o a with
    | none => exact absurd w q
    | some u =>
      rcases of_ a u w with ⟨z, _⟩ | z
      · exact .inr z
      · exact .inl (S.ptr a (by rw [z]; exact fun z => nomatch z))
  · obtain ⟨a, vs, h1, h2, h3, h4, h5, h6⟩ := S.own i xs e
    have ne : a ≠ D := fun z => by
      rw [z, h] at h4
      cases h4
      exact hl vs rfl
    refine ⟨a, vs, h1, h2, ?_, h4, h5, fun z => z.elim h6 ne⟩
    show upd b.P D o a = none
    rw [upd_ne ne]; exact h3
  · obtain ⟨p, h1, h2, h3, h4⟩ := S.pen i c e
    have ne : p ≠ D := fun z => by
      obtain ⟨kvs, hk⟩ := h4.there
      rw [z, h] at hk
      cases hk
      exact hd kvs rfl
    refine ⟨p, h1, h2, ?_, h4⟩
    show upd b.P D o p = none
    rw [upd_ne ne]; exact h3
theorem mk_ok {i c0 : Nat} {q : Str} {W : LW} {cells : List (Str × Addr)} {Q : VK} {PL : Addr} (L : LT T b) (S : SA K b G H σ ρ) (hi : ρ[i]? = some (some (Sl.pen c0))) (mem : (PL, q) ∈ T)
    (k : ∀ b' v x G' H', LT T b' → Ge b b' → Kp q cells W x b' → SA K b' G' H' σ ρ → DA K G' v x → Q v H') : tMk T q W (cloFrom cells W.scope.names []) σ H Q := by
  refine ⟨L.tabs S, fun f c' H1 e t n lf lc => ?_⟩
  obtain ⟨L1, g1, S1⟩ := S.lam L hi e t
  have gf : strip T G f = none := strip_none (S.sub.none n)
  obtain ⟨L2, g2, S2⟩ := S1.pinP L1 lf (fun xs z => by unfold LamO at z; cases z) (fun kv z => by unfold LamO at z; cases z) (fun ps z => lamO_tbl ps z) gf
  have hc : keepT T b.P H1 c' = some (LamX.CodeO c' q) := keepT_tc lc (.inr ⟨(PL, q), mem, rfl⟩) fun ⟨ps, z⟩ => absurd z (LamX.codeO_ne ps)
  exact k _ (.ref f) _ (strip T G) H1 L2 (g1.trans g2) ⟨f, c', rfl, upd_same, g2.p _ _ hc fun ps z => LamX.codeO_ne ps z⟩ S2 .adr
/-- x = [lambda: ..] -/
theorem esf_list {i j c0 : Nat} {q : Str} {W : LW} {cells : List (Str × Addr)} {PL : Addr} {u : TS} {B : Bs → Prop} (hB : Up B) (hi : ρ[i]? = some (some (Sl.pen c0))) (mem : (PL, q) ∈ T) (k : ∀ x, EsF K T u (ρ.set j (some (.own [x]))) (fun b => B b ∧ Kp q cells W x b) O) :
    EsF K T (tSeq (tAsg (tLst (tCons (tMk T q W (cloFrom cells W.scope.names [])) tNil)) (gName j)) u) ρ B O := fun b G H σ D L hb S To => by
  have mk := fun Q => mk_ok (Q := Q) (W := W) (cells := cells) L S hi mem
  generalize tMk T q W (cloFrom cells W.scope.names []) = te at mk ⊢
  refine mk _ fun b1 v x G1 H1 L1 g1 kp S1 d1 => ?_
  refine ⟨by show 1 ≤ sizeLine; decide, fun p hp => ?_⟩
  exact k x b1 G1 _ _ D L1 ⟨hB _ _ g1 hb, kp⟩ (S1.newOwn j hp (.cons d1 .nil)) fun b' L' g' => To b' L' (g1.trans g')
/-- x.append(lambda: ..) -/
theorem esf_app {i j c0 : Nat} {q : Str} {W : LW} {cells : List (Str × Addr)} {PL : Addr} {u : TS} {B : Bs → Prop} {xs : List PyData} (hB : Up B) (hi : ρ[i]? = some (some (Sl.pen c0))) (mem : (PL, q) ∈ T) (hj : ρ[j]? = some (some (Sl.own xs))) (hl : xs.length ≤ 100000)
    (k : ∀ x, EsF K T u (ρ.set j (some (.own (xs ++ [x])))) (fun b => B b ∧ Kp q cells W x b) O) :
    EsF K T (tSeq (tDrop (tBM K "list" rAppend (tVar j) (tCons (tMk T q W (cloFrom cells W.scope.names [])) tNil))) u) ρ B O := fun b G H σ D L hb S To => by
  obtain ⟨a, vs, hs, _, _, hH, _, _⟩ := S.own j xs hj
  refine ⟨.ref a, hs, tyL hH, ?_⟩
  refine mk_ok L S hi mem fun b1 v x G1 H1 L1 g1 kp S1 d1 => ?_
  obtain ⟨vs1, hH1, hd1⟩ := S1.own_at hj hs
  refine ⟨a, vs1, v, rfl, rfl, hH1, Nat.lt_of_le_of_lt (show vs1.length ≤ 100000 by rw [hd1.length]; exact hl) (by decide), ?_⟩
  exact k x b1 G1 _ _ D L1 ⟨hB _ _ g1 hb, kp⟩ (S1.own_write hj hs (hd1.append (.cons d1 .nil))) fun b' L' g' => To b' L' (g1.trans g')
/-- an expression that comes to y, where B holds of the base -/
def EvB (K : PySem.W.Frag) (te : TE) (ρ : En) (B : Bs → Prop) (y : PyData) : Prop := ∀ b G H σ, B b → SA K b G H σ ρ → ∀ Q : VK, (∀ v G2 H2, SA K b G2 H2 σ ρ → DA K G2 v y → Q v H2) → te σ H Q
/-- [e for x in calls if g(x) != t], where each call raises what t tells -/
theorem evb_calls {i j : Nat} {q : Str} {cells : List (Str × Addr)} {Ls : List (LW × (XK → TE))} {tab : List Cl} {tb te : TE} {xs : List PyData} {B : Bs → Prop} {wd : Str} {outs : List PyData} (hi : ρ[i]? = some (some (Sl.own xs))) (hj : ρ[j]? = some none) (hl : xs.length ≤ 100000)
    (ok : RS.okAll (.str wd :: outs) = true) (dp : PyData.depthAll (.str wd :: outs) ≤ 60) (ht : Ed K tb ρ (.tuple (.str wd :: outs)))
    (hx : ∀ x ∈ xs, ∃ l t C fl, (l, t) ∈ Ls ∧ (∀ b, B b → Kp q cells l x b) ∧ (C, wd, fl) ∈ tab ∧ fl.length ≤ 100 ∧ EvX K t ρ C (fun ρ1 kv => ρ1 = ρ ∧ OutsOk kv fl outs)) :
    EvB K (tLcI (iList K (tVar i)) (gName j) (fun σ0 => tTest (tOp (rNeA K) (tKept (TTw tab) q cells Ls j σ0) tb)) (fun _ => te) [j]) ρ B (.list []) := fun b G H σ hb S Q k => by
  obtain ⟨a, vs, hs, ga, pa, hH, hd, nt⟩ := S.own i xs hi
  have hij : i ≠ j := fun z => by rw [z, hj] at hi; cases hi
  have len : vs.length = xs.length := hd.length
  refine ⟨.ref a, hs, a, rfl, ⟨vs, SqL.of hH⟩, fun D hD => ?_⟩
  have nD : NotAt σ ρ D := S.notAt hD
  have gD0 : G D = none := S.sub.none hD
  have pD : b.P D = none := S.keep.none hD
  have tD : ¬ b.T D := fun z => S.trk D z hD
  refine ⟨fun n m H' => m = vs.length - n ∧ n ≤ vs.length ∧ ∃ G', Sub G G' ∧ SA K b G' H' σ ρ ∧ H' D = some (.lst []) ∧ G' D = none, ⟨vs.length, rfl, Nat.zero_le _, G, Sub.refl G, S.step (Step.layH S.sub (.lst []) hD), upd_same, gD0⟩, ?_⟩
  rintro n m H' ⟨rfl, hn, G', gg, S', hD', gD'⟩
  obtain ⟨vs', hH', hd'⟩ := S'.own_at hi hs
  have len' : vs'.length = vs.length := by rw [hd'.length, len]
  by_cases hlt : n < vs.length
  · have hlt' : n < vs'.length := by omega
    refine .inr ⟨⟨vs', vs'[n], SqL.of hH', List.getElem?_eq_getElem hlt'⟩, fun H2 => n + 1 ≤ vs.length ∧ ∃ G2, Sub G G2 ∧ SA K b G2 H2 σ ρ ∧ H2 D = some (.lst []) ∧ G2 D = none, fun H2 p => ⟨vs.length - (n + 1), by omega, rfl, p.1, p.2⟩, fun v H2 y => ?_⟩
    obtain ⟨rfl, y⟩ := y
    have hv := y vs' (SqL.of hH')
    have hlx : n < xs.length := by omega
    obtain ⟨v', hv', dv⟩ := hd'.get (i := n) (List.getElem?_eq_getElem hlx)
    rw [hv] at hv'
    obtain rfl : v = v' := Option.some.inj hv'
    obtain ⟨l, t, C, fl, mem, kp, memC, hfl, ex⟩ := hx xs[n] (List.getElem_mem hlx)
    obtain ⟨f, c', ex1, pf, pc⟩ := kp b hb
    rw [ex1] at dv
    obtain rfl : v = V.ref f := by
      cases dv with
      | adr => rfl
    show _ ∧ _
    have jl : j < σ.length := by
      rw [S.len]
      exact (List.getElem?_eq_some_iff.mp hj).1
    have hσj : ((wipe σ [j]).set j (some (.ref f)))[j]? = some (some (V.ref f)) := List.getElem?_set_self (by rw [wipe_length]; exact jl)
    have hσo : ∀ r, r ≠ j → ((wipe σ [j]).set j (some (.ref f)))[r]? = σ[r]? := fun r hr => by
      rw [List.getElem?_set_ne (fun z => hr z.symm)]
      exact wipe_out fun z => hr (List.mem_singleton.mp z)
    refine ⟨?_, ?_⟩
    · show ((wipe σ [j]).set j (some (.ref f))).set j none = (wipe σ [j])
      show ((σ.set j none).set j (some (.ref f))).set j none = σ.set j none
      rw [List.set_set, List.set_set]
    have SG := S'.guard (o := .lst []) nD hD'
    have nDf : D ≠ f := fun z => by rw [z, pf] at pD; cases pD
    show tKept (TTw tab) q cells Ls j σ ((wipe σ [j]).set j (some (.ref f))) H2 _
    refine ⟨f, c', l, t, mem, hσj, S'.keep _ _ pf, S'.keep _ _ pc, S'.keep _ _ pf, ?_⟩
    refine ex _ G' H2 σ SG _ _ fun ρ1 G3 H3 dd fs kv r S3 hdd hfs => ?_
    obtain ⟨rfl, ho⟩ := r
    obtain ⟨us, lk, dus, lu⟩ := outs_lks hfs ho
    refine ⟨(C, wd, fl), us, dd, fs, memC, rfl, rfl, hdd, lk, by rw [lu]; exact hfl, fun x hx0 => ?_⟩
    have st := Step.lay S3.sub (.tup (.str wd :: us)) hx0
    have S4 := S3.step st
    have d4 : DA K (upd G3 x (.tup (.str wd :: us))) (.ref x) (.tuple (.str wd :: outs)) := .tup (SqT.of upd_same) ((DAs.cons (.str wd) dus).mono st.gg)
    have S5 := S4.less (σ' := (wipe σ [j]).set j (some (.ref f))) (ρ' := ρ1) (by rw [List.length_set, wipe_length]; exact S.len) fun r s e => ⟨hσo r fun z => (by rw [z, hj] at e; cases e), s, e, Wk.refl s⟩
    refine ht.runG S5 fun w y2 ρ2 G6 H6 e S6 g6 d6 => ?_
    obtain ⟨rfl, rfl⟩ := e
    refine rd_nsameT ok dp G6 H6 _ w S6.sub (d4.mono g6) d6 _ fun u G7 H7 st7 du => ?_
    cases du
    refine ⟨false, rfl, ?_⟩
    show _ ∧ _
    have S7 := (S6.step st7).less (σ' := σ) (ρ' := ρ2) S.len fun r s e => ⟨(hσo r fun z => (by rw [z, hj] at e; cases e)).symm, s, e, Wk.refl s⟩
    have S8 := S'.unguard pD S7
    refine ⟨hlt, G7, gg.trans (fun a o e => S7.gg a o e), S8, S7.keep D _ (by show upd b.P D (.lst []) D = _; exact upd_same), ?_⟩
    exact S7.new D gD' ⟨(by rw [hD']; exact fun z => (nomatch z)), nD.own⟩
  · have e : n = vs.length := by omega
    subst e
    have SA2 := S'.adopt nD tD gD' hD'
    exact .inl ⟨⟨vs', SqL.of hH', by omega⟩, k (.ref D) _ H' SA2 (.lst upd_same .nil)⟩
end
end RS
end
section
set_option Elab.async false
set_option linter.all false
set_option autoImplicit false
set_option maxRecDepth 100000
set_option maxHeartbeats 4000000
namespace K04
open PySem PySem.Spec PyProof.Rows L2 RS
def top (i : Nat) : Stmt := PySem.Challenge.pw_numberwall_k04_whole_steps_and_runs.main.body.getD i (.Pass ⟨0, 0, 0, 0⟩)
abbrev s_is_integer : Stmt := top 1
abbrev N_is_integer : List Str := ["value"]
theorem sc_is_integer : FnScope N_is_integer ["value"] (defScope s_is_integer) := ⟨rfl, rfl, rfl, by decide +kernel, rfl, by decide +kernel, by decide +kernel⟩
abbrev s_is_natural : Stmt := top 2
abbrev N_is_natural : List Str := ["value"]
theorem sc_is_natural : FnScope N_is_natural ["value"] (defScope s_is_natural) := ⟨rfl, rfl, rfl, by decide +kernel, rfl, by decide +kernel, by decide +kernel⟩
abbrev s_is_below : Stmt := top 3
abbrev N_is_below : List Str := ["value", "many"]
theorem sc_is_below : FnScope N_is_below ["value", "many"] (defScope s_is_below) := ⟨rfl, rfl, rfl, by decide +kernel, rfl, by decide +kernel, by decide +kernel⟩
abbrev s_is_row : Stmt := top 4
abbrev N_is_row : List Str := ["value"]
theorem sc_is_row : FnScope N_is_row ["value"] (defScope s_is_row) := ⟨rfl, rfl, rfl, by decide +kernel, rfl, by decide +kernel, by decide +kernel⟩
abbrev s_are_naturals : Stmt := top 5
abbrev N_are_naturals : List Str := ["value", "many", "item"]
theorem sc_are_naturals : FnScope N_are_naturals ["value", "many"] (defScope s_are_naturals) := ⟨rfl, rfl, rfl, by decide +kernel, rfl, by decide +kernel, by decide +kernel⟩

abbrev s_tupled : Stmt := top 7
abbrev N_tupled : List Str := ["value", "done", "todo", "item", "is_opened", "start", "part"]
theorem sc_tupled : FnScope N_tupled ["value"] (defScope s_tupled) := ⟨rfl, rfl, rfl, by decide +kernel, rfl, by decide +kernel, by decide +kernel⟩
/-! what the checks tell -/
def natD : PyData → Bool
  | .int i => decide (0 ≤ i)
  | _ => false
def belD (n : Int) : PyData → Bool
  | .int i => decide (0 ≤ i) && decide (i < n)
  | _ => false
def natsD (n : Int) (x : PyData) : Bool := match seqOf x with
  | some (_, xs) => decide ((xs.length : Int) = n) && xs.all natD
  | none => false
/-- rows of any kind, of moderate length, of data of any kind -/
def Rw (x : PyData) : Prop := Kd x ∧ ∀ t xs, seqOf x = some (t, xs) → xs.length ≤ 1000 ∧ ∀ y ∈ xs, Kd y
def p1 : List PyData → Prop := fun ds => ∃ x, ds = [x] ∧ Kd x
def pR : List PyData → Prop := fun ds => ∃ x, ∃ n : Int, ds = [x, .int n] ∧ Rw x
def p2 : List PyData → Prop := fun ds => ∃ x, ∃ n : Int, ds = [x, .int n] ∧ Kd x
def rB (f : PyData → Bool) : List PyData → PyData → Prop := fun ds y => ∃ x, ds = [x] ∧ y = .bool (f x)
def rB2 (f : Int → PyData → Bool) : List PyData → PyData → Prop := fun ds y => ∃ x, ∃ n : Int, ds = [x, .int n] ∧ y = .bool (f n x)
section
variable {P : Program} {w : World} {K : PySem.W.Frag} {mg : Str → Option Value} {base : Heap}
theorem ed_b {E : XK} {te : TE} {ρ : En} {x : PyData} {f : PyData → Bool} (h : Ed K te ρ x) (hx : Kd x) : Ed K (tCall (spR K 1 p1 (rB f)) [] E (tCons te tNil)) ρ (.bool (f x)) :=
  ed_call (ea_cons h ea_nil) rfl ⟨x, rfl, hx⟩ fun z hz => by obtain ⟨y, e, rfl⟩ := hz; cases e; rfl
theorem ed_b2 {E : XK} {te tn : TE} {ρ : En} {x : PyData} {n : Int} {f : Int → PyData → Bool} (h : Ed K te ρ x) (hn : Ed K tn ρ (.int n)) (hx : Kd x) : Ed K (tCall (spR K 2 p2 (rB2 f)) [] E (tCons te (tCons tn tNil))) ρ (.bool (f n x)) :=
  ed_call (ea_cons h (ea_cons hn ea_nil)) rfl ⟨x, n, rfl, hx⟩ fun z hz => by obtain ⟨y, m, e, rfl⟩ := hz; cases e; rfl
theorem ed_bR {E : XK} {te tn : TE} {ρ : En} {x : PyData} {n : Int} {f : Int → PyData → Bool} (h : Ed K te ρ x) (hn : Ed K tn ρ (.int n)) (hx : Rw x) : Ed K (tCall (spR K 2 pR (rB2 f)) [] E (tCons te (tCons tn tNil))) ρ (.bool (f n x)) :=
  ed_call (ea_cons h (ea_cons hn ea_nil)) rfl ⟨x, n, rfl, hx⟩ fun z hz => by obtain ⟨y, m, e, rfl⟩ := hz; cases e; rfl
theorem ok_is_integer {f : Addr} {fd : FuncData} (F : Fun K "is_integer" "is_integer" s_is_integer f fd) (T : Bi mg) (Y : Ty K) : FnOk P w K mg base CX0 1 f fd ["value"] (spR K 1 p1 (rB isInt)) := by
  refine fn_pure (ps := ["value"]) F sc_is_integer fun cdv A outer s H E hr => ⟨_, (pss_one (ps_ret (pe_and (pe_callB (k_isi (K := K)) (by rfl) (T.n_isinstance) (by decide +kernel) (pa_cons (pv 0) (pa_cons (pe_bltn (v := .ty "int") (by rfl) (T.n_int) (by decide +kernel) rfl) pa_nil))) (pe_one (pe_not (pe_callB (k_isi (K := K)) (by rfl) (T.n_isinstance) (by decide +kernel) (pa_cons (pv 0) (pa_cons (pe_bltn (v := .ty "bool") (by rfl) (T.n_bool) (by decide +kernel) rfl) pa_nil)))))))), ?_⟩
  rintro ds hl ⟨x, rfl, hx⟩
  refine es_ret (x := .bool (isInt x)) ?_ ⟨x, rfl, rfl⟩
  refine (ed_andV (c := isIntB x) (d := !isBoolD x) (ed_isInt Y hx (ed_var rfl)) fun _ => ed_notV (ed_isBool Y hx (ed_var rfl))).to ?_
  cases x <;> rfl
theorem ok_is_natural {f : Addr} {fd : FuncData} (F : Fun K "is_natural" "is_natural" s_is_natural f fd) (Ois_integer : OwnD P w K mg base 1 "is_integer" ["value"] (spR K 1 p1 (rB isInt))) : FnOk P w K mg base CX0 2 f fd ["value"] (spR K 1 p1 (rB natD)) := by
  refine fn_pure (ps := ["value"]) F sc_is_natural fun cdv A outer s H E hr => ⟨_, (pss_one (ps_ret (pe_and (pe_own Ois_integer (hr.mono (by decide)) (pa_cons (pv 0) pa_nil)) (pe_one (pe_cmpR op_ge (pv 0) pe_int (nomark _)))))), ?_⟩
  rintro ds hl ⟨x, rfl, hx⟩
  refine es_ret (x := .bool (natD x)) ?_ ⟨x, rfl, rfl⟩
  refine (ed_andV (c := isInt x) (d := natD x) (ed_b (ed_var rfl) hx) fun hc => ?_).to ?_
  · cases x <;> first | cases hc | skip
    exact ed_op (ed_var rfl) ed_int rd_ge
  · cases x <;> rfl
theorem ok_is_below {f : Addr} {fd : FuncData} (F : Fun K "is_below" "is_below" s_is_below f fd) (Ois_natural : OwnD P w K mg base 2 "is_natural" ["value"] (spR K 1 p1 (rB natD))) : FnOk P w K mg base CX0 3 f fd ["value", "many"] (spR K 2 p2 (rB2 belD)) := by
  refine fn_pure (ps := ["value", "many"]) F sc_is_below fun cdv A outer s H E hr => ⟨_, (pss_one (ps_ret (pe_and (pe_own Ois_natural (hr.mono (by decide)) (pa_cons (pv 0) pa_nil)) (pe_one (pe_cmpR op_lt (pv 0) (pv 1) (nomark _)))))), ?_⟩
  rintro ds hl ⟨x, n, rfl, hx⟩
  refine es_ret (x := .bool (belD n x)) ?_ ⟨x, n, rfl, rfl⟩
  refine (ed_andV (c := natD x) (d := belD n x) (ed_b (ed_var rfl) hx) fun hc => ?_).to ?_
  · cases x <;> first | cases hc | skip
    rename_i i
    have hc2 : decide (0 ≤ i) = true := hc
    refine (ed_op (ed_var rfl) (ed_var rfl) rd_lt).to ?_
    show PyData.bool (decide (i < n)) = .bool (decide (0 ≤ i) && decide (i < n))
    rw [hc2]; rfl
  · cases x <;> try rfl
    rename_i i
    show PyData.bool (decide (0 ≤ i) && (decide (0 ≤ i) && decide (i < n))) = .bool (decide (0 ≤ i) && decide (i < n))
    rw [← Bool.and_assoc, Bool.and_self]
theorem ok_is_row {f : Addr} {fd : FuncData} (F : Fun K "is_row" "is_row" s_is_row f fd) (T : Bi mg) (Y : Ty K) : FnOk P w K mg base CX0 1 f fd ["value"] (spR K 1 p1 (rB isRow)) := by
  refine fn_pure (ps := ["value"]) F sc_is_row fun cdv A outer s H E hr => ⟨_, (pss_one (ps_ret (pe_callB (k_isiT (K := K)) (by rfl) (T.n_isinstance) (by decide +kernel) (pa_cons (pv 0) (pa_cons (pe_tup (pa_cons (pe_bltn (v := .ty "tuple") (by rfl) (T.n_tuple) (by decide +kernel) rfl) (pa_cons (pe_bltn (v := .ty "list") (by rfl) (T.n_list) (by decide +kernel) rfl) pa_nil))) pa_nil))))), ?_⟩
  rintro ds hl ⟨x, rfl, hx⟩
  exact es_ret (ed_isRow Y hx (ed_var rfl)) ⟨x, rfl, rfl⟩
theorem isRow_seq {x : PyData} (h : isRow x = true) : ∃ t xs, seqOf x = some (t, xs) := by
  cases x with
  | list xs => exact ⟨false, xs, rfl⟩
  | tuple xs => exact ⟨true, xs, rfl⟩
  | _ => cases h
theorem ed_lenS {ρ : En} {te : TE} {x : PyData} {t : Bool} {xs : List PyData} (h : Ed K te ρ x) (e : seqOf x = some (t, xs)) : Ed K (tCB (rLenS K) (tCons te tNil)) ρ (.int xs.length) := by
  cases x <;> cases e
  · exact ed_cb (ea_cons h ea_nil) rc_lenL
  · exact ed_cb (ea_cons h ea_nil) rc_lenT
/-- [f(item) for item in x] -/
theorem ed_allR {ρ : En} {tl te : TE} {x : PyData} {t : Bool} {xs : List PyData} {i : Nat} {f : PyData → Bool} (h : Ed K tl ρ x) (e : seqOf x = some (t, xs)) (hl : xs.length ≤ 1000) (hp : setPen 0 ρ = ρ) (hi : ρ[i]? = some none)
    (k : ∀ y ∈ xs, Ed K te (ρ.set i (some (.d y))) (.bool (f y))) : Ed K (tCB (rAll K) (tCons (tLc (iSeq K tl) (gName i) tYes te [i]) tNil)) ρ (.bool (xs.all f)) := by
  have h1 : Ed K (tLc (iSeq K tl) (gName i) tYes te [i]) ρ (.list (xs.map fun y => .bool (f y))) := by
    refine ed_lcm 0 (fun y => .bool (f y)) (ei_seq h e) (Nat.le_trans hl (by decide)) hp (fun j s hj z => ?_) fun j y hy => ?_
    · rw [List.mem_singleton.mp hj, hi] at z
      cases z
    · have ew : setPen 0 (wp ρ [i]) = ρ := by
        unfold wp wp setPen
        rw [List.map_set]
        unfold setPen at hp
        rw [hp]
        apply List.ext_getElem?
        intro m
        rw [List.getElem?_set]
        by_cases hm : i = m
        · subst hm
          rw [if_pos rfl, hi, if_pos (List.getElem?_eq_some_iff.mp hi).1]
          rfl
        · rw [if_neg hm]
      refine ⟨[i], _, fun j hj => hj, eg_name, ?_, ?_⟩
      · rw [ew]
        unfold setPen at hp ⊢
        rw [List.map_set, hp]; rfl
      · rw [ew]
        exact k y (List.mem_of_getElem? hy)
  have e1 : (xs.map fun y => PyData.bool (f y)) = (xs.map f).map PyData.bool := by rw [List.map_map]; rfl
  rw [e1] at h1
  refine (ed_cb (ea_cons h1 ea_nil) rc_all).to ?_
  rw [List.all_map]; rfl
theorem ok_are_naturals {f : Addr} {fd : FuncData} (F : Fun K "are_naturals" "are_naturals" s_are_naturals f fd) (T : Bi mg) (Ois_row : OwnD P w K mg base 1 "is_row" ["value"] (spR K 1 p1 (rB isRow))) (Ois_natural : OwnD P w K mg base 2 "is_natural" ["value"] (spR K 1 p1 (rB natD))) : FnOk P w K mg base CX0 3 f fd ["value", "many"] (spR K 2 pR (rB2 natsD)) := by
  refine fn_pure (ps := ["value", "many"]) F sc_are_naturals fun cdv A outer s H E hr => ⟨_, (pss_one (ps_ret (pe_and (pe_own Ois_row (hr.mono (by decide)) (pa_cons (pv 0) pa_nil)) (pe_and (pe_cmpR (k_eqA (K := K) hr.units) (pe_callB (k_len (K := K)) (by rfl) (T.n_len) PySem.boot_len (pa_cons (pv 0) pa_nil)) (pv 1) (nomark _)) (pe_one (pe_callB (k_all (K := K) rfl) (by rfl) (T.n_all) (by decide +kernel) (pa_cons (pe_lc (own := [("item", 2)]) rfl sc_are_naturals.nd (kpi_seq (K := K) (pv 0)) (blkOk_by (N := N_are_naturals) (sc := defScope s_are_naturals) (by decide +kernel)) (fun _ _ _ _ _ => (pg_name (i := 2) sc_are_naturals.nd rfl (by first | exact Or.inl rfl | exact Or.inr rfl))) (fun _ _ _ _ _ => pts_nil) (fun _ _ _ _ _ => (pe_own Ois_natural (hr.mono (by decide)) (pa_cons (pv 2) pa_nil)))) pa_nil))))))), ?_⟩
  rintro ds hl ⟨x, n, rfl, hx, hxs⟩
  refine es_ret (x := .bool (natsD n x)) ?_ ⟨x, n, rfl, rfl⟩
  refine (ed_andV (c := isRow x) (d := natsD n x) (ed_b (ed_var rfl) hx) fun hc => ?_).to ?_
  · obtain ⟨t, xs, e⟩ := isRow_seq hc
    obtain ⟨hlen, hk⟩ := hxs t xs e
    refine (ed_andV (c := PyData.eqv (.int xs.length) (.int n)) (d := xs.all natD) (ed_op (ed_lenS (ed_var rfl) e) (ed_var rfl) (rd_eqA rfl rfl)) fun _ => ed_allR (ed_var rfl) e hlen rfl rfl fun y hy => ed_b (ed_var rfl) (hk y hy)).to ?_
    unfold natsD PyData.eqv
    rw [e]
    congr 2
  · cases x <;> rfl
end
end K04
end
section
set_option Elab.async false
set_option linter.all false
set_option autoImplicit false
set_option maxRecDepth 100000
set_option maxHeartbeats 4000000
namespace K04
open PySem PySem.Spec PyProof.Rows L2 RS
/-! rows made tuples, within one another, too -/
mutual
def tupD : PyData → PyData
  | .list xs => .tuple (tupDs xs)
  | .tuple xs => .tuple (tupDs xs)
  | .none => .none
  | .bool b => .bool b
  | .int i => .int i
  | .str s => .str s
  | .dict k => .dict k
def tupDs : List PyData → List PyData
  | [] => []
  | x :: xs => tupD x :: tupDs xs
end
mutual
def szD : PyData → Nat
  | .list xs => 2 + szDs xs
  | .tuple xs => 2 + szDs xs
  | .none => 1
  | .bool _ => 1
  | .int _ => 1
  | .str _ => 1
  | .dict _ => 1
def szDs : List PyData → Nat
  | [] => 0
  | x :: xs => szD x + szDs xs
end
mutual
def okD : PyData → Bool
  | .list xs => okDs xs
  | .tuple xs => okDs xs
  | .none => true
  | .bool _ => true
  | .int _ => true
  | .str _ => true
  | .dict k => (tyD (.dict k)).isSome
def okDs : List PyData → Bool
  | [] => true
  | x :: xs => okD x && okDs xs
end
theorem tupDs_len : ∀ xs : List PyData, (tupDs xs).length = xs.length
  | [] => by unfold tupDs; rfl
  | x :: xs => by unfold tupDs; rw [List.length_cons, List.length_cons, tupDs_len xs]
theorem szD_pos (x : PyData) : 1 ≤ szD x := by cases x <;> unfold szD <;> omega
theorem len_szDs : ∀ xs : List PyData, xs.length ≤ szDs xs
  | [] => by unfold szDs; exact Nat.le_refl _
  | x :: xs => by
    unfold szDs
    have := len_szDs xs
    have := szD_pos x
    rw [List.length_cons]; omega
theorem okD_kd {x : PyData} (h : okD x = true) : Kd x := by
  unfold okD at h
  unfold Kd
  cases x <;> first | rfl | exact h
theorem okD_seq {x : PyData} {t : Bool} {xs : List PyData} (h : okD x = true) (e : seqOf x = some (t, xs)) : okDs xs = true := by
  unfold okD at h
  cases x <;> cases e <;> exact h
theorem szD_seq {x : PyData} {t : Bool} {xs : List PyData} (e : seqOf x = some (t, xs)) : szD x = 2 + szDs xs := by
  cases x <;> cases e <;> unfold szD <;> rfl
theorem tupD_seq {x : PyData} {t : Bool} {xs : List PyData} (e : seqOf x = some (t, xs)) : tupD x = .tuple (tupDs xs) := by
  cases x <;> cases e <;> unfold tupD <;> rfl
theorem tupD_leaf {x : PyData} (h : isRow x = false) : tupD x = x := by
  cases x <;> first | cases h | skip
  all_goals unfold tupD; rfl
theorem okDs_mem {y : PyData} : ∀ {xs : List PyData}, okDs xs = true → y ∈ xs → okD y = true
  | [], _, h => by cases h
  | x :: xs, h, hy => by
    unfold okDs at h
    rw [Bool.and_eq_true] at h
    rcases List.mem_cons.mp hy with rfl | hy
    · exact h.1
    · exact okDs_mem h.2 hy
/-- what stands on the stack, the top first -/
abbrev Stk := List (PyData × Bool)
def ent (p : PyData × Bool) : PyData := .tuple [p.1, .bool p.2]
def lenD (x : PyData) : Nat := match seqOf x with
  | some (_, xs) => xs.length
  | none => 0
def den : Stk → List PyData → List PyData
  | [], d => d
  | (x, true) :: r, d => den r (d.take (d.length - lenD x) ++ [.tuple (d.drop (d.length - lenD x))])
  | (x, false) :: r, d => den r (d ++ [tupD x])
def okS : Stk → Nat → Prop
  | [], _ => True
  | (x, true) :: r, n => lenD x ≤ n ∧ (∃ t xs, seqOf x = some (t, xs)) ∧ okS r (n - lenD x + 1)
  | (x, false) :: r, n => okD x = true ∧ okS r (n + 1)
def wS : Stk → Nat
  | [] => 0
  | (_, true) :: r => 1 + wS r
  | (x, false) :: r => szD x + wS r
theorem len_wS : ∀ s : Stk, s.length ≤ wS s
  | [] => Nat.le_refl _
  | (x, true) :: r => by
    have := len_wS r
    unfold wS
    rw [List.length_cons]; omega
  | (x, false) :: r => by
    have := len_wS r
    have := szD_pos x
    unfold wS
    rw [List.length_cons]; omega
def parts (xs : List PyData) : Stk := xs.map fun y => (y, false)
theorem den_parts (r : Stk) : ∀ (xs d : List PyData), den (parts xs ++ r) d = den r (d ++ tupDs xs)
  | [], d => by
    have e : tupDs [] = [] := by unfold tupDs; rfl
    rw [e, List.append_nil]; rfl
  | x :: xs, d => by
    have e : tupDs (x :: xs) = [tupD x] ++ tupDs xs := by conv => lhs; unfold tupDs
                                                          rfl
    show den (parts xs ++ r) (d ++ [tupD x]) = _
    rw [den_parts r xs, e, List.append_assoc]
theorem ok_parts (r : Stk) : ∀ (xs : List PyData) (n : Nat), okDs xs = true → okS r (n + xs.length) → okS (parts xs ++ r) n
  | [], n, _, h => h
  | x :: xs, n, h0, h => by
    unfold okDs at h0
    rw [Bool.and_eq_true] at h0
    refine ⟨h0.1, ok_parts r xs (n + 1) h0.2 ?_⟩
    rw [List.length_cons] at h
    have e : n + 1 + xs.length = n + (xs.length + 1) := by omega
    rw [e]; exact h
theorem w_parts (r : Stk) : ∀ xs : List PyData, wS (parts xs ++ r) = szDs xs + wS r
  | [] => by
    have e : szDs [] = 0 := by unfold szDs; rfl
    rw [e, Nat.zero_add]; rfl
  | x :: xs => by
    have e : szDs (x :: xs) = szD x + szDs xs := by conv => lhs; unfold szDs
    show szD x + wS (parts xs ++ r) = _
    rw [w_parts r xs, e, Nat.add_assoc]
theorem den_row {x : PyData} {t : Bool} {xs : List PyData} (e : seqOf x = some (t, xs)) (r : Stk) (d : List PyData) : den (parts xs ++ (x, true) :: r) d = den ((x, false) :: r) d := by
  rw [den_parts]
  have l : lenD x = xs.length := by unfold lenD; rw [e]
  show den r ((d ++ tupDs xs).take ((d ++ tupDs xs).length - lenD x) ++ [.tuple ((d ++ tupDs xs).drop ((d ++ tupDs xs).length - lenD x))]) = den r (d ++ [tupD x])
  have n : (d ++ tupDs xs).length - lenD x = d.length := by rw [List.length_append, tupDs_len, l]; omega
  rw [n, tupD_seq e, List.take_left, List.drop_left]
section
variable {P : Program} {w : World} {K : PySem.W.Frag} {mg : Str → Option Value} {base : Heap}
def pT : List PyData → Prop := fun ds => ∃ x, ds = [x] ∧ okD x = true ∧ szD x ≤ 900
def rT : List PyData → PyData → Prop := fun ds y => ∃ x, ds = [x] ∧ y = tupD x
def tEnv (v : PyData) (S : Stk) (d : List PyData) (a b c : Option PyData) : En := [some (.d v), some (.own d), some (.own (S.map ent).reverse), a.map Sl.d, b.map Sl.d, c.map Sl.d, none]
theorem tEnv_pen {v : PyData} {S : Stk} {d : List PyData} {a b c : Option PyData} : setPen 0 (tEnv v S d a b c) = tEnv v S d a b c := by
  cases a <;> cases b <;> cases c <;> rfl
theorem ok_tupled {f : Addr} {fd : FuncData} (F : Fun K "tupled" "tupled" s_tupled f fd) (T : Bi mg) (Ois_row : OwnD P w K mg base 1 "is_row" ["value"] (spR K 1 p1 (rB isRow))) : FnOk P w K mg base CX0 2 f fd ["value"] (spR K 1 pT (rT)) := by
  refine fn_pure (ps := ["value"]) F sc_tupled fun cdv A outer s H E hr => ⟨_, (pss_cons (ps_set (i := 1) sc_tupled.nd rfl (by first | exact Or.inl rfl | exact Or.inr rfl) (pe_lst pa_nil))
      (pss_cons (ps_set (i := 2) sc_tupled.nd rfl (by first | exact Or.inl rfl | exact Or.inr rfl) (pe_lst (pa_cons (pe_tup (pa_cons (pv 0) (pa_cons pe_bl pa_nil))) pa_nil)))
      (pss_cons (ps_while PassesOwn.never (kpt_tru (K := K) (pv 2) (fun _ => rfl))
        (pss_cons (ps_asg (pe_bm0 PySem.F.plainAttrs_list PySem.F.slot_list_pop PySem.F.type_list_pop mt_pop (pv 2)) (kpg_seq (K := K) 2 rfl (pgs_cons (pg_name (i := 3) sc_tupled.nd rfl (by first | exact Or.inl rfl | exact Or.inr rfl)) (pgs_cons (pg_name (i := 4) sc_tupled.nd rfl (by first | exact Or.inl rfl | exact Or.inr rfl)) pgs_nil))))
        (pss_one (ps_if (kpt_tru (K := K) (pv 4) (fun _ => rfl))
          (pss_cons (ps_set (i := 5) sc_tupled.nd rfl (by first | exact Or.inl rfl | exact Or.inr rfl) (pe_op op_sub (pe_callB (k_len (K := K)) (by rfl) (T.n_len) PySem.boot_len (pa_cons (pv 1) pa_nil)) (pe_callB (k_len (K := K)) (by rfl) (T.n_len) PySem.boot_len (pa_cons (pv 3) pa_nil))))
          (pss_one (ps_asg (pe_lst (pa_cons (pe_callTy (k_tuple (K := K)) (by rfl) (T.n_tuple) PyProof.Rows.boot_tuple (pa_cons (pe_slice (k_slL (K := K)) (pv 1) (po_some (pv 5)) po_none) pa_nil)) pa_nil)) (pg_cut (pv 1) (pv 5)))))
          (pss_one (ps_if (pt_val (pe_own Ois_row (hr.mono (by decide)) (pa_cons (pv 3) pa_nil)))
            (pss_cons (ps_expr (pe_bm PySem.F.plainAttrs_list PySem.F.slot_list_append PySem.F.type_list_append mt_append (pv 2) (pa_cons (pe_tup (pa_cons (pv 3) (pa_cons pe_bl pa_nil))) pa_nil)))
            (pss_one (ps_expr (pe_bm PySem.F.plainAttrs_list PySem.F.slot_list_extend PySem.F.type_list_extend mt_extend (pv 2) (pa_cons (pe_lc (own := [("part", 6)]) rfl sc_tupled.nd (kpi_seq (K := K) (kpe_revS (K := K) (pv 3))) (blkOk_by (N := N_tupled) (sc := defScope s_tupled) (by decide +kernel)) (fun _ _ _ _ _ => (pg_name (i := 6) sc_tupled.nd rfl (by first | exact Or.inl rfl | exact Or.inr rfl))) (fun _ _ _ _ _ => pts_nil) (fun _ _ _ _ _ => (pe_tup (pa_cons (pv 6) (pa_cons pe_bl pa_nil))))) pa_nil)))))
            (pss_one (ps_expr (pe_bm PySem.F.plainAttrs_list PySem.F.slot_list_append PySem.F.type_list_append mt_append (pv 1) (pa_cons (pv 3) pa_nil))))))))))
      (pss_one (ps_ret (pe_ix (k_ix (K := K)) (pv 1) pe_int (fun _ _ => rfl))))))), ?_⟩
  rintro ds hl ⟨v, rfl, hok, hsz⟩
  refine eq_ownL (i := 1) ea_nil (by decide) ?_
  refine eq_ownL (i := 2) (ea_cons (ed_tup (ea_cons (ed_var rfl) (ea_cons ed_bl ea_nil)) (by show 2 ≤ 1000; decide)) ea_nil) (by show 1 ≤ 1000; decide) ?_
  refine eq_while (fun n ρ => ∃ (S : Stk) (d : List PyData) (a b c : Option PyData), ρ = tEnv v S d a b c ∧ den S d = [tupD v] ∧ wS S = n ∧ okS S d.length ∧ d.length + wS S ≤ 900) (szD v) ⟨[(v, false)], [], none, none, none, rfl, rfl, by unfold wS wS; omega, ⟨hok, trivial⟩, by unfold wS wS; simpa using hsz⟩ ?_
  rintro n ρ ⟨S, d, a, b, c, rfl, hden, hw, hS, hbig⟩
  refine ⟨_, eb_truOwn (i := 2) rfl, fun hne => ?_, fun hem => ?_⟩
  · cases S with
    | nil => cases hne
    | cons p r =>
      obtain ⟨x, fl⟩ := p
      have e0 : ((((x, fl) :: r : Stk)).map ent).reverse = (r.map ent).reverse ++ [ent (x, fl)] := by rw [List.map_cons, List.reverse_cons]
      refine eqv_asg (ev_pop (i := 2) (y := ent (x, fl)) (by show some (some (Sl.own _)) = _; rw [e0])) fun ρ1 z hz => ?_
      obtain ⟨rfl, rfl⟩ := hz
      refine ⟨_, _, eg_twoS, ?_⟩
      have hS2 : okD x = true ∨ fl = true := by cases fl; exact .inl hS.1; exact .inr rfl
      cases fl with
      | true =>
        obtain ⟨hle, ⟨t, xs, e⟩, hr2⟩ := hS
        have hl2 : lenD x = xs.length := by unfold lenD; rw [e]
        rw [hl2] at hle
        have hj : (d.length : Int) - (xs.length : Int) = ((d.length - xs.length : Nat) : Int) := by omega
        show Es K _ (tEnv v r d (some x) (some (.bool true)) c) _
        refine es_if (c := true) (eb_truBool (ed_var rfl)) (fun _ => ?_) (fun z => nomatch z)
        refine eq_set ((ed_op (ed_lenOwn rfl) (ed_lenS (ed_var rfl) e) rd_sub).to (congrArg PyData.int hj)) ?_
        have hcut := cut_from (xs := d) (n := d.length - xs.length) (Nat.sub_le _ _)
        refine es_cut (i := 1) (j := d.length - xs.length) rfl (ed_lst (ea_cons (ed_cb (ea_cons ((ed_slOwnL (i := 1) rfl (eo_some (ed_var rfl)) eo_none).to (congrArg PyData.list hcut)) ea_nil) rc_tupleL) ea_nil) (by show 1 ≤ 1000; decide)) (ed_var rfl) (Nat.sub_le _ _) (by have := len_wS ((x, true) :: r); show d.length + 1 ≤ 100000; omega) ?_
        refine ⟨wS r, by rw [← hw]; show wS r < 1 + wS r; omega, r, _, some x, some (.bool true), some (.int (d.length - xs.length : Nat)), rfl, ?_, rfl, ?_, ?_⟩
        · rw [← hden]
          show _ = den r (d.take (d.length - lenD x) ++ [.tuple (d.drop (d.length - lenD x))])
          rw [hl2]
        · rw [hl2] at hr2
          have e2 : (d.take (d.length - xs.length) ++ [PyData.tuple (d.drop (d.length - xs.length))]).length = d.length - xs.length + 1 := by rw [List.length_append, List.length_take]; show _ + 1 = _; omega
          rw [e2]; exact hr2
        · have e2 : (d.take (d.length - xs.length) ++ [PyData.tuple (d.drop (d.length - xs.length))]).length = d.length - xs.length + 1 := by rw [List.length_append, List.length_take]; show _ + 1 = _; omega
          rw [e2]
          have h3 : wS ((x, true) :: r) = 1 + wS r := rfl
          omega
      | false =>
        have hx : okD x = true := hS.1
        have hr2 := hS.2
        show Es K _ (tEnv v r d (some x) (some (.bool false)) c) _
        refine es_if (c := false) (eb_truBool (ed_var rfl)) (fun z => nomatch z) (fun _ => ?_)
        have h3 : wS ((x, false) :: r) = szD x + wS r := rfl
        have hp := szD_pos x
        refine es_if (eb_test (ed_b (ed_var rfl) (okD_kd hx))) (fun hrow => ?_) (fun hrow => ?_)
        · obtain ⟨t, xs, e⟩ := isRow_seq hrow
          have hsx := szD_seq e
          have hlx := len_szDs xs
          have hlr := len_wS r
          have hlen : ((r.map ent).reverse).length ≤ 900 := by rw [List.length_reverse, List.length_map]; omega
          refine eq_app (i := 2) (y := ent (x, true)) rfl (Nat.le_trans hlen (by decide)) (ed_tup (ea_cons (ed_var rfl) (ea_cons ed_bl ea_nil)) (by show 2 ≤ 1000; decide)) ?_
          refine es_ext (i := 2) (ys := xs.reverse.map fun y => ent (y, false)) rfl (ed_lcN 0 (fun y => ent (y, false)) (ei_seq (ed_revS (ed_var rfl) e (by omega)) (seqOf_mk t _)) (by rw [List.length_reverse]; omega) ?_ ?_ fun y hy => ?_) ?_ ?_
          · exact tEnv_pen (S := r) (a := some x) (b := some (.bool false)) (c := c) ▸ (by cases c <;> rfl)
          · intro j hj
            rw [List.mem_singleton.mp hj]; rfl
          · refine ⟨[6], _, fun j hj => hj, eg_name, ?_, ed_tup (ea_cons (ed_var rfl) (ea_cons ed_bl ea_nil)) (by show 2 ≤ 1000; decide)⟩
            cases c <;> rfl
          · simp only [List.length_append, List.length_map, List.length_reverse, List.length_cons, List.length_nil]
            omega
          · refine ⟨wS (parts xs ++ (x, true) :: r), ?_, parts xs ++ (x, true) :: r, d, some x, some (.bool false), c, ?_, ?_, rfl, ?_, ?_⟩
            · rw [w_parts, ← hw]
              show szDs xs + (1 + wS r) < szD x + wS r
              omega
            · have e2 : ((parts xs ++ (x, true) :: r).map ent).reverse = ((r.map ent).reverse ++ [ent (x, true)]) ++ xs.reverse.map fun y => ent (y, false) := by
                unfold parts
                simp [Function.comp_def]
              unfold tEnv
              rw [e2]; rfl
            · rw [den_row e]; exact hden
            · refine ok_parts _ xs d.length (okD_seq hx e) ⟨?_, ⟨t, xs, e⟩, ?_⟩
              · unfold lenD; rw [e]; show xs.length ≤ _; omega
              · have e2 : d.length + xs.length - lenD x + 1 = d.length + 1 := by unfold lenD; rw [e]; show d.length + xs.length - xs.length + 1 = _; omega
                rw [e2]; exact hr2
            · rw [w_parts]
              show d.length + (szDs xs + (1 + wS r)) ≤ 900
              omega
        · refine es_app (i := 1) (y := x) rfl (by omega) (ed_var rfl) ?_
          refine ⟨wS r, by rw [← hw]; omega, r, d ++ [x], some x, some (.bool false), c, rfl, ?_, rfl, ?_, ?_⟩
          · rw [← hden]
            show _ = den r (d ++ [tupD x])
            rw [tupD_leaf hrow]
          · rw [List.length_append]; exact hr2
          · rw [List.length_append]; show d.length + 1 + wS r ≤ 900; omega
  · have : S = [] := by
      cases S with
      | nil => rfl
      | cons p r => simp at hem
    subst this
    have hd : d = [tupD v] := hden
    subst hd
    exact es_ret (ed_ixOwn (i := 1) (j := 0) rfl ed_int rfl) ⟨v, rfl, rfl⟩
end
end K04
end
section
set_option Elab.async false
set_option linter.all false
set_option autoImplicit false
set_option maxRecDepth 100000
set_option maxHeartbeats 4000000
namespace K04
open PySem PySem.Spec PyProof.Rows L2 RS
abbrev s_is_placed : Stmt := top 6
abbrev N_is_placed : List Str := ["value", "counters", "locations", "location", "numbers"]
theorem sc_is_placed : FnScope N_is_placed ["value", "counters", "locations"] (defScope s_is_placed) := ⟨rfl, rfl, rfl, by decide +kernel, rfl, by decide +kernel, by decide +kernel⟩
abbrev s_is_step : Stmt := top 20
abbrev N_is_step : List Str := ["value", "counters", "locations", "here", "takes", "gives", "there"]
theorem sc_is_step : FnScope N_is_step ["value", "counters", "locations"] (defScope s_is_step) := ⟨rfl, rfl, rfl, by decide +kernel, rfl, by decide +kernel, by decide +kernel⟩
abbrev s_is_configuration : Stmt := top 21
abbrev N_is_configuration : List Str := ["program", "value"]
theorem sc_is_configuration : FnScope N_is_configuration ["program", "value"] (defScope s_is_configuration) := ⟨rfl, rfl, rfl, by decide +kernel, rfl, by decide +kernel, by decide +kernel⟩
abbrev s_need_configuration : Stmt := top 22
abbrev N_need_configuration : List Str := ["program", "value"]
theorem sc_need_configuration : FnScope N_need_configuration ["program", "value"] (defScope s_need_configuration) := ⟨rfl, rfl, rfl, by decide +kernel, rfl, by decide +kernel, by decide +kernel⟩
abbrev s_behind : Stmt := top 23
abbrev N_behind : List Str := ["configuration", "step", "location", "numbers", "here", "takes", "gives", "there", "has", "take", "give"]
theorem sc_behind : FnScope N_behind ["configuration", "step"] (defScope s_behind) := ⟨rfl, rfl, rfl, by decide +kernel, rfl, by decide +kernel, by decide +kernel⟩
/-! data of moderate size, of kinds that can be asked -/
def Ok (x : PyData) : Prop := okD x = true ∧ szD x ≤ 900
theorem Ok.kd {x : PyData} (h : Ok x) : Kd x := okD_kd h.1
theorem szDs_mem {y : PyData} : ∀ {xs : List PyData}, y ∈ xs → szD y ≤ szDs xs
  | [], h => by cases h
  | x :: xs, h => by
    have e : szDs (x :: xs) = szD x + szDs xs := by conv => lhs; unfold szDs
    rw [e]
    rcases List.mem_cons.mp h with rfl | h
    · omega
    · have := szDs_mem h; omega
theorem Ok.item {x y : PyData} {t : Bool} {xs : List PyData} (h : Ok x) (e : seqOf x = some (t, xs)) (hy : y ∈ xs) : Ok y := by
  refine ⟨okDs_mem (okD_seq h.1 e) hy, ?_⟩
  have h1 := szD_seq e
  have h2 := szDs_mem hy
  have h3 := h.2
  omega
theorem Ok.len {x : PyData} {t : Bool} {xs : List PyData} (h : Ok x) (e : seqOf x = some (t, xs)) : xs.length ≤ 900 := by
  have h1 := szD_seq e
  have h2 := len_szDs xs
  have h3 := h.2
  omega
theorem Ok.rw {x : PyData} (h : Ok x) : Rw x := ⟨h.kd, fun t xs e => ⟨Nat.le_trans (h.len e) (by decide), fun y hy => (h.item e hy).kd⟩⟩
def ltD : PyData → PyData → Bool
  | .int i, .int j => decide (i < j)
  | _, _ => false
def ascD (xs : List PyData) : Bool := (xs.zip (xs.drop 1)).all fun p => ltD p.1 p.2
def asc1 : PyData → Bool
  | .tuple [a, b] => ltD a b
  | _ => false
theorem cut_one (xs : List PyData) : cutP xs (some 1) none = xs.drop 1 := by
  cases xs with
  | nil => rfl
  | cons x xs => exact cut_from (n := 1) (by simp)
def readsD (n : Int) (x : PyData) : Bool := match seqOf x with
  | some (_, xs) => xs.all (belD n) && ascD xs
  | none => false
def stepD (c l : Int) (x : PyData) : Bool := match seqOf x with
  | some (_, [h, t, g, e]) => belD l h && (natsD c t && (natsD c g && belD l e))
  | _ => false
def confD (c l : Int) : PyData → Bool
  | .tuple [p, r] => belD l p && (isTup r && natsD c r)
  | _ => false
/-- a program, as it is kept -/
def prD (C : Addr) (c l : Int) (st : PyData) : PyData := .dict [(.none, .int (C : Int)), (.str "counters", .int c), (.str "locations", .int l), (.str "steps", st)]
def pK : List PyData → Prop := fun ds => ∃ x, ∃ n : Int, ds = [x, .int n] ∧ Ok x
def pSt : List PyData → Prop := fun ds => ∃ x, ∃ c l : Int, ds = [x, .int c, .int l] ∧ Ok x
def rPd : List PyData → PyData → Prop := fun ds y => ∃ x, ∃ c l : Int, ds = [x, .int c, .int l] ∧ y = .bool (confD c l x)
def rSt : List PyData → PyData → Prop := fun ds y => ∃ x, ∃ c l : Int, ds = [x, .int c, .int l] ∧ y = .bool (stepD c l x)
def pCf (C : Addr) : List PyData → Prop := fun ds => ∃ c l st x, ds = [prD C c l st, x] ∧ Ok x
def rCf (C : Addr) : List PyData → PyData → Prop := fun ds y => ∃ c l st x, ds = [prD C c l st, x] ∧ y = .bool (confD c l x)
section
variable {P : Program} {w : World} {K : PySem.W.Frag} {mg : Str → Option Value} {base : Heap}
theorem belD_int {n : Int} {x : PyData} (h : belD n x = true) : ∃ i, x = .int i := by
  cases x <;> first | cases h | exact ⟨_, rfl⟩
theorem ok_is_step {f : Addr} {fd : FuncData} (F : Fun K "_is_step" "_is_step" s_is_step f fd) (T : Bi mg) (Ois_row : OwnD P w K mg base 1 "is_row" ["value"] (spR K 1 p1 (rB isRow))) (Ois_below : OwnD P w K mg base 3 "is_below" ["value", "many"] (spR K 2 p2 (rB2 belD)))
    (Oare_naturals : OwnD P w K mg base 3 "are_naturals" ["value", "many"] (spR K 2 pR (rB2 natsD))) : FnOk P w K mg base CX0 4 f fd ["value", "counters", "locations"] (spR K 3 pSt rSt) := by
  refine fn_pure (ps := ["value", "counters", "locations"]) F sc_is_step fun cdv A outer s H E hr => ⟨_, (pss_cons (ps_if (pw_or (pt_not (pt_val (pe_own Ois_row (hr.mono (by decide)) (pa_cons (pv 0) pa_nil)))) (pw_or1 (pt_cmpR (k_neA (K := K) hr.units) (pe_callB (k_len (K := K)) (by rfl) (T.n_len) PySem.boot_len (pa_cons (pv 0) pa_nil)) pe_int (nomark _)))).pt
        (pss_one (ps_ret pe_bl))
        pss_nil)
      (pss_cons (ps_asg (pv 0) (kpg_seq (K := K) 4 rfl (pgs_cons (pg_name (i := 3) sc_is_step.nd rfl (by first | exact Or.inl rfl | exact Or.inr rfl)) (pgs_cons (pg_name (i := 4) sc_is_step.nd rfl (by first | exact Or.inl rfl | exact Or.inr rfl)) (pgs_cons (pg_name (i := 5) sc_is_step.nd rfl (by first | exact Or.inl rfl | exact Or.inr rfl)) (pgs_cons (pg_name (i := 6) sc_is_step.nd rfl (by first | exact Or.inl rfl | exact Or.inr rfl)) pgs_nil))))))
      (pss_one (ps_ret (pe_and (pe_own Ois_below (hr.mono (by decide)) (pa_cons (pv 3) (pa_cons (pv 2) pa_nil))) (pe_and (pe_own Oare_naturals (hr.mono (by decide)) (pa_cons (pv 4) (pa_cons (pv 1) pa_nil))) (pe_and (pe_own Oare_naturals (hr.mono (by decide)) (pa_cons (pv 5) (pa_cons (pv 1) pa_nil))) (pe_one (pe_own Ois_below (hr.mono (by decide)) (pa_cons (pv 6) (pa_cons (pv 2) pa_nil))))))))))), ?_⟩
  rintro ds hl ⟨x, c, l, rfl, hx⟩
  show Es K _ [some (.d x), some (.d (.int c)), some (.d (.int l)), none, none, none, none] _
  have hno : ∀ {y : PyData}, seqOf x = none → stepD c l x = false := fun e => by unfold stepD; rw [e]
  by_cases hrow : isRow x = true
  · obtain ⟨t, xs, e⟩ := isRow_seq hrow
    refine eq_when (c := (!isRow x) || (!PyData.eqv (.int xs.length) (.int 4))) (eb_or (c := !isRow x) (d := !PyData.eqv (.int xs.length) (.int 4)) (eb_not (eb_test (ed_b (ed_var rfl) hx.kd))) fun _ => eb_test (ed_op (ed_lenS (ed_var rfl) e) ed_int (rd_neA rfl rfl))) (fun hc => es_ret ed_bl ⟨x, c, l, rfl, ?_⟩) fun hc => ?_
    · rw [hrow] at hc
      have h4 : ¬ xs.length = 4 := fun z => by
        unfold PyData.eqv at hc
        rw [z] at hc; cases hc
      unfold stepD
      rw [e]
      match xs, h4 with
      | [], _ => rfl
      | [_], _ => rfl
      | [_, _], _ => rfl
      | [_, _, _], _ => rfl
      | [_, _, _, _], h => exact absurd rfl h
      | _ :: _ :: _ :: _ :: _ :: _, _ => rfl
    · have h4 : xs.length = 4 := by
        rw [hrow] at hc
        unfold PyData.eqv at hc
        have h5 : ((xs.length : Int) == 4) = true := by simpa using hc
        have h6 : (xs.length : Int) = 4 := eq_of_beq h5
        omega
      obtain ⟨h, ta, g, en, rfl⟩ : ∃ h t g e, xs = [h, t, g, e] := by
        match xs, h4 with
        | [a, b, c, d], _ => exact ⟨a, b, c, d, rfl⟩
      refine eq_asg (ed_var rfl) (eg_seq e rfl (egs_cons eg_name (egs_cons eg_name (egs_cons eg_name (egs_cons eg_name egs_nil))))) ?_
      refine es_ret (x := .bool (belD l h && (natsD c ta && (natsD c g && belD l en)))) (ed_andV (ed_b2 (ed_var rfl) (ed_var rfl) (hx.item e (by simp)).kd) fun _ => ed_andV (ed_bR (ed_var rfl) (ed_var rfl) (hx.item e (by simp)).rw) fun _ => ed_andV (ed_bR (ed_var rfl) (ed_var rfl) (hx.item e (by simp)).rw) fun _ => ed_b2 (ed_var rfl) (ed_var rfl) (hx.item e (by simp)).kd) ⟨x, c, l, rfl, ?_⟩
      unfold stepD; rw [e]
  · have hrow2 : isRow x = false := by cases h : isRow x; rfl; exact absurd h hrow
    refine eq_when (c := true) ?_ (fun _ => es_ret ed_bl ⟨x, c, l, rfl, ?_⟩) (fun z => nomatch z)
    · refine (eb_or (c := !isRow x) (d := true) (eb_not (eb_test (ed_b (ed_var rfl) hx.kd))) fun h => ?_).to (by rw [hrow2]; rfl)
      rw [hrow2] at h; cases h
    · unfold stepD
      cases x <;> first | rfl | cases hrow2
theorem fld_pr {c l : Int} {st : PyData} : fldD "counters" [(.str "counters", .int c), (.str "locations", .int l), (.str "steps", st)] = some (.int c) ∧ fldD "locations" [(.str "counters", .int c), (.str "locations", .int l), (.str "steps", st)] = some (.int l) ∧ fldD "steps" [(.str "counters", .int c), (.str "locations", .int l), (.str "steps", st)] = some st := by
  refine ⟨rfl, ?_, ?_⟩
  · unfold fldD
    rw [if_neg (by decide)]
    unfold fldD
    rw [if_pos rfl]
  · unfold fldD
    rw [if_neg (by decide)]
    unfold fldD
    rw [if_neg (by decide)]
    unfold fldD
    rw [if_pos rfl]
structure PrA (K : PySem.W.Frag) (C : Addr) : Prop where
  c : NoAttr K C "counters"
  l : NoAttr K C "locations"
  s : NoAttr K C "steps"
theorem ed_pc {C : Addr} {ρ : En} {te : TE} {c l : Int} {st : PyData} (A : PrA K C) (h : Ed K te ρ (prD C c l st)) : Ed K (tFld K te "counters") ρ (.int c) := ed_fld h A.c fld_pr.1
theorem ed_pl {C : Addr} {ρ : En} {te : TE} {c l : Int} {st : PyData} (A : PrA K C) (h : Ed K te ρ (prD C c l st)) : Ed K (tFld K te "locations") ρ (.int l) := ed_fld h A.l fld_pr.2.1
theorem ed_ps {C : Addr} {ρ : En} {te : TE} {c l : Int} {st : PyData} (A : PrA K C) (h : Ed K te ρ (prD C c l st)) : Ed K (tFld K te "steps") ρ st := ed_fld h A.s fld_pr.2.2
theorem ok_is_placed {f : Addr} {fd : FuncData} (F : Fun K "is_placed" "is_placed" s_is_placed f fd) (T : Bi mg) (Y : Ty K) (Ois_below : OwnD P w K mg base 3 "is_below" ["value", "many"] (spR K 2 p2 (rB2 belD)))
    (Oare_naturals : OwnD P w K mg base 3 "are_naturals" ["value", "many"] (spR K 2 pR (rB2 natsD))) : FnOk P w K mg base CX0 4 f fd ["value", "counters", "locations"] (spR K 3 pSt rPd) := by
  refine fn_pure (ps := ["value", "counters", "locations"]) F sc_is_placed fun cdv A2 outer s H E hr => ⟨_, (pss_cons (ps_if (pw_or (pt_not (pt_val (pe_callB (k_isi (K := K)) (by rfl) (T.n_isinstance) (by decide +kernel) (pa_cons (pv 0) (pa_cons (pe_bltn (v := .ty "tuple") (by rfl) (T.n_tuple) (by decide +kernel) rfl) pa_nil))))) (pw_or1 (pt_cmpR (k_neA (K := K) hr.units) (pe_callB (k_len (K := K)) (by rfl) (T.n_len) PySem.boot_len (pa_cons (pv 0) pa_nil)) pe_int (nomark _)))).pt
        (pss_one (ps_ret pe_bl))
        pss_nil)
      (pss_cons (ps_asg (pv 0) (kpg_seq (K := K) 2 rfl (pgs_cons (pg_name (i := 3) sc_is_placed.nd rfl (by first | exact Or.inl rfl | exact Or.inr rfl)) (pgs_cons (pg_name (i := 4) sc_is_placed.nd rfl (by first | exact Or.inl rfl | exact Or.inr rfl)) pgs_nil))))
      (pss_one (ps_ret (pe_and (pe_own Ois_below (hr.mono (by decide)) (pa_cons (pv 3) (pa_cons (pv 2) pa_nil))) (pe_and (pe_callB (k_isi (K := K)) (by rfl) (T.n_isinstance) (by decide +kernel) (pa_cons (pv 4) (pa_cons (pe_bltn (v := .ty "tuple") (by rfl) (T.n_tuple) (by decide +kernel) rfl) pa_nil))) (pe_one (pe_own Oare_naturals (hr.mono (by decide)) (pa_cons (pv 4) (pa_cons (pv 1) pa_nil)))))))))), ?_⟩
  rintro ds hl ⟨x, c, l, rfl, hx⟩
  show Es K _ [some (.d x), some (.d (.int c)), some (.d (.int l)), none, none] _
  by_cases ht : isTup x = true
  · obtain ⟨xs, rfl⟩ : ∃ xs, x = .tuple xs := by
      cases x with
      | tuple xs => exact ⟨xs, rfl⟩
      | _ => cases ht
    refine eq_when (c := (!isTup (.tuple xs)) || (!PyData.eqv (.int xs.length) (.int 2))) (eb_or (c := !isTup (.tuple xs)) (d := !PyData.eqv (.int xs.length) (.int 2)) (eb_not (eb_test (ed_isTup Y hx.kd (ed_var rfl)))) fun _ => eb_test (ed_op (ed_lenS (ed_var rfl) rfl) ed_int (rd_neA rfl rfl))) (fun hc => es_ret ed_bl ⟨_, c, l, rfl, ?_⟩) fun hc => ?_
    · have h4 : ¬ xs.length = 2 := fun z => by
        unfold PyData.eqv at hc
        rw [z] at hc; cases hc
      match xs, h4 with
      | [], _ => rfl
      | [_], _ => rfl
      | [_, _], h => exact absurd rfl h
      | _ :: _ :: _ :: _, _ => rfl
    · have h4 : xs.length = 2 := by
        unfold PyData.eqv at hc
        have h5 : ((xs.length : Int) == 2) = true := by
          cases h : ((xs.length : Int) == 2)
          · rw [h] at hc; cases hc
          · rfl
        have h6 : (xs.length : Int) = 2 := eq_of_beq h5
        omega
      obtain ⟨p, r, rfl⟩ : ∃ p r, xs = [p, r] := by
        match xs, h4 with
        | [a, b], _ => exact ⟨a, b, rfl⟩
      refine eq_asg (ed_var rfl) eg_twoS ?_
      have hp := hx.item (y := p) rfl (by simp)
      have hr2 := hx.item (y := r) rfl (by simp)
      exact es_ret (x := .bool (belD l p && (isTup r && natsD c r))) (ed_andV (ed_b2 (ed_var rfl) (ed_var rfl) hp.kd) fun _ => ed_andV (ed_isTup Y hr2.kd (ed_var rfl)) fun _ => ed_bR (ed_var rfl) (ed_var rfl) hr2.rw) ⟨_, c, l, rfl, rfl⟩
  · have ht2 : isTup x = false := by cases h : isTup x; rfl; exact absurd h ht
    refine eq_when (c := true) ?_ (fun _ => es_ret ed_bl ⟨x, c, l, rfl, ?_⟩) (fun z => nomatch z)
    · refine (eb_or (c := !isTup x) (d := true) (eb_not (eb_test (ed_isTup Y hx.kd (ed_var rfl)))) fun h => ?_).to (by rw [ht2]; rfl)
      rw [ht2] at h; cases h
    · cases x <;> first | rfl | cases ht2
theorem ok_is_configuration {C : Addr} {f : Addr} {fd : FuncData} (F : Fun K "is_configuration" "is_configuration" s_is_configuration f fd) (A : PrA K C) (Ois_placed : OwnD P w K mg base 4 "is_placed" ["value", "counters", "locations"] (spR K 3 pSt rPd)) : FnOk P w K mg base CX0 5 f fd ["program", "value"] (spR K 2 (pCf C) (rCf C)) := by
  refine fn_pure (ps := ["program", "value"]) F sc_is_configuration fun cdv A2 outer s H E hr => ⟨_, (pss_one (ps_ret (pe_own Ois_placed (hr.mono (by decide)) (pa_cons (pv 1) (pa_cons (kpe_fld (K := K) (pv 0) rfl) (pa_cons (kpe_fld (K := K) (pv 0) rfl) pa_nil)))))), ?_⟩
  rintro ds hl ⟨c, l, st, x, rfl, hx⟩
  show Es K _ [some (.d (prD C c l st)), some (.d x)] _
  exact es_ret (x := .bool (confD c l x)) (ed_call (ea_cons (ed_var rfl) (ea_cons (ed_pc A (ed_var rfl)) (ea_cons (ed_pl A (ed_var rfl)) ea_nil))) rfl ⟨x, c, l, rfl, hx⟩ fun z hz => by
    obtain ⟨x2, c2, l2, e, rfl⟩ := hz
    injection e with e1 e
    injection e with e2 e
    injection e with e3 _
    injection e2 with e2
    injection e3 with e3
    subst e1 e2 e3
    rfl) ⟨c, l, st, x, rfl, rfl⟩
end
end K04
end
section
set_option Elab.async false
set_option linter.all false
set_option autoImplicit false
set_option maxRecDepth 100000
set_option maxHeartbeats 4000000
namespace K04
open PySem PySem.Spec PyProof.Rows L2 RS
abbrev Conf := Int × List Int
abbrev Stp := Int × List Int × List Int × Int
def iD (xs : List Int) : PyData := .tuple (xs.map PyData.int)
def cD (c : Conf) : PyData := .tuple [.int c.1, iD c.2]
def sD (s : Stp) : PyData := .tuple [.int s.1, iD s.2.1, iD s.2.2.1, .int s.2.2.2]
def z3I : List Int → List Int → List Int → List Int
  | x :: xs, t :: ts, g :: gs => (x - t + g) :: z3I xs ts gs
  | _, _, _ => []
def lessI (xs ts : List Int) : Bool := (xs.zip ts).any fun p => decide (p.1 < p.2)
def nextI (c : Conf) (s : Stp) : Option Conf := if c.1 = s.1 then (if lessI c.2 s.2.1 = true then none else some (s.2.2.2, z3I c.2 s.2.1 s.2.2.1)) else none
def optD : Option Conf → PyData
  | none => .none
  | some c => cD c
def mov3 : PyData → PyData
  | .tuple [.int a, .int b, .int c] => .int (a - b + c)
  | x => x
/-- of moderate length -/
def Sm (xs : List Int) : Prop := xs.length ≤ 100
theorem seq_iD (xs : List Int) : seqOf (iD xs) = some (true, xs.map PyData.int) := rfl
theorem z2_ints (xs ts : List Int) : z2D (xs.map PyData.int) (ts.map PyData.int) = (xs.zip ts).map fun p => .tuple [.int p.1, .int p.2] := by
  unfold z2D
  rw [List.zip_map, List.map_map]; rfl
theorem z3_ints (xs ts gs : List Int) : z3D (xs.map PyData.int) (ts.map PyData.int) (gs.map PyData.int) = ((xs.zip ts).zip gs).map fun p => .tuple [.int p.1.1, .int p.1.2, .int p.2] := by
  unfold z3D
  rw [List.zip_map, List.zip_map, List.map_map]; rfl
theorem z3I_map : ∀ xs ts gs : List Int, z3I xs ts gs = ((xs.zip ts).zip gs).map fun p => p.1.1 - p.1.2 + p.2
  | [], _, _ => by cases ‹List Int› <;> simp [z3I]
  | x :: xs, [], _ => by simp [z3I]
  | x :: xs, t :: ts, [] => by simp [z3I]
  | x :: xs, t :: ts, g :: gs => by simp [z3I, z3I_map xs ts gs]
def pBe : List PyData → Prop := fun ds => ∃ c s, ds = [cD c, sD s] ∧ Sm c.2 ∧ Sm s.2.1 ∧ Sm s.2.2.1
def rBe : List PyData → PyData → Prop := fun ds y => ∃ c s, ds = [cD c, sD s] ∧ y = optD (nextI c s)
def pNc (C : Addr) : List PyData → Prop := fun ds => ∃ c l st x, ds = [prD C c l st, x] ∧ Ok x ∧ confD c l x = true
def rNone : List PyData → PyData → Prop := fun _ y => y = .none
section
variable {P : Program} {w : World} {K : PySem.W.Frag} {mg : Str → Option Value} {base : Heap}
theorem ok_need {C f : Addr} {fd : FuncData} (F : Fun K "need_configuration" "need_configuration" s_need_configuration f fd) (Ois_configuration : OwnD P w K mg base 5 "is_configuration" ["program", "value"] (spR K 2 (pCf C) (rCf C))) : FnOk P w K mg base CX0 6 f fd ["program", "value"] (spR K 2 (pNc C) rNone) := by
  refine fn_pure (ps := ["program", "value"]) F sc_need_configuration fun cdv A2 outer s H E hr => ⟨_, (pss_one (ps_if (pt_not (pt_val (pe_own Ois_configuration (hr.mono (by decide)) (pa_cons (pv 0) (pa_cons (pv 1) pa_nil)))))
        (pss_one ps_never)
        pss_nil)), ?_⟩
  rintro ds hl ⟨c, l, st, x, rfl, hx, hc⟩
  refine es_if (c := false) ((eb_not (eb_test (ed_call (y := .bool (confD c l x)) (ea_cons (ed_var rfl) (ea_cons (ed_var rfl) ea_nil)) rfl ⟨c, l, st, x, rfl, hx⟩ ?_))).to (by rw [hc]; rfl)) (fun z => nomatch z) fun _ => es_next rfl
  rintro z ⟨c2, l2, st2, x2, e, rfl⟩
  cases e; rfl
theorem ok_behind {f : Addr} {fd : FuncData} (F : Fun K "_behind" "_behind" s_behind f fd) (T : Bi mg) : FnOk P w K mg base CX0 1 f fd ["configuration", "step"] (spR K 2 pBe rBe) := by
  refine fn_pure (ps := ["configuration", "step"]) F sc_behind fun cdv A2 outer s H E hr => ⟨_, (pss_cons (ps_asg (pv 0) (kpg_tup (K := K) 2 rfl (pgs_cons (pg_name (i := 2) sc_behind.nd rfl (by first | exact Or.inl rfl | exact Or.inr rfl)) (pgs_cons (pg_name (i := 3) sc_behind.nd rfl (by first | exact Or.inl rfl | exact Or.inr rfl)) pgs_nil))))
      (pss_cons (ps_asg (pv 1) (kpg_tup (K := K) 4 rfl (pgs_cons (pg_name (i := 4) sc_behind.nd rfl (by first | exact Or.inl rfl | exact Or.inr rfl)) (pgs_cons (pg_name (i := 5) sc_behind.nd rfl (by first | exact Or.inl rfl | exact Or.inr rfl)) (pgs_cons (pg_name (i := 6) sc_behind.nd rfl (by first | exact Or.inl rfl | exact Or.inr rfl)) (pgs_cons (pg_name (i := 7) sc_behind.nd rfl (by first | exact Or.inl rfl | exact Or.inr rfl)) pgs_nil))))))
      (pss_cons (ps_if (pw_or (pt_cmpR (k_neA (K := K) hr.units) (pv 2) (pv 4) (nomark _)) (pw_or1 (pt_val (pe_callB (k_any (K := K) rfl) (by rfl) (T.n_any) (by decide +kernel) (pa_cons (pe_lc (own := [("has", 8), ("take", 9)]) rfl sc_behind.nd (kpi_z2 (K := K) (by rfl) (T.n_zip) (pa_cons (pv 3) (pa_cons (pv 5) pa_nil))) (blkOk_by (N := N_behind) (sc := defScope s_behind) (by decide +kernel)) (fun _ _ _ _ _ => (kpg_tup (K := K) 2 rfl (pgs_cons (pg_name (i := 8) sc_behind.nd rfl (by first | exact Or.inl rfl | exact Or.inr rfl)) (pgs_cons (pg_name (i := 9) sc_behind.nd rfl (by first | exact Or.inl rfl | exact Or.inr rfl)) pgs_nil)))) (fun _ _ _ _ _ => pts_nil) (fun _ _ _ _ _ => (pe_cmpR op_lt (pv 8) (pv 9) (nomark _)))) pa_nil))))).pt
        (pss_one (ps_ret pe_non))
        pss_nil)
      (pss_one (ps_ret (pe_tup (pa_cons (pv 7) (pa_cons (pe_callTy (k_tuple (K := K)) (by rfl) (T.n_tuple) PyProof.Rows.boot_tuple (pa_cons (pe_lc (own := [("has", 8), ("take", 9), ("give", 10)]) rfl sc_behind.nd (kpi_z3 (K := K) (by rfl) (T.n_zip) (pa_cons (pv 3) (pa_cons (pv 5) (pa_cons (pv 6) pa_nil)))) (blkOk_by (N := N_behind) (sc := defScope s_behind) (by decide +kernel)) (fun _ _ _ _ _ => (kpg_tup (K := K) 3 rfl (pgs_cons (pg_name (i := 8) sc_behind.nd rfl (by first | exact Or.inl rfl | exact Or.inr rfl)) (pgs_cons (pg_name (i := 9) sc_behind.nd rfl (by first | exact Or.inl rfl | exact Or.inr rfl)) (pgs_cons (pg_name (i := 10) sc_behind.nd rfl (by first | exact Or.inl rfl | exact Or.inr rfl)) pgs_nil))))) (fun _ _ _ _ _ => pts_nil) (fun _ _ _ _ _ => (pe_op op_add (pe_op op_sub (pv 8) (pv 9)) (pv 10)))) pa_nil)) pa_nil)))))))), ?_⟩
  rintro ds hl ⟨⟨l, xs⟩, ⟨h, ts, gs, e⟩, rfl, hx, ht, hg⟩
  refine eq_asg (ed_var rfl) eg_two ?_
  refine eq_asg (ed_var rfl) (eg_tup rfl (egs_cons eg_name (egs_cons eg_name (egs_cons eg_name (egs_cons eg_name egs_nil))))) ?_
  show Es K _ [some (.d (cD (l, xs))), some (.d (sD (h, ts, gs, e))), some (.d (.int l)), some (.d (iD xs)), some (.d (.int h)), some (.d (iD ts)), some (.d (iD gs)), some (.d (.int e)), none, none, none] _
  have hz : Ei K (iZ2 K (tCons (tVar 3) (tCons (tVar 5) tNil))) [some (.d (cD (l, xs))), some (.d (sD (h, ts, gs, e))), some (.d (.int l)), some (.d (iD xs)), some (.d (.int h)), some (.d (iD ts)), some (.d (iD gs)), some (.d (.int e)), none, none, none] ((xs.zip ts).map fun p => .tuple [.int p.1, .int p.2]) := by
    rw [← z2_ints]
    exact ei_z2 (ea_cons (ed_var rfl) (ea_cons (ed_var rfl) ea_nil)) (seq_iD xs) (seq_iD ts)
  have hl2 : Ed K _ _ (.bool (((xs.zip ts).map fun p => PyData.tuple [.int p.1, .int p.2]).any asc1)) := any_bools (K := K) asc1 (ed_lcN 0 (fun y => .bool (asc1 y)) hz (by have h1 : xs.length ≤ 100 := hx; rw [List.length_map, List.length_zip]; omega) rfl (vs := [8, 9]) (g := gTup K 2 (gCons (gName 8) (gCons (gName 9) gNil))) (te := tOp (rI0 fun i j => .bl (decide (i < j))) (tVar 8) (tVar 9)) (fun j hj => by
    simp only [List.mem_cons, List.not_mem_nil, or_false] at hj
    rcases hj with rfl | rfl <;> rfl) fun y hy => by
      obtain ⟨p, _, rfl⟩ := List.mem_map.mp hy
      exact ⟨[8, 9], _, fun j hj => hj, eg_two, rfl, ed_op (ed_var rfl) (ed_var rfl) rd_lt⟩)
  have el : ((xs.zip ts).map fun p => PyData.tuple [.int p.1, .int p.2]).any asc1 = lessI xs ts := by
    unfold lessI
    rw [List.any_map]; rfl
  rw [el] at hl2
  have e1 : PyData.eqv (.int l) (.int h) = decide (l = h) := by
    unfold PyData.eqv
    by_cases hh : l = h
    · subst hh; simp
    · simp [hh]
  refine eq_when (c := (!PyData.eqv (.int l) (.int h)) || lessI xs ts) (eb_or (c := !PyData.eqv (.int l) (.int h)) (d := lessI xs ts) (eb_test (ed_op (ed_var rfl) (ed_var rfl) (rd_neA rfl rfl))) fun _ => eb_test hl2) (fun hc => es_ret ed_non ⟨(l, xs), (h, ts, gs, e), rfl, ?_⟩) fun hc => ?_
  · rw [e1] at hc
    unfold nextI
    by_cases hh : l = h
    · have : lessI xs ts = true := by simpa [hh] using hc
      rw [if_pos hh, if_pos this]; rfl
    · rw [if_neg hh]; rfl
  · rw [e1, Bool.or_eq_false_iff] at hc
    have hh : l = h := by simpa using hc.1
    have hn : ¬ lessI xs ts = true := by rw [hc.2]; exact Bool.false_ne_true
    have hz3 : Ei K (iZ3 K (tCons (tVar 3) (tCons (tVar 5) (tCons (tVar 6) tNil)))) [some (.d (cD (l, xs))), some (.d (sD (h, ts, gs, e))), some (.d (.int l)), some (.d (iD xs)), some (.d (.int h)), some (.d (iD ts)), some (.d (iD gs)), some (.d (.int e)), none, none, none] (((xs.zip ts).zip gs).map fun p => .tuple [.int p.1.1, .int p.1.2, .int p.2]) := by
      rw [← z3_ints]
      exact ei_z3 (ea_cons (ed_var rfl) (ea_cons (ed_var rfl) (ea_cons (ed_var rfl) ea_nil))) (seq_iD xs) (seq_iD ts) (seq_iD gs)
    have hm := ed_lcN (K := K) 0 mov3 hz3 (by have h1 : xs.length ≤ 100 := hx; rw [List.length_map, List.length_zip, List.length_zip]; omega) rfl (vs := [8, 9, 10]) (g := gTup K 3 (gCons (gName 8) (gCons (gName 9) (gCons (gName 10) gNil)))) (te := tOp (rI0 fun i j => .int (i + j)) (tOp (rI0 fun i j => .int (i - j)) (tVar 8) (tVar 9)) (tVar 10)) (fun j hj => by
      simp only [List.mem_cons, List.not_mem_nil, or_false] at hj
      rcases hj with rfl | rfl | rfl <;> rfl) fun y hy => by
        obtain ⟨p, _, rfl⟩ := List.mem_map.mp hy
        exact ⟨[8, 9, 10], _, fun j hj => hj, eg_three, rfl, ed_op (ed_op (ed_var rfl) (ed_var rfl) rd_sub) (ed_var rfl) rd_add⟩
    have em : ((((xs.zip ts).zip gs).map fun p => PyData.tuple [.int p.1.1, .int p.1.2, .int p.2]).map mov3) = (z3I xs ts gs).map PyData.int := by
      rw [z3I_map, List.map_map, List.map_map]; rfl
    rw [em] at hm
    refine es_ret (x := cD (e, z3I xs ts gs)) (ed_tup (ea_cons (ed_var rfl) (ea_cons (ed_cb (ea_cons hm ea_nil) rc_tupleL) ea_nil)) (by show 2 ≤ 1000; decide)) ⟨(l, xs), (h, ts, gs, e), rfl, ?_⟩
    unfold nextI
    rw [if_pos hh, if_neg hn]; rfl
end
end K04
end
section
set_option Elab.async false
set_option linter.all false
set_option autoImplicit false
set_option maxRecDepth 100000
set_option maxHeartbeats 4000000
namespace K04
open PySem PySem.Spec PyProof.Rows L2 RS
abbrev s_next_one : Stmt := top 26
abbrev N_next_one : List Str := ["program", "configuration", "k"]
theorem sc_next_one : FnScope N_next_one ["program", "configuration", "k"] (defScope s_next_one) := ⟨rfl, rfl, rfl, by decide +kernel, rfl, by decide +kernel, by decide +kernel⟩
abbrev s_behind_run : Stmt := top 27
abbrev N_behind_run : List Str := ["program", "configuration", "run", "here", "index", "k", "there"]
theorem sc_behind_run : FnScope N_behind_run ["program", "configuration", "run"] (defScope s_behind_run) := ⟨rfl, rfl, rfl, by decide +kernel, rfl, by decide +kernel, by decide +kernel⟩
theorem ints_inj {xs ys : List Int} (h : xs.map PyData.int = ys.map PyData.int) : xs = ys := (List.map_inj_right (fun _ _ e => by cases e; rfl)).mp h
theorem iD_inj {xs ys : List Int} (h : iD xs = iD ys) : xs = ys := by
  unfold iD at h
  injection h with h
  exact ints_inj h
theorem cD_inj {a b : Conf} (h : cD a = cD b) : a = b := by
  obtain ⟨a1, a2⟩ := a
  obtain ⟨b1, b2⟩ := b
  unfold cD at h
  injection h with h
  injection h with h1 h2
  injection h1 with h1
  injection h2 with h2
  have h3 := iD_inj h2
  cases h1; cases h3; rfl
theorem sD_inj {a b : Stp} (h : sD a = sD b) : a = b := by
  obtain ⟨a1, a2, a3, a4⟩ := a
  obtain ⟨b1, b2, b3, b4⟩ := b
  unfold sD at h
  injection h with h
  injection h with h1 h
  injection h with h2 h
  injection h with h3 h
  injection h with h4
  injection h1 with h1
  injection h4 with h4
  have e2 := iD_inj h2
  have e3 := iD_inj h3
  cases h1; cases h4; cases e2; cases e3; rfl
def stD (ss : List Stp) : PyData := .tuple (ss.map sD)
theorem stD_inj {a b : List Stp} (h : stD a = stD b) : a = b := by
  unfold stD at h
  injection h with h
  exact (List.map_inj_right (fun _ _ e => sD_inj e)).mp h
theorem prD_inj {C : Addr} {c l c2 l2 : Int} {s s2 : PyData} (h : prD C c l s = prD C c2 l2 s2) : c = c2 ∧ l = l2 ∧ s = s2 := by
  unfold prD at h
  injection h with h
  injection h with _ h
  injection h with h1 h
  injection h with h2 h
  injection h with h3 _
  injection h1 with _ h1
  injection h2 with _ h2
  injection h3 with _ h3
  injection h1 with h1
  injection h2 with h2
  exact ⟨h1, h2, h3⟩
theorem ed_be {E : XK} {ρ : En} {K : PySem.W.Frag} {ta tb : TE} {c : Conf} {s : Stp} (h1 : Ed K ta ρ (cD c)) (h2 : Ed K tb ρ (sD s)) (x1 : Sm c.2) (x2 : Sm s.2.1) (x3 : Sm s.2.2.1) : Ed K (tCall (spR K 2 pBe rBe) [] E (tCons ta (tCons tb tNil))) ρ (optD (nextI c s)) :=
  ed_call (ea_cons h1 (ea_cons h2 ea_nil)) rfl ⟨c, s, rfl, x1, x2, x3⟩ fun z hz => by
    obtain ⟨c2, s2, e, rfl⟩ := hz
    injection e with e1 e
    injection e with e2 _
    rw [cD_inj e1, sD_inj e2]
/-- a configuration that may be passed to a program -/
structure CfOk (c l : Int) (cf : Conf) : Prop where
  ok : Ok (cD cf)
  good : confD c l (cD cf) = true
  sm : Sm cf.2
structure SsOk (ss : List Stp) : Prop where
  len : ss.length ≤ 100
  sm : ∀ s ∈ ss, Sm s.2.1 ∧ Sm s.2.2.1
def pNx (C : Addr) : List PyData → Prop := fun ds => ∃ c l ss cf, ∃ k : Nat, ds = [prD C c l (stD ss), cD cf, .int k] ∧ CfOk c l cf ∧ SsOk ss ∧ k < ss.length
def rNx (C : Addr) : List PyData → PyData → Prop := fun ds y => ∃ c l ss cf, ∃ k : Nat, ∃ s, ds = [prD C c l (stD ss), cD cf, .int k] ∧ ss[k]? = some s ∧ y = optD (nextI cf s)
def runI (ss : List Stp) : List Nat → Conf → Option Conf
  | [], c => some c
  | k :: ks, c => match ss[k]? with
    | none => none
    | some s => match nextI c s with
      | none => none
      | some c2 => runI ss ks c2
def kD (ks : List Nat) : List PyData := ks.map fun k => .int ((k : Nat) : Int)
section
variable {P : Program} {w : World} {K : PySem.W.Frag} {mg : Str → Option Value} {base : Heap}
theorem ed_need {E : XK} {ρ : En} {C : Addr} {ta tb : TE} {c l : Int} {st x : PyData} (h1 : Ed K ta ρ (prD C c l st)) (h2 : Ed K tb ρ x) (hx : Ok x) (hc : confD c l x = true) : Ed K (tCall (spR K 2 (pNc C) rNone) [] E (tCons ta (tCons tb tNil))) ρ .none :=
  ed_call (ea_cons h1 (ea_cons h2 ea_nil)) rfl ⟨c, l, st, x, rfl, hx, hc⟩ fun z hz => hz
theorem eq_drop {ρ : En} {te : TE} {u : TS} {O : Out → Prop} {x : PyData} (h : Ed K te ρ x) (k : Es K u ρ O) : Es K (tSeq (tDrop te) u) ρ O := es_then (es_drop h fun ρ1 y e => by
  obtain ⟨rfl, _⟩ := e
  exact k)
theorem belD_nat {n : Int} {k : Nat} (h : (k : Int) < n) : belD n (.int k) = true := by
  show (decide (0 ≤ (k : Int)) && decide ((k : Int) < n)) = true
  simp [h]
theorem ok_next_one {C f : Addr} {fd : FuncData} (F : Fun K "next_one" "next_one" s_next_one f fd) (T : Bi mg) (A : PrA K C) (Oneed_configuration : OwnD P w K mg base 6 "need_configuration" ["program", "value"] (spR K 2 (pNc C) rNone)) (Ois_below : OwnD P w K mg base 3 "is_below" ["value", "many"] (spR K 2 p2 (rB2 belD)))
    (O_behind : OwnD P w K mg base 1 "_behind" ["configuration", "step"] (spR K 2 pBe rBe)) : FnOk P w K mg base CX0 7 f fd ["program", "configuration", "k"] (spR K 3 (pNx C) (rNx C)) := by
  refine fn_pure (ps := ["program", "configuration", "k"]) F sc_next_one fun cdv A2 outer s H E hr => ⟨_, (pss_cons (ps_expr (pe_own Oneed_configuration (hr.mono (by decide)) (pa_cons (pv 0) (pa_cons (pv 1) pa_nil))))
      (pss_cons (ps_if (pt_not (pt_val (pe_own Ois_below (hr.mono (by decide)) (pa_cons (pv 2) (pa_cons (pe_callB (k_len (K := K)) (by rfl) (T.n_len) PySem.boot_len (pa_cons (kpe_fld (K := K) (pv 0) rfl) pa_nil)) pa_nil)))))
        (pss_one ps_never)
        pss_nil)
      (pss_one (ps_ret (pe_own O_behind (hr.mono (by decide)) (pa_cons (pv 1) (pa_cons (pe_ix (k_ix (K := K)) (kpe_fld (K := K) (pv 0) rfl) (pv 2) (fun _ _ => rfl)) pa_nil))))))), ?_⟩
  rintro ds hl ⟨c, l, ss, cf, k, rfl, hc, hs, hk⟩
  refine eq_drop (ed_need (ed_var rfl) (ed_var rfl) hc.ok hc.good) ?_
  have hlen : Ed K (tCB (rLenS K) (tCons (tFld K (tVar 0) "steps") tNil)) (startE N_next_one [prD C c l (stD ss), cD cf, .int k]) (.int (ss.map sD).length) := ed_lenS (ed_ps A (ed_var rfl)) rfl
  refine eq_when (c := false) ((eb_not (eb_test (ed_b2 (x := .int (k : Nat)) (ed_var rfl) hlen rfl))).to ?_) (fun z => nomatch z) fun _ => ?_
  · rw [belD_nat (by rw [List.length_map]; omega)]; rfl
  · obtain ⟨s, hs1⟩ : ∃ s, ss[k]? = some s := ⟨_, List.getElem?_eq_getElem hk⟩
    have hm := hs.sm s (List.mem_of_getElem? hs1)
    refine es_ret (ed_be (ed_var rfl) (ed_op (ed_ps A (ed_var rfl)) (ed_var rfl) (rd_ixT (x := sD s) (atI_nat (by rw [List.getElem?_map, hs1]; rfl)))) hc.sm hm.1 hm.2) ⟨c, l, ss, cf, k, s, rfl, hs1, rfl⟩
theorem z3I_len : ∀ xs ts gs : List Int, (z3I xs ts gs).length ≤ xs.length
  | [], _, _ => by simp [z3I]
  | x :: xs, [], _ => by simp [z3I]
  | x :: xs, t :: ts, [] => by simp [z3I]
  | x :: xs, t :: ts, g :: gs => by
    have := z3I_len xs ts gs
    simp [z3I]; exact this
theorem next_sm {c c2 : Conf} {s : Stp} (h : nextI c s = some c2) (hs : Sm c.2) : Sm c2.2 := by
  unfold nextI at h
  split at h
  · split at h
    · cases h
    · cases h
      exact Nat.le_trans (z3I_len _ _ _) hs
  · cases h
def pRn (C : Addr) : List PyData → Prop := fun ds => ∃ c l ss cf, ∃ ks : List Nat, ∃ e, ds = [prD C c l (stD ss), cD cf, .tuple (kD ks)] ∧ CfOk c l cf ∧ SsOk ss ∧ ks.length ≤ 100 ∧ runI ss ks cf = some e
def rRn (C : Addr) : List PyData → PyData → Prop := fun ds y => ∃ c l ss cf, ∃ ks : List Nat, ∃ e, ds = [prD C c l (stD ss), cD cf, .tuple (kD ks)] ∧ runI ss ks cf = some e ∧ y = cD e
theorem ok_behind_run {C f : Addr} {fd : FuncData} (F : Fun K "behind_run" "behind_run" s_behind_run f fd) (T : Bi mg) (A : PrA K C) (Oneed_configuration : OwnD P w K mg base 6 "need_configuration" ["program", "value"] (spR K 2 (pNc C) rNone)) (Ois_below : OwnD P w K mg base 3 "is_below" ["value", "many"] (spR K 2 p2 (rB2 belD)))
    (O_behind : OwnD P w K mg base 1 "_behind" ["configuration", "step"] (spR K 2 pBe rBe)) : FnOk P w K mg base CX0 7 f fd ["program", "configuration", "run"] (spR K 3 (pRn C) (rRn C)) := by
  refine fn_pure (ps := ["program", "configuration", "run"]) F sc_behind_run fun cdv A2 outer s H E hr => ⟨_, (pss_cons (ps_expr (pe_own Oneed_configuration (hr.mono (by decide)) (pa_cons (pv 0) (pa_cons (pv 1) pa_nil))))
      (pss_cons (ps_set (i := 3) sc_behind_run.nd rfl (by first | exact Or.inl rfl | exact Or.inr rfl) (pv 1))
      (pss_cons (ps_for PassesOwn.never rfl (kpi_en (K := K) (by rfl) (T.n_enumerate) (pa_cons (pv 2) pa_nil)) (kpg_tup (K := K) 2 rfl (pgs_cons (pg_name (i := 4) sc_behind_run.nd rfl (by first | exact Or.inl rfl | exact Or.inr rfl)) (pgs_cons (pg_name (i := 5) sc_behind_run.nd rfl (by first | exact Or.inl rfl | exact Or.inr rfl)) pgs_nil)))
        (pss_cons (ps_set (i := 6) sc_behind_run.nd rfl (by first | exact Or.inl rfl | exact Or.inr rfl) (pe_ifExp (pt_val (pe_own Ois_below (hr.mono (by decide)) (pa_cons (pv 5) (pa_cons (pe_callB (k_len (K := K)) (by rfl) (T.n_len) PySem.boot_len (pa_cons (kpe_fld (K := K) (pv 0) rfl) pa_nil)) pa_nil)))) (pe_own O_behind (hr.mono (by decide)) (pa_cons (pv 3) (pa_cons (pe_ix (k_ix (K := K)) (kpe_fld (K := K) (pv 0) rfl) (pv 5) (fun _ _ => rfl)) pa_nil))) pe_non))
        (pss_cons (ps_if (pt_cmpR op_isN (pv 6) pe_non (nomark _))
          (pss_one ps_never)
          pss_nil)
        (pss_one (ps_set (i := 3) sc_behind_run.nd rfl (by first | exact Or.inl rfl | exact Or.inr rfl) (pv 6))))))
      (pss_one (ps_ret (pv 3)))))), ?_⟩
  rintro ds hl ⟨c, l, ss, cf, ks, e, rfl, hc, hs, hlen, hrun⟩
  refine eq_drop (ed_need (ed_var rfl) (ed_var rfl) hc.ok hc.good) ?_
  refine eq_set (ed_var rfl) ?_
  refine es_then (es_forD (xs := enD (kD ks)) (ei_en (ea_cons (ed_var rfl) ea_nil) rfl) (fun j ρ => ∃ (cf2 : Conf) (a b t : Option PyData), ρ = [some (.d (prD C c l (stD ss))), some (.d (cD cf)), some (.d (.tuple (kD ks))), some (.d (cD cf2)), a.map Sl.d, b.map Sl.d, t.map Sl.d] ∧ runI ss (ks.drop j) cf2 = some e ∧ Sm cf2.2) ⟨cf, none, none, none, rfl, hrun, hc.sm⟩ ?_ ?_)
  · rintro j x ρ hx ⟨cf2, a, b, t, rfl, hr2, hsm⟩
    obtain ⟨y, hy, rfl⟩ := enD_get hx
    unfold kD at hy
    rw [List.getElem?_map] at hy
    cases hk : ks[j]? with
    | none => rw [hk] at hy; cases hy
    | some k =>
      rw [hk] at hy
      cases hy
      have hdrop : ks.drop j = k :: ks.drop (j + 1) := by
        obtain ⟨h1, h2⟩ := List.getElem?_eq_some_iff.mp hk
        rw [← h2]; exact List.drop_eq_getElem_cons h1
      rw [hdrop] at hr2
      unfold runI at hr2
      cases hsk : ss[k]? with
      | none => rw [hsk] at hr2; cases hr2
      | some st =>
        rw [hsk] at hr2
        dsimp only at hr2
        cases hn : nextI cf2 st with
        | none => rw [hn] at hr2; cases hr2
        | some c2 =>
          rw [hn] at hr2
          dsimp only at hr2
          refine ⟨_, _, eg_two, ?_⟩
          show Es K _ [some (.d (prD C c l (stD ss))), some (.d (cD cf)), some (.d (.tuple (kD ks))), some (.d (cD cf2)), some (.d (.int (j : Nat))), some (.d (.int (k : Nat))), t.map Sl.d] _
          have hkl : k < ss.length := (List.getElem?_eq_some_iff.mp hsk).1
          have hm := hs.sm st (List.mem_of_getElem? hsk)
          have hb := hn ▸ ed_be (E := E0) (K := K) (c := cf2) (s := st) (ρ := [some (.d (prD C c l (stD ss))), some (.d (cD cf)), some (.d (.tuple (kD ks))), some (.d (cD cf2)), some (.d (.int (j : Nat))), some (.d (.int (k : Nat))), t.map Sl.d]) (ed_var (i := 3) rfl) (ed_op (r := rIx K) (ed_ps A (te := tVar 0) (ed_var rfl)) (ed_var (i := 5) rfl) (rd_ixT (x := sD st) (atI_nat (by rw [List.getElem?_map, hsk]; rfl)))) hsm hm.1 hm.2
          refine eq_set (x := cD c2) (ev_if (c := true) (eb_test ((ed_b2 (x := .int (k : Nat)) (ed_var rfl) (ed_lenS (xs := ss.map sD) (t := true) (ed_ps A (ed_var rfl)) rfl) rfl).to (by rw [belD_nat (by rw [List.length_map]; omega)]))) (fun _ => hb) fun z => nomatch z) ?_
          refine eq_when (c := false) (eb_test (ed_op (ed_var rfl) ed_non rd_isN)) (fun z => nomatch z) fun _ => ?_
          refine es_set (ed_var rfl) ?_
          exact ⟨c2, some (.int (j : Nat)), some (.int (k : Nat)), some (cD c2), rfl, hr2, next_sm hn hsm⟩
  · rintro ρ ⟨cf2, a, b, t, rfl, hr2, hsm⟩
    have hl2 : (enD (kD ks)).length = ks.length := by rw [enD_len]; unfold kD; rw [List.length_map]
    rw [hl2, List.drop_length] at hr2
    have : cf2 = e := by unfold runI at hr2; exact Option.some.inj hr2
    subst this
    exact es_ret (ed_var rfl) ⟨c, l, ss, cf, ks, _, rfl, hrun, rfl⟩
end
end K04
end
section
set_option Elab.async false
set_option linter.all false
set_option autoImplicit false
set_option maxRecDepth 100000
set_option maxHeartbeats 4000000
namespace K04
open PySem PySem.Spec PyProof.Rows L2 RS
abbrev s_Program_init : Stmt := inClass (top 19) 0
abbrev N_Program_init : List Str := ["self", "counters", "locations", "steps", "index", "step"]
theorem sc_Program_init : FnScope N_Program_init ["self", "counters", "locations", "steps"] (defScope s_Program_init) := ⟨rfl, rfl, rfl, by decide +kernel, rfl, by decide +kernel, by decide +kernel⟩
def adrD (a : Addr) : PyData := .dict [(.int (a : Int), .none)]
/-- the promise of an __init__ over data: the new object first -/
def spNew (K : PySem.W.Frag) (C : Addr) (n : Nat) (Pre : List PyData → Prop) (fl : List PyData → List (PyData × PyData)) : Sp := fun vs H Q _ => ∃ (G : Hp) (p dx : Addr) (vs2 : List V) (ds : List PyData), vs = .ref p :: vs2 ∧ Sub G H ∧ G p = none ∧ H p = some (.ins C dx []) ∧ DAs K G vs2 ds ∧ ds.length = n ∧ Pre ds ∧
  ∀ fs G2 H2, H2 p = some (.ins C dx fs) → G2 p = none → DFs K G2 fs (fl ds) → Sub G G2 → (∀ a o, G2 a = some o → H2 a = some o) → (∀ a o, a ≠ p → H a = some o → H2 a = some o) → (∀ a, G a = none → H a ≠ none → G2 a = none) → Q .non H2
theorem ed_make {K : PySem.W.Frag} {ρ : En} {ta : TA} {E : XK} {C : Addr} {n : Nat} {Pre : List PyData → Prop} {fl : List PyData → List (PyData × PyData)} {ds : List PyData} (c : Cls K C) (h : Ea K ta ρ ds) (hn : ds.length = n) (hp : Pre ds) :
    Ed K (tMake C (spNew K C n Pre fl) [] E ta) ρ (.dict ((.none, .int (C : Int)) :: fl ds)) := fun b G H σ S Q q =>
  h _ G H σ S _ fun vs ys ρ1 G1 H1 e1 S1 d1 => by
    obtain ⟨rfl, rfl⟩ := e1
    intro x dx hx hdx ne
    rw [List.append_nil]
    have h1 : ∀ a o, G1 a = some o → a ≠ x ∧ a ≠ dx := fun a o e => by
      have := S1.sub a o e
      exact ⟨fun z => (by rw [z, hx] at this; cases this), fun z => (by rw [z, hdx] at this; cases this)⟩
    have h2 : ∀ a o, H1 a = some o → a ≠ x ∧ a ≠ dx := fun a o e => ⟨fun z => (by rw [z, hx] at e; cases e), fun z => (by rw [z, hdx] at e; cases e)⟩
    have up : ∀ a, a ≠ x → a ≠ dx → upd (upd H1 dx (.own x)) x (.ins C dx []) a = H1 a := fun a n1 n2 => by rw [upd_ne n1, upd_ne n2]
    have gx : G1 x = none := by
      cases e : G1 x with
      | none => rfl
      | some o => exact absurd rfl (h1 x o e).1
    refine ⟨G1, x, dx, vs, ys, rfl, fun a o e => ?_, gx, upd_same, d1, hn, hp, fun fs G2 H2 e2 g2 df gg sub keep new => ⟨rfl, ?_⟩⟩
    · rw [up a (h1 a o e).1 (h1 a o e).2]
      exact S1.sub a o e
    · have st : Step G1 H1 (upd G2 x (.ins C dx fs)) H2 := {
        gg := fun a o e => by rw [upd_ne (h1 a o e).1]; exact gg a o e
        sub := fun a o e => by
          by_cases ha : a = x
          · subst ha; rw [upd_same] at e; rw [e2]; exact e
          · rw [upd_ne ha] at e; exact sub a o e
        hh := fun a o e => keep a o (h2 a o e).1 (by rw [up a (h2 a o e).1 (h2 a o e).2]; exact e)
        new := fun a n1 n2 => by
          have nx : a ≠ x := fun z => n2 (by rw [z]; exact hx)
          rw [upd_ne nx]
          exact new a n1 (by
            by_cases hd : a = dx
            · subst hd; exact absurd hdx n2
            · rw [up a nx hd]; exact n2) }
      exact q _ _ ρ1 _ H2 ⟨rfl, rfl⟩ (S1.step st) (.obj upd_same c (df.mono fun a o e => by
        rw [upd_ne (fun z => by rw [z, g2] at e; cases e)]; exact e))
def pIn : List PyData → Prop := fun ds => ∃ c l : Int, ∃ x, ds = [.int c, .int l, x] ∧ 0 ≤ c ∧ 1 ≤ l ∧ Ok x ∧ ∃ t xs, seqOf x = some (t, xs) ∧ ∀ s ∈ xs, stepD c l s = true
def fPr : List PyData → List (PyData × PyData)
  | [c, l, x] => [(.str "counters", c), (.str "locations", l), (.str "steps", tupD x)]
  | _ => []
section
variable {P : Program} {w : World} {K : PySem.W.Frag} {mg : Str → Option Value} {base : Heap}
theorem put2 (a b : V) : putF "locations" b (putF "counters" a []) = ([("counters", a), ("locations", b)] : List (Str × V)) := by
  have h1 : ¬ (("counters" : Str) = "locations") := by decide +kernel
  show (if ("counters" : Str) = "locations" then [(("counters" : Str), b)] else (("counters" : Str), a) :: putF "locations" b []) = _
  rw [if_neg h1]; rfl
theorem put3 (a b v : V) : putF "steps" v (putF "locations" b (putF "counters" a [])) = ([("counters", a), ("locations", b), ("steps", v)] : List (Str × V)) := by
  have h1 : ¬ (("counters" : Str) = "steps") := by decide +kernel
  have h2 : ¬ (("locations" : Str) = "steps") := by decide +kernel
  rw [put2]
  show (if ("counters" : Str) = "steps" then _ else (("counters" : Str), a) :: (if ("locations" : Str) = "steps" then _ else (("locations" : Str), b) :: putF "steps" v [])) = _
  rw [if_neg h1, if_neg h2]; rfl
/-- the checks of Program.__init__: all pass; the frame keeps self and what was passed -/
theorem checks (K : PySem.W.Frag) (f : Addr) (c l : Int) (x : PyData) (t : Bool) (xs : List PyData) (p : Addr) (hc : 0 ≤ c) (hl : 1 ≤ l) (hx : Ok x) (hseq : seqOf x = some (t, xs)) (hst : ∀ s ∈ xs, stepD c l s = true) (b : Bs) (G H : Hp) (σ : L2.St) (D : Ends)
    (S : SA K b G H σ [some (.d (adrD p)), some (.d (.int c)), some (.d (.int l)), some (.d x), none, none])
    {tail : TS} (k : ∀ G2 H2 σ2 (a e : Option PyData), SA K b G2 H2 σ2 [some (.d (adrD p)), some (.d (.int c)), some (.d (.int l)), some (.d x), a.map Sl.d, e.map Sl.d] → tail D σ2 H2) :
    (tSeq (tIfS (tNot (tTest (tCall (spR K 1 p1 (rB natD)) [] E0 (tCons (tVar 1) tNil)))) tNever tNext) (tSeq (tIfS (tOr (tNot (tTest (tCall (spR K 1 p1 (rB isInt)) [] E0 (tCons (tVar 2) tNil)))) (tTest (tOp (rI0 fun i j => .bl (decide (i < j))) (tVar 2) (tC (.int 1))))) tNever tNext)
      (tSeq (tIfS (tNot (tTest (tCall (spR K 1 p1 (rB isRow)) [] E0 (tCons (tVar 3) tNil)))) tNever tNext)
      (tSeq (tFor (iEn K (tCons (tVar 3) tNil)) (gTup K 2 (gCons (gName 4) (gCons (gName 5) gNil))) (tIfS (tNot (tTest (tCall (spR K 3 pSt rSt) [] E0 (tCons (tVar 5) (tCons (tVar 1) (tCons (tVar 2) tNil)))))) tNever tNext)) tail)))) D σ H := by
  have hrow : isRow x = true := by cases x <;> first | rfl | cases hseq
  have es : Es K (tSeq (tIfS (tNot (tTest (tCall (spR K 1 p1 (rB natD)) [] E0 (tCons (tVar 1) tNil)))) tNever tNext) (tSeq (tIfS (tOr (tNot (tTest (tCall (spR K 1 p1 (rB isInt)) [] E0 (tCons (tVar 2) tNil)))) (tTest (tOp (rI0 fun i j => .bl (decide (i < j))) (tVar 2) (tC (.int 1))))) tNever tNext)
      (tSeq (tIfS (tNot (tTest (tCall (spR K 1 p1 (rB isRow)) [] E0 (tCons (tVar 3) tNil)))) tNever tNext)
      (tSeq (tFor (iEn K (tCons (tVar 3) tNil)) (gTup K 2 (gCons (gName 4) (gCons (gName 5) gNil))) (tIfS (tNot (tTest (tCall (spR K 3 pSt rSt) [] E0 (tCons (tVar 5) (tCons (tVar 1) (tCons (tVar 2) tNil)))))) tNever tNext)) tNext)))) [some (.d (adrD p)), some (.d (.int c)), some (.d (.int l)), some (.d x), none, none]
      (fun o => ∃ a e : Option PyData, o = .nx [some (.d (adrD p)), some (.d (.int c)), some (.d (.int l)), some (.d x), a.map Sl.d, e.map Sl.d]) := by
    refine eq_when (c := false) ((eb_not (eb_test (ed_b (x := .int c) (ed_var rfl) rfl))).to ?_) (fun z => nomatch z) fun _ => ?_
    · show (!decide (0 ≤ c)) = false
      rw [decide_eq_true hc]; rfl
    refine eq_when (c := false) ((eb_or (c := false) (d := decide (l < 1)) ((eb_not (eb_test (ed_b (x := .int l) (ed_var rfl) rfl))).to rfl) fun _ => eb_test (ed_op (ed_var rfl) ed_int rd_lt)).to ?_) (fun z => nomatch z) fun _ => ?_
    · have : ¬ l < 1 := by omega
      rw [decide_eq_false this]; rfl
    refine eq_when (c := false) ((eb_not (eb_test (ed_b (ed_var rfl) hx.kd))).to (by rw [hrow]; rfl)) (fun z => nomatch z) fun _ => ?_
    refine es_then (es_forD (xs := enD xs) (ei_en (ea_cons (ed_var rfl) ea_nil) hseq) (fun _ ρ => ∃ a e : Option PyData, ρ = [some (.d (adrD p)), some (.d (.int c)), some (.d (.int l)), some (.d x), a.map Sl.d, e.map Sl.d]) ⟨none, none, rfl⟩ ?_ ?_)
    · rintro j y ρ hy ⟨a, e, rfl⟩
      obtain ⟨s, hs, rfl⟩ := enD_get hy
      have hmem := List.mem_of_getElem? hs
      refine ⟨_, _, eg_two, ?_⟩
      refine es_if (c := false) ((eb_not (eb_test (ed_call (y := .bool (stepD c l s)) (ea_cons (ed_var rfl) (ea_cons (ed_var rfl) (ea_cons (ed_var rfl) ea_nil))) rfl ⟨s, c, l, rfl, hx.item hseq hmem⟩ ?_))).to (by rw [hst s hmem]; rfl)) (fun z => nomatch z) fun _ => es_next ⟨some (.int (j : Nat)), some s, rfl⟩
      rintro z ⟨s2, c2, l2, e, rfl⟩
      cases e; rfl
    · rintro ρ ⟨a, e, rfl⟩
      exact es_next ⟨a, e, rfl⟩
  refine es b G H σ { D with nx := tail D } S ⟨fun ρ σ2 G2 H2 o S2 => ?_, fun ρ y v σ2 G2 H2 o => ?_, fun ρ σ2 G2 H2 o => ?_, fun ρ σ2 G2 H2 o => ?_⟩
  · obtain ⟨a, e, o⟩ := o
    cases o
    exact k G2 H2 σ2 a e S2
  · obtain ⟨_, _, o⟩ := o; cases o
  · obtain ⟨_, _, o⟩ := o; cases o
  · obtain ⟨_, _, o⟩ := o; cases o
theorem ok_init {C f : Addr} {fd : FuncData} (F : Fun K "__init__" "Program.__init__" s_Program_init f fd) (T : Bi mg) (cl : Cls K C) (A : PrA K C) (Ois_integer : OwnD P w K mg base 1 "is_integer" ["value"] (spR K 1 p1 (rB isInt))) (Ois_natural : OwnD P w K mg base 2 "is_natural" ["value"] (spR K 1 p1 (rB natD)))
    (Ois_row : OwnD P w K mg base 1 "is_row" ["value"] (spR K 1 p1 (rB isRow))) (O_is_step : OwnD P w K mg base 4 "_is_step" ["value", "counters", "locations"] (spR K 3 pSt rSt)) (Otupled : OwnD P w K mg base 2 "tupled" ["value"] (spR K 1 pT rT)) : FnOk P w K mg base CX0 5 f fd ["self", "counters", "locations", "steps"] (spNew K C 3 pIn fPr) := by
  refine F.ok sc_Program_init (fun vs H Q E h => ?_) (fun cdv A2 outer s H vs Q E hr h => ⟨_, (pss_cons (ps_if (pt_not (pt_val (pe_own Ois_natural (hr.mono (by decide)) (pa_cons (pv 1) pa_nil))))
        (pss_one ps_never)
        pss_nil)
      (pss_cons (ps_if (pw_or (pt_not (pt_val (pe_own Ois_integer (hr.mono (by decide)) (pa_cons (pv 2) pa_nil)))) (pw_or1 (pt_cmpR op_lt (pv 2) pe_int (nomark _)))).pt
        (pss_one ps_never)
        pss_nil)
      (pss_cons (ps_if (pt_not (pt_val (pe_own Ois_row (hr.mono (by decide)) (pa_cons (pv 3) pa_nil))))
        (pss_one ps_never)
        pss_nil)
      (pss_cons (ps_for PassesOwn.never rfl (kpi_en (K := K) (by rfl) (T.n_enumerate) (pa_cons (pv 3) pa_nil)) (kpg_tup (K := K) 2 rfl (pgs_cons (pg_name (i := 4) sc_Program_init.nd rfl (by first | exact Or.inl rfl | exact Or.inr rfl)) (pgs_cons (pg_name (i := 5) sc_Program_init.nd rfl (by first | exact Or.inl rfl | exact Or.inr rfl)) pgs_nil)))
        (pss_one (ps_if (pt_not (pt_val (pe_own O_is_step (hr.mono (by decide)) (pa_cons (pv 5) (pa_cons (pv 1) (pa_cons (pv 2) pa_nil))))))
          (pss_one ps_never)
          pss_nil)))
      (pss_cons (ps_fld (pv 0) (pv 1) rfl)
      (pss_cons (ps_fld (pv 0) (pv 2) rfl)
      (pss_one (ps_fld (pv 0) (pe_own Otupled (hr.mono (by decide)) (pa_cons (pv 3) pa_nil)) rfl)))))))), ?_⟩)
  · obtain ⟨G, p, dx, vs2, ds, rfl, _, _, _, d, hl, _⟩ := h
    rw [List.length_cons, d.length, hl]; rfl
  · obtain ⟨G, p, dx, vs2, ds, rfl, sub, gp, hp, d, hl, hpre, q⟩ := h
    have S0 := sa_start (N := N_Program_init) sub (DAs.cons (.adr (a := p)) d)
    obtain ⟨c, l, x, rfl, hc, hl1, hx, t, xs, hseq, hst⟩ := hpre
    refine checks K f c l x t xs p hc hl1 hx hseq hst _ _ _ _ _ S0 ?_
    intro G2 H2 σ2 a b S2
    obtain ⟨v0, hv0, d0⟩ := S2.dat 0 _ rfl
    obtain ⟨v1, hv1, d1⟩ := S2.dat 1 _ rfl
    obtain ⟨v2, hv2, d2⟩ := S2.dat 2 _ rfl
    obtain ⟨v3, hv3, d3⟩ := S2.dat 3 _ rfl
    have e0 : v0 = .ref p := by
      unfold adrD at d0
      generalize hpp : (p : Int) = pp at d0
      cases d0
      rename_i q
      have := Int.ofNat.inj hpp
      subst this; rfl
    subst e0
    cases d1
    cases d2
    have hp2 : H2 p = some (.ins C dx []) := S2.keep p _ hp
    have gp2 : G2 p = none := S2.new p gp (by show H p ≠ none; rw [hp]; exact fun z => nomatch z)
    have gne : ∀ a o, G2 a = some o → a ≠ p := fun a o e z => by rw [z, gp2] at e; cases e
    -- self.counters, self.locations
    refine ⟨_, hv1, .ref p, hv0, p, C, dx, [], rfl, hp2, cl, A.c, by decide, ?_⟩
    refine ⟨_, hv2, .ref p, hv0, p, C, dx, _, rfl, upd_same, cl, A.l, by show 1 < 1000; decide, ?_⟩
    -- self.steps = tupled(steps)
    have sub2 : ∀ o1 o2, Sub G2 (upd (upd H2 p o1) p o2) := fun o1 o2 a o e => by
      rw [upd_ne (gne a o e), upd_ne (gne a o e)]
      exact S2.sub a o e
    refine ⟨_, hv3, G2, [x], sub2 _ _, .cons d3 .nil, rfl, ⟨x, rfl, hx.1, hx.2⟩, fun v y G3 H3 r st dv => ⟨.ref p, hv0, p, C, dx, _, rfl, st.hh p _ upd_same, cl, A.s, ?_, ?_⟩⟩
    · rw [put2]; show 2 < 1000; decide
    · obtain ⟨x2, e, rfl⟩ := r
      cases e
      have gp3 : G3 p = none := st.new p gp2 (by rw [upd_same]; exact fun z => nomatch z)
      refine q _ G3 _ upd_same gp3 ?_ (S2.gg.trans st.gg) (fun a o e => ?_) (fun a o ne e => ?_) (fun a n1 n2 => ?_)
      · rw [put3]
        exact .cons (.int c) (.cons (.int l) (.cons dv .nil))
      · have ne : a ≠ p := fun z => by rw [z, gp3] at e; cases e
        rw [upd_ne ne]
        exact st.sub a o e
      · rw [upd_ne ne]
        exact st.hh a o (by rw [upd_ne ne, upd_ne ne]; exact S2.keep a o e)
      · by_cases ha : a = p
        · rw [ha]; exact gp3
        · have h2 : G2 a = none := S2.new a n1 n2
          refine st.new a h2 ?_
          rw [upd_ne ha, upd_ne ha]
          cases e : H a with
          | none => exact absurd e n2
          | some o => rw [S2.keep a o e]; exact fun z => nomatch z
end
end K04
end
section
set_option Elab.async false
set_option linter.all false
set_option autoImplicit false
set_option maxRecDepth 100000
set_option maxHeartbeats 4000000
namespace K04
open PySem PySem.Spec PyProof.Rows L2 RS

structure MkO (P : Program) (w : World) (K : PySem.W.Frag) (mg : Str → Option Value) (base : Heap) (x : Str) (C : Addr) (k : Nat) (ps : List Str) (sp : Sp) : Prop where
  cl : Cls K C
  m : mg x = some (.ref C)
  i : ∃ (f : Addr) (fd : FuncData), Mk K C f ∧ FnOk P w K mg base CX0 k f fd ps sp ∧ Binds K fd ps []
theorem pe_mko {X : Cx} {x : Str} {C : Addr} {k : Nat} {ps : List Str} {sp : Sp} {e : Expr} {es : List Expr} {ta : TA} {p pos : Pos} (M : MkO X.prog X.w X.K X.mg X.base x C k ps sp) (hr : Room (k + 1) X.A) (ha : PA X (e :: es) ta) (hg : Gl X x := by rfl)
    (hdb : (x == ("__debug__" : Str)) = false := by decide) (he : starEach (e :: es) X.env = (false, eval e X.env) :: starEach es X.env := by rfl) (hpl : (backTo pos (starEach es X.env)).any (·.1) = false := by rfl) :
    PE X (.Call (.Name x p) (e :: es) [] pos) (tMake C sp [] E0 ta) := by
  obtain ⟨f, fd, h1, h2, h3⟩ := M.i
  exact pe_make h1 h2 hr hg M.m h3 .nil pass0 ha hdb he hpl
def trI (s : Stp) : Stp := (s.2.2.2, s.2.2.1, s.2.1, s.1)
/-- a step that may stand in a program of c counters and l locations -/
structure StOk (c l : Nat) (s : Stp) : Prop where
  fr : 0 ≤ s.1 ∧ s.1 < l
  to : 0 ≤ s.2.2.2 ∧ s.2.2.2 < l
  t : s.2.1.length = c ∧ ∀ i ∈ s.2.1, (0 : Int) ≤ i
  g : s.2.2.1.length = c ∧ ∀ i ∈ s.2.2.1, (0 : Int) ≤ i
/-- a program -/
structure Prg (c l : Nat) (ss : List Stp) : Prop where
  c8 : c ≤ 8
  l1 : 1 ≤ l
  n : ss.length ≤ 8
  st : ∀ s ∈ ss, StOk c l s
theorem StOk.turn {c l : Nat} {s : Stp} (h : StOk c l s) : StOk c l (trI s) := ⟨h.to, h.fr, h.g, h.t⟩
theorem Prg.turn {c l : Nat} {ss : List Stp} (h : Prg c l ss) : Prg c l (ss.map trI) := ⟨h.c8, h.l1, by rw [List.length_map]; exact h.n, fun s hs => by
  obtain ⟨s2, h2, rfl⟩ := List.mem_map.mp hs
  exact (h.st s2 h2).turn⟩
theorem nats_ok {n : Nat} {xs : List Int} (h : xs.length = n ∧ ∀ i ∈ xs, (0 : Int) ≤ i) (t : Bool) : natsD n (mkSeq t (xs.map PyData.int)) = true := by
  unfold natsD
  rw [seqOf_mk]
  dsimp only
  rw [List.length_map, h.1, List.all_map, Bool.and_eq_true]
  refine ⟨decide_eq_true rfl, List.all_eq_true.mpr fun i hi => ?_⟩
  exact decide_eq_true (h.2 i hi)
/-- a step as it may be told: rows as tuples or lists -/
def sG (t : Bool) (s : Stp) : PyData := .tuple [.int s.1, mkSeq t (s.2.1.map PyData.int), mkSeq t (s.2.2.1.map PyData.int), .int s.2.2.2]
theorem sG_t (s : Stp) : sG true s = sD s := rfl
theorem bel_ok {l : Nat} {i : Int} (h : 0 ≤ i ∧ i < l) : belD l (.int i) = true := by
  show (decide (0 ≤ i) && decide (i < (l : Int))) = true
  rw [decide_eq_true h.1, decide_eq_true h.2]; rfl
theorem step_ok {c l : Nat} {s : Stp} (h : StOk c l s) (t : Bool) : stepD c l (sG t s) = true := by
  show (belD l (.int s.1) && (natsD c (mkSeq t (s.2.1.map PyData.int)) && (natsD c (mkSeq t (s.2.2.1.map PyData.int)) && belD l (.int s.2.2.2)))) = true
  rw [bel_ok h.fr, bel_ok h.to, nats_ok h.t, nats_ok h.g]; rfl
theorem okDs_ints : ∀ xs : List Int, okDs (xs.map PyData.int) = true
  | [] => by unfold List.map okDs; rfl
  | x :: xs => by
    rw [List.map_cons]
    unfold okDs okD
    rw [okDs_ints xs]; rfl
theorem szDs_ints : ∀ xs : List Int, szDs (xs.map PyData.int) = xs.length
  | [] => by unfold List.map szDs; rfl
  | x :: xs => by
    rw [List.map_cons]
    unfold szDs szD
    rw [szDs_ints xs, List.length_cons]; omega
theorem tupDs_ints : ∀ xs : List Int, tupDs (xs.map PyData.int) = xs.map PyData.int
  | [] => by unfold List.map tupDs; rfl
  | x :: xs => by
    rw [List.map_cons]
    unfold tupDs tupD
    rw [tupDs_ints xs]
theorem tup_seq (t : Bool) (xs : List PyData) : tupD (mkSeq t xs) = .tuple (tupDs xs) := tupD_seq (seqOf_mk t xs)
theorem sz_seq (t : Bool) (xs : List PyData) : szD (mkSeq t xs) = 2 + szDs xs := szD_seq (seqOf_mk t xs)
theorem ok_seq (t : Bool) (xs : List PyData) : okD (mkSeq t xs) = okDs xs := by cases t <;> (unfold mkSeq okD; rfl)
theorem tupDs_cons (x : PyData) (xs : List PyData) : tupDs (x :: xs) = tupD x :: tupDs xs := by conv => lhs; unfold tupDs
theorem szDs_cons (x : PyData) (xs : List PyData) : szDs (x :: xs) = szD x + szDs xs := by conv => lhs; unfold szDs
theorem okDs_cons (x : PyData) (xs : List PyData) : okDs (x :: xs) = (okD x && okDs xs) := by conv => lhs; unfold okDs
theorem tup_sG (t : Bool) (s : Stp) : tupD (sG t s) = sD s := by
  have e : sG t s = mkSeq true [.int s.1, mkSeq t (s.2.1.map PyData.int), mkSeq t (s.2.2.1.map PyData.int), .int s.2.2.2] := rfl
  rw [e, tup_seq, tupDs_cons, tupDs_cons, tupDs_cons, tupDs_cons, tup_seq, tup_seq, tupDs_ints, tupDs_ints]
  have e1 : tupDs [] = [] := by unfold tupDs; rfl
  have e2 : ∀ i, tupD (.int i) = .int i := fun i => by unfold tupD; rfl
  rw [e1, e2, e2]; rfl
theorem sz_sG {c l : Nat} {s : Stp} (h : StOk c l s) (hc : c ≤ 8) (t : Bool) : szD (sG t s) ≤ 24 := by
  have e : sG t s = mkSeq true [.int s.1, mkSeq t (s.2.1.map PyData.int), mkSeq t (s.2.2.1.map PyData.int), .int s.2.2.2] := rfl
  have e1 : szDs [] = 0 := by unfold szDs; rfl
  have e2 : ∀ i, szD (.int i) = 1 := fun i => by unfold szD; rfl
  rw [e, sz_seq, szDs_cons, szDs_cons, szDs_cons, szDs_cons, sz_seq, sz_seq, szDs_ints, szDs_ints, e1, e2, e2, h.t.1, h.g.1]
  omega
theorem ok_sG (t : Bool) (s : Stp) : okD (sG t s) = true := by
  have e : sG t s = mkSeq true [.int s.1, mkSeq t (s.2.1.map PyData.int), mkSeq t (s.2.2.1.map PyData.int), .int s.2.2.2] := rfl
  have e1 : okDs [] = true := by unfold okDs; rfl
  have e2 : ∀ i, okD (.int i) = true := fun i => by unfold okD; rfl
  rw [e, ok_seq, okDs_cons, okDs_cons, okDs_cons, okDs_cons, ok_seq, ok_seq, okDs_ints, okDs_ints, e1, e2, e2]; rfl
theorem steps_all {c l : Nat} (t : Bool) (hc : c ≤ 8) : ∀ ss : List Stp, (∀ s ∈ ss, StOk c l s) → okDs (ss.map (sG t)) = true ∧ szDs (ss.map (sG t)) ≤ 24 * ss.length ∧ tupDs (ss.map (sG t)) = ss.map sD
  | [], _ => ⟨by unfold List.map okDs; rfl, by unfold List.map szDs; omega, by unfold List.map tupDs; rfl⟩
  | s :: ss, h => by
    obtain ⟨h1, h2, h3⟩ := steps_all t hc ss fun x hx => h x (List.mem_cons_of_mem _ hx)
    have h4 := sz_sG (h s List.mem_cons_self) hc t
    rw [List.map_cons, List.map_cons, okDs_cons, szDs_cons, tupDs_cons, ok_sG, h1, tup_sG, h3, List.length_cons]
    exact ⟨rfl, by omega, rfl⟩
/-- what a program is made from -/
theorem pIn_ok {c l : Nat} {ss : List Stp} (h : Prg c l ss) (t t2 : Bool) : pIn [.int c, .int l, mkSeq t2 (ss.map (sG t))] := by
  obtain ⟨h1, h2, h3⟩ := steps_all t h.c8 ss h.st
  have := h.n
  refine ⟨c, l, _, rfl, Int.natCast_nonneg c, by have := h.l1; omega, ⟨by rw [ok_seq]; exact h1, by rw [sz_seq]; omega⟩, t2, _, seqOf_mk t2 _, fun s hs => ?_⟩
  obtain ⟨s2, h5, rfl⟩ := List.mem_map.mp hs
  exact step_ok (h.st s2 h5) t
theorem fPr_ok {c l : Nat} {ss : List Stp} (h : Prg c l ss) (t t2 : Bool) (C : Addr) : (.dict ((.none, .int (C : Int)) :: fPr [.int c, .int l, mkSeq t2 (ss.map (sG t))])) = prD C c l (stD ss) := by
  show prD C c l (tupD (mkSeq t2 (ss.map (sG t)))) = _
  rw [tup_seq, (steps_all t h.c8 ss h.st).2.2]; rfl
def tr4 : PyData → PyData
  | .tuple [a, b, c, d] => .tuple [d, c, b, a]
  | x => x
theorem eg_four {K : PySem.W.Frag} {ρ : En} {i j k l : Nat} {x y z u : PyData} : Eg K (gTup K 4 (gCons (gName i) (gCons (gName j) (gCons (gName k) (gCons (gName l) gNil))))) [i, j, k, l] ρ (.tuple [x, y, z, u]) ((((ρ.set i (some (.d x))).set j (some (.d y))).set k (some (.d z))).set l (some (.d u))) := eg_tup rfl (egs_cons eg_name (egs_cons eg_name (egs_cons eg_name (egs_cons eg_name egs_nil))))
section
variable {P : Program} {w : World} {K : PySem.W.Frag} {mg : Str → Option Value} {base : Heap}
theorem ed_prog {C : Addr} {ρ : En} {ta : TA} {c l : Nat} {ss : List Stp} {t t2 : Bool} (cl : Cls K C) (hp : Prg c l ss) (h : Ea K ta ρ [.int c, .int l, mkSeq t2 (ss.map (sG t))]) : Ed K (tMake C (spNew K C 3 pIn fPr) [] E0 ta) ρ (prD C c l (stD ss)) :=
  (ed_make cl h rfl (pIn_ok hp t t2)).to (fPr_ok hp t t2 C)
def pTu (C : Addr) : List PyData → Prop := fun ds => ∃ c l ss, ds = [prD C ((c : Nat) : Int) ((l : Nat) : Int) (stD ss)] ∧ Prg c l ss
def rTu (C : Addr) : List PyData → PyData → Prop := fun ds y => ∃ c l ss, ds = [prD C ((c : Nat) : Int) ((l : Nat) : Int) (stD ss)] ∧ y = prD C c l (stD (ss.map trI))
end
end K04
end
section
set_option Elab.async false
set_option linter.all false
set_option autoImplicit false
set_option maxRecDepth 100000
set_option maxHeartbeats 4000000
namespace K04
open PySem PySem.Spec PyProof.Rows L2 RS
abbrev s_law_next : Stmt := top 33
abbrev N_law_next : List Str := ["program", "configuration", "k", "begin", "takes", "gives", "end", "location", "row", "have", "need", "more"]
theorem sc_law_next : FnScope N_law_next ["program", "configuration", "k"] (defScope s_law_next) := ⟨rfl, rfl, rfl, by decide +kernel, rfl, by decide +kernel, by decide +kernel⟩
/-- a program as the law tells it -/
def gD (c l : Int) (ss : List Stp) : PyData := .tuple [.int c, .int l, stD ss]
theorem gD_inj {c l c2 l2 : Int} {ss ss2 : List Stp} (h : gD c l ss = gD c2 l2 ss2) : c = c2 ∧ l = l2 ∧ ss = ss2 := by
  unfold gD at h
  injection h with h
  injection h with h1 h
  injection h with h2 h
  injection h with h3 _
  injection h1 with h1
  injection h2 with h2
  exact ⟨h1, h2, stD_inj h3⟩
theorem lay_all {n : Nat} : ∀ {xs : List PyData}, (∀ x ∈ xs, PyData.canLay0 x = true ∧ PyData.depth x ≤ n) → PyData.canLayAll0 xs = true ∧ PyData.depthAll xs ≤ n
  | [], _ => ⟨by unfold PyData.canLayAll0; rfl, by unfold PyData.depthAll; omega⟩
  | x :: xs, h => by
    obtain ⟨h1, h2⟩ := lay_all fun y hy => h y (List.mem_cons_of_mem _ hy)
    obtain ⟨h3, h4⟩ := h x List.mem_cons_self
    unfold PyData.canLayAll0 PyData.depthAll
    rw [h1, h3]
    exact ⟨rfl, by omega⟩
def Lay (n : Nat) (x : PyData) : Prop := PyData.canLay0 x = true ∧ PyData.depth x ≤ n
theorem Lay.int {n : Nat} (i : Int) : Lay n (.int i) := ⟨by unfold PyData.canLay0; rfl, by unfold PyData.depth; omega⟩
theorem Lay.seq {n : Nat} {t : Bool} {xs : List PyData} (h : ∀ x ∈ xs, Lay n x) : Lay (n + 1) (mkSeq t xs) := by
  obtain ⟨h1, h2⟩ := lay_all h
  cases t
  · exact ⟨by unfold mkSeq PyData.canLay0; exact h1, by unfold mkSeq PyData.depth; omega⟩
  · exact ⟨by unfold mkSeq PyData.canLay0; exact h1, by unfold mkSeq PyData.depth; omega⟩
theorem Lay.shaped {n : Nat} {x : PyData} (h : Lay n x) (hn : n ≤ 64) : SeqAt.shaped x = true := by
  unfold SeqAt.shaped
  rw [h.1, Bool.true_and]
  exact decide_eq_true (Nat.le_trans h.2 hn)
theorem lay_ints {t : Bool} (xs : List Int) : Lay 1 (mkSeq t (xs.map PyData.int)) := Lay.seq (n := 0) fun x hx => by
  obtain ⟨i, _, rfl⟩ := List.mem_map.mp hx
  exact .int i
theorem ones_ne (p : PyData → Bool) (xs : List PyData) : (!PyData.eqv (.list ((xs.filter p).map fun _ => PyData.int 1)) (.list [])) = xs.any p := by
  have key : ∀ ys : List PyData, PyData.eqv (.list (ys.map fun _ => PyData.int 1)) (.list []) = ys.isEmpty := fun ys => by
    cases ys with
    | nil => unfold PyData.eqv List.map PyData.eqvAll; rfl
    | cons y ys => rw [List.map_cons]; unfold PyData.eqv PyData.eqvAll; rfl
  rw [key]
  induction xs with
  | nil => rfl
  | cons x xs ih =>
    rw [List.any_cons, List.filter_cons]
    cases p x
    · exact ih
    · rfl
def pLn : List PyData → Prop := fun ds => ∃ c l ss cf, ∃ k : Nat, ds = [gD c l ss, cD cf, .int k] ∧ SsOk ss ∧ k < ss.length ∧ Sm cf.2
def rLn : List PyData → PyData → Prop := fun ds y => ∃ c l ss cf, ∃ k : Nat, ∃ s, ds = [gD c l ss, cD cf, .int k] ∧ ss[k]? = some s ∧ y = optD (nextI cf s)
section
variable {P : Program} {w : World} {K : PySem.W.Frag} {mg : Str → Option Value} {base : Heap}
theorem ok_law_next {f : Addr} {fd : FuncData} (F : Fun K "_law_next" "_law_next" s_law_next f fd) (T : Bi mg) : FnOk P w K mg base CX0 1 f fd ["program", "configuration", "k"] (spR K 3 pLn rLn) := by
  refine fn_pure (ps := ["program", "configuration", "k"]) F sc_law_next fun cdv A2 outer s H E hr => ⟨_, (pss_cons (ps_asg (pe_ix (k_ix (K := K)) (pe_ix (k_ix (K := K)) (pv 0) pe_int (fun _ _ => rfl)) (pv 2) (fun _ _ => rfl)) (kpg_seq (K := K) 4 rfl (pgs_cons (pg_name (i := 3) sc_law_next.nd rfl (by first | exact Or.inl rfl | exact Or.inr rfl)) (pgs_cons (pg_name (i := 4) sc_law_next.nd rfl (by first | exact Or.inl rfl | exact Or.inr rfl)) (pgs_cons (pg_name (i := 5) sc_law_next.nd rfl (by first | exact Or.inl rfl | exact Or.inr rfl)) (pgs_cons (pg_name (i := 6) sc_law_next.nd rfl (by first | exact Or.inl rfl | exact Or.inr rfl)) pgs_nil))))))
      (pss_cons (ps_asg (pv 1) (kpg_tup (K := K) 2 rfl (pgs_cons (pg_name (i := 7) sc_law_next.nd rfl (by first | exact Or.inl rfl | exact Or.inr rfl)) (pgs_cons (pg_name (i := 8) sc_law_next.nd rfl (by first | exact Or.inl rfl | exact Or.inr rfl)) pgs_nil))))
      (pss_cons (ps_if (pw_or (pt_cmpR (k_neA (K := K) hr.units) (pv 7) (pv 3) (nomark _)) (pw_or1 (pt_cmpR (k_neA (K := K) hr.units) (pe_lc (own := [("have", 9), ("need", 10)]) rfl sc_law_next.nd (kpi_z2 (K := K) (by rfl) (T.n_zip) (pa_cons (pv 8) (pa_cons (pv 4) pa_nil))) (blkOk_by (N := N_law_next) (sc := defScope s_law_next) (by decide +kernel)) (fun _ _ _ _ _ => (kpg_tup (K := K) 2 rfl (pgs_cons (pg_name (i := 9) sc_law_next.nd rfl (by first | exact Or.inl rfl | exact Or.inr rfl)) (pgs_cons (pg_name (i := 10) sc_law_next.nd rfl (by first | exact Or.inl rfl | exact Or.inr rfl)) pgs_nil)))) (fun _ _ _ _ _ => (pts_one (pt_cmpR op_lt (pv 9) (pv 10) (nomark _)))) (fun _ _ _ _ _ => pe_int)) (pe_lst pa_nil) (nomark _)))).pt
        (pss_one (ps_ret pe_non))
        pss_nil)
      (pss_one (ps_ret (pe_tup (pa_cons (pv 6) (pa_cons (pe_callTy (k_tuple (K := K)) (by rfl) (T.n_tuple) PyProof.Rows.boot_tuple (pa_cons (pe_lc (own := [("have", 9), ("need", 10), ("more", 11)]) rfl sc_law_next.nd (kpi_z3 (K := K) (by rfl) (T.n_zip) (pa_cons (pv 8) (pa_cons (pv 4) (pa_cons (pv 5) pa_nil)))) (blkOk_by (N := N_law_next) (sc := defScope s_law_next) (by decide +kernel)) (fun _ _ _ _ _ => (kpg_tup (K := K) 3 rfl (pgs_cons (pg_name (i := 9) sc_law_next.nd rfl (by first | exact Or.inl rfl | exact Or.inr rfl)) (pgs_cons (pg_name (i := 10) sc_law_next.nd rfl (by first | exact Or.inl rfl | exact Or.inr rfl)) (pgs_cons (pg_name (i := 11) sc_law_next.nd rfl (by first | exact Or.inl rfl | exact Or.inr rfl)) pgs_nil))))) (fun _ _ _ _ _ => pts_nil) (fun _ _ _ _ _ => (pe_op op_add (pe_op op_sub (pv 9) (pv 10)) (pv 11)))) pa_nil)) pa_nil)))))))), ?_⟩
  rintro ds hlen ⟨c, lo, ss, ⟨l, xs⟩, k, rfl, hs, hk, hx⟩
  obtain ⟨st, hst⟩ : ∃ s, ss[k]? = some s := ⟨_, List.getElem?_eq_getElem hk⟩
  have hm := hs.sm st (List.mem_of_getElem? hst)
  obtain ⟨h, ts, gs, e⟩ := st
  refine eq_asg (ed_op (ed_op (ed_var rfl) ed_int (rd_ixT (x := stD ss) rfl)) (ed_var rfl) (rd_ixT (x := sD (h, ts, gs, e)) (atI_nat (by rw [List.getElem?_map, hst]; rfl)))) (eg_seq (t := true) rfl rfl (egs_cons eg_name (egs_cons eg_name (egs_cons eg_name (egs_cons eg_name egs_nil))))) ?_
  refine eq_asg (ed_var rfl) eg_two ?_
  show Es K _ [some (.d (gD c lo ss)), some (.d (cD (l, xs))), some (.d (.int (k : Nat))), some (.d (.int h)), some (.d (iD ts)), some (.d (iD gs)), some (.d (.int e)), some (.d (.int l)), some (.d (iD xs)), none, none, none] _
  have hz : Ei K (iZ2 K (tCons (tVar 8) (tCons (tVar 4) tNil))) [some (.d (gD c lo ss)), some (.d (cD (l, xs))), some (.d (.int (k : Nat))), some (.d (.int h)), some (.d (iD ts)), some (.d (iD gs)), some (.d (.int e)), some (.d (.int l)), some (.d (iD xs)), none, none, none] ((xs.zip ts).map fun p => .tuple [.int p.1, .int p.2]) := by
    rw [← z2_ints]
    exact ei_z2 (ea_cons (ed_var rfl) (ea_cons (ed_var rfl) ea_nil)) (seq_iD xs) (seq_iD ts)
  have el : ((xs.zip ts).map fun p => PyData.tuple [.int p.1, .int p.2]).any asc1 = lessI xs ts := by
    unfold lessI
    rw [List.any_map]; rfl
  have e1 : PyData.eqv (.int l) (.int h) = decide (l = h) := by
    unfold PyData.eqv
    by_cases hh : l = h
    · subst hh; simp
    · simp [hh]
  have hshape : ∀ ys : List PyData, SeqAt.shaped (.list (ys.map fun _ => PyData.int 1)) = true := fun ys => (Lay.seq (n := 0) (t := false) (xs := ys.map fun _ => PyData.int 1) fun x hx => by
    obtain ⟨i, _, rfl⟩ := List.mem_map.mp hx
    exact .int 1).shaped (by decide)
  have hlen2 : ((xs.zip ts).map fun p => PyData.tuple [.int p.1, .int p.2]).length ≤ 100000 := by
    have h1 : xs.length ≤ 100 := hx
    rw [List.length_map, List.length_zip]; omega
  have hl2 := ed_lcNT (K := K) 0 asc1 (fun _ => .int 1) hz hlen2 rfl (vs := [9, 10]) (g := gTup K 2 (gCons (gName 9) (gCons (gName 10) gNil))) (tt := tTest (tOp (rI0 fun i j => .bl (decide (i < j))) (tVar 9) (tVar 10))) (te := tC (.int 1)) (fun j hj => by
    simp only [List.mem_cons, List.not_mem_nil, or_false] at hj
    rcases hj with rfl | rfl <;> rfl) fun y hy => by
      obtain ⟨p, _, rfl⟩ := List.mem_map.mp hy
      exact ⟨[9, 10], _, fun j hj => hj, eg_two, rfl, eb_test (ed_op (ed_var rfl) (ed_var rfl) rd_lt), fun _ => ed_int⟩
  refine eq_when (c := (!PyData.eqv (.int l) (.int h)) || lessI xs ts) (eb_or (c := !PyData.eqv (.int l) (.int h)) (d := lessI xs ts) (eb_test (ed_op (ed_var rfl) (ed_var rfl) (rd_neA rfl rfl))) fun _ => (eb_test (ed_op hl2 (ed_lst ea_nil (by decide)) (rd_neA (hshape _) rfl))).to ?_) (fun hc => es_ret ed_non ⟨c, lo, ss, (l, xs), k, (h, ts, gs, e), rfl, hst, ?_⟩) fun hc => ?_
  · rw [ones_ne, el]
  · rw [e1] at hc
    unfold nextI
    by_cases hh : l = h
    · have : lessI xs ts = true := by simpa [hh] using hc
      rw [if_pos hh, if_pos this]; rfl
    · rw [if_neg hh]; rfl
  · rw [e1, Bool.or_eq_false_iff] at hc
    have hh : l = h := by simpa using hc.1
    have hn : ¬ lessI xs ts = true := by rw [hc.2]; exact Bool.false_ne_true
    have hz3 : Ei K (iZ3 K (tCons (tVar 8) (tCons (tVar 4) (tCons (tVar 5) tNil)))) [some (.d (gD c lo ss)), some (.d (cD (l, xs))), some (.d (.int (k : Nat))), some (.d (.int h)), some (.d (iD ts)), some (.d (iD gs)), some (.d (.int e)), some (.d (.int l)), some (.d (iD xs)), none, none, none] (((xs.zip ts).zip gs).map fun p => .tuple [.int p.1.1, .int p.1.2, .int p.2]) := by
      rw [← z3_ints]
      exact ei_z3 (ea_cons (ed_var rfl) (ea_cons (ed_var rfl) (ea_cons (ed_var rfl) ea_nil))) (seq_iD xs) (seq_iD ts) (seq_iD gs)
    have hm2 := ed_lcN (K := K) 0 mov3 hz3 (by have h1 : xs.length ≤ 100 := hx; rw [List.length_map, List.length_zip, List.length_zip]; omega) rfl (vs := [9, 10, 11]) (g := gTup K 3 (gCons (gName 9) (gCons (gName 10) (gCons (gName 11) gNil)))) (te := tOp (rI0 fun i j => .int (i + j)) (tOp (rI0 fun i j => .int (i - j)) (tVar 9) (tVar 10)) (tVar 11)) (fun j hj => by
      simp only [List.mem_cons, List.not_mem_nil, or_false] at hj
      rcases hj with rfl | rfl | rfl <;> rfl) fun y hy => by
        obtain ⟨p, _, rfl⟩ := List.mem_map.mp hy
        exact ⟨[9, 10, 11], _, fun j hj => hj, eg_three, rfl, ed_op (ed_op (ed_var rfl) (ed_var rfl) rd_sub) (ed_var rfl) rd_add⟩
    have em : ((((xs.zip ts).zip gs).map fun p => PyData.tuple [.int p.1.1, .int p.1.2, .int p.2]).map mov3) = (z3I xs ts gs).map PyData.int := by
      rw [z3I_map, List.map_map, List.map_map]; rfl
    rw [em] at hm2
    refine es_ret (x := cD (e, z3I xs ts gs)) (ed_tup (ea_cons (ed_var rfl) (ea_cons (ed_cb (ea_cons hm2 ea_nil) rc_tupleL) ea_nil)) (by show 2 ≤ 1000; decide)) ⟨c, lo, ss, (l, xs), k, (h, ts, gs, e), rfl, hst, ?_⟩
    unfold nextI
    rw [if_pos hh, if_neg hn]; rfl
end
end K04
end
section
set_option Elab.async false
set_option linter.all false
set_option autoImplicit false
set_option maxRecDepth 100000
set_option maxHeartbeats 4000000
namespace K04
open PySem PySem.Spec PyProof.Rows L2 RS


abbrev s_law_made_program : Stmt := top 39
abbrev N_law_made_program : List Str := ["program"]
theorem sc_law_made_program : FnScope N_law_made_program ["program"] (defScope s_law_made_program) := ⟨rfl, rfl, rfl, by decide +kernel, rfl, by decide +kernel, by decide +kernel⟩

def cutI (xs : List Int) (ks : List Nat) : List Int := ks.map fun k => xs.getD k 0
def cI (xs : List Int) (ks : List Nat) : Conf → Conf := fun c => (c.1, cutI c.2 ks)
def pLc : List PyData → Prop := fun ds => ∃ xs, ∃ ks : List Nat, ds = [iD xs, .tuple (kD ks)] ∧ ks.length ≤ 100 ∧ ∀ k ∈ ks, k < xs.length
def rLc : List PyData → PyData → Prop := fun ds y => ∃ xs, ∃ ks : List Nat, ds = [iD xs, .tuple (kD ks)] ∧ y = iD (cutI xs ks)
def pFl (C : Addr) : List PyData → Prop := fun ds => ∃ c l ss, ds = [prD C c l (stD ss)]
def rFl (C : Addr) : List PyData → PyData → Prop := fun ds y => ∃ c l ss, ds = [prD C c l (stD ss)] ∧ y = gD c l ss
def pMp : List PyData → Prop := fun ds => ∃ c l ss, ds = [gD ((c : Nat) : Int) ((l : Nat) : Int) ss] ∧ Prg c l ss
def rMp (C : Addr) : List PyData → PyData → Prop := fun ds y => ∃ c l ss, ds = [gD c l ss] ∧ y = prD C c l (stD ss)
def comesI (c : Conf) (s : Stp) : Bool := decide (c.1 = s.2.2.2) && !lessI c.2 s.2.2.1
def rCo : List PyData → PyData → Prop := fun ds y => ∃ c l ss cf, ∃ k : Nat, ∃ s, ds = [gD c l ss, cD cf, .int k] ∧ ss[k]? = some s ∧ y = .bool (comesI cf s)
section
variable {P : Program} {w : World} {K : PySem.W.Frag} {mg : Str → Option Value} {base : Heap}
theorem ok_law_made {C f : Addr} {fd : FuncData} (F : Fun K "_law_made_program" "_law_made_program" s_law_made_program f fd) (M_Program : MkO P w K mg base "Program" C 5 ["self", "counters", "locations", "steps"] (spNew K C 3 pIn fPr)) : FnOk P w K mg base CX0 7 f fd ["program"] (spR K 1 pMp (rMp C)) := by
  refine fn_pure (ps := ["program"]) F sc_law_made_program fun cdv A2 outer s H E hr => ⟨_, (pss_one (ps_ret (pe_mko M_Program (hr.mono (by decide)) (pa_cons (pe_ix (k_ix (K := K)) (pv 0) pe_int (fun _ _ => rfl)) (pa_cons (pe_ix (k_ix (K := K)) (pv 0) pe_int (fun _ _ => rfl)) (pa_cons (pe_ix (k_ix (K := K)) (pv 0) pe_int (fun _ _ => rfl)) pa_nil)))))), ?_⟩
  rintro ds hl ⟨c, l, ss, rfl, hp⟩
  exact es_ret (ed_prog (t := true) (t2 := true) M_Program.cl hp (ea_cons (ed_op (ed_var rfl) ed_int (rd_ixT rfl)) (ea_cons (ed_op (ed_var rfl) ed_int (rd_ixT rfl)) (ea_cons (ed_op (ed_var rfl) ed_int (rd_ixT (x := stD ss) rfl)) ea_nil)))) ⟨c, l, ss, rfl, rfl⟩
end
end K04
end
section
set_option Elab.async false
set_option linter.all false
set_option autoImplicit false
set_option maxRecDepth 100000
set_option maxHeartbeats 4000000
namespace K04
open PySem PySem.Spec PyProof.Rows L2 RS
abbrev s_law_drawn_configuration : Stmt := top 37
abbrev N_law_drawn_configuration : List Str := ["pen", "counters", "locations", "most", "counter"]
theorem sc_law_drawn_configuration : FnScope N_law_drawn_configuration ["pen", "counters", "locations", "most"] (defScope s_law_drawn_configuration) := ⟨rfl, rfl, rfl, by decide +kernel, rfl, by decide +kernel, by decide +kernel⟩

/-- rows of drawn numbers -/
theorem ints_of {Q : Int → Prop} : ∀ {ys : List PyData}, (∀ z ∈ ys, ∃ r : Int, z = .int r ∧ Q r) → ∃ xs : List Int, ys = xs.map PyData.int ∧ ∀ r ∈ xs, Q r
  | [], _ => ⟨[], rfl, fun r h => absurd h List.not_mem_nil⟩
  | y :: ys, h => by
    obtain ⟨r, rfl, hr⟩ := h y List.mem_cons_self
    obtain ⟨xs, rfl, hx⟩ := ints_of fun z hz => h z (List.mem_cons_of_mem _ hz)
    refine ⟨r :: xs, rfl, fun q hq => ?_⟩
    rcases List.mem_cons.mp hq with rfl | hq
    · exact hr
    · exact hx q hq
def pDc : List PyData → Prop := fun ds => ∃ c l m : Nat, ds = [.int c, .int l, .int m] ∧ c ≤ 100 ∧ 1 ≤ l ∧ l ≤ 1000 ∧ 1 ≤ m ∧ m ≤ 1000
def rDc : List PyData → PyData → Prop := fun ds y => ∃ c l m : Nat, ∃ cf : Conf, ds = [.int c, .int l, .int m] ∧ y = cD cf ∧ 0 ≤ cf.1 ∧ cf.1 < l ∧ cf.2.length = c ∧ ∀ i ∈ cf.2, 0 ≤ i ∧ i < m
section
variable {P : Program} {w : World} {K : PySem.W.Frag} {mg : Str → Option Value} {base : Heap}
theorem ok_law_conf {f : Addr} {fd : FuncData} (F : Fun K "_law_drawn_configuration" "_law_drawn_configuration" s_law_drawn_configuration f fd) (T : Bi mg) (O_law_draw : OwnD P w K mg base 1 "_law_draw" ["pen", "many"] (spP K 1 pDraw 1 rDraw)) : FnOk P w K mg base CX0 2 f fd ["pen", "counters", "locations", "most"] (spP K 3 pDc 101 rDc) := by
  refine fn_pen (ps := ["counters", "locations", "most"]) F sc_law_drawn_configuration fun cdv A outer s H E hr => ⟨_, (pss_one (ps_ret (pe_tup (pa_cons (pe_own O_law_draw (hr.mono (by decide)) (pa_cons (pv 0) (pa_cons (pv 2) pa_nil))) (pa_cons (pe_callTy (k_tuple (K := K)) (by rfl) (T.n_tuple) PyProof.Rows.boot_tuple (pa_cons (pe_lc (own := [("counter", 4)]) rfl sc_law_drawn_configuration.nd (pi_range1 (by rfl) (T.n_range) (pa_cons (pv 1) pa_nil)) (blkOk_by (N := N_law_drawn_configuration) (sc := defScope s_law_drawn_configuration) (by decide +kernel)) (fun _ _ _ _ _ => (pg_name (i := 4) sc_law_drawn_configuration.nd rfl (by first | exact Or.inl rfl | exact Or.inr rfl))) (fun _ _ _ _ _ => pts_nil) (fun _ _ _ _ _ => (pe_own O_law_draw (hr.mono (by decide)) (pa_cons (pv 0) (pa_cons (pv 3) pa_nil))))) pa_nil)) pa_nil))))), ?_⟩
  rintro b ds hb hl ⟨c, l, m, rfl, hc, hl1, hl2, hm1, hm2⟩
  show Es K _ [some (.pen b), some (.d (.int (c : Nat))), some (.d (.int (l : Nat))), some (.d (.int (m : Nat))), none] _
  have hcomp : ∀ q : Nat, q + 100 ≤ LIM → Ev K (tCB (rTupS K) (tCons (tLc (iRng1 (tCons (tVar 1) tNil)) (gName 4) tYes (tCall (spP K 1 pDraw 1 rDraw) [] E0 (tCons (tVar 0) (tCons (tVar 3) tNil))) [4]) tNil)) [some (.pen q), some (.d (.int (c : Nat))), some (.d (.int (l : Nat))), some (.d (.int (m : Nat))), none]
      fun ρ2 y => ∃ xs : List Int, y = iD xs ∧ xs.length = c ∧ (∀ r ∈ xs, 0 ≤ r ∧ r < (m : Int)) ∧ ρ2 = [some (.pen (q + c)), some (.d (.int (c : Nat))), some (.d (.int (l : Nat))), some (.d (.int (m : Nat))), none] := fun q hq =>
    ev_cb (eva_one (ev_lcD (c0 := q) (Q := fun z => ∃ r : Int, z = .int r ∧ 0 ≤ r ∧ r < (m : Int)) (ed_var rfl) (by omega) rfl rfl (by omega) fun c2 x h2 => (ev_draw (c0 := c2) (i := 0) (many := (m : Int)) rfl rfl (ed_var rfl) (by omega) (by omega) h2).imp fun ρ4 y h => h)) fun ρ1 xs h => by
      obtain ⟨y, rfl, ys, rfl, hlen, hq2, rfl⟩ := h
      obtain ⟨zs, rfl, hz⟩ := ints_of (Q := fun r => 0 ≤ r ∧ r < (m : Int)) hq2
      rw [List.length_map] at hlen
      exact ⟨_, rc_tupleL, zs, rfl, hlen, hz, rfl⟩
  have hargs : EvA K (tCons (tCall (spP K 1 pDraw 1 rDraw) [] E0 (tCons (tVar 0) (tCons (tVar 2) tNil))) (tCons (tCB (rTupS K) (tCons (tLc (iRng1 (tCons (tVar 1) tNil)) (gName 4) tYes (tCall (spP K 1 pDraw 1 rDraw) [] E0 (tCons (tVar 0) (tCons (tVar 3) tNil))) [4]) tNil)) tNil)) [some (.pen b), some (.d (.int (c : Nat))), some (.d (.int (l : Nat))), some (.d (.int (m : Nat))), none]
      fun ρ2 ys => ∃ cf : Conf, ys = [.int cf.1, iD cf.2] ∧ 0 ≤ cf.1 ∧ cf.1 < (l : Int) ∧ cf.2.length = c ∧ (∀ r ∈ cf.2, 0 ≤ r ∧ r < (m : Int)) ∧ ρ2 = [some (.pen (b + 1 + c)), some (.d (.int (c : Nat))), some (.d (.int (l : Nat))), some (.d (.int (m : Nat))), none] := by
    refine eva_cons2 (R2 := fun _ _ ρ2 ys => ∃ y, ys = [y] ∧ ∃ xs : List Int, y = iD xs ∧ xs.length = c ∧ (∀ r ∈ xs, 0 ≤ r ∧ r < (m : Int)) ∧ ρ2 = [some (.pen (b + 1 + c)), some (.d (.int (c : Nat))), some (.d (.int (l : Nat))), some (.d (.int (m : Nat))), none]) (ev_draw (c0 := b) (i := 0) (many := (l : Int)) rfl rfl (ed_var rfl) (by omega) (by omega) (by omega)) (fun ρ1 x h1 => ?_) fun ρ1 x ρ2 ys h1 h2 => ?_
    · obtain ⟨rfl, _⟩ := h1
      exact eva_one (hcomp (b + 1) (by omega))
    · obtain ⟨_, r, rfl, hr0, hr1⟩ := h1
      obtain ⟨y, rfl, xs, rfl, h3, h4, h5⟩ := h2
      exact ⟨(r, xs), rfl, hr0, hr1, h3, h4, h5⟩
  refine es_retv (ev_tup (R := fun ρ2 y => ∃ cf : Conf, y = cD cf ∧ 0 ≤ cf.1 ∧ cf.1 < (l : Int) ∧ cf.2.length = c ∧ (∀ r ∈ cf.2, 0 ≤ r ∧ r < (m : Int)) ∧ ρ2 = [some (.pen (b + 1 + c)), some (.d (.int (c : Nat))), some (.d (.int (l : Nat))), some (.d (.int (m : Nat))), none]) hargs fun ρ1 xs h => ?_) fun ρ1 y h => ?_
  · obtain ⟨cf, rfl, h⟩ := h
    exact ⟨by show 2 ≤ 1000; decide, cf, rfl, h⟩
  · obtain ⟨cf, rfl, h1, h2, h3, h4, rfl⟩ := h
    exact ⟨⟨c, l, m, cf, rfl, rfl, h1, h2, h3, h4⟩, b + 1 + c, rfl, by omega⟩
def pDr : List PyData → Prop := fun ds => ∃ c : Nat, ds = [.int c] ∧ c ≤ 100
def rDr : List PyData → PyData → Prop := fun ds y => ∃ c : Nat, ∃ ks : List Nat, ds = [.int c] ∧ y = .tuple (kD ks) ∧ ks.Sublist (List.range c)
end
end K04
end
section
set_option Elab.async false
set_option linter.all false
set_option autoImplicit false
set_option maxRecDepth 100000
set_option maxHeartbeats 4000000
namespace K04
open PySem PySem.Spec PyProof.Rows L2 RS
abbrev s_law_drawn_program : Stmt := top 32
abbrev N_law_drawn_program : List Str := ["pen", "counters", "locations", "most", "steps", "lap", "takes", "counter", "gives"]
theorem sc_law_drawn_program : FnScope N_law_drawn_program ["pen", "counters", "locations", "most"] (defScope s_law_drawn_program) := ⟨rfl, rfl, rfl, by decide +kernel, rfl, by decide +kernel, by decide +kernel⟩
def pDp : List PyData → Prop := fun ds => ∃ c l m : Nat, ds = [.int c, .int l, .int m] ∧ c ≤ 8 ∧ 1 ≤ l ∧ l ≤ 1000 ∧ 1 ≤ m ∧ m ≤ 7
def rDp : List PyData → PyData → Prop := fun ds y => ∃ c l m : Nat, ∃ ss, ds = [.int c, .int l, .int m] ∧ y = gD c l ss ∧ Prg c l ss ∧ ss.length ≤ m
section
variable {P : Program} {w : World} {K : PySem.W.Frag} {mg : Str → Option Value} {base : Heap}
def dEnv (q : Nat) (c l m : Nat) (ss : List Stp) (a b g : Option PyData) : En := [some (.pen q), some (.d (.int (c : Nat))), some (.d (.int (l : Nat))), some (.d (.int (m : Nat))), some (.own (ss.map sD)), a.map Sl.d, b.map Sl.d, none, g.map Sl.d]
theorem dEnv_pen {q r : Nat} {c l m : Nat} {ss : List Stp} {a b g : Option PyData} : setPen r (dEnv q c l m ss a b g) = dEnv r c l m ss a b g := by
  cases a <;> cases b <;> cases g <;> rfl
/-- one row of a step, drawn -/
theorem ev_row {q c l m : Nat} {ss : List Stp} {a b g : Option PyData} (hq : q + c ≤ LIM) (hc : c ≤ 8) :
    Ev K (tCB (rTupS K) (tCons (tLc (iRng1 (tCons (tVar 1) tNil)) (gName 7) tYes (tCall (spP K 1 pPick 1 rPick) [] E0 (tCons (tVar 0) (tCons (tLst (tCons (tC (.int 0)) (tCons (tC (.int 0)) (tCons (tC (.int 1)) (tCons (tC (.int 1)) (tCons (tC (.int 2)) (tCons (tC (.int 3)) tNil))))))) tNil))) [7]) tNil)) (dEnv q c l m ss a b g)
      fun ρ2 y => ∃ xs : List Int, y = iD xs ∧ xs.length = c ∧ (∀ r ∈ xs, (0 : Int) ≤ r) ∧ ρ2 = dEnv (q + c) c l m ss a b g :=
  ev_cb (eva_one (ev_lcD (c0 := q) (Q := fun z => ∃ r : Int, z = .int r ∧ 0 ≤ r) (ed_var rfl) (by omega) dEnv_pen rfl hq fun c2 x h2 => by
    rw [dEnv_pen]
    have hp : setPen c2 ((dEnv c2 c l m ss a b g).set 7 (some (.d x))) = (dEnv c2 c l m ss a b g).set 7 (some (.d x)) := setPen_set dEnv_pen
    refine (ev_pick (c0 := c2) (i := 0) (xs := [.int 0, .int 0, .int 1, .int 1, .int 2, .int 3]) rfl hp (ed_lst (ea_cons ed_int (ea_cons ed_int (ea_cons ed_int (ea_cons ed_int (ea_cons ed_int (ea_cons ed_int ea_nil)))))) (by show 6 ≤ 1000; decide)) (by simp) (by show 6 < 1000000; decide) h2).imp fun ρ4 y h => ⟨h.1, ?_⟩
    have hm := h.2
    simp only [List.mem_cons, List.not_mem_nil, or_false] at hm
    rcases hm with rfl | rfl | rfl | rfl | rfl | rfl <;> exact ⟨_, rfl, by decide⟩)) fun ρ1 xs h => by
      obtain ⟨y, rfl, ys, rfl, hlen, hq2, rfl⟩ := h
      obtain ⟨zs, rfl, hz⟩ := ints_of (Q := fun r => 0 ≤ r) hq2
      rw [List.length_map] at hlen
      exact ⟨_, rc_tupleL, zs, rfl, hlen, hz, dEnv_pen⟩
theorem ok_law_prog {f : Addr} {fd : FuncData} (F : Fun K "_law_drawn_program" "_law_drawn_program" s_law_drawn_program f fd) (T : Bi mg) (O_law_draw : OwnD P w K mg base 1 "_law_draw" ["pen", "many"] (spP K 1 pDraw 1 rDraw)) (O_law_pick : OwnD P w K mg base 2 "_law_pick" ["pen", "row"] (spP K 1 pPick 1 rPick)) : FnOk P w K mg base CX0 3 f fd ["pen", "counters", "locations", "most"] (spP K 3 pDp 200 rDp) := by
  refine fn_pen (ps := ["counters", "locations", "most"]) F sc_law_drawn_program fun cdv A outer s H E hr => ⟨_, (pss_cons (ps_set (i := 4) sc_law_drawn_program.nd rfl (by first | exact Or.inl rfl | exact Or.inr rfl) (pe_lst pa_nil))
      (pss_cons (ps_for PassesOwn.never rfl (pi_range1 (by rfl) (T.n_range) (pa_cons (pe_op op_add pe_int (pe_own O_law_draw (hr.mono (by decide)) (pa_cons (pv 0) (pa_cons (pv 3) pa_nil)))) pa_nil)) (pg_name (i := 5) sc_law_drawn_program.nd rfl (by first | exact Or.inl rfl | exact Or.inr rfl))
        (pss_cons (ps_set (i := 6) sc_law_drawn_program.nd rfl (by first | exact Or.inl rfl | exact Or.inr rfl) (pe_callTy (k_tuple (K := K)) (by rfl) (T.n_tuple) PyProof.Rows.boot_tuple (pa_cons (pe_lc (own := [("counter", 7)]) rfl sc_law_drawn_program.nd (pi_range1 (by rfl) (T.n_range) (pa_cons (pv 1) pa_nil)) (blkOk_by (N := N_law_drawn_program) (sc := defScope s_law_drawn_program) (by decide +kernel)) (fun _ _ _ _ _ => (pg_name (i := 7) sc_law_drawn_program.nd rfl (by first | exact Or.inl rfl | exact Or.inr rfl))) (fun _ _ _ _ _ => pts_nil) (fun _ _ _ _ _ => (pe_own O_law_pick (hr.mono (by decide)) (pa_cons (pv 0) (pa_cons (pe_lst (pa_cons pe_int (pa_cons pe_int (pa_cons pe_int (pa_cons pe_int (pa_cons pe_int (pa_cons pe_int pa_nil))))))) pa_nil))))) pa_nil)))
        (pss_cons (ps_set (i := 8) sc_law_drawn_program.nd rfl (by first | exact Or.inl rfl | exact Or.inr rfl) (pe_callTy (k_tuple (K := K)) (by rfl) (T.n_tuple) PyProof.Rows.boot_tuple (pa_cons (pe_lc (own := [("counter", 7)]) rfl sc_law_drawn_program.nd (pi_range1 (by rfl) (T.n_range) (pa_cons (pv 1) pa_nil)) (blkOk_by (N := N_law_drawn_program) (sc := defScope s_law_drawn_program) (by decide +kernel)) (fun _ _ _ _ _ => (pg_name (i := 7) sc_law_drawn_program.nd rfl (by first | exact Or.inl rfl | exact Or.inr rfl))) (fun _ _ _ _ _ => pts_nil) (fun _ _ _ _ _ => (pe_own O_law_pick (hr.mono (by decide)) (pa_cons (pv 0) (pa_cons (pe_lst (pa_cons pe_int (pa_cons pe_int (pa_cons pe_int (pa_cons pe_int (pa_cons pe_int (pa_cons pe_int pa_nil))))))) pa_nil))))) pa_nil)))
        (pss_one (ps_expr (pe_bm PySem.F.plainAttrs_list PySem.F.slot_list_append PySem.F.type_list_append mt_append (pv 4) (pa_cons (pe_tup (pa_cons (pe_own O_law_draw (hr.mono (by decide)) (pa_cons (pv 0) (pa_cons (pv 2) pa_nil))) (pa_cons (pv 6) (pa_cons (pv 8) (pa_cons (pe_own O_law_draw (hr.mono (by decide)) (pa_cons (pv 0) (pa_cons (pv 2) pa_nil))) pa_nil))))) pa_nil)))))))
      (pss_one (ps_ret (pe_tup (pa_cons (pv 1) (pa_cons (pv 2) (pa_cons (pe_callTy (k_tuple (K := K)) (by rfl) (T.n_tuple) PyProof.Rows.boot_tuple (pa_cons (pv 4) pa_nil)) pa_nil)))))))), ?_⟩
  rintro b ds hb hl ⟨c, l, m, rfl, hc, hl1, hl2, hm1, hm2⟩
  refine eq_ownL (i := 4) ea_nil (by decide) ?_
  show Es K _ (dEnv b c l m [] none none none) _
  have hnum : Ev K (tOp (rI0 fun i j => .int (i + j)) (tC (.int 1)) (tCall (spP K 1 pDraw 1 rDraw) [] E0 (tCons (tVar 0) (tCons (tVar 3) tNil)))) (dEnv b c l m [] none none none) fun ρ1 y => ∃ n : Nat, y = .int (n : Nat) ∧ n ≤ m ∧ ρ1 = dEnv (b + 1) c l m [] none none none := by
    refine ev_op2 (R2 := fun _ _ ρ2 y => ρ2 = dEnv (b + 1) c l m [] none none none ∧ ∃ r : Int, y = .int r ∧ 0 ≤ r ∧ r < (m : Int)) ed_int (fun ρ1 x e => ?_) fun ρ1 x ρ2 y e h => ?_
    · obtain ⟨rfl, rfl⟩ := e
      exact (ev_draw (c0 := b) (i := 0) (many := (m : Int)) rfl rfl (ed_var rfl) (by omega) (by omega) (by omega)).imp fun ρ4 y h => h
    · obtain ⟨rfl, rfl⟩ := e
      obtain ⟨rfl, r, rfl, h0, h1⟩ := h
      refine ⟨_, rd_add, (1 + r).toNat, ?_, by omega, rfl⟩
      rw [Int.toNat_of_nonneg (by omega)]
  refine es_then (es_for (R := fun ρ1 xs => ∃ n : Nat, n ≤ m ∧ xs = rgD n ∧ ρ1 = dEnv (b + 1) c l m [] none none none) (eiv_rng1 (eva_one hnum) fun ρ1 xs h => ?_) fun ρ1 xs h => ?_)
  · obtain ⟨y, rfl, n, rfl, hn, rfl⟩ := h
    exact ⟨(n : Int), rfl, by omega, by omega, n, hn, rfl, rfl⟩
  · obtain ⟨n, hn, rfl, rfl⟩ := h
    refine ⟨fun j ρ => ∃ (ss : List Stp) (x y z : Option PyData), ρ = dEnv (b + 1 + j * (2 * c + 2)) c l m ss x y z ∧ ss.length = j ∧ ∀ s ∈ ss, StOk c l s, ⟨[], none, none, none, by rw [Nat.zero_mul], rfl, fun s h => absurd h List.not_mem_nil⟩, fun j x ρ hx hI => ?_, fun ρ hI => ?_⟩
    · obtain ⟨ss, x1, y1, z1, rfl, hlen, hok⟩ := hI
      obtain ⟨rfl, hj⟩ := rgD_get hx
      have hbud : b + 1 + j * (2 * c + 2) + (2 * c + 2) ≤ LIM := by
        have h1 : j * (2 * c + 2) ≤ 6 * 18 := Nat.mul_le_mul (by omega) (by omega)
        omega
      generalize hq : b + 1 + j * (2 * c + 2) = q at hbud ⊢
      refine ⟨_, _, eg_name, ?_⟩
      show Es K _ (dEnv q c l m ss (some (.int (j : Nat))) y1 z1) _
      refine eqv_set (ev_row (by omega) hc) fun ρ1 t h1 => ?_
      obtain ⟨ts, rfl, ht1, ht2, rfl⟩ := h1
      show Es K _ (dEnv (q + c) c l m ss (some (.int (j : Nat))) (some (iD ts)) z1) _
      refine eqv_set (ev_row (by omega) hc) fun ρ1 t h1 => ?_
      obtain ⟨gs, rfl, hg1, hg2, rfl⟩ := h1
      show Es K _ (dEnv (q + c + c) c l m ss (some (.int (j : Nat))) (some (iD ts)) (some (iD gs))) _
      have hdraw : ∀ q2 : Nat, q2 + 1 ≤ LIM → Ev K (tCall (spP K 1 pDraw 1 rDraw) [] E0 (tCons (tVar 0) (tCons (tVar 2) tNil))) (dEnv q2 c l m ss (some (.int (j : Nat))) (some (iD ts)) (some (iD gs))) fun ρ2 y => ∃ r : Int, y = .int r ∧ 0 ≤ r ∧ r < (l : Int) ∧ ρ2 = dEnv (q2 + 1) c l m ss (some (.int (j : Nat))) (some (iD ts)) (some (iD gs)) := fun q2 h2 =>
        (ev_draw (c0 := q2) (i := 0) (many := (l : Int)) rfl rfl (ed_var rfl) (by omega) (by omega) h2).imp fun ρ4 y h => by
          obtain ⟨rfl, r, rfl, h0, h1⟩ := h
          exact ⟨r, rfl, h0, h1, rfl⟩
      have hstep : Ev K (tTup (tCons (tCall (spP K 1 pDraw 1 rDraw) [] E0 (tCons (tVar 0) (tCons (tVar 2) tNil))) (tCons (tVar 6) (tCons (tVar 8) (tCons (tCall (spP K 1 pDraw 1 rDraw) [] E0 (tCons (tVar 0) (tCons (tVar 2) tNil))) tNil))))) (dEnv (q + c + c) c l m ss (some (.int (j : Nat))) (some (iD ts)) (some (iD gs)))
          fun ρ2 y => ∃ h e : Int, y = sD (h, ts, gs, e) ∧ (0 ≤ h ∧ h < (l : Int)) ∧ (0 ≤ e ∧ e < (l : Int)) ∧ ρ2 = dEnv (q + c + c + 1 + 1) c l m ss (some (.int (j : Nat))) (some (iD ts)) (some (iD gs)) := by
        refine ev_tup (R1 := fun ρ2 xs => ∃ h e : Int, xs = [.int h, iD ts, iD gs, .int e] ∧ (0 ≤ h ∧ h < (l : Int)) ∧ (0 ≤ e ∧ e < (l : Int)) ∧ ρ2 = dEnv (q + c + c + 1 + 1) c l m ss (some (.int (j : Nat))) (some (iD ts)) (some (iD gs))) (eva_cons2 (R2 := fun _ _ ρ2 xs => ∃ zs, xs = iD ts :: zs ∧ ∃ us, zs = iD gs :: us ∧ ∃ y, us = [y] ∧ ∃ e : Int, y = .int e ∧ 0 ≤ e ∧ e < (l : Int) ∧ ρ2 = dEnv (q + c + c + 1 + 1) c l m ss (some (.int (j : Nat))) (some (iD ts)) (some (iD gs))) (hdraw _ (by omega)) (fun ρ1 x h1 => ?_) fun ρ1 x ρ2 xs h1 h2 => ?_) fun ρ1 xs h => ?_
        · obtain ⟨r, rfl, _, _, rfl⟩ := h1
          exact eva_consd (ed_var rfl) (eva_consd (ed_var rfl) (eva_one (hdraw _ (by omega))))
        · obtain ⟨h, rfl, hh0, hh1, _⟩ := h1
          obtain ⟨zs, rfl, us, rfl, y, rfl, e, rfl, he0, he1, h3⟩ := h2
          exact ⟨h, e, rfl, ⟨hh0, hh1⟩, ⟨he0, he1⟩, h3⟩
        · obtain ⟨h, e, rfl, h1⟩ := h
          exact ⟨by show 4 ≤ 1000; decide, h, e, rfl, h1⟩
      refine esv_app (i := 4) (xs := ss.map sD) rfl (by rw [List.length_map, hlen]; omega) hstep fun ρ1 y h1 => ?_
      obtain ⟨h, e, rfl, hh, he, rfl⟩ := h1
      refine ⟨rfl, ss ++ [(h, ts, gs, e)], some (.int (j : Nat)), some (iD ts), some (iD gs), ?_, by rw [List.length_append, hlen]; rfl, fun s hs => ?_⟩
      · have e1 : b + 1 + (j + 1) * (2 * c + 2) = q + c + c + 1 + 1 := by rw [← hq, Nat.add_mul]; omega
        rw [e1]
        unfold dEnv
        rw [List.map_append]; rfl
      · rcases List.mem_append.mp hs with hs | hs
        · exact hok s hs
        · rw [List.mem_singleton.mp hs]
          exact ⟨hh, he, ⟨ht1, ht2⟩, ⟨hg1, hg2⟩⟩
    · obtain ⟨ss, x1, y1, z1, rfl, hlen, hok⟩ := hI
      refine es_disown (i := 4) (xs := ss.map sD) rfl ?_
      have hl7 : ss.length ≤ 8 := by rw [hlen, rgD_len]; omega
      refine es_ret (x := gD c l ss) (ed_tup (ea_cons (ed_var (by cases x1 <;> cases y1 <;> cases z1 <;> rfl)) (ea_cons (ed_var (by cases x1 <;> cases y1 <;> cases z1 <;> rfl)) (ea_cons (ed_cb (ea_cons (ed_var (by cases x1 <;> cases y1 <;> cases z1 <;> rfl)) ea_nil) rc_tupleL) ea_nil))) (by show 3 ≤ 1000; decide)) ⟨⟨c, l, m, ss, rfl, rfl, ⟨hc, hl1, hl7, hok⟩, by rw [hlen, rgD_len]; exact hn⟩, _, rfl, ?_⟩
      have h1 : (rgD n).length * (2 * c + 2) ≤ 7 * 18 := Nat.mul_le_mul (by rw [rgD_len]; omega) (by omega)
      omega
end
end K04
end
section
set_option Elab.async false
set_option linter.all false
set_option autoImplicit false
set_option maxRecDepth 100000
set_option maxHeartbeats 4000000
namespace K04
open PySem PySem.Spec PyProof.Rows L2 RS

/-- which steps can be done -/
def canI (ss : List Stp) (cf : Conf) (k : Nat) : Bool := match ss[k]? with
  | some s => (nextI cf s).isSome
  | none => false
def ables (ss : List Stp) (cf : Conf) : List Nat := (List.range ss.length).filter (canI ss cf)
def canD (ss : List Stp) (cf : Conf) : PyData → Bool
  | .int i => canI ss cf i.toNat
  | _ => false
theorem ables_D (ss : List Stp) (cf : Conf) : (rgD ss.length).filter (canD ss cf) = kD (ables ss cf) := by
  unfold rgD kD ables
  rw [List.filter_map]
  congr 1
theorem optD_non (o : Option Conf) : (!isNon (optD o)) = o.isSome := by cases o <;> rfl
section
variable {P : Program} {w : World} {K : PySem.W.Frag} {mg : Str → Option Value} {base : Heap}
theorem ed_next {E : XK} {ρ : En} {ta tb tc : TE} {c l : Int} {ss : List Stp} {cf : Conf} {k : Nat} {s : Stp} (h1 : Ed K ta ρ (gD c l ss)) (h2 : Ed K tb ρ (cD cf)) (h3 : Ed K tc ρ (.int (k : Nat))) (hs : SsOk ss) (hx : Sm cf.2) (hk : ss[k]? = some s) :
    Ed K (tCall (spR K 3 pLn rLn) [] E (tCons ta (tCons tb (tCons tc tNil)))) ρ (optD (nextI cf s)) :=
  ed_call (ea_cons h1 (ea_cons h2 (ea_cons h3 ea_nil))) rfl ⟨c, l, ss, cf, k, rfl, hs, (List.getElem?_eq_some_iff.mp hk).1, hx⟩ fun z hz => by
    obtain ⟨c2, l2, ss2, cf2, k2, s2, e, hk2, rfl⟩ := hz
    injection e with e1 e
    injection e with e2 e
    injection e with e3 _
    obtain ⟨_, _, rfl⟩ := gD_inj e1
    have := cD_inj e2
    subst this
    injection e3 with e3
    have : k = k2 := Int.ofNat_inj.mp e3
    subst this
    rw [hk] at hk2
    cases hk2; rfl
theorem ed_able {E : XK} {ρ : En} {ip is_ iv : Nat} {c l : Int} {ss : List Stp} {cf : Conf} {c0 : Nat} (hp : ρ[ip]? = some (some (.d (gD c l ss)))) (hs : ρ[is_]? = some (some (.d (cD cf)))) (hv : ρ[iv]? = some none) (pen : setPen c0 ρ = ρ) (ok : SsOk ss) (sm : Sm cf.2) (n1 : iv ≠ ip) (n2 : iv ≠ is_) :
    Ed K (tLc (iRng1 (tCons (tCB (rLenS K) (tCons (tOp (rIx K) (tVar ip) (tC (.int 2))) tNil)) tNil)) (gName iv) (tTest (tOp rNotN (tCall (spR K 3 pLn rLn) [] E (tCons (tVar ip) (tCons (tVar is_) (tCons (tVar iv) tNil)))) (tC .non))) (tVar iv) [iv]) ρ (.list (kD (ables ss cf))) := by
  have hl := ok.len
  have hlen : Ed K (tCB (rLenS K) (tCons (tOp (rIx K) (tVar ip) (tC (.int 2))) tNil)) ρ (.int (ss.map sD).length) := ed_lenS (t := true) (ed_op (ed_var hp) ed_int (rd_ixT (x := stD ss) rfl)) rfl
  have hr : Ei K (iRng1 (tCons (tCB (rLenS K) (tCons (tOp (rIx K) (tVar ip) (tC (.int 2))) tNil)) tNil)) ρ (rgD ss.length) := by
    have h := ei_rng1 (ea_cons hlen ea_nil) (by rw [List.length_map]; omega) (by rw [List.length_map]; omega)
    rw [Int.toNat_natCast, List.length_map] at h
    exact h
  have h := ed_lcNT (K := K) c0 (canD ss cf) (fun y => y) hr (by rw [rgD_len]; omega) pen (fun j hj => by rw [List.mem_singleton.mp hj]; exact hv) (vs := [iv]) (g := gName iv) (tt := tTest (tOp rNotN (tCall (spR K 3 pLn rLn) [] E (tCons (tVar ip) (tCons (tVar is_) (tCons (tVar iv) tNil)))) (tC .non))) (te := tVar iv) fun y hy => by
    obtain ⟨k, hk⟩ := List.mem_iff_getElem?.mp hy
    obtain ⟨rfl, hlt⟩ := rgD_get hk
    obtain ⟨s, hs2⟩ : ∃ s, ss[k]? = some s := ⟨_, List.getElem?_eq_getElem hlt⟩
    have hil : iv < ρ.length := (List.getElem?_eq_some_iff.mp hv).1
    have g1 : (ρ.set iv (some (Sl.d (.int (k : Nat)))))[ip]? = some (some (.d (gD c l ss))) := by rw [List.getElem?_set_ne n1]; exact hp
    have g2 : (ρ.set iv (some (Sl.d (.int (k : Nat)))))[is_]? = some (some (.d (cD cf))) := by rw [List.getElem?_set_ne n2]; exact hs
    have g3 : (ρ.set iv (some (Sl.d (.int (k : Nat)))))[iv]? = some (some (.d (.int (k : Nat)))) := List.getElem?_set_self hil
    refine ⟨[iv], _, fun j hj => hj, eg_name, setPen_set pen, (eb_test (ed_op (ed_next (ed_var g1) (ed_var g2) (ed_var g3) ok sm hs2) ed_non rd_notN)).to ?_, fun _ => ed_var g3⟩
    rw [optD_non]
    show _ = canI ss cf ((k : Nat) : Int).toNat
    rw [Int.toNat_natCast]
    unfold canI
    rw [hs2]
  rw [ables_D, List.map_id'] at h
  exact h
/-- a configuration that is drawn -/
def CfI (c l : Nat) (cf : Conf) : Prop := 0 ≤ cf.1 ∧ cf.1 < (l : Int) ∧ cf.2.length = c ∧ ∀ i ∈ cf.2, (0 : Int) ≤ i
theorem ev_conf {ρ : En} {E : XK} {tc tl tm : TE} {c0 c l m : Nat} (hi : ρ[0]? = some (some (Sl.pen c0))) (pen : setPen c0 ρ = ρ) (h1 : Ed K tc ρ (.int (c : Nat))) (h2 : Ed K tl ρ (.int (l : Nat))) (h3 : Ed K tm ρ (.int (m : Nat))) (hc : c ≤ 100) (hl1 : 1 ≤ l) (hl2 : l ≤ 1000) (hm1 : 1 ≤ m) (hm2 : m ≤ 1000) (hb : c0 + 101 ≤ LIM) :
    Ev K (tCall (spP K 3 pDc 101 rDc) [] E (tCons (tVar 0) (tCons tc (tCons tl (tCons tm tNil))))) ρ fun ρ2 y => ρ2 = setPen (c0 + 101) ρ ∧ ∃ cf, y = cD cf ∧ CfI c l cf :=
  ev_callP hi (ea_cons h1 (ea_cons h2 (ea_cons h3 ea_nil))) fun ρ1 ds e => by
    obtain ⟨rfl, rfl⟩ := e
    refine ⟨c0, pen.symm, rfl, ⟨c, l, m, rfl, hc, hl1, hl2, hm1, hm2⟩, hb, fun y hy => ?_⟩
    obtain ⟨c2, l2, m2, cf, e, rfl, g1, g2, g3, g4⟩ := hy
    injection e with e1 e
    injection e with e2 _
    injection e1 with e1
    injection e2 with e2
    have e1 : c = c2 := Int.ofNat_inj.mp e1
    have e2 : l = l2 := Int.ofNat_inj.mp e2
    subst e1 e2
    exact ⟨rfl, cf, rfl, g1, g2, g3, fun i hi => (g4 i hi).1⟩
theorem SsOk.of {c l : Nat} {ss : List Stp} (h : Prg c l ss) : SsOk ss := ⟨Nat.le_trans h.n (by decide), fun s hs => by
  have := h.c8
  have h1 := (h.st s hs).t.1
  have h2 := (h.st s hs).g.1
  exact ⟨(by show s.2.1.length ≤ 100; omega), (by show s.2.2.1.length ≤ 100; omega)⟩⟩
def pLv : List PyData → Prop := fun ds => ∃ c l m : Nat, ∃ ss, ds = [gD c l ss, .int m] ∧ Prg c l ss ∧ l ≤ 1000 ∧ 1 ≤ m ∧ m ≤ 100
def rLv : List PyData → PyData → Prop := fun ds y => ∃ c l m : Nat, ∃ ss cf, ds = [gD c l ss, .int m] ∧ y = cD cf ∧ CfI c l cf
end
end K04
end
section
set_option Elab.async false
set_option linter.all false
set_option autoImplicit false
set_option maxRecDepth 100000
set_option maxHeartbeats 1000000
namespace K04
open PySem PySem.Spec PyProof.Rows L2 RS
/-! the mathematics of turned: rows of like length -/
theorem less_cons (x t : Int) (xs ts : List Int) : lessI (x :: xs) (t :: ts) = (decide (x < t) || lessI xs ts) := rfl
theorem z3_cons (x t g : Int) (xs ts gs : List Int) : z3I (x :: xs) (t :: ts) (g :: gs) = (x - t + g) :: z3I xs ts gs := rfl
theorem z3_len : ∀ {n : Nat} {xs ts gs : List Int}, xs.length = n → ts.length = n → gs.length = n → (z3I xs ts gs).length = n
  | 0, [], [], [], _, _, _ => rfl
  | n + 1, x :: xs, t :: ts, g :: gs, h1, h2, h3 => by
    rw [z3_cons, List.length_cons, z3_len (n := n) (by simpa using h1) (by simpa using h2) (by simpa using h3)]
theorem z3_nat : ∀ {n : Nat} {xs ts gs : List Int}, xs.length = n → ts.length = n → gs.length = n → lessI xs ts = false → (∀ g ∈ gs, (0 : Int) ≤ g) → ∀ y ∈ z3I xs ts gs, (0 : Int) ≤ y
  | 0, [], [], [], _, _, _, _, _ => fun y hy => absurd hy List.not_mem_nil
  | n + 1, x :: xs, t :: ts, g :: gs, h1, h2, h3, hl, hg => fun y hy => by
    rw [less_cons, Bool.or_eq_false_iff] at hl
    rw [z3_cons] at hy
    have h5 : ¬ x < t := of_decide_eq_false hl.1
    have h6 := hg g List.mem_cons_self
    rcases List.mem_cons.mp hy with rfl | hy
    · omega
    · exact z3_nat (n := n) (by simpa using h1) (by simpa using h2) (by simpa using h3) hl.2 (fun g' hg' => hg g' (List.mem_cons_of_mem _ hg')) y hy
/-- what was given can be taken back, and leads back -/
theorem z3_back : ∀ {n : Nat} {xs ts gs : List Int}, xs.length = n → ts.length = n → gs.length = n → lessI xs ts = false → lessI (z3I xs ts gs) gs = false ∧ z3I (z3I xs ts gs) gs ts = xs
  | 0, [], [], [], _, _, _, _ => ⟨rfl, rfl⟩
  | n + 1, x :: xs, t :: ts, g :: gs, h1, h2, h3, hl => by
    rw [less_cons, Bool.or_eq_false_iff] at hl
    have h5 : ¬ x < t := of_decide_eq_false hl.1
    obtain ⟨h6, h7⟩ := z3_back (n := n) (by simpa using h1) (by simpa using h2) (by simpa using h3) hl.2
    rw [z3_cons, less_cons, z3_cons, h6, h7]
    refine ⟨?_, ?_⟩
    · have : ¬ (x - t + g < g) := by omega
      rw [decide_eq_false this]; rfl
    · congr 1; omega
theorem next_some {a b : Conf} {s : Stp} (h : nextI a s = some b) : a.1 = s.1 ∧ lessI a.2 s.2.1 = false ∧ b = (s.2.2.2, z3I a.2 s.2.1 s.2.2.1) := by
  unfold nextI at h
  split at h
  · rename_i h1
    split at h
    · cases h
    · rename_i h2
      cases h
      exact ⟨h1, by cases e : lessI a.2 s.2.1; rfl; exact absurd e h2, rfl⟩
  · cases h
theorem next_is {a : Conf} {s : Stp} (h1 : a.1 = s.1) (h2 : lessI a.2 s.2.1 = false) : nextI a s = some (s.2.2.2, z3I a.2 s.2.1 s.2.2.1) := by
  unfold nextI
  rw [if_pos h1, if_neg (by rw [h2]; exact Bool.false_ne_true)]
theorem next_ok {c l : Nat} {a b : Conf} {s : Stp} (hs : StOk c l s) (ha : CfI c l a) (h : nextI a s = some b) : CfI c l b := by
  obtain ⟨h1, h2, rfl⟩ := next_some h
  exact ⟨hs.to.1, hs.to.2, z3_len ha.2.2.1 hs.t.1 hs.g.1, z3_nat ha.2.2.1 hs.t.1 hs.g.1 h2 hs.g.2⟩
theorem next_back {c l : Nat} {a b : Conf} {s : Stp} (hs : StOk c l s) (ha : CfI c l a) (h : nextI a s = some b) : nextI b (trI s) = some a := by
  obtain ⟨h1, h2, rfl⟩ := next_some h
  obtain ⟨h3, h4⟩ := z3_back ha.2.2.1 hs.t.1 hs.g.1 h2
  have := next_is (a := (s.2.2.2, z3I a.2 s.2.1 s.2.2.1)) (s := trI s) rfl h3
  rw [this]
  show some (s.1, z3I (z3I a.2 s.2.1 s.2.2.1) s.2.2.1 s.2.1) = some a
  rw [h4, ← h1]
theorem tr_tr (s : Stp) : trI (trI s) = s := rfl
theorem tr_map (ss : List Stp) : (ss.map trI).map trI = ss := by
  rw [List.map_map]
  exact (List.map_congr_left fun s _ => tr_tr s).trans (List.map_id' ss)
/-- no step of the turned program comes to a exactly if a was not come to -/
theorem comes_none {a : Conf} {s : Stp} (h : nextI a (trI s) = none) : comesI a s = false := by
  unfold comesI
  unfold nextI at h
  split at h
  · split at h
    · rename_i h1 h2
      have h3 : lessI a.2 s.2.2.1 = true := h2
      rw [h3, Bool.not_true, Bool.and_false]
    · cases h
  · rename_i h1
    have h3 : ¬ a.1 = s.2.2.2 := h1
    rw [decide_eq_false h3, Bool.false_and]
theorem run_snoc (ss : List Stp) (k : Nat) : ∀ (ks : List Nat) (c : Conf), runI ss (ks ++ [k]) c = (runI ss ks c).bind fun d => (ss[k]?).bind fun s => nextI d s
  | [], c => by
    show runI ss [k] c = _
    unfold runI
    cases ss[k]? with
    | none => rfl
    | some s =>
      show (match nextI c s with | none => none | some c2 => runI ss [] c2) = nextI c s
      cases nextI c s <;> rfl
  | j :: ks, c => by
    rw [List.cons_append]
    unfold runI
    cases ss[j]? with
    | none => rfl
    | some s =>
      dsimp only
      cases nextI c s with
      | none => rfl
      | some c2 => exact run_snoc ss k ks c2
theorem run_ok {c l : Nat} {ss : List Stp} (hp : Prg c l ss) : ∀ {ks : List Nat} {a e : Conf}, CfI c l a → runI ss ks a = some e → CfI c l e
  | [], a, e, ha, h => by unfold runI at h; cases h; exact ha
  | k :: ks, a, e, ha, h => by
    unfold runI at h
    cases hk : ss[k]? with
    | none => rw [hk] at h; cases h
    | some s =>
      rw [hk] at h
      dsimp only at h
      cases hn : nextI a s with
      | none => rw [hn] at h; cases h
      | some a2 =>
        rw [hn] at h
        exact run_ok hp (next_ok (hp.st s (List.mem_of_getElem? hk)) ha hn) h
/-- a run leads back in the turned program -/
theorem run_back {c l : Nat} {ss : List Stp} (hp : Prg c l ss) : ∀ {ks : List Nat} {a e : Conf}, CfI c l a → runI ss ks a = some e → runI (ss.map trI) ks.reverse e = some a
  | [], a, e, ha, h => by unfold runI at h; cases h; rfl
  | k :: ks, a, e, ha, h => by
    unfold runI at h
    cases hk : ss[k]? with
    | none => rw [hk] at h; cases h
    | some s =>
      rw [hk] at h
      dsimp only at h
      cases hn : nextI a s with
      | none => rw [hn] at h; cases h
      | some a2 =>
        rw [hn] at h
        have hs := hp.st s (List.mem_of_getElem? hk)
        have ih := run_back hp (next_ok hs ha hn) h
        rw [List.reverse_cons, run_snoc, ih]
        show ((ss.map trI)[k]?).bind (fun s => nextI a2 s) = some a
        rw [List.getElem?_map, hk]
        exact next_back hs ha hn
end K04
end
section
set_option Elab.async false
set_option linter.all false
set_option autoImplicit false
set_option maxRecDepth 100000
set_option maxHeartbeats 4000000
namespace K04
open PySem PySem.Spec PyProof.Rows L2 RS
abbrev s_all_behind : Stmt := top 24
abbrev N_all_behind : List Str := ["program", "configuration", "behind", "k", "step", "there"]
theorem sc_all_behind : FnScope N_all_behind ["program", "configuration"] (defScope s_all_behind) := ⟨rfl, rfl, rfl, by decide +kernel, rfl, by decide +kernel, by decide +kernel⟩
abbrev s_steps_at : Stmt := top 25
abbrev N_steps_at : List Str := ["program", "configuration", "k", "_"]
theorem sc_steps_at : FnScope N_steps_at ["program", "configuration"] (defScope s_steps_at) := ⟨rfl, rfl, rfl, by decide +kernel, rfl, by decide +kernel, by decide +kernel⟩
/-! which steps can be done, and what is raised -/
def stAt (ss : List Stp) (k : Nat) : PyData := match ss[k]? with
  | some s => .tuple [.int (k : Nat), sD s]
  | none => .none
def enAt (ss : List Stp) (cf : Conf) (k : Nat) : PyData := match ss[k]? with
  | some s => .tuple [.int (k : Nat), optD (nextI cf s)]
  | none => .none
theorem en_st (ss : List Stp) : enD (ss.map sD) = (List.range ss.length).map (stAt ss) := by
  apply List.ext_getElem?
  intro i
  unfold enD
  rw [List.getElem?_map, List.getElem?_zipIdx, List.getElem?_map, List.getElem?_map]
  by_cases h : i < ss.length
  · rw [List.getElem?_range h, List.getElem?_eq_getElem h]
    simp [stAt, List.getElem?_eq_getElem h]
  · rw [List.getElem?_eq_none (l := ss) (by omega), List.getElem?_eq_none (l := List.range ss.length) (by rw [List.length_range]; omega)]; rfl
theorem st_inj {ss : List Stp} {cf : Conf} {a b : Nat} (h : stAt ss a = stAt ss b) : enAt ss cf a = enAt ss cf b := by
  unfold stAt at h
  unfold enAt
  cases ha : ss[a]? with
  | none =>
    rw [ha] at h
    cases hb : ss[b]? with
    | none => rfl
    | some t => rw [hb] at h; cases h
  | some s =>
    rw [ha] at h
    cases hb : ss[b]? with
    | none => rw [hb] at h; cases h
    | some t =>
      rw [hb] at h
      injection h with h
      injection h with h1 h2
      injection h1 with h1
      obtain rfl := Int.ofNat_inj.mp h1
      rw [ha] at hb
      cases hb; rfl
def thereB : PyData → Bool
  | .tuple [_, t] => !isNon t
  | _ => false
def fstD : PyData → PyData
  | .tuple [k, _] => k
  | y => y
def abL (ss : List Stp) (cf : Conf) : List PyData := ((List.range ss.length).map (enAt ss cf)).filter thereB
theorem abL_fst (ss : List Stp) (cf : Conf) : (abL ss cf).map fstD = kD (ables ss cf) := by
  unfold abL ables kD
  rw [List.filter_map, List.map_map]
  have e : ∀ k ∈ List.range ss.length, (thereB ∘ enAt ss cf) k = canI ss cf k := fun k hk => by
    have hlt := List.mem_range.mp hk
    show thereB (enAt ss cf k) = canI ss cf k
    unfold enAt canI
    rw [List.getElem?_eq_getElem hlt]
    show (!isNon (optD _)) = _
    rw [optD_non]
  rw [List.filter_congr e]
  refine List.map_congr_left fun k hk => ?_
  have hlt := List.mem_range.mp (List.mem_filter.mp hk).1
  show fstD (enAt ss cf k) = _
  unfold enAt
  rw [List.getElem?_eq_getElem hlt]; rfl
theorem abL_is {ss : List Stp} {cf : Conf} {y : PyData} (h : y ∈ abL ss cf) : ∃ k t, y = .tuple [k, t] := by
  unfold abL at h
  obtain ⟨h, _⟩ := List.mem_filter.mp h
  obtain ⟨k, hk, rfl⟩ := List.mem_map.mp h
  have hlt := List.mem_range.mp hk
  unfold enAt
  rw [List.getElem?_eq_getElem hlt]
  exact ⟨_, _, rfl⟩
theorem abL_len (ss : List Stp) (cf : Conf) : (abL ss cf).length ≤ ss.length := by
  unfold abL
  refine Nat.le_trans (List.length_filter_le _ _) ?_
  rw [List.length_map, List.length_range]; omega
def pAb (C : Addr) : List PyData → Prop := fun ds => ∃ c l ss cf, ds = [prD C c l (stD ss), cD cf] ∧ SsOk ss ∧ Sm cf.2
def rAb (C : Addr) : List PyData → PyData → Prop := fun ds y => ∃ c l ss cf, ds = [prD C c l (stD ss), cD cf] ∧ y = .list (abL ss cf)
def pSa (C : Addr) : List PyData → Prop := fun ds => ∃ c l ss cf, ds = [prD C c l (stD ss), cD cf] ∧ SsOk ss ∧ CfOk c l cf
def rSa (C : Addr) : List PyData → PyData → Prop := fun ds y => ∃ c l ss cf, ds = [prD C c l (stD ss), cD cf] ∧ y = .tuple (kD (ables ss cf))
/-! raising -/
def pNcX (C : Addr) : List PyData → Prop := fun ds => ∃ c l st x, ds = [prD C c l st, x] ∧ Ok x ∧ confD c l x = false
def kvNc : List PyData → List (PyData × PyData)
  | _ :: x :: _ => [(.str "configuration", x)]
  | _ => []
def pNxX (C : Addr) : List PyData → Prop := fun ds => ∃ c l st x k, ds = [prD C c l st, x, k] ∧ Ok x ∧ confD c l x = false
def pNxK (C : Addr) : List PyData → Prop := fun ds => ∃ c l ss cf x, ds = [prD C c l (stD ss), cD cf, x] ∧ CfOk c l cf ∧ Kd x ∧ belD (ss.length : Nat) x = false
def kvNk : List PyData → List (PyData × PyData)
  | [_, _, k] => [(.str "number", k), (.str "what", .str "step")]
  | _ => []
section
variable {P : Program} {w : World} {K : PySem.W.Frag} {mg : Str → Option Value} {base : Heap}
theorem ok_all_behind {C f : Addr} {fd : FuncData} (F : Fun K "_all_behind" "_all_behind" s_all_behind f fd) (T : Bi mg) (A : PrA K C) (O_behind : OwnD P w K mg base 1 "_behind" ["configuration", "step"] (spR K 2 pBe rBe)) : FnOk P w K mg base CX0 2 f fd ["program", "configuration"] (spR K 2 (pAb C) (rAb C)) := by
  refine fn_pure (ps := ["program", "configuration"]) F sc_all_behind fun cdv A2 outer s H E hr => ⟨_, (pss_cons (ps_setLc (i := 2) (own := [("k", 3), ("step", 4)]) rfl sc_all_behind.nd rfl rfl (sw_true rfl rfl rfl (by decide +kernel)) (kpi_en (K := K) (by rfl) (T.n_enumerate) (pa_cons (kpe_fld (K := K) (pv 0) rfl) pa_nil)) (blkOk_by (N := N_all_behind) (sc := defScope s_all_behind) (by decide +kernel)) (fun _ _ _ _ _ => (kpg_tup (K := K) 2 rfl (pgs_cons (pg_name (i := 3) sc_all_behind.nd rfl (by first | exact Or.inl rfl | exact Or.inr rfl)) (pgs_cons (pg_name (i := 4) sc_all_behind.nd rfl (by first | exact Or.inl rfl | exact Or.inr rfl)) pgs_nil)))) (fun _ _ _ _ _ => pts_nil) (fun _ _ _ _ _ => (pe_tup (pa_cons (pv 3) (pa_cons (pe_own O_behind (hr.mono (by decide)) (pa_cons (pv 1) (pa_cons (pv 4) pa_nil))) pa_nil)))))
      (pss_one (ps_ret (pe_lc (own := [("k", 3), ("there", 5)]) rfl sc_all_behind.nd (kpi_list (K := K) (pv 2)) (blkOk_by (N := N_all_behind) (sc := defScope s_all_behind) (by decide +kernel)) (fun _ _ _ _ _ => (kpg_tup (K := K) 2 rfl (pgs_cons (pg_name (i := 3) sc_all_behind.nd rfl (by first | exact Or.inl rfl | exact Or.inr rfl)) (pgs_cons (pg_name (i := 5) sc_all_behind.nd rfl (by first | exact Or.inl rfl | exact Or.inr rfl)) pgs_nil)))) (fun _ _ _ _ _ => (pts_one (pt_cmpR op_notN (pv 5) pe_non (nomark _)))) (fun _ _ _ _ _ => (pe_tup (pa_cons (pv 3) (pa_cons (pv 5) pa_nil)))))))), ?_⟩
  rintro ds hl ⟨c, l, ss, cf, rfl, hs, hc⟩
  have hsl := hs.len
  have src : Ei K (iEn K (tCons (tFld K (tVar 0) "steps") tNil)) (startE N_all_behind [prD C c l (stD ss), cD cf]) ((List.range ss.length).map (stAt ss)) := by
    rw [← en_st]
    exact ei_en (t := true) (ea_cons (ed_ps A (ed_var rfl)) ea_nil) rfl
  refine eq_set (ed_lcG (stAt ss) (enAt ss cf) (fun a b h => st_inj h) (List.range ss.length) 0 src (by rw [List.length_range]; omega) rfl (fun j hj => ?_) fun k hk => ?_) ?_
  · simp only [List.mem_cons, List.not_mem_nil, or_false, List.map_cons, List.map_nil] at hj
    rcases hj with rfl | rfl <;> rfl
  · have hlt := List.mem_range.mp hk
    have hm := hs.sm ss[k] (List.getElem_mem hlt)
    have e1 : stAt ss k = .tuple [.int (k : Nat), sD ss[k]] := by unfold stAt; rw [List.getElem?_eq_getElem hlt]
    have e2 : enAt ss cf k = .tuple [.int (k : Nat), optD (nextI cf ss[k])] := by unfold enAt; rw [List.getElem?_eq_getElem hlt]
    rw [e1, e2]
    refine ⟨_, _, fun j hj => ?_, eg_two, rfl, ed_tup (ea_cons (ed_var rfl) (ea_cons (ed_be (ed_var rfl) (ed_var rfl) hc hm.1 hm.2) ea_nil)) (by show 2 ≤ 1000; decide)⟩
    exact hj
  · show Es K _ [some (.d (prD C c l (stD ss))), some (.d (cD cf)), some (.d (.list ((List.range ss.length).map (enAt ss cf)))), none, none, none] _
    have h := ed_lcNT (K := K) (ρ := [some (.d (prD C c l (stD ss))), some (.d (cD cf)), some (.d (.list ((List.range ss.length).map (enAt ss cf)))), none, none, none]) (wi := iList K (tVar 2)) (g := gTup K 2 (gCons (gName 3) (gCons (gName 5) gNil))) (tt := tTest (tOp rNotN (tVar 5) (tC .non))) (te := tTup (tCons (tVar 3) (tCons (tVar 5) tNil))) (vs := [3, 5]) 0 thereB (fun y => y) (ei_list (ed_var rfl)) (by rw [List.length_map, List.length_range]; omega) rfl (fun j hj => ?_) fun y hy => ?_
    · rw [List.map_id'] at h
      exact es_ret h ⟨c, l, ss, cf, rfl, rfl⟩
    · simp only [List.mem_cons, List.not_mem_nil, or_false] at hj
      rcases hj with rfl | rfl <;> rfl
    · obtain ⟨k, hk, rfl⟩ := List.mem_map.mp hy
      have hlt := List.mem_range.mp hk
      have e2 : enAt ss cf k = .tuple [.int (k : Nat), optD (nextI cf ss[k])] := by unfold enAt; rw [List.getElem?_eq_getElem hlt]
      rw [e2]
      exact ⟨[3, 5], _, fun j hj => hj, eg_two, rfl, eb_test (ed_op (ed_var rfl) ed_non rd_notN), fun _ => ed_tup (ea_cons (ed_var rfl) (ea_cons (ed_var rfl) ea_nil)) (by show 2 ≤ 1000; decide)⟩
theorem ok_steps_at {C f : Addr} {fd : FuncData} (F : Fun K "steps_at" "steps_at" s_steps_at f fd) (T : Bi mg) (Oneed_configuration : OwnD P w K mg base 6 "need_configuration" ["program", "value"] (spR K 2 (pNc C) rNone)) (O_all_behind : OwnD P w K mg base 2 "_all_behind" ["program", "configuration"] (spR K 2 (pAb C) (rAb C))) : FnOk P w K mg base CX0 7 f fd ["program", "configuration"] (spR K 2 (pSa C) (rSa C)) := by
  refine fn_pure (ps := ["program", "configuration"]) F sc_steps_at fun cdv A2 outer s H E hr => ⟨_, (pss_cons (ps_expr (pe_own Oneed_configuration (hr.mono (by decide)) (pa_cons (pv 0) (pa_cons (pv 1) pa_nil))))
      (pss_one (ps_ret (pe_callTy (k_tuple (K := K)) (by rfl) (T.n_tuple) PyProof.Rows.boot_tuple (pa_cons (pe_lc (own := [("k", 2), ("_", 3)]) rfl sc_steps_at.nd (kpi_seq (K := K) (pe_own O_all_behind (hr.mono (by decide)) (pa_cons (pv 0) (pa_cons (pv 1) pa_nil)))) (blkOk_by (N := N_steps_at) (sc := defScope s_steps_at) (by decide +kernel)) (fun _ _ _ _ _ => (kpg_tup (K := K) 2 rfl (pgs_cons (pg_name (i := 2) sc_steps_at.nd rfl (by first | exact Or.inl rfl | exact Or.inr rfl)) (pgs_cons (pg_name (i := 3) sc_steps_at.nd rfl (by first | exact Or.inl rfl | exact Or.inr rfl)) pgs_nil)))) (fun _ _ _ _ _ => pts_nil) (fun _ _ _ _ _ => (pv 2))) pa_nil))))), ?_⟩
  rintro ds hl ⟨c, l, ss, cf, rfl, hs, hc⟩
  have hsl := hs.len
  have hal := abL_len ss cf
  refine eq_drop (ed_need (ed_var rfl) (ed_var rfl) hc.ok hc.good) ?_
  have h1 : Ed K (tCall (spR K 2 (pAb C) (rAb C)) [] E0 (tCons (tVar 0) (tCons (tVar 1) tNil))) [some (.d (prD C c l (stD ss))), some (.d (cD cf)), none, none] (.list (abL ss cf)) :=
    ed_call (ea_cons (ed_var rfl) (ea_cons (ed_var rfl) ea_nil)) rfl ⟨c, l, ss, cf, rfl, hs, hc.sm⟩ fun z hz => by
      obtain ⟨c2, l2, ss2, cf2, e, rfl⟩ := hz
      injection e with e1 e
      injection e with e2 _
      obtain ⟨_, _, e3⟩ := prD_inj e1
      rw [stD_inj e3, cD_inj e2]
  refine es_ret (ed_cb (ea_cons (ed_lcN 0 fstD (ei_seq (t := false) h1 rfl) (by omega) rfl (fun j hj => ?_) fun y hy => ?_) ea_nil) rc_tupleL) ⟨c, l, ss, cf, rfl, by rw [abL_fst]⟩
  · simp only [List.mem_cons, List.not_mem_nil, or_false, List.map_cons, List.map_nil] at hj
    rcases hj with rfl | rfl <;> rfl
  · obtain ⟨k, t, rfl⟩ := abL_is hy
    exact ⟨_, _, fun j hj => hj, eg_two, rfl, ed_var rfl⟩
/-! raising -/
theorem ok_needX {C CC f : Addr} {fd : FuncData} (F : Fun K "need_configuration" "need_configuration" s_need_configuration f fd) (n_c : PySem.W.findIn K (.ref CC) "configuration" = some none) (Ois_configuration : OwnD P w K mg base 5 "is_configuration" ["program", "value"] (spR K 2 (pCf C) (rCf C)))
    (M_BadConfiguration : MkX P w K mg base "BadConfiguration" CC ["self", "configuration"] (spIni1 K CC "configuration")) : FnOk P w K mg base (L2.CX P w) 6 f fd ["program", "value"] (spX K 2 (pNcX C) CC kvNc) := by
  refine fn_raise (ps := ["program", "value"]) F sc_need_configuration fun cdv A2 outer s H E hr => ⟨_, (pss_one (ps_if (pt_not (pt_val (pe_own Ois_configuration (hr.mono (by decide)) (pa_cons (pv 0) (pa_cons (pv 1) pa_nil)))))
        (pss_one (ps_raiseX rfl (takes_of rfl rfl rfl rfl) M_BadConfiguration (hr.mono (by decide)) (pa_cons (pv 1) pa_nil)))
        pss_nil)), ?_⟩
  rintro ds hl ⟨c, l, st, x, rfl, hx, hb⟩
  refine esx_if (c := true) ((eb_not (eb_test (ed_call (y := .bool (confD c l x)) (ea_cons (ed_var rfl) (ea_cons (ed_var rfl) ea_nil)) rfl ⟨c, l, st, x, rfl, hx⟩ ?_))).to (by rw [hb]; rfl)) (fun _ => ?_) fun z => nomatch z
  · rintro z ⟨c2, l2, st2, x2, e, rfl⟩
    cases e; rfl
  · exact esx_raise1 M_BadConfiguration.xc.o n_c (ea_cons (ed_var rfl) ea_nil)
theorem evx_need {ρ : En} {ta tb : TE} {C CC : Addr} {c l : Int} {st x : PyData} (h1 : Ed K ta ρ (prD C c l st)) (h2 : Ed K tb ρ x) (hx : Ok x) (hc : confD c l x = false) : EvX K (fun E => tCallS (spX K 2 (pNcX C) CC kvNc) (fun _ => E) (tCons ta (tCons tb tNil))) ρ CC (fun _ kv => kv = [(.str "configuration", x)]) :=
  evx_call (ea_cons h1 (ea_cons h2 ea_nil)) fun ρ1 ds e => by
    obtain ⟨rfl, rfl⟩ := e
    exact ⟨rfl, ⟨c, l, st, x, rfl, hx, hc⟩, rfl⟩
theorem ok_steps_atX {C CC f : Addr} {fd : FuncData} (F : Fun K "steps_at" "steps_at" s_steps_at f fd) (T : Bi mg) (Xneed_configuration : OwnX P w K mg base 6 "need_configuration" ["program", "value"] (spX K 2 (pNcX C) CC kvNc)) (O_all_behind : OwnD P w K mg base 2 "_all_behind" ["program", "configuration"] (spR K 2 (pAb C) (rAb C))) : FnOk P w K mg base (L2.CX P w) 7 f fd ["program", "configuration"] (spX K 2 (pNcX C) CC kvNc) := by
  refine fn_raise (ps := ["program", "configuration"]) F sc_steps_at fun cdv A2 outer s H E hr => ⟨_, (pss_cons (ps_expr (pe_ownX Xneed_configuration (hr.mono (by decide)) (takes_of rfl rfl rfl rfl) (pa_cons (pv 0) (pa_cons (pv 1) pa_nil))))
      (pss_one (ps_ret (pe_callTy (k_tuple (K := K)) (by rfl) (T.n_tuple) PyProof.Rows.boot_tuple (pa_cons (pe_lc (own := [("k", 2), ("_", 3)]) rfl sc_steps_at.nd (kpi_seq (K := K) (pe_own O_all_behind (hr.mono (by decide)) (pa_cons (pv 0) (pa_cons (pv 1) pa_nil)))) (blkOk_by (N := N_steps_at) (sc := defScope s_steps_at) (by decide +kernel)) (fun _ _ _ _ _ => (kpg_tup (K := K) 2 rfl (pgs_cons (pg_name (i := 2) sc_steps_at.nd rfl (by first | exact Or.inl rfl | exact Or.inr rfl)) (pgs_cons (pg_name (i := 3) sc_steps_at.nd rfl (by first | exact Or.inl rfl | exact Or.inr rfl)) pgs_nil)))) (fun _ _ _ _ _ => pts_nil) (fun _ _ _ _ _ => (pv 2))) pa_nil))))), ?_⟩
  rintro ds hl ⟨c, l, st, x, rfl, hx, hb⟩
  exact eqx_drop (evx_need (ed_var rfl) (ed_var rfl) hx hb)
theorem ok_next_oneX {C CC f : Addr} {fd : FuncData} (F : Fun K "next_one" "next_one" s_next_one f fd) (T : Bi mg) (Xneed_configuration : OwnX P w K mg base 6 "need_configuration" ["program", "value"] (spX K 2 (pNcX C) CC kvNc)) (Ois_below : OwnD P w K mg base 3 "is_below" ["value", "many"] (spR K 2 p2 (rB2 belD)))
    (O_behind : OwnD P w K mg base 1 "_behind" ["configuration", "step"] (spR K 2 pBe rBe)) {CN : Addr} (M_BadNumber : MkX P w K mg base "BadNumber" CN ["self", "what", "number"] (spIni2 K CN "what" "number")) : FnOk P w K mg base (L2.CX P w) 7 f fd ["program", "configuration", "k"] (spX K 3 (pNxX C) CC kvNc) := by
  refine fn_raise (ps := ["program", "configuration", "k"]) F sc_next_one fun cdv A2 outer s H E hr => ⟨_, (pss_cons (ps_expr (pe_ownX Xneed_configuration (hr.mono (by decide)) (takes_of rfl rfl rfl rfl) (pa_cons (pv 0) (pa_cons (pv 1) pa_nil))))
      (pss_cons (ps_if (pt_not (pt_val (pe_own Ois_below (hr.mono (by decide)) (pa_cons (pv 2) (pa_cons (pe_callB (k_len (K := K)) (by rfl) (T.n_len) PySem.boot_len (pa_cons (kpe_fld (K := K) (pv 0) rfl) pa_nil)) pa_nil)))))
        (pss_one (ps_raiseX rfl (takes_of rfl rfl rfl rfl) M_BadNumber (hr.mono (by decide)) (pa_cons pe_str (pa_cons (pv 2) pa_nil))))
        pss_nil)
      (pss_one (ps_ret (pe_own O_behind (hr.mono (by decide)) (pa_cons (pv 1) (pa_cons (pe_ix (k_ix (K := K)) (kpe_fld (K := K) (pv 0) rfl) (pv 2) (fun _ _ => rfl)) pa_nil))))))), ?_⟩
  rintro ds hl ⟨c, l, st, x, k, rfl, hx, hb⟩
  exact eqx_drop (evx_need (ed_var rfl) (ed_var rfl) hx hb)
theorem eqx_of {X : Bs → Prop} {ρ ρ' : En} {t u : TS} {O : Out → Prop} (h : Es K t ρ fun o => o = .nx ρ') (k : EsX K X u ρ' O) : EsX K X (tSeq t u) ρ O := esx_seq h.toX (fun _ e => by cases e; exact k) (fun _ _ e => nomatch e) (fun _ e => nomatch e) fun _ e => nomatch e
theorem ok_next_oneK {C CN f : Addr} {fd : FuncData} (F : Fun K "next_one" "next_one" s_next_one f fd) (T : Bi mg) (A : PrA K C) (n_w : PySem.W.findIn K (.ref CN) "what" = some none) (n_n : PySem.W.findIn K (.ref CN) "number" = some none) (Oneed_configuration : OwnD P w K mg base 6 "need_configuration" ["program", "value"] (spR K 2 (pNc C) rNone)) (Ois_below : OwnD P w K mg base 3 "is_below" ["value", "many"] (spR K 2 p2 (rB2 belD)))
    (O_behind : OwnD P w K mg base 1 "_behind" ["configuration", "step"] (spR K 2 pBe rBe)) (M_BadNumber : MkX P w K mg base "BadNumber" CN ["self", "what", "number"] (spIni2 K CN "what" "number")) : FnOk P w K mg base (L2.CX P w) 7 f fd ["program", "configuration", "k"] (spX K 3 (pNxK C) CN kvNk) := by
  refine fn_raise (ps := ["program", "configuration", "k"]) F sc_next_one fun cdv A2 outer s H E hr => ⟨_, (pss_cons (ps_expr (pe_own Oneed_configuration (hr.mono (by decide)) (pa_cons (pv 0) (pa_cons (pv 1) pa_nil))))
      (pss_cons (ps_if (pt_not (pt_val (pe_own Ois_below (hr.mono (by decide)) (pa_cons (pv 2) (pa_cons (pe_callB (k_len (K := K)) (by rfl) (T.n_len) PySem.boot_len (pa_cons (kpe_fld (K := K) (pv 0) rfl) pa_nil)) pa_nil)))))
        (pss_one (ps_raiseX rfl (takes_of rfl rfl rfl rfl) M_BadNumber (hr.mono (by decide)) (pa_cons pe_str (pa_cons (pv 2) pa_nil))))
        pss_nil)
      (pss_one (ps_ret (pe_own O_behind (hr.mono (by decide)) (pa_cons (pv 1) (pa_cons (pe_ix (k_ix (K := K)) (kpe_fld (K := K) (pv 0) rfl) (pv 2) (fun _ _ => rfl)) pa_nil))))))), ?_⟩
  rintro ds hl ⟨c, l, ss, cf, x, rfl, hc, hk, hb⟩
  refine eqx_of (es_drop (ed_need (ed_var rfl) (ed_var rfl) hc.ok hc.good) fun ρ1 y e => by obtain ⟨rfl, _⟩ := e; rfl) ?_
  have hlen : Ed K (tCB (rLenS K) (tCons (tFld K (tVar 0) "steps") tNil)) (startE N_next_one [prD C c l (stD ss), cD cf, x]) (.int (ss.map sD).length) := ed_lenS (ed_ps A (ed_var rfl)) rfl
  refine eqx_if (c := true) ((eb_not (eb_test (ed_b2 (x := x) (ed_var rfl) hlen hk))).to ?_) (fun _ => ?_) fun z => nomatch z
  · rw [List.length_map, hb]; rfl
  · exact esx_raise2 M_BadNumber.xc.o n_w n_n (ea_cons ed_str (ea_cons (ed_var rfl) ea_nil))
end
end K04
end
section
set_option Elab.async false
set_option linter.all false
set_option autoImplicit false
set_option maxRecDepth 100000
set_option maxHeartbeats 4000000
namespace K04
open PySem PySem.Spec PyProof.Rows L2 RS

/-! a run, and what is raised on one -/
def nextX (ss : List Stp) (e : Conf) : PyData → Option Conf
  | .int i => if 0 ≤ i then (match ss[i.toNat]? with
    | some s => nextI e s
    | none => none) else none
  | _ => none
theorem nextX_int (ss : List Stp) (e : Conf) (i : Int) : nextX ss e (.int i) = if 0 ≤ i then (match ss[i.toNat]? with
    | some s => nextI e s
    | none => none) else none := rfl
theorem nextX_at {ss : List Stp} {e : Conf} {k : Nat} {s : Stp} (h : ss[k]? = some s) : nextX ss e (.int (k : Nat)) = nextI e s := by
  rw [nextX_int, if_pos (Int.natCast_nonneg k), Int.toNat_natCast, h]
def badI (ss : List Stp) : Conf → List PyData → Nat → Option Nat
  | _, [], _ => none
  | e, x :: xs, j => match nextX ss e x with
    | some e2 => badI ss e2 xs (j + 1)
    | none => some j
open Classical in
noncomputable def kvRn (C : Addr) (ds : List PyData) : List (PyData × PyData) := if h : ∃ i : Nat, ∃ c l ss cf t xs, ds = [prD C c l (stD ss), cD cf, mkSeq t xs] ∧ badI ss cf xs 0 = some i then [(.str "index", .int ((h.choose : Nat) : Int))] else []
theorem kvRn_at {C : Addr} {c l : Int} {ss : List Stp} {cf : Conf} {t : Bool} {xs : List PyData} {i : Nat} (h : badI ss cf xs 0 = some i) : kvRn C [prD C c l (stD ss), cD cf, mkSeq t xs] = [(.str "index", .int (i : Nat))] := by
  have hx : ∃ i : Nat, ∃ c2 l2 ss2 cf2 t2 xs2, [prD C c l (stD ss), cD cf, mkSeq t xs] = [prD C c2 l2 (stD ss2), cD cf2, mkSeq t2 xs2] ∧ badI ss2 cf2 xs2 0 = some i := ⟨i, c, l, ss, cf, t, xs, rfl, h⟩
  unfold kvRn
  rw [dif_pos hx]
  obtain ⟨c2, l2, ss2, cf2, t2, xs2, e, hb⟩ := hx.choose_spec
  injection e with e1 e
  injection e with e2 e
  injection e with e3 _
  obtain ⟨_, _, e4⟩ := prD_inj e1
  have e5 := congrArg seqOf e3
  rw [seqOf_mk, seqOf_mk] at e5
  injection e5 with e5
  injection e5 with _ e5
  rw [← stD_inj e4, ← cD_inj e2, ← e5, h] at hb
  rw [← Option.some.inj hb]
def pRs (C : Addr) : List PyData → Prop := fun ds => ∃ c l ss cf, ∃ ks : List Nat, ∃ e t, ds = [prD C c l (stD ss), cD cf, mkSeq t (kD ks)] ∧ CfOk c l cf ∧ SsOk ss ∧ ks.length ≤ 100 ∧ runI ss ks cf = some e
def rRs (C : Addr) : List PyData → PyData → Prop := fun ds y => ∃ c l ss cf, ∃ ks : List Nat, ∃ e t, ds = [prD C c l (stD ss), cD cf, mkSeq t (kD ks)] ∧ runI ss ks cf = some e ∧ y = cD e
def pRnX (C : Addr) : List PyData → Prop := fun ds => ∃ c l st x r, ds = [prD C c l st, x, r] ∧ Ok x ∧ confD c l x = false
def pRnK (C : Addr) : List PyData → Prop := fun ds => ∃ c l ss cf t xs, ∃ i : Nat, ds = [prD C c l (stD ss), cD cf, mkSeq t xs] ∧ CfOk c l cf ∧ SsOk ss ∧ (∀ x ∈ xs, Kd x) ∧ xs.length ≤ 1000 ∧ badI ss cf xs 0 = some i
theorem drop_at {α : Type} {xs : List α} {j : Nat} {x : α} (h : xs[j]? = some x) : xs.drop j = x :: xs.drop (j + 1) := by
  obtain ⟨h1, h2⟩ := List.getElem?_eq_some_iff.mp h
  rw [← h2]
  exact List.drop_eq_getElem_cons h1
section
variable {P : Program} {w : World} {K : PySem.W.Frag} {mg : Str → Option Value} {base : Heap}
/-- _behind(here, program.steps[k]) if is_below(k, len(program.steps)) else None -/
theorem ed_turnX {E : XK} {ρ : En} {C : Addr} {c l : Int} {ss : List Stp} {cf : Conf} {x : PyData} {ip ih ik : Nat} (A : PrA K C) (h1 : ρ[ip]? = some (some (.d (prD C c l (stD ss))))) (h2 : ρ[ih]? = some (some (.d (cD cf)))) (h3 : ρ[ik]? = some (some (.d x))) (hs : SsOk ss) (hc : Sm cf.2) (hk : Kd x) :
    Ed K (tIf (tTest (tCall (spR K 2 p2 (rB2 belD)) [] E (tCons (tVar ik) (tCons (tCB (rLenS K) (tCons (tFld K (tVar ip) "steps") tNil)) tNil)))) (tCall (spR K 2 pBe rBe) [] E (tCons (tVar ih) (tCons (tOp (rIx K) (tFld K (tVar ip) "steps") (tVar ik)) tNil))) (tC .non)) ρ (optD (nextX ss cf x)) := by
  have hlen : Ed K (tCB (rLenS K) (tCons (tFld K (tVar ip) "steps") tNil)) ρ (.int (ss.map sD).length) := ed_lenS (t := true) (ed_ps A (ed_var h1)) rfl
  refine ev_if (c := belD (ss.map sD).length x) (eb_test (ed_b2 (ed_var h3) hlen hk)) (fun hb => ?_) fun hb => ?_
  · obtain ⟨i, rfl⟩ := belD_int hb
    have hb2 : (decide (0 ≤ i) && decide (i < ((ss.map sD).length : Int))) = true := hb
    obtain ⟨b1, b2⟩ := Bool.and_eq_true_iff.mp hb2
    have b1 := of_decide_eq_true b1
    have b2 := of_decide_eq_true b2
    rw [List.length_map] at b2
    obtain ⟨k, rfl⟩ : ∃ k : Nat, i = (k : Nat) := ⟨i.toNat, by omega⟩
    have hlt : k < ss.length := by omega
    have hm := hs.sm ss[k] (List.getElem_mem hlt)
    rw [nextX_at (List.getElem?_eq_getElem hlt)]
    exact ed_be (ed_var h2) (ed_op (ed_ps A (ed_var h1)) (ed_var h3) (rd_ixT (x := sD ss[k]) (atI_nat (by rw [List.getElem?_map, List.getElem?_eq_getElem hlt]; rfl)))) hc hm.1 hm.2
  · have e : nextX ss cf x = none := by
      cases x with
      | int i =>
        rw [nextX_int]
        by_cases h0 : 0 ≤ i
        · rw [if_pos h0]
          have hb2 : (decide (0 ≤ i) && decide (i < ((ss.map sD).length : Int))) = false := hb
          rw [decide_eq_true h0, Bool.true_and, List.length_map] at hb2
          have := of_decide_eq_false hb2
          rw [List.getElem?_eq_none (by omega)]
        · rw [if_neg h0]
      | _ => rfl
    rw [e]
    exact ed_non
theorem ok_behind_runS {C f : Addr} {fd : FuncData} (F : Fun K "behind_run" "behind_run" s_behind_run f fd) (T : Bi mg) (A : PrA K C) (Oneed_configuration : OwnD P w K mg base 6 "need_configuration" ["program", "value"] (spR K 2 (pNc C) rNone)) (Ois_below : OwnD P w K mg base 3 "is_below" ["value", "many"] (spR K 2 p2 (rB2 belD)))
    (O_behind : OwnD P w K mg base 1 "_behind" ["configuration", "step"] (spR K 2 pBe rBe)) : FnOk P w K mg base CX0 7 f fd ["program", "configuration", "run"] (spR K 3 (pRs C) (rRs C)) := by
  refine fn_pure (ps := ["program", "configuration", "run"]) F sc_behind_run fun cdv A2 outer s H E hr => ⟨_, (pss_cons (ps_expr (pe_own Oneed_configuration (hr.mono (by decide)) (pa_cons (pv 0) (pa_cons (pv 1) pa_nil))))
      (pss_cons (ps_set (i := 3) sc_behind_run.nd rfl (by first | exact Or.inl rfl | exact Or.inr rfl) (pv 1))
      (pss_cons (ps_for PassesOwn.never rfl (kpi_en (K := K) (by rfl) (T.n_enumerate) (pa_cons (pv 2) pa_nil)) (kpg_tup (K := K) 2 rfl (pgs_cons (pg_name (i := 4) sc_behind_run.nd rfl (by first | exact Or.inl rfl | exact Or.inr rfl)) (pgs_cons (pg_name (i := 5) sc_behind_run.nd rfl (by first | exact Or.inl rfl | exact Or.inr rfl)) pgs_nil)))
        (pss_cons (ps_set (i := 6) sc_behind_run.nd rfl (by first | exact Or.inl rfl | exact Or.inr rfl) (pe_ifExp (pt_val (pe_own Ois_below (hr.mono (by decide)) (pa_cons (pv 5) (pa_cons (pe_callB (k_len (K := K)) (by rfl) (T.n_len) PySem.boot_len (pa_cons (kpe_fld (K := K) (pv 0) rfl) pa_nil)) pa_nil)))) (pe_own O_behind (hr.mono (by decide)) (pa_cons (pv 3) (pa_cons (pe_ix (k_ix (K := K)) (kpe_fld (K := K) (pv 0) rfl) (pv 5) (fun _ _ => rfl)) pa_nil))) pe_non))
        (pss_cons (ps_if (pt_cmpR op_isN (pv 6) pe_non (nomark _))
          (pss_one ps_never)
          pss_nil)
        (pss_one (ps_set (i := 3) sc_behind_run.nd rfl (by first | exact Or.inl rfl | exact Or.inr rfl) (pv 6))))))
      (pss_one (ps_ret (pv 3)))))), ?_⟩
  rintro ds hl ⟨c, l, ss, cf, ks, e, t, rfl, hc, hs, hlen, hrun⟩
  refine eq_drop (ed_need (ed_var rfl) (ed_var rfl) hc.ok hc.good) ?_
  refine eq_set (ed_var rfl) ?_
  refine es_then (es_forD (xs := enD (kD ks)) (ei_en (ea_cons (ed_var rfl) ea_nil) (seqOf_mk t _)) (fun j ρ => ∃ (cf2 : Conf) (a b u : Option PyData), ρ = [some (.d (prD C c l (stD ss))), some (.d (cD cf)), some (.d (mkSeq t (kD ks))), some (.d (cD cf2)), a.map Sl.d, b.map Sl.d, u.map Sl.d] ∧ runI ss (ks.drop j) cf2 = some e ∧ Sm cf2.2) ⟨cf, none, none, none, rfl, hrun, hc.sm⟩ ?_ ?_)
  · rintro j x ρ hx ⟨cf2, a, b, u, rfl, hr2, hsm⟩
    obtain ⟨y, hy, rfl⟩ := enD_get hx
    unfold kD at hy
    rw [List.getElem?_map] at hy
    cases hk : ks[j]? with
    | none => rw [hk] at hy; cases hy
    | some k =>
      rw [hk] at hy
      cases hy
      rw [drop_at hk] at hr2
      unfold runI at hr2
      cases hsk : ss[k]? with
      | none => rw [hsk] at hr2; cases hr2
      | some st =>
        rw [hsk] at hr2
        dsimp only at hr2
        cases hn : nextI cf2 st with
        | none => rw [hn] at hr2; cases hr2
        | some c2 =>
          rw [hn] at hr2
          dsimp only at hr2
          refine ⟨_, _, eg_two, ?_⟩
          show Es K _ [some (.d (prD C c l (stD ss))), some (.d (cD cf)), some (.d (mkSeq t (kD ks))), some (.d (cD cf2)), some (.d (.int (j : Nat))), some (.d (.int (k : Nat))), u.map Sl.d] _
          refine eq_set (x := cD c2) ((ed_turnX A (x := .int (k : Nat)) rfl rfl rfl hs hsm rfl).to ?_) ?_
          · rw [nextX_at hsk, hn]; rfl
          refine eq_when (c := false) (eb_test (ed_op (ed_var rfl) ed_non rd_isN)) (fun z => nomatch z) fun _ => ?_
          refine es_set (ed_var rfl) ?_
          exact ⟨c2, some (.int (j : Nat)), some (.int (k : Nat)), some (cD c2), rfl, hr2, next_sm hn hsm⟩
  · rintro ρ ⟨cf2, a, b, u, rfl, hr2, _⟩
    have e2 : ks.drop (enD (kD ks)).length = [] := List.drop_of_length_le (by rw [enD_len]; unfold kD; rw [List.length_map]; omega)
    rw [e2] at hr2
    have e3 : cf2 = e := Option.some.inj hr2
    subst e3
    exact es_ret (ed_var rfl) ⟨c, l, ss, cf, ks, cf2, t, rfl, hrun, rfl⟩
theorem ok_behind_runX {C CC CS f : Addr} {fd : FuncData} (F : Fun K "behind_run" "behind_run" s_behind_run f fd) (T : Bi mg) (Xneed_configuration : OwnX P w K mg base 6 "need_configuration" ["program", "value"] (spX K 2 (pNcX C) CC kvNc)) (Ois_below : OwnD P w K mg base 3 "is_below" ["value", "many"] (spR K 2 p2 (rB2 belD)))
    (O_behind : OwnD P w K mg base 1 "_behind" ["configuration", "step"] (spR K 2 pBe rBe)) (M_BadStep : MkX P w K mg base "BadStep" CS ["self", "index"] (spIni1 K CS "index")) : FnOk P w K mg base (L2.CX P w) 7 f fd ["program", "configuration", "run"] (spX K 3 (pRnX C) CC kvNc) := by
  refine fn_raise (ps := ["program", "configuration", "run"]) F sc_behind_run fun cdv A2 outer s H E hr => ⟨_, (pss_cons (ps_expr (pe_ownX Xneed_configuration (hr.mono (by decide)) (takes_of rfl rfl rfl rfl) (pa_cons (pv 0) (pa_cons (pv 1) pa_nil))))
      (pss_cons (ps_set (i := 3) sc_behind_run.nd rfl (by first | exact Or.inl rfl | exact Or.inr rfl) (pv 1))
      (pss_cons (ps_for (passes_of rfl) rfl (kpi_en (K := K) (by rfl) (T.n_enumerate) (pa_cons (pv 2) pa_nil)) (kpg_tup (K := K) 2 rfl (pgs_cons (pg_name (i := 4) sc_behind_run.nd rfl (by first | exact Or.inl rfl | exact Or.inr rfl)) (pgs_cons (pg_name (i := 5) sc_behind_run.nd rfl (by first | exact Or.inl rfl | exact Or.inr rfl)) pgs_nil)))
        (pss_cons (ps_set (i := 6) sc_behind_run.nd rfl (by first | exact Or.inl rfl | exact Or.inr rfl) (pe_ifExp (pt_val (pe_own Ois_below (hr.mono (by decide)) (pa_cons (pv 5) (pa_cons (pe_callB (k_len (K := K)) (by rfl) (T.n_len) PySem.boot_len (pa_cons (kpe_fld (K := K) (pv 0) rfl) pa_nil)) pa_nil)))) (pe_own O_behind (hr.mono (by decide)) (pa_cons (pv 3) (pa_cons (pe_ix (k_ix (K := K)) (kpe_fld (K := K) (pv 0) rfl) (pv 5) (fun _ _ => rfl)) pa_nil))) pe_non))
        (pss_cons (ps_if (pt_cmpR op_isN (pv 6) pe_non (nomark _))
          (pss_one (ps_raiseX rfl (takes_of rfl rfl rfl rfl) M_BadStep (hr.mono (by decide)) (pa_cons (pv 4) pa_nil)))
          pss_nil)
        (pss_one (ps_set (i := 3) sc_behind_run.nd rfl (by first | exact Or.inl rfl | exact Or.inr rfl) (pv 6))))))
      (pss_one (ps_ret (pv 3)))))), ?_⟩
  rintro ds hl ⟨c, l, st, x, r, rfl, hx, hb⟩
  exact eqx_drop (evx_need (ed_var rfl) (ed_var rfl) hx hb)
theorem ok_behind_runK {C CS f : Addr} {fd : FuncData} (F : Fun K "behind_run" "behind_run" s_behind_run f fd) (T : Bi mg) (A : PrA K C) (n_i : PySem.W.findIn K (.ref CS) "index" = some none) (Oneed_configuration : OwnD P w K mg base 6 "need_configuration" ["program", "value"] (spR K 2 (pNc C) rNone)) (Ois_below : OwnD P w K mg base 3 "is_below" ["value", "many"] (spR K 2 p2 (rB2 belD)))
    (O_behind : OwnD P w K mg base 1 "_behind" ["configuration", "step"] (spR K 2 pBe rBe)) (M_BadStep : MkX P w K mg base "BadStep" CS ["self", "index"] (spIni1 K CS "index")) : FnOk P w K mg base (L2.CX P w) 7 f fd ["program", "configuration", "run"] (spX K 3 (pRnK C) CS (kvRn C)) := by
  refine fn_raise (ps := ["program", "configuration", "run"]) F sc_behind_run fun cdv A2 outer s H E hr => ⟨_, (pss_cons (ps_expr (pe_own Oneed_configuration (hr.mono (by decide)) (pa_cons (pv 0) (pa_cons (pv 1) pa_nil))))
      (pss_cons (ps_set (i := 3) sc_behind_run.nd rfl (by first | exact Or.inl rfl | exact Or.inr rfl) (pv 1))
      (pss_cons (ps_for (passes_of rfl) rfl (kpi_en (K := K) (by rfl) (T.n_enumerate) (pa_cons (pv 2) pa_nil)) (kpg_tup (K := K) 2 rfl (pgs_cons (pg_name (i := 4) sc_behind_run.nd rfl (by first | exact Or.inl rfl | exact Or.inr rfl)) (pgs_cons (pg_name (i := 5) sc_behind_run.nd rfl (by first | exact Or.inl rfl | exact Or.inr rfl)) pgs_nil)))
        (pss_cons (ps_set (i := 6) sc_behind_run.nd rfl (by first | exact Or.inl rfl | exact Or.inr rfl) (pe_ifExp (pt_val (pe_own Ois_below (hr.mono (by decide)) (pa_cons (pv 5) (pa_cons (pe_callB (k_len (K := K)) (by rfl) (T.n_len) PySem.boot_len (pa_cons (kpe_fld (K := K) (pv 0) rfl) pa_nil)) pa_nil)))) (pe_own O_behind (hr.mono (by decide)) (pa_cons (pv 3) (pa_cons (pe_ix (k_ix (K := K)) (kpe_fld (K := K) (pv 0) rfl) (pv 5) (fun _ _ => rfl)) pa_nil))) pe_non))
        (pss_cons (ps_if (pt_cmpR op_isN (pv 6) pe_non (nomark _))
          (pss_one (ps_raiseX rfl (takes_of rfl rfl rfl rfl) M_BadStep (hr.mono (by decide)) (pa_cons (pv 4) pa_nil)))
          pss_nil)
        (pss_one (ps_set (i := 3) sc_behind_run.nd rfl (by first | exact Or.inl rfl | exact Or.inr rfl) (pv 6))))))
      (pss_one (ps_ret (pv 3)))))), ?_⟩
  rintro ds hl ⟨c, l, ss, cf, t, xs, i, rfl, hc, hs, hk, hn, hbad⟩
  rw [kvRn_at hbad]
  refine eqx_of (es_drop (ed_need (ed_var rfl) (ed_var rfl) hc.ok hc.good) fun ρ1 y e => by obtain ⟨rfl, _⟩ := e; rfl) ?_
  refine eqx_of (es_set (ed_var rfl) rfl) ?_
  refine esx_then (esx_for (xs := enD xs) (ei_en (ea_cons (ed_var rfl) ea_nil) (seqOf_mk t _)) (fun j ρ => ∃ (cf2 : Conf) (a b u : Option PyData), ρ = [some (.d (prD C c l (stD ss))), some (.d (cD cf)), some (.d (mkSeq t xs)), some (.d (cD cf2)), a.map Sl.d, b.map Sl.d, u.map Sl.d] ∧ badI ss cf2 (xs.drop j) j = some i ∧ Sm cf2.2) ⟨cf, none, none, none, rfl, hbad, hc.sm⟩ ?_ ?_ fun b G H σ ρ S h => TakesX.here S h)
  · rintro j x ρ hx ⟨cf2, a, b, u, rfl, hb2, hsm⟩
    obtain ⟨y, hy, rfl⟩ := enD_get hx
    rw [drop_at hy] at hb2
    refine ⟨_, _, eg_two, ?_⟩
    show EsX K _ _ [some (.d (prD C c l (stD ss))), some (.d (cD cf)), some (.d (mkSeq t xs)), some (.d (cD cf2)), some (.d (.int (j : Nat))), some (.d y), u.map Sl.d] _
    refine eqx_of (es_set (ed_turnX A rfl rfl rfl hs hsm (hk y (List.mem_of_getElem? hy))) rfl) ?_
    show EsX K _ _ [some (.d (prD C c l (stD ss))), some (.d (cD cf)), some (.d (mkSeq t xs)), some (.d (cD cf2)), some (.d (.int (j : Nat))), some (.d y), some (.d (optD (nextX ss cf2 y)))] _
    unfold badI at hb2
    cases hx2 : nextX ss cf2 y with
    | none =>
      rw [hx2] at hb2
      have hj : j = i := Option.some.inj hb2
      subst hj
      exact eqx_if (c := true) (eb_test (ed_op (ed_var rfl) ed_non rd_isN)) (fun _ => esx_raise1 M_BadStep.xc.o n_i (ea_cons (ed_var rfl) ea_nil)) fun z => nomatch z
    | some c2 =>
      rw [hx2] at hb2
      dsimp only at hb2
      have hsm2 : Sm c2.2 := by
        cases y with
        | int q =>
          rw [nextX_int] at hx2
          split at hx2
          · split at hx2
            · exact next_sm hx2 hsm
            · cases hx2
          · cases hx2
        | _ => cases hx2
      refine eqx_if (c := false) (eb_test (ed_op (ed_var rfl) ed_non rd_isN)) (fun z => nomatch z) fun _ => (es_next ?_).toX
      show EsX K _ _ _ _
      exact (es_set (ed_var rfl) ⟨c2, some (.int (j : Nat)), some y, some (cD c2), rfl, hb2, hsm2⟩).toX
  · rintro ρ ⟨cf2, a, b, u, rfl, hb2, _⟩
    have e2 : xs.drop (enD xs).length = [] := List.drop_of_length_le (by rw [enD_len]; omega)
    rw [e2] at hb2
    cases hb2
end
end K04
end
section
set_option Elab.async false
set_option linter.all false
set_option autoImplicit false
set_option maxRecDepth 100000
set_option maxHeartbeats 4000000
namespace K04
open PySem PySem.Spec PyProof.Rows L2 RS

/-! what Program(..) raises -/
def badS (c l : Int) : List PyData → Nat → Option Nat
  | [], _ => none
  | x :: xs, j => if stepD c l x = true then badS c l xs (j + 1) else some j
def locB : PyData → Bool
  | .int l => decide (1 ≤ l)
  | _ => false
def pInC : List PyData → Prop := fun ds => ∃ c l x, ds = [c, l, x] ∧ Kd c ∧ natD c = false
def kvInC : List PyData → List (PyData × PyData)
  | c :: _ => [(.str "number", c), (.str "what", .str "counters")]
  | _ => []
def pInL : List PyData → Prop := fun ds => ∃ c : Int, ∃ l x, ds = [.int c, l, x] ∧ 0 ≤ c ∧ Kd l ∧ locB l = false
def kvInL : List PyData → List (PyData × PyData)
  | _ :: l :: _ => [(.str "number", l), (.str "what", .str "locations")]
  | _ => []
def kvInP : List PyData → List (PyData × PyData)
  | [.int c, .int l, x] => (match seqOf x with
    | none => [(.str "index", .none)]
    | some (_, xs) => (match badS c l xs 0 with
      | some j => [(.str "index", .int ((j : Nat) : Int))]
      | none => []))
  | _ => []
def pInP : List PyData → Prop := fun ds => ∃ c l : Int, ∃ x, ds = [.int c, .int l, x] ∧ 0 ≤ c ∧ 1 ≤ l ∧ Ok x ∧ (seqOf x = none ∨ ∃ t xs, ∃ j : Nat, seqOf x = some (t, xs) ∧ badS c l xs 0 = some j)
section
variable {P : Program} {w : World} {K : PySem.W.Frag} {mg : Str → Option Value} {base : Heap}
theorem isInt_int {x : PyData} (h : isInt x = true) : ∃ i, x = .int i := by
  cases x <;> first | exact ⟨_, rfl⟩ | cases h
theorem ok_initC {C CN f : Addr} {fd : FuncData} (F : Fun K "__init__" "Program.__init__" s_Program_init f fd) (T : Bi mg) (n_w : PySem.W.findIn K (.ref CN) "what" = some none) (n_n : PySem.W.findIn K (.ref CN) "number" = some none) {CP : Addr} (M_BadNumber : MkX P w K mg base "BadNumber" CN ["self", "what", "number"] (spIni2 K CN "what" "number")) (M_BadProgram : MkX P w K mg base "BadProgram" CP ["self", "index"] (spIni1 K CP "index"))
    (Ois_integer : OwnD P w K mg base 1 "is_integer" ["value"] (spR K 1 p1 (rB isInt))) (Ois_natural : OwnD P w K mg base 2 "is_natural" ["value"] (spR K 1 p1 (rB natD))) (Ois_row : OwnD P w K mg base 1 "is_row" ["value"] (spR K 1 p1 (rB isRow)))
    (O_is_step : OwnD P w K mg base 4 "_is_step" ["value", "counters", "locations"] (spR K 3 pSt rSt)) (Otupled : OwnD P w K mg base 2 "tupled" ["value"] (spR K 1 pT rT)) : FnOk P w K mg base (L2.CX P w) 5 f fd ["self", "counters", "locations", "steps"] (spNx K 3 pInC CN kvInC) := by
  refine fn_raise (ps := ["self", "counters", "locations", "steps"]) F sc_Program_init fun cdv A2 outer s H E hr => ⟨_, (pss_cons (ps_if (pt_not (pt_val (pe_own Ois_natural (hr.mono (by decide)) (pa_cons (pv 1) pa_nil))))
        (pss_one (ps_raiseX rfl (takes_of rfl rfl rfl rfl) M_BadNumber (hr.mono (by decide)) (pa_cons pe_str (pa_cons (pv 1) pa_nil))))
        pss_nil)
      (pss_cons (ps_if (pw_or (pt_not (pt_val (pe_own Ois_integer (hr.mono (by decide)) (pa_cons (pv 2) pa_nil)))) (pw_or1 (pt_cmpR op_lt (pv 2) pe_int (nomark _)))).pt
        (pss_one (ps_raiseX rfl (takes_of rfl rfl rfl rfl) M_BadNumber (hr.mono (by decide)) (pa_cons pe_str (pa_cons (pv 2) pa_nil))))
        pss_nil)
      (pss_cons (ps_if (pt_not (pt_val (pe_own Ois_row (hr.mono (by decide)) (pa_cons (pv 3) pa_nil))))
        (pss_one (ps_raiseX rfl (takes_of rfl rfl rfl rfl) M_BadProgram (hr.mono (by decide)) (pa_cons pe_non pa_nil)))
        pss_nil)
      (pss_cons (ps_for (passes_of rfl) rfl (kpi_en (K := K) (by rfl) (T.n_enumerate) (pa_cons (pv 3) pa_nil)) (kpg_tup (K := K) 2 rfl (pgs_cons (pg_name (i := 4) sc_Program_init.nd rfl (by first | exact Or.inl rfl | exact Or.inr rfl)) (pgs_cons (pg_name (i := 5) sc_Program_init.nd rfl (by first | exact Or.inl rfl | exact Or.inr rfl)) pgs_nil)))
        (pss_one (ps_if (pt_not (pt_val (pe_own O_is_step (hr.mono (by decide)) (pa_cons (pv 5) (pa_cons (pv 1) (pa_cons (pv 2) pa_nil))))))
          (pss_one (ps_raiseX rfl (takes_of rfl rfl rfl rfl) M_BadProgram (hr.mono (by decide)) (pa_cons (pv 4) pa_nil)))
          pss_nil)))
      (pss_cons (ps_fld (pv 0) (pv 1) rfl)
      (pss_cons (ps_fld (pv 0) (pv 2) rfl)
      (pss_one (ps_fld (pv 0) (pe_own Otupled (hr.mono (by decide)) (pa_cons (pv 3) pa_nil)) rfl)))))))), ?_⟩
  rintro ds hl ⟨p, ds2, rfl, c, l, x, rfl, hk, hc⟩
  refine eqx_if (c := true) ((eb_not (eb_test (ed_b (ed_var rfl) hk))).to (by rw [hc]; rfl)) (fun _ => ?_) fun z => nomatch z
  exact esx_raise2 M_BadNumber.xc.o n_w n_n (ea_cons ed_str (ea_cons (ed_var rfl) ea_nil))
theorem ok_initL {C CN f : Addr} {fd : FuncData} (F : Fun K "__init__" "Program.__init__" s_Program_init f fd) (T : Bi mg) (n_w : PySem.W.findIn K (.ref CN) "what" = some none) (n_n : PySem.W.findIn K (.ref CN) "number" = some none) {CP : Addr} (M_BadNumber : MkX P w K mg base "BadNumber" CN ["self", "what", "number"] (spIni2 K CN "what" "number")) (M_BadProgram : MkX P w K mg base "BadProgram" CP ["self", "index"] (spIni1 K CP "index"))
    (Ois_integer : OwnD P w K mg base 1 "is_integer" ["value"] (spR K 1 p1 (rB isInt))) (Ois_natural : OwnD P w K mg base 2 "is_natural" ["value"] (spR K 1 p1 (rB natD))) (Ois_row : OwnD P w K mg base 1 "is_row" ["value"] (spR K 1 p1 (rB isRow)))
    (O_is_step : OwnD P w K mg base 4 "_is_step" ["value", "counters", "locations"] (spR K 3 pSt rSt)) (Otupled : OwnD P w K mg base 2 "tupled" ["value"] (spR K 1 pT rT)) : FnOk P w K mg base (L2.CX P w) 5 f fd ["self", "counters", "locations", "steps"] (spNx K 3 pInL CN kvInL) := by
  refine fn_raise (ps := ["self", "counters", "locations", "steps"]) F sc_Program_init fun cdv A2 outer s H E hr => ⟨_, (pss_cons (ps_if (pt_not (pt_val (pe_own Ois_natural (hr.mono (by decide)) (pa_cons (pv 1) pa_nil))))
        (pss_one (ps_raiseX rfl (takes_of rfl rfl rfl rfl) M_BadNumber (hr.mono (by decide)) (pa_cons pe_str (pa_cons (pv 1) pa_nil))))
        pss_nil)
      (pss_cons (ps_if (pw_or (pt_not (pt_val (pe_own Ois_integer (hr.mono (by decide)) (pa_cons (pv 2) pa_nil)))) (pw_or1 (pt_cmpR op_lt (pv 2) pe_int (nomark _)))).pt
        (pss_one (ps_raiseX rfl (takes_of rfl rfl rfl rfl) M_BadNumber (hr.mono (by decide)) (pa_cons pe_str (pa_cons (pv 2) pa_nil))))
        pss_nil)
      (pss_cons (ps_if (pt_not (pt_val (pe_own Ois_row (hr.mono (by decide)) (pa_cons (pv 3) pa_nil))))
        (pss_one (ps_raiseX rfl (takes_of rfl rfl rfl rfl) M_BadProgram (hr.mono (by decide)) (pa_cons pe_non pa_nil)))
        pss_nil)
      (pss_cons (ps_for (passes_of rfl) rfl (kpi_en (K := K) (by rfl) (T.n_enumerate) (pa_cons (pv 3) pa_nil)) (kpg_tup (K := K) 2 rfl (pgs_cons (pg_name (i := 4) sc_Program_init.nd rfl (by first | exact Or.inl rfl | exact Or.inr rfl)) (pgs_cons (pg_name (i := 5) sc_Program_init.nd rfl (by first | exact Or.inl rfl | exact Or.inr rfl)) pgs_nil)))
        (pss_one (ps_if (pt_not (pt_val (pe_own O_is_step (hr.mono (by decide)) (pa_cons (pv 5) (pa_cons (pv 1) (pa_cons (pv 2) pa_nil))))))
          (pss_one (ps_raiseX rfl (takes_of rfl rfl rfl rfl) M_BadProgram (hr.mono (by decide)) (pa_cons (pv 4) pa_nil)))
          pss_nil)))
      (pss_cons (ps_fld (pv 0) (pv 1) rfl)
      (pss_cons (ps_fld (pv 0) (pv 2) rfl)
      (pss_one (ps_fld (pv 0) (pe_own Otupled (hr.mono (by decide)) (pa_cons (pv 3) pa_nil)) rfl)))))))), ?_⟩
  rintro ds hl ⟨p, ds2, rfl, c, l, x, rfl, hc, hk, hb⟩
  refine eqx_if (c := false) ((eb_not (eb_test (ed_b (x := .int c) (ed_var rfl) rfl))).to (by show (!decide (0 ≤ c)) = false; rw [decide_eq_true hc]; rfl)) (fun z => nomatch z) fun _ => (es_next ?_).toX
  show EsX K _ _ _ _
  refine eqx_if (c := !isInt l || !locB l) ((eb_or (c := !isInt l) (d := !locB l) (eb_not (eb_test (ed_b (ed_var rfl) hk))) fun h => ?_)) (fun _ => ?_) fun z => by rw [hb] at z; simp at z
  · obtain ⟨i, rfl⟩ := isInt_int (x := l) (by simpa using h)
    refine (eb_test (ed_op (ed_var rfl) ed_int rd_lt)).to ?_
    show decide (i < 1) = !decide (1 ≤ i)
    by_cases h1 : 1 ≤ i
    · rw [decide_eq_true h1, decide_eq_false (by omega)]; rfl
    · rw [decide_eq_false h1, decide_eq_true (by omega)]; rfl
  · exact esx_raise2 M_BadNumber.xc.o n_w n_n (ea_cons ed_str (ea_cons (ed_var rfl) ea_nil))
theorem ok_initP {C CP f : Addr} {fd : FuncData} (F : Fun K "__init__" "Program.__init__" s_Program_init f fd) (T : Bi mg) (n_i : PySem.W.findIn K (.ref CP) "index" = some none) {CN : Addr} (M_BadNumber : MkX P w K mg base "BadNumber" CN ["self", "what", "number"] (spIni2 K CN "what" "number")) (M_BadProgram : MkX P w K mg base "BadProgram" CP ["self", "index"] (spIni1 K CP "index"))
    (Ois_integer : OwnD P w K mg base 1 "is_integer" ["value"] (spR K 1 p1 (rB isInt))) (Ois_natural : OwnD P w K mg base 2 "is_natural" ["value"] (spR K 1 p1 (rB natD))) (Ois_row : OwnD P w K mg base 1 "is_row" ["value"] (spR K 1 p1 (rB isRow)))
    (O_is_step : OwnD P w K mg base 4 "_is_step" ["value", "counters", "locations"] (spR K 3 pSt rSt)) (Otupled : OwnD P w K mg base 2 "tupled" ["value"] (spR K 1 pT rT)) : FnOk P w K mg base (L2.CX P w) 5 f fd ["self", "counters", "locations", "steps"] (spNx K 3 pInP CP kvInP) := by
  refine fn_raise (ps := ["self", "counters", "locations", "steps"]) F sc_Program_init fun cdv A2 outer s H E hr => ⟨_, (pss_cons (ps_if (pt_not (pt_val (pe_own Ois_natural (hr.mono (by decide)) (pa_cons (pv 1) pa_nil))))
        (pss_one (ps_raiseX rfl (takes_of rfl rfl rfl rfl) M_BadNumber (hr.mono (by decide)) (pa_cons pe_str (pa_cons (pv 1) pa_nil))))
        pss_nil)
      (pss_cons (ps_if (pw_or (pt_not (pt_val (pe_own Ois_integer (hr.mono (by decide)) (pa_cons (pv 2) pa_nil)))) (pw_or1 (pt_cmpR op_lt (pv 2) pe_int (nomark _)))).pt
        (pss_one (ps_raiseX rfl (takes_of rfl rfl rfl rfl) M_BadNumber (hr.mono (by decide)) (pa_cons pe_str (pa_cons (pv 2) pa_nil))))
        pss_nil)
      (pss_cons (ps_if (pt_not (pt_val (pe_own Ois_row (hr.mono (by decide)) (pa_cons (pv 3) pa_nil))))
        (pss_one (ps_raiseX rfl (takes_of rfl rfl rfl rfl) M_BadProgram (hr.mono (by decide)) (pa_cons pe_non pa_nil)))
        pss_nil)
      (pss_cons (ps_for (passes_of rfl) rfl (kpi_en (K := K) (by rfl) (T.n_enumerate) (pa_cons (pv 3) pa_nil)) (kpg_tup (K := K) 2 rfl (pgs_cons (pg_name (i := 4) sc_Program_init.nd rfl (by first | exact Or.inl rfl | exact Or.inr rfl)) (pgs_cons (pg_name (i := 5) sc_Program_init.nd rfl (by first | exact Or.inl rfl | exact Or.inr rfl)) pgs_nil)))
        (pss_one (ps_if (pt_not (pt_val (pe_own O_is_step (hr.mono (by decide)) (pa_cons (pv 5) (pa_cons (pv 1) (pa_cons (pv 2) pa_nil))))))
          (pss_one (ps_raiseX rfl (takes_of rfl rfl rfl rfl) M_BadProgram (hr.mono (by decide)) (pa_cons (pv 4) pa_nil)))
          pss_nil)))
      (pss_cons (ps_fld (pv 0) (pv 1) rfl)
      (pss_cons (ps_fld (pv 0) (pv 2) rfl)
      (pss_one (ps_fld (pv 0) (pe_own Otupled (hr.mono (by decide)) (pa_cons (pv 3) pa_nil)) rfl)))))))), ?_⟩
  rintro ds hl ⟨p, ds2, rfl, c, l, x, rfl, hc, hl1, hx, hbad⟩
  refine eqx_if (c := false) ((eb_not (eb_test (ed_b (x := .int c) (ed_var rfl) rfl))).to (by show (!decide (0 ≤ c)) = false; rw [decide_eq_true hc]; rfl)) (fun z => nomatch z) fun _ => (es_next ?_).toX
  show EsX K _ _ _ _
  refine eqx_if (c := false) ((eb_or (c := false) (d := decide (l < 1)) ((eb_not (eb_test (ed_b (x := .int l) (ed_var rfl) rfl))).to rfl) fun _ => eb_test (ed_op (ed_var rfl) ed_int rd_lt)).to ?_) (fun z => nomatch z) fun _ => (es_next ?_).toX
  · have : ¬ l < 1 := by omega
    rw [decide_eq_false this]; rfl
  show EsX K _ _ _ _
  rcases hbad with hbad | ⟨t, xs, j, hseq, hbad⟩
  · have hrow : isRow x = false := by cases x <;> first | rfl | cases hbad
    have e : kvInP [.int c, .int l, x] = [(.str "index", .none)] := by
      show (match seqOf x with
        | none => _
        | some (_, xs) => _) = _
      rw [hbad]
    show EsX K (TakesX K CP (kvInP [.int c, .int l, x]) E) _ _ _
    rw [e]
    exact eqx_if (c := true) ((eb_not (eb_test (ed_b (ed_var rfl) hx.kd))).to (by rw [hrow]; rfl)) (fun _ => esx_raise1 M_BadProgram.xc.o n_i (ea_cons ed_non ea_nil)) fun z => nomatch z
  · have hrow : isRow x = true := by cases x <;> first | rfl | cases hseq
    have e : kvInP [.int c, .int l, x] = [(.str "index", .int ((j : Nat) : Int))] := by
      show (match seqOf x with
        | none => _
        | some (_, xs) => _) = _
      rw [hseq]
      dsimp only
      rw [hbad]
    show EsX K (TakesX K CP (kvInP [.int c, .int l, x]) E) _ _ _
    rw [e]
    refine eqx_if (c := false) ((eb_not (eb_test (ed_b (ed_var rfl) hx.kd))).to (by rw [hrow]; rfl)) (fun z => nomatch z) fun _ => (es_next ?_).toX
    show EsX K _ _ _ _
    refine esx_then (esx_for (xs := enD xs) (ei_en (ea_cons (ed_var rfl) ea_nil) hseq) (fun i ρ => ∃ a b : Option PyData, ρ = [some (.d (RS.adrD p)), some (.d (.int c)), some (.d (.int l)), some (.d x), a.map Sl.d, b.map Sl.d] ∧ badS c l (xs.drop i) i = some j) ⟨none, none, rfl, hbad⟩ ?_ ?_ fun b G H σ ρ S h => TakesX.here S h)
    · rintro i y ρ hy ⟨a, b, rfl, hb⟩
      obtain ⟨s, hs, rfl⟩ := enD_get hy
      have hmem := List.mem_of_getElem? hs
      rw [drop_at hs] at hb
      unfold badS at hb
      refine ⟨_, _, eg_two, ?_⟩
      show EsX K _ _ [some (.d (RS.adrD p)), some (.d (.int c)), some (.d (.int l)), some (.d x), some (.d (.int (i : Nat))), some (.d s)] _
      refine esx_if (c := !stepD c l s) (eb_not (eb_test (ed_call (y := .bool (stepD c l s)) (ea_cons (ed_var rfl) (ea_cons (ed_var rfl) (ea_cons (ed_var rfl) ea_nil))) rfl ⟨s, c, l, rfl, hx.item hseq hmem⟩ ?_))) (fun h => ?_) fun h => ?_
      · rintro z ⟨s2, c2, l2, e, rfl⟩
        cases e; rfl
      · have h2 : stepD c l s = false := by simpa using h
        rw [h2, if_neg (fun z => nomatch z)] at hb
        have hj : i = j := Option.some.inj hb
        subst hj
        exact esx_raise1 M_BadProgram.xc.o n_i (ea_cons (ed_var rfl) ea_nil)
      · have h2 : stepD c l s = true := by simpa using h
        rw [if_pos h2] at hb
        exact (es_next ⟨some (.int (i : Nat)), some s, rfl, hb⟩).toX
    · rintro ρ ⟨a, b, rfl, hb⟩
      have e2 : xs.drop (enD xs).length = [] := List.drop_of_length_le (by rw [enD_len]; omega)
      rw [e2] at hb
      cases hb
end
end K04
end
section
set_option Elab.async false
set_option linter.all false
set_option autoImplicit false
set_option maxRecDepth 100000
set_option maxHeartbeats 4000000
namespace K04
open PySem PySem.Spec PyProof.Rows L2 RS
abbrev s_Program_eq : Stmt := inClass (top 19) 1
abbrev N_Program_eq : List Str := ["self", "other"]
theorem sc_Program_eq : FnScope N_Program_eq ["self", "other"] (defScope s_Program_eq) := ⟨rfl, rfl, rfl, by decide +kernel, rfl, by decide +kernel, by decide +kernel⟩
abbrev s_law_behind : Stmt := top 34
abbrev N_law_behind : List Str := ["program", "configuration", "run", "k"]
theorem sc_law_behind : FnScope N_law_behind ["program", "configuration", "run"] (defScope s_law_behind) := ⟨rfl, rfl, rfl, by decide +kernel, rfl, by decide +kernel, by decide +kernel⟩
abbrev s_law_some_program : Stmt := top 40
abbrev N_law_some_program : List Str := ["pen", "counters", "locations"]
theorem sc_law_some_program : FnScope N_law_some_program ["pen"] (defScope s_law_some_program) := ⟨rfl, rfl, rfl, by decide +kernel, rfl, by decide +kernel, by decide +kernel⟩
/-! == of programs; what the law reads and draws -/
theorem lay_sD (s : Stp) : Lay 2 (sD s) := Lay.seq (n := 1) (t := true) (xs := [.int s.1, iD s.2.1, iD s.2.2.1, .int s.2.2.2]) fun x hx => by
  simp only [List.mem_cons, List.not_mem_nil, or_false] at hx
  rcases hx with rfl | rfl | rfl | rfl
  · exact .int _
  · exact lay_ints (t := true) _
  · exact lay_ints (t := true) _
  · exact .int _
theorem lay_stD (ss : List Stp) : Lay 3 (stD ss) := Lay.seq (n := 2) (t := true) (xs := ss.map sD) fun x hx => by
  obtain ⟨s, _, rfl⟩ := List.mem_map.mp hx
  exact lay_sD s
theorem lay_gD (c l : Int) (ss : List Stp) : Lay 4 (gD c l ss) := Lay.seq (n := 3) (t := true) (xs := [.int c, .int l, stD ss]) fun x hx => by
  simp only [List.mem_cons, List.not_mem_nil, or_false] at hx
  rcases hx with rfl | rfl | rfl
  · exact .int _
  · exact .int _
  · exact lay_stD ss
def eqP (c l : Int) (ss : List Stp) (c2 l2 : Int) (ss2 : List Stp) : Bool := PyData.eqv (gD c l ss) (gD c2 l2 ss2)
theorem eqP_is (c l : Int) (ss : List Stp) (c2 l2 : Int) (ss2 : List Stp) : (PyData.eqv (.int c) (.int c2) && (PyData.eqv (.int l) (.int l2) && PyData.eqv (stD ss) (stD ss2))) = eqP c l ss c2 l2 ss2 := by
  unfold eqP gD
  rw [show PyData.eqv (.tuple [.int c, .int l, stD ss]) (.tuple [.int c2, .int l2, stD ss2]) = PyData.eqvAll [.int c, .int l, stD ss] [.int c2, .int l2, stD ss2] from by rw [PyData.eqv]]
  rw [PyData.eqvAll, PyData.eqvAll, PyData.eqvAll, PyData.eqvAll, Bool.and_true]
def pEq (C : Addr) : List PyData → Prop := fun ds => ∃ c l ss c2 l2 ss2, ds = [prD C c l (stD ss), prD C c2 l2 (stD ss2)]
def rEq (C : Addr) : List PyData → PyData → Prop := fun ds y => ∃ c l ss c2 l2 ss2, ds = [prD C c l (stD ss), prD C c2 l2 (stD ss2)] ∧ y = .bool (eqP c l ss c2 l2 ss2)
def pLb : List PyData → Prop := fun ds => ∃ c l ss cf, ∃ ks : List Nat, ds = [gD c l ss, optD cf, .tuple (kD ks)] ∧ SsOk ss ∧ (∀ a, cf = some a → Sm a.2) ∧ (∀ k ∈ ks, k < ss.length) ∧ ks.length ≤ 100
def behI (ss : List Stp) : List Nat → Option Conf → Option Conf
  | [], c => c
  | k :: ks, c => behI ss ks (c.bind fun a => (ss[k]?).bind fun s => nextI a s)
theorem behI_cons (ss : List Stp) (k : Nat) (ks : List Nat) (c : Option Conf) : behI ss (k :: ks) c = behI ss ks (c.bind fun a => (ss[k]?).bind fun s => nextI a s) := rfl
def rLb : List PyData → PyData → Prop := fun ds y => ∃ c l ss cf, ∃ ks : List Nat, ds = [gD c l ss, optD cf, .tuple (kD ks)] ∧ y = optD (behI ss ks cf)
def sF (q : Nat) (c l : Option PyData) : En := [some (.pen q), c.map Sl.d, l.map Sl.d]
theorem sF_pen {q r : Nat} {c l : Option PyData} : setPen r (sF q c l) = sF r c l := by cases c <;> cases l <;> rfl
def pNil : List PyData → Prop := fun ds => ds = []
def rSo : List PyData → PyData → Prop := fun _ y => ∃ c l : Nat, ∃ ss, y = gD c l ss ∧ Prg c l ss ∧ c ≤ 3 ∧ l ≤ 4 ∧ ss.length ≤ 5
theorem optD_inj {a b : Option Conf} (h : optD a = optD b) : a = b := by
  cases a with
  | none => cases b with
    | none => rfl
    | some b => cases h
  | some a => cases b with
    | none => cases h
    | some b => rw [cD_inj h]
theorem kD_inj {a b : List Nat} (h : kD a = kD b) : a = b := by
  unfold kD at h
  exact (List.map_inj_right (fun a b h => by injection h with h; exact Int.ofNat_inj.mp h)).mp h
section
variable {P : Program} {w : World} {K : PySem.W.Frag} {mg : Str → Option Value} {base : Heap}
theorem ok_eq {C f : Addr} {fd : FuncData} (F : Fun K "__eq__" "Program.__eq__" s_Program_eq f fd) (T : Bi mg) (A : PrA K C) (I : InsT K C) (m_P : mg "Program" = some (.ref C)) (h_k : PySem.W.kitOne K (.ref C) (.ref C) = some true) : FnOk P w K mg base CX0 1 f fd ["self", "other"] (spR K 2 (pEq C) (rEq C)) := by
  refine fn_pure (ps := ["self", "other"]) F sc_Program_eq fun cdv A2 outer s H E hr => ⟨_, (pss_one (ps_ret (pe_and (pe_callB (k_isi (K := K)) (by rfl) (T.n_isinstance) (by decide +kernel) (pa_cons (pv 1) (pa_cons (pe_glob (v := .ref C) (by rfl) m_P rfl) pa_nil))) (pe_and (pe_cmpR (k_eqA (K := K) hr.units) (kpe_fld (K := K) (pv 0) rfl) (kpe_fld (K := K) (pv 1) rfl) (nomark _)) (pe_and (pe_cmpR (k_eqA (K := K) hr.units) (kpe_fld (K := K) (pv 0) rfl) (kpe_fld (K := K) (pv 1) rfl) (nomark _)) (pe_one (pe_cmpR (k_eqA (K := K) hr.units) (kpe_fld (K := K) (pv 0) rfl) (kpe_fld (K := K) (pv 1) rfl) (nomark _)))))))), ?_⟩
  rintro ds hl ⟨c, l, ss, c2, l2, ss2, rfl⟩
  have s1 := (Lay.int (n := 0) c).shaped (by decide)
  have s2 := (Lay.int (n := 0) c2).shaped (by decide)
  have s3 := (Lay.int (n := 0) l).shaped (by decide)
  have s4 := (Lay.int (n := 0) l2).shaped (by decide)
  have s5 := (lay_stD ss).shaped (by decide)
  have s6 := (lay_stD ss2).shaped (by decide)
  refine es_ret ((ed_andV (c := true) (d := PyData.eqv (.int c) (.int c2) && (PyData.eqv (.int l) (.int l2) && PyData.eqv (stD ss) (stD ss2))) (ed_isIns I (ed_var rfl) h_k) fun _ => ed_andV (ed_op (ed_pc A (ed_var rfl)) (ed_pc A (ed_var rfl)) (rd_eqA s1 s2)) fun _ => ed_andV (ed_op (ed_pl A (ed_var rfl)) (ed_pl A (ed_var rfl)) (rd_eqA s3 s4)) fun _ => (ed_op (ed_ps A (ed_var rfl)) (ed_ps A (ed_var rfl)) (rd_eqA s5 s6))).to ?_) ⟨c, l, ss, c2, l2, ss2, rfl, rfl⟩
  rw [Bool.true_and, eqP_is]
theorem ok_law_behind {f : Addr} {fd : FuncData} (F : Fun K "_law_behind" "_law_behind" s_law_behind f fd) (T : Bi mg) (O_law_next : OwnD P w K mg base 1 "_law_next" ["program", "configuration", "k"] (spR K 3 pLn rLn)) : FnOk P w K mg base CX0 2 f fd ["program", "configuration", "run"] (spR K 3 pLb rLb) := by
  refine fn_pure (ps := ["program", "configuration", "run"]) F sc_law_behind fun cdv A2 outer s H E hr => ⟨_, (pss_cons (ps_for PassesOwn.never rfl (kpi_tup (K := K) (pv 2)) (pg_name (i := 3) sc_law_behind.nd rfl (by first | exact Or.inl rfl | exact Or.inr rfl))
        (pss_one (ps_set (i := 1) sc_law_behind.nd rfl (by first | exact Or.inl rfl | exact Or.inr rfl) (pe_ifExp (pt_cmpR op_notN (pv 1) pe_non (nomark _)) (pe_own O_law_next (hr.mono (by decide)) (pa_cons (pv 0) (pa_cons (pv 1) (pa_cons (pv 3) pa_nil)))) pe_non))))
      (pss_one (ps_ret (pv 1)))), ?_⟩
  rintro ds hl ⟨c, l, ss, cf, ks, rfl, hs, hsm, hk, hn⟩
  refine es_then (es_forD (xs := kD ks) (ei_tup (ed_var rfl)) (fun j ρ => ∃ (a : Option Conf) (u : Option PyData), ρ = [some (.d (gD c l ss)), some (.d (optD a)), some (.d (.tuple (kD ks))), u.map Sl.d] ∧ behI ss (ks.drop j) a = behI ss ks cf ∧ ∀ b, a = some b → Sm b.2) ⟨cf, none, rfl, rfl, hsm⟩ ?_ ?_)
  · rintro j y ρ hy ⟨a, u, rfl, hb, hsm2⟩
    unfold kD at hy
    rw [List.getElem?_map] at hy
    cases hkj : ks[j]? with
    | none => rw [hkj] at hy; cases hy
    | some k =>
      rw [hkj] at hy
      cases hy
      rw [drop_at hkj] at hb
      rw [behI_cons] at hb
      refine ⟨_, _, eg_name, ?_⟩
      show Es K _ [some (.d (gD c l ss)), some (.d (optD a)), some (.d (.tuple (kD ks))), some (.d (.int (k : Nat)))] _
      have hlt := hk k (List.mem_of_getElem? hkj)
      obtain ⟨st, hst⟩ : ∃ st, ss[k]? = some st := ⟨_, List.getElem?_eq_getElem hlt⟩
      rw [hst] at hb
      cases a with
      | none => exact es_set (x := optD none) (ev_if (c := false) (eb_test (ed_op (ed_var rfl) ed_non rd_notN)) (fun z => nomatch z) fun _ => ed_non) ⟨none, some (.int (k : Nat)), rfl, hb, fun b e => nomatch e⟩
      | some a =>
        have hsa := hsm2 a rfl
        refine es_set (x := optD (nextI a st)) (ev_if (c := true) (eb_test (ed_op (x := cD a) (ed_var rfl) ed_non rd_notN)) (fun _ => ed_next (ed_var rfl) (ed_var rfl) (ed_var rfl) hs hsa hst) fun z => nomatch z) ⟨nextI a st, some (.int (k : Nat)), rfl, hb, fun b e => next_sm e hsa⟩
  · rintro ρ ⟨a, u, rfl, hb, _⟩
    have e2 : ks.drop (kD ks).length = [] := List.drop_of_length_le (by unfold kD; rw [List.length_map]; omega)
    rw [e2] at hb
    have e3 : a = behI ss ks cf := hb
    subst e3
    exact es_ret (ed_var rfl) ⟨c, l, ss, cf, ks, rfl, rfl⟩
theorem ok_law_some_program {f : Addr} {fd : FuncData} (F : Fun K "_law_some_program" "_law_some_program" s_law_some_program f fd) (T : Bi mg) (O_law_draw : OwnD P w K mg base 1 "_law_draw" ["pen", "many"] (spP K 1 pDraw 1 rDraw)) (O_law_drawn_program : OwnD P w K mg base 3 "_law_drawn_program" ["pen", "counters", "locations", "most"] (spP K 3 pDp 200 rDp)) : FnOk P w K mg base CX0 4 f fd ["pen"] (spP K 0 pNil 210 rSo) := by
  refine fn_pen (ps := []) F sc_law_some_program fun cdv A outer s H E hr => ⟨_, (pss_cons (ps_par rfl sc_law_some_program.nd (i := 1) (j := 2) rfl rfl (by decide) rfl rfl (pa_cons (pe_own O_law_draw (hr.mono (by decide)) (pa_cons (pv 0) (pa_cons pe_int pa_nil))) (pa_cons (pe_op op_add pe_int (pe_own O_law_draw (hr.mono (by decide)) (pa_cons (pv 0) (pa_cons pe_int pa_nil)))) pa_nil)) rfl)
      (pss_cons (ps_if (pt_cmpR (k_eqA (K := K) hr.units) (pe_own O_law_draw (hr.mono (by decide)) (pa_cons (pv 0) (pa_cons pe_int pa_nil))) pe_int (nomark _))
        (pss_one (ps_ret (pe_tup (pa_cons (pv 1) (pa_cons (pv 2) (pa_cons (pe_tup pa_nil) pa_nil))))))
        pss_nil)
      (pss_one (ps_ret (pe_own O_law_drawn_program (hr.mono (by decide)) (pa_cons (pv 0) (pa_cons (pv 1) (pa_cons (pv 2) (pa_cons pe_int pa_nil))))))))), ?_⟩
  rintro b ds hb hl rfl
  show Es K _ (sF b none none) _
  refine eq_par2v (R := fun ρ1 xs => ∃ c l : Nat, c ≤ 3 ∧ 1 ≤ l ∧ l ≤ 4 ∧ xs = [.int (c : Nat), .int (l : Nat)] ∧ ρ1 = sF (b + 2) none none) (eva_cons2 (R1 := fun ρ1 x => ∃ c : Nat, c ≤ 3 ∧ x = .int (c : Nat) ∧ ρ1 = sF (b + 1) none none) (R2 := fun ρ1 _ ρ2 xs => ∃ l : Nat, 1 ≤ l ∧ l ≤ 4 ∧ xs = [.int (l : Nat)] ∧ ρ2 = sF (b + 2) none none) ?_ (fun ρ1 x h => ?_) fun ρ1 x ρ2 xs h1 h2 => ?_) fun ρ1 xs h => ?_
  · refine (ev_draw (c0 := b) (i := 0) (many := 4) rfl sF_pen ed_int (by decide) (by decide) (by omega)).imp fun ρ1 x h => ?_
    obtain ⟨rfl, r, rfl, h0, h1⟩ := h
    exact ⟨r.toNat, by omega, by rw [Int.toNat_of_nonneg h0], sF_pen⟩
  · obtain ⟨c, _, rfl, rfl⟩ := h
    have hd : Ev K (tOp (rI0 fun i j => .int (i + j)) (tC (.int 1)) (tCall (spP K 1 pDraw 1 rDraw) [] E0 (tCons (tVar 0) (tCons (tC (.int 4)) tNil)))) (sF (b + 1) none none) fun ρ2 y => ∃ l : Nat, 1 ≤ l ∧ l ≤ 4 ∧ y = .int (l : Nat) ∧ ρ2 = sF (b + 2) none none := by
      refine ev_op2 (ed_int (i := 1)) (R2 := fun _ _ ρ2 y => ρ2 = sF (b + 2) none none ∧ ∃ r : Int, y = .int r ∧ 0 ≤ r ∧ r < 4) (fun ρ2 y h => ?_) fun ρ2 x ρ3 y h1 h2 => ?_
      · obtain ⟨rfl, rfl⟩ := h
        refine (ev_draw (c0 := b + 1) (i := 0) (many := 4) rfl sF_pen ed_int (by decide) (by decide) (by omega)).imp fun ρ3 x h => ?_
        obtain ⟨rfl, r, rfl, h0, h1⟩ := h
        exact ⟨sF_pen, r, rfl, h0, h1⟩
      · obtain ⟨rfl, rfl⟩ := h1
        obtain ⟨rfl, r, rfl, h0, h3⟩ := h2
        exact ⟨_, rd_add, (1 + r).toNat, by omega, by omega, by rw [Int.toNat_of_nonneg (by omega)], rfl⟩
    refine (eva_one hd).imp fun ρ2 xs h => ?_
    obtain ⟨y, rfl, l, h1, h2, rfl, rfl⟩ := h
    exact ⟨l, h1, h2, rfl, rfl⟩
  · obtain ⟨c, h3, rfl, rfl⟩ := h1
    obtain ⟨l, h4, h5, rfl, rfl⟩ := h2
    exact ⟨c, l, h3, h4, h5, rfl, rfl⟩
  obtain ⟨c, l, hc, hl1, hl4, rfl, rfl⟩ := h
  refine ⟨_, _, rfl, ?_⟩
  show Es K _ (sF (b + 2) (some (.int (c : Nat))) (some (.int (l : Nat)))) _
  refine eq_ifT (evt_drawIs (c0 := b + 2) (many := 12) rfl sF_pen ed_int (by decide) (by decide) (by omega)) (fun ρ1 h => ?_) fun ρ1 h => ?_
  · subst h
    rw [sF_pen]
    exact es_ret (ed_tup (ea_cons (ed_var rfl) (ea_cons (ed_var rfl) (ea_cons (ed_tup ea_nil (by decide)) ea_nil))) (by show 3 ≤ 1000; decide)) ⟨⟨c, l, [], rfl, ⟨by omega, hl1, by decide, fun s h => absurd h List.not_mem_nil⟩, hc, hl4, by decide⟩, b + 3, rfl, by omega⟩
  · subst h
    rw [sF_pen]
    refine es_retv (ev_callP (R := fun ρ1 y => ρ1 = sF (b + 203) (some (.int (c : Nat))) (some (.int (l : Nat))) ∧ rSo [] y) (c0 := b + 3) (i := 0) rfl (ea_cons (ed_var rfl) (ea_cons (ed_var rfl) (ea_cons ed_int ea_nil))) fun ρ1 ds e => ?_) fun ρ1 y h => ?_
    · obtain ⟨rfl, rfl⟩ := e
      refine ⟨b + 3, sF_pen.symm, rfl, ⟨c, l, 5, rfl, by omega, hl1, by omega, by decide, by decide⟩, by omega, fun y hy => ⟨sF_pen, ?_⟩⟩
      obtain ⟨c2, l2, m2, ss, e, rfl, hp, hn⟩ := hy
      injection e with e1 e
      injection e with e2 e
      injection e with e3 _
      injection e1 with e1
      injection e2 with e2
      injection e3 with e3
      obtain rfl := Int.ofNat_inj.mp e1
      obtain rfl := Int.ofNat_inj.mp e2
      have e4 : (5 : Int) = ((m2 : Nat) : Int) := e3
      exact ⟨c, l, ss, rfl, hp, hc, hl4, by omega⟩
    · obtain ⟨rfl, hy⟩ := h
      exact ⟨hy, b + 203, rfl, by omega⟩
end
end K04
end
section
set_option Elab.async false
set_option linter.all false
set_option autoImplicit false
set_option maxRecDepth 100000
set_option maxHeartbeats 4000000
namespace K04
open PySem PySem.Spec PyProof.Rows L2 RS
abbrev s_law_listed : Stmt := top 36
abbrev N_law_listed : List Str := ["pen", "row", "parts", "part"]
theorem sc_law_listed : FnScope N_law_listed ["pen", "row"] (defScope s_law_listed) := ⟨rfl, rfl, rfl, by decide +kernel, rfl, by decide +kernel, by decide +kernel⟩
abbrev s_law_some_run : Stmt := top 45
abbrev N_law_some_run : List Str := ["pen", "program", "configuration", "most", "run", "lap", "able", "k"]
theorem sc_law_some_run : FnScope N_law_some_run ["pen", "program", "configuration", "most"] (defScope s_law_some_run) := ⟨rfl, rfl, rfl, by decide +kernel, rfl, by decide +kernel, by decide +kernel⟩
/-! rows told as lists -/
def pLi : Nat → PyData → Prop
  | 0, _ => False
  | d + 1, x => (∃ i, x = .int i) ∨ ∃ xs, x = .tuple xs ∧ xs.length ≤ 10 ∧ ∀ z ∈ xs, pLi d z
def bLi : Nat → Nat
  | 0 => 0
  | d + 1 => 10 * bLi d + 1
/-- the same, but for list or tuple -/
def Lsd (x y : PyData) : Prop := tupD y = tupD x ∧ szD y = szD x ∧ okD y = okD x
def pLis (d : Nat) : List PyData → Prop := fun ds => ∃ x, ds = [x] ∧ pLi d x
def rLis : List PyData → PyData → Prop := fun ds y => ∃ x, ds = [x] ∧ Lsd x y
theorem lsd_all : ∀ {xs ys : List PyData}, Fa Lsd xs ys → tupDs ys = tupDs xs ∧ szDs ys = szDs xs ∧ okDs ys = okDs xs
  | [], [], _ => ⟨rfl, rfl, rfl⟩
  | [], y :: ys, h => by have := h.1; cases this
  | x :: xs, [], h => by have := h.1; cases this
  | x :: xs, y :: ys, h => by
    obtain ⟨a, b, c⟩ := h.2 0 x y rfl rfl
    obtain ⟨a2, b2, c2⟩ := lsd_all (xs := xs) (ys := ys) ⟨Nat.succ.inj h.1, fun j x y h1 h2 => h.2 (j + 1) x y h1 h2⟩
    refine ⟨by unfold tupDs; rw [a, a2], ?_, ?_⟩
    · rw [show szDs (y :: ys) = szD y + szDs ys from by conv => lhs; unfold szDs, show szDs (x :: xs) = szD x + szDs xs from by conv => lhs; unfold szDs, b, b2]
    · rw [okDs_cons, okDs_cons, c, c2]
theorem lsd_seq {xs ys : List PyData} (t : Bool) (h : Fa Lsd xs ys) : Lsd (.tuple xs) (mkSeq t ys) := by
  obtain ⟨a, b, c⟩ := lsd_all h
  refine ⟨?_, ?_, ?_⟩
  · rw [tupD_seq (seqOf_mk t ys), tupD_seq (x := .tuple xs) rfl, a]
  · rw [sz_seq, b, show szD (.tuple xs) = 2 + szDs xs from sz_seq true xs]
  · rw [ok_seq, c, show okD (.tuple xs) = okDs xs from ok_seq true xs]
theorem lsd_row {y : PyData} {xs : List PyData} (h : Lsd (.tuple xs) y) : ∃ t ys, y = mkSeq t ys ∧ tupDs ys = tupDs xs := by
  obtain ⟨a, _, _⟩ := h
  rw [tupD_seq (x := .tuple xs) rfl] at a
  cases y with
  | list ys => exact ⟨false, ys, rfl, by unfold tupD at a; injection a⟩
  | tuple ys => exact ⟨true, ys, rfl, by unfold tupD at a; injection a⟩
  | _ => unfold tupD at a; cases a
theorem natD_tup (x : PyData) : natD (tupD x) = natD x := by cases x <;> unfold tupD <;> rfl
theorem tupDs_map : ∀ xs : List PyData, tupDs xs = xs.map tupD
  | [] => by unfold tupDs; rfl
  | x :: xs => by unfold tupDs; rw [tupDs_map xs]; rfl
theorem seqOf_tup (x : PyData) : seqOf (tupD x) = (seqOf x).map fun p => (true, p.2.map tupD) := by
  cases x with
  | list xs => unfold tupD; rw [tupDs_map]; rfl
  | tuple xs => unfold tupD; rw [tupDs_map]; rfl
  | _ => unfold tupD; rfl
theorem natsD_tup (n : Int) (x : PyData) : natsD n (tupD x) = natsD n x := by
  unfold natsD
  rw [seqOf_tup]
  cases h : seqOf x with
  | none => rfl
  | some p =>
    obtain ⟨t, xs⟩ := p
    show (decide (((xs.map tupD).length : Int) = n) && (xs.map tupD).all natD) = (decide ((xs.length : Int) = n) && xs.all natD)
    rw [List.length_map, List.all_map]
    have e : (natD ∘ tupD) = natD := funext natD_tup
    rw [e]
theorem belD_tup (n : Int) (x : PyData) : belD n (tupD x) = belD n x := by cases x <;> unfold tupD <;> rfl
theorem stepD_tup (c l : Int) (x : PyData) : stepD c l (tupD x) = stepD c l x := by
  unfold stepD
  rw [seqOf_tup]
  cases h : seqOf x with
  | none => rfl
  | some p =>
    obtain ⟨t, xs⟩ := p
    rcases xs with _ | ⟨a, _ | ⟨b, _ | ⟨g, _ | ⟨e, _ | ⟨z, xs⟩⟩⟩⟩⟩
    · rfl
    · rfl
    · rfl
    · rfl
    · show (belD l (tupD a) && (natsD c (tupD b) && (natsD c (tupD g) && belD l (tupD e)))) = _
      rw [belD_tup, natsD_tup, natsD_tup, belD_tup]
    · rfl
section
variable {P : Program} {w : World} {K : PySem.W.Frag} {mg : Str → Option Value} {base : Heap}
theorem ok_law_listed {f : Addr} {fd : FuncData} (F : Fun K "_law_listed" "_law_listed" s_law_listed f fd) (T : Bi mg) (Y : Ty K) (m : mg "_law_listed" = some (.ref f)) (kp : PySem.W.keepIn K (.ref f) = true) (bi : Binds K fd ["pen", "row"] []) (O_law_draw : OwnD P w K mg base 1 "_law_draw" ["pen", "many"] (spP K 1 pDraw 1 rDraw)) :
    ∀ d, FnOk P w K mg base CX0 (d + 1) f fd ["pen", "row"] (spP K 1 (pLis d) (bLi d) rLis)
  | 0 => ⟨fun vs H Q E h => by
      obtain ⟨_, _, _, _, _, _, _, _, _, _, _, _, h, _⟩ := h
      obtain ⟨_, _, h⟩ := h
      exact h.elim, fun A outer s H args us vs Q E hr e0 hb rv h => by
      obtain ⟨_, _, _, _, _, _, _, _, _, _, _, _, h, _⟩ := h
      obtain ⟨_, _, h⟩ := h
      exact h.elim⟩
  | d + 1 => by
    have O_law_listed : OwnD P w K mg base (d + 1) "_law_listed" ["pen", "row"] (spP K 1 (pLis d) (bLi d) rLis) := ⟨f, fd, ok_law_listed F T Y m kp bi O_law_draw d, m, kp, bi⟩
    refine fn_pen (ps := ["row"]) F sc_law_listed fun cdv A outer s H E hr => ⟨_, (pss_cons (ps_if (pt_not (pt_val (pe_callB (k_isi (K := K)) (by rfl) (T.n_isinstance) (by decide +kernel) (pa_cons (pv 1) (pa_cons (pe_bltn (v := .ty "tuple") (by rfl) (T.n_tuple) (by decide +kernel) rfl) pa_nil)))))
        (pss_one (ps_ret (pv 1)))
        pss_nil)
      (pss_cons (ps_setLc (i := 2) (own := [("part", 3)]) rfl sc_law_listed.nd rfl rfl (sw_true rfl rfl rfl (by decide +kernel)) (kpi_seq (K := K) (pv 1)) (blkOk_by (N := N_law_listed) (sc := defScope s_law_listed) (by decide +kernel)) (fun _ _ _ _ _ => (pg_name (i := 3) sc_law_listed.nd rfl (by first | exact Or.inl rfl | exact Or.inr rfl))) (fun _ _ _ _ _ => pts_nil) (fun _ _ _ _ _ => (pe_own O_law_listed (hr.mono (by omega)) (pa_cons (pv 0) (pa_cons (pv 3) pa_nil)))))
      (pss_one (ps_ret (pe_ifExp (pt_cmpR (k_eqA (K := K) hr.units) (pe_own O_law_draw (hr.mono (by omega)) (pa_cons (pv 0) (pa_cons pe_int pa_nil))) pe_int (nomark _)) (pv 2) (pe_callTy (k_tuple (K := K)) (by rfl) (T.n_tuple) PyProof.Rows.boot_tuple (pa_cons (pv 2) pa_nil))))))), ?_⟩
    rintro b ds hb hl ⟨x, rfl, hx⟩
    show Es K _ [some (.pen b), some (.d x), none, none] _
    rcases hx with ⟨i, rfl⟩ | ⟨xs, rfl, hxl, hxs⟩
    · exact eq_when (c := true) ((eb_not (eb_test (ed_isTup Y (x := .int i) rfl (ed_var rfl)))).to rfl) (fun _ => es_ret (ed_var rfl) ⟨⟨.int i, rfl, rfl, rfl, rfl⟩, b, rfl, by omega⟩) fun z => nomatch z
    · have hkd : Kd (.tuple xs) := rfl
      have hB : b + xs.length * bLi d + 1 ≤ b + bLi (d + 1) := by
        have := Nat.mul_le_mul_right (bLi d) hxl
        show _ ≤ b + (10 * bLi d + 1)
        omega
      refine eq_when (c := false) ((eb_not (eb_test (ed_isTup Y hkd (ed_var rfl)))).to rfl) (fun z => nomatch z) fun _ => ?_
      refine eqv_set (ev_lcW (c0 := b) (B := bLi d) (Q := Lsd) (ei_seq (t := true) (xs := xs) (ed_var rfl) rfl) (by omega) rfl rfl (by omega) fun c z hz hc => ?_) fun ρ1 y h => ?_
      · show Ev K _ [some (.pen c), some (.d (.tuple xs)), none, some (.d z)] _
        refine ev_callP (c0 := c) (i := 0) rfl (ea_cons (ed_var rfl) ea_nil) fun ρ1 ds e => ?_
        obtain ⟨rfl, rfl⟩ := e
        refine ⟨c, rfl, rfl, ⟨z, rfl, hxs z hz⟩, hc, fun y hy => ⟨rfl, ?_⟩⟩
        obtain ⟨x2, e, h⟩ := hy
        cases e
        exact h
      · obtain ⟨ys, rfl, hf, rfl⟩ := h
        show Es K _ [some (.pen (b + xs.length * bLi d)), some (.d (.tuple xs)), some (.d (.list ys)), none] _
        refine es_retv (R := fun ρ1 y => ρ1 = [some (.pen (b + xs.length * bLi d + 1)), some (.d (.tuple xs)), some (.d (.list ys)), none] ∧ Lsd (.tuple xs) y) (ev_ifT (evt_drawIs (many := 2) rfl rfl ed_int (by decide) (by decide) (by omega)) (fun ρ1 h => ?_) fun ρ1 h => ?_) fun ρ1 y h => ?_
        · subst h
          exact (ed_var rfl).imp fun ρ2 y h => by
            obtain ⟨rfl, rfl⟩ := h
            exact ⟨rfl, lsd_seq false hf⟩
        · subst h
          exact (ed_cb (ea_cons (ed_var (i := 2) rfl) ea_nil) rc_tupleL).imp fun ρ2 y h => by
            obtain ⟨rfl, rfl⟩ := h
            exact ⟨rfl, lsd_seq true hf⟩
        · obtain ⟨rfl, h⟩ := h
          exact ⟨⟨_, rfl, h⟩, _, rfl, hB⟩
end
end K04
end
section
set_option Elab.async false
set_option linter.all false
set_option autoImplicit false
set_option maxRecDepth 100000
set_option maxHeartbeats 4000000
namespace K04
open PySem PySem.Spec PyProof.Rows L2 RS

/-! a run that can be done -/
theorem able_in {ss : List Stp} {cf : Conf} {y : PyData} (h : y ∈ kD (ables ss cf)) : ∃ k s e, y = .int ((k : Nat) : Int) ∧ ss[k]? = some s ∧ nextI cf s = some e := by
  obtain ⟨k, hk, rfl⟩ := List.mem_map.mp h
  have h2 := (List.mem_filter.mp hk).2
  unfold canI at h2
  cases hs : ss[k]? with
  | none => rw [hs] at h2; cases h2
  | some s =>
    rw [hs] at h2
    obtain ⟨e, he⟩ := Option.isSome_iff_exists.mp h2
    exact ⟨k, s, e, rfl, hs, he⟩
theorem able_ne {ss : List Stp} {cf : Conf} : PyData.eqv (.list (kD (ables ss cf))) (.list []) = (kD (ables ss cf)).isEmpty := by
  cases kD (ables ss cf) with
  | nil => unfold PyData.eqv PyData.eqvAll; rfl
  | cons a r => unfold PyData.eqv PyData.eqvAll; rfl
theorem kD_len (ks : List Nat) : (kD ks).length = ks.length := by unfold kD; rw [List.length_map]
theorem lay_kD (t : Bool) (ks : List Nat) : Lay 1 (mkSeq t (kD ks)) := Lay.seq (n := 0) fun y hy => by
  obtain ⟨k, _, rfl⟩ := List.mem_map.mp hy
  exact .int _
theorem able_len (ss : List Stp) (cf : Conf) : (kD (ables ss cf)).length ≤ ss.length := by
  rw [kD_len]
  unfold ables
  exact Nat.le_trans (List.length_filter_le _ _) (by rw [List.length_range]; omega)
theorem run_lt {ss : List Stp} : ∀ {ks : List Nat} {c e : Conf}, runI ss ks c = some e → ∀ k ∈ ks, k < ss.length
  | [], _, _, _, k, h => absurd h List.not_mem_nil
  | a :: ks, c, e, h, k, hk => by
    unfold runI at h
    cases hs : ss[a]? with
    | none => rw [hs] at h; cases h
    | some s =>
      rw [hs] at h
      dsimp only at h
      cases hn : nextI c s with
      | none => rw [hn] at h; cases h
      | some d =>
        rw [hn] at h
        rcases List.mem_cons.mp hk with rfl | hk
        · exact (List.getElem?_eq_some_iff.mp hs).1
        · exact run_lt (ks := ks) h k hk
theorem kD_last (ks : List Nat) (k : Nat) : atI (kD (ks ++ [k])) (-1) = some (.int ((k : Nat) : Int)) := by
  have el : (kD (ks ++ [k])).length = ks.length + 1 := by rw [kD_len, List.length_append]; rfl
  have ix : ixN (ks.length + 1) (-1) = some ks.length := by
    unfold ixN
    rw [if_neg (by decide), if_pos (by omega)]
    congr 1
    omega
  unfold atI
  rw [el, ix]
  show (kD (ks ++ [k]))[ks.length]? = _
  unfold kD
  rw [List.getElem?_map, List.getElem?_append_right (Nat.le_refl _), Nat.sub_self]; rfl
def rF (q : Nat) (c l : Nat) (ss : List Stp) (cf : Conf) (m : Nat) (ks : List Nat) (la ab : Option PyData) : En := [some (.pen q), some (.d (gD c l ss)), some (.d (cD cf)), some (.d (.int (m : Nat))), some (.d (.tuple (kD ks))), la.map Sl.d, ab.map Sl.d, none]
theorem rF_pen {q r c l : Nat} {ss : List Stp} {cf : Conf} {m : Nat} {ks : List Nat} {la ab : Option PyData} : setPen r (rF q c l ss cf m ks la ab) = rF r c l ss cf m ks la ab := by cases la <;> cases ab <;> rfl
def pSr : List PyData → Prop := fun ds => ∃ c l m : Nat, ∃ ss cf, ds = [gD c l ss, cD cf, .int m] ∧ Prg c l ss ∧ CfI c l cf ∧ 1 ≤ m ∧ m ≤ 14
def rSr : List PyData → PyData → Prop := fun ds y => ∃ c l m : Nat, ∃ ss cf, ∃ ks : List Nat, ∃ e, ds = [gD c l ss, cD cf, .int m] ∧ y = .tuple (kD ks) ∧ runI ss ks cf = some e ∧ ks.length ≤ 14
section
variable {P : Program} {w : World} {K : PySem.W.Frag} {mg : Str → Option Value} {base : Heap}
theorem ok_law_some_run {f : Addr} {fd : FuncData} (F : Fun K "_law_some_run" "_law_some_run" s_law_some_run f fd) (T : Bi mg) (O_law_draw : OwnD P w K mg base 1 "_law_draw" ["pen", "many"] (spP K 1 pDraw 1 rDraw)) (O_law_pick : OwnD P w K mg base 2 "_law_pick" ["pen", "row"] (spP K 1 pPick 1 rPick)) (O_law_next : OwnD P w K mg base 1 "_law_next" ["program", "configuration", "k"] (spR K 3 pLn rLn)) :
    FnOk P w K mg base CX0 3 f fd ["pen", "program", "configuration", "most"] (spP K 3 pSr 30 rSr) := by
  refine fn_pen (ps := ["program", "configuration", "most"]) F sc_law_some_run fun cdv A outer s H E hr => ⟨_, (pss_cons (ps_set (i := 4) sc_law_some_run.nd rfl (by first | exact Or.inl rfl | exact Or.inr rfl) (pe_tup pa_nil))
      (pss_cons (ps_for PassesOwn.never rfl (pi_range1 (by rfl) (T.n_range) (pa_cons (pe_own O_law_draw (hr.mono (by decide)) (pa_cons (pv 0) (pa_cons (pv 3) pa_nil))) pa_nil)) (pg_name (i := 5) sc_law_some_run.nd rfl (by first | exact Or.inl rfl | exact Or.inr rfl))
        (pss_cons (ps_setLc (i := 6) (own := [("k", 7)]) rfl sc_law_some_run.nd rfl rfl (sw_true rfl rfl rfl (by decide +kernel)) (pi_range1 (by rfl) (T.n_range) (pa_cons (pe_callB (k_len (K := K)) (by rfl) (T.n_len) PySem.boot_len (pa_cons (pe_ix (k_ix (K := K)) (pv 1) pe_int (fun _ _ => rfl)) pa_nil)) pa_nil)) (blkOk_by (N := N_law_some_run) (sc := defScope s_law_some_run) (by decide +kernel)) (fun _ _ _ _ _ => (pg_name (i := 7) sc_law_some_run.nd rfl (by first | exact Or.inl rfl | exact Or.inr rfl))) (fun _ _ _ _ _ => (pts_one (pt_cmpR op_notN (pe_own O_law_next (hr.mono (by decide)) (pa_cons (pv 1) (pa_cons (pv 2) (pa_cons (pv 7) pa_nil)))) pe_non (nomark _)))) (fun _ _ _ _ _ => (pv 7)))
        (pss_cons (ps_if (pt_cmpR (k_eqA (K := K) hr.units) (pv 6) (pe_lst pa_nil) (nomark _))
          (pss_one ps_break)
          pss_nil)
        (pss_cons (ps_set (i := 4) sc_law_some_run.nd rfl (by first | exact Or.inl rfl | exact Or.inr rfl) (pe_op (k_catA (K := K)) (pv 4) (pe_tup (pa_cons (pe_own O_law_pick (hr.mono (by decide)) (pa_cons (pv 0) (pa_cons (pv 6) pa_nil))) pa_nil))))
        (pss_one (ps_set (i := 2) sc_law_some_run.nd rfl (by first | exact Or.inl rfl | exact Or.inr rfl) (pe_own O_law_next (hr.mono (by decide)) (pa_cons (pv 1) (pa_cons (pv 2) (pa_cons (pe_ix (k_ix (K := K)) (pv 4) (pe_un un_neg pe_int) (fun _ _ => rfl)) pa_nil))))))))))
      (pss_one (ps_ret (pv 4))))), ?_⟩
  rintro b ds hb hl ⟨c, l, m, ss, cf, rfl, hp, hcf, hm1, hm2⟩
  have h8 := hp.c8
  have hn8 := hp.n
  have ok1 := SsOk.of hp
  refine eq_set (x := .tuple (kD [])) (ed_tup ea_nil (by decide)) ?_
  show Es K _ (rF b c l ss cf m [] none none) _
  refine es_then (es_for (R := fun ρ1 xs => ∃ n : Nat, n < m ∧ xs = rgD n ∧ ρ1 = rF (b + 1) c l ss cf m [] none none) (eiv_rng1 (eva_one (ev_drawN (c0 := b) (i := 0) (many := m) rfl rF_pen (ed_var rfl) (by omega) (by omega) (by omega))) fun ρ1 xs h => ?_) fun ρ1 xs h => ?_)
  · obtain ⟨y, rfl, rfl, r, rfl, h1⟩ := h
    exact ⟨(r : Nat), rfl, by omega, by omega, r, h1, rfl, rF_pen⟩
  · obtain ⟨n, hn, rfl, rfl⟩ := h
    have fin : ∀ (q : Nat) (e : Conf) (ks : List Nat) (x y : Option PyData), q ≤ b + 30 → runI ss ks cf = some e → ks.length ≤ 14 → Es K (tRet (tVar 4)) (rF q c l ss e m ks x y) (RetP (b + 30) (rSr [gD c l ss, cD cf, .int (m : Nat)])) := fun q e ks x y hq hr hk =>
      es_ret (ed_var rfl) ⟨⟨c, l, m, ss, cf, ks, e, rfl, rfl, hr, hk⟩, q, rfl, hq⟩
    refine ⟨fun j ρ => ∃ (e : Conf) (ks : List Nat) (x y : Option PyData), ρ = rF (b + 1 + j) c l ss e m ks x y ∧ runI ss ks cf = some e ∧ ks.length = j, ⟨cf, [], none, none, rfl, rfl, rfl⟩, fun j x ρ hx hI => ?_, fun ρ hI => ?_⟩
    · obtain ⟨e, ks, x1, y1, rfl, hrun, hlen⟩ := hI
      obtain ⟨rfl, hj⟩ := rgD_get hx
      have hce := run_ok hp hcf hrun
      have hel := hce.2.2.1
      have hsm : Sm e.2 := by show e.2.length ≤ 100; omega
      refine ⟨_, _, eg_name, ?_⟩
      show Es K _ (rF (b + 1 + j) c l ss e m ks (some (.int (j : Nat))) y1) _
      refine eq_set (ed_able (c0 := b + 1 + j) (ip := 1) (is_ := 2) (iv := 7) rfl rfl rfl rF_pen ok1 hsm (by decide) (by decide)) ?_
      show Es K _ (rF (b + 1 + j) c l ss e m ks (some (.int (j : Nat))) (some (.list (kD (ables ss e))))) _
      refine eq_when (c := (kD (ables ss e)).isEmpty) ((eb_test (ed_op (ed_var rfl) (ed_lst ea_nil (by decide)) (rd_eqA ((lay_kD false _).shaped (by decide)) rfl))).to able_ne) (fun _ => es_break (fin _ e ks _ _ (by omega) hrun (by omega))) fun hne => ?_
      have hne2 : kD (ables ss e) ≠ [] := fun z => by rw [z] at hne; cases hne
      have hal := able_len ss e
      have hpick : Ev K (tOp (rCatA K) (tVar 4) (tTup (tCons (tCall (spP K 1 pPick 1 rPick) [] E0 (tCons (tVar 0) (tCons (tVar 6) tNil))) tNil))) (rF (b + 1 + j) c l ss e m ks (some (.int (j : Nat))) (some (.list (kD (ables ss e))))) fun ρ1 y => ∃ k s e2, y = .tuple (kD (ks ++ [k])) ∧ ss[k]? = some s ∧ nextI e s = some e2 ∧ ρ1 = rF (b + 1 + (j + 1)) c l ss e m ks (some (.int (j : Nat))) (some (.list (kD (ables ss e)))) := by
        refine ev_op2 (ed_var (i := 4) rfl) (R2 := fun ρ1 _ ρ2 y => ∃ z, y = .tuple [z] ∧ z ∈ kD (ables ss e) ∧ ρ2 = rF (b + 1 + (j + 1)) c l ss e m ks (some (.int (j : Nat))) (some (.list (kD (ables ss e))))) (fun ρ1 x h => ?_) fun ρ1 x ρ2 y h1 h2 => ?_
        · obtain ⟨rfl, rfl⟩ := h
          refine ev_tup (eva_one (ev_pick (c0 := b + 1 + j) (i := 0) (xs := kD (ables ss e)) rfl rF_pen (ed_var rfl) hne2 (by omega) (by omega))) fun ρ2 xs h => ?_
          obtain ⟨y, rfl, rfl, hy⟩ := h
          exact ⟨by show 1 ≤ 1000; decide, y, rfl, hy, rF_pen⟩
        · obtain ⟨rfl, rfl⟩ := h1
          obtain ⟨z, rfl, hz, rfl⟩ := h2
          obtain ⟨k, s, e2, rfl, h3, h4⟩ := able_in hz
          have ek : kD (ks ++ [k]) = kD ks ++ [.int ((k : Nat) : Int)] := by unfold kD; rw [List.map_append]; rfl
          exact ⟨_, rd_catT (by rw [kD_len]; show ks.length + 1 ≤ 1000000; omega), k, s, e2, by rw [ek], h3, h4, rfl⟩
      refine eqv_set hpick fun ρ1 y h => ?_
      obtain ⟨k, s, e2, rfl, h3, h4, rfl⟩ := h
      show Es K _ (rF (b + 1 + (j + 1)) c l ss e m (ks ++ [k]) (some (.int (j : Nat))) (some (.list (kD (ables ss e))))) _
      have hrun2 : runI ss (ks ++ [k]) cf = some e2 := by
        rw [run_snoc, hrun]
        show ((ss[k]?).bind fun s => nextI e s) = some e2
        rw [h3]; exact h4
      have hat : atI (kD (ks ++ [k])) (-1) = some (.int ((k : Nat) : Int)) := kD_last ks k
      refine es_set ((ed_next (ed_var rfl) (ed_var rfl) (ed_op (ed_var rfl) (ed_un ed_int ru_neg) (rd_ixT hat)) ok1 hsm h3).to (y := cD e2) (by rw [h4]; rfl)) ?_
      exact ⟨e2, ks ++ [k], some (.int (j : Nat)), some (.list (kD (ables ss e))), rfl, hrun2, by rw [List.length_append, hlen]; rfl⟩
    · obtain ⟨e, ks, x1, y1, rfl, hrun, hlen⟩ := hI
      rw [rgD_len] at hlen ⊢
      exact fin _ e ks x1 y1 (by omega) hrun (by omega)
end
end K04
end
section
set_option Elab.async false
set_option linter.all false
set_option autoImplicit false
set_option maxRecDepth 100000
set_option maxHeartbeats 4000000
namespace K04
open PySem PySem.Spec PyProof.Rows L2 RS
abbrev s_law_is_kept : Stmt := top 41
abbrev N_law_is_kept : List Str := ["pen", "program", "made", "some", "k", "begin", "takes", "gives", "end", "bent", "other"]
theorem sc_law_is_kept : FnScope N_law_is_kept ["pen", "program"] (defScope s_law_is_kept) := ⟨rfl, rfl, rfl, by decide +kernel, rfl, by decide +kernel, by decide +kernel⟩
/-! what is kept of a program -/
theorem pn_d (r : Nat) (x : Option PyData) : pn r (x.map Sl.d) = x.map Sl.d := by cases x <;> rfl
def rTrue : List PyData → PyData → Prop := fun _ y => y = .bool true
theorem cutP_to (xs : List PyData) (k : Nat) : cutP xs none (some (k : Int)) = xs.take k := by
  unfold cutP
  rw [HT.sIx_none, HT.sIx_nat, Nat.sub_zero, List.drop_zero]
  rcases Nat.le_total k xs.length with h | h
  · rw [Nat.min_eq_left h]
  · rw [Nat.min_eq_right h, List.take_length, List.take_of_length_le h]
theorem cutP_from (xs : List PyData) (k : Nat) : cutP xs (some (k : Int)) none = xs.drop k := by
  unfold cutP
  rw [HT.sIx_none, HT.sIx_nat]
  rcases Nat.le_total k xs.length with h | h
  · rw [Nat.min_eq_left h, List.take_of_length_le (by rw [List.length_drop]; omega)]
  · rw [Nat.min_eq_right h, Nat.sub_self, List.take_zero, List.drop_of_length_le h]
abbrev Pg := Nat × Nat × List Stp
def gT (p : Pg) : PyData := gD (p.1 : Nat) (p.2.1 : Nat) p.2.2
def AllP (L : List Pg) : Prop := ∀ p ∈ L, Prg p.1 p.2.1 p.2.2
theorem AllP.snoc {L : List Pg} {p : Pg} (h : AllP L) (hp : Prg p.1 p.2.1 p.2.2) : AllP (L ++ [p]) := fun q hq => by
  rcases List.mem_append.mp hq with hq | hq
  · exact h q hq
  · rw [List.mem_singleton.mp hq]; exact hp
theorem gT_snoc (L : List Pg) (p : Pg) : (L ++ [p]).map gT = L.map gT ++ [gT p] := by rw [List.map_append]; rfl
theorem pLi_ints (d : Nat) (xs : List Int) (h : xs.length ≤ 10) : pLi (d + 2) (iD xs) := .inr ⟨xs.map PyData.int, rfl, by rw [List.length_map]; exact h, fun z hz => by
  obtain ⟨i, _, rfl⟩ := List.mem_map.mp hz
  exact .inl ⟨i, rfl⟩⟩
theorem pLi_st {c l : Nat} {ss : List Stp} (h : Prg c l ss) : pLi 4 (stD ss) := .inr ⟨ss.map sD, rfl, by rw [List.length_map]; have := h.n; omega, fun z hz => by
  obtain ⟨s, hs, rfl⟩ := List.mem_map.mp hz
  have st := h.st s hs
  have h8 := h.c8
  refine .inr ⟨[.int s.1, iD s.2.1, iD s.2.2.1, .int s.2.2.2], rfl, by show 4 ≤ 10; decide, fun y hy => ?_⟩
  simp only [List.mem_cons, List.not_mem_nil, or_false] at hy
  rcases hy with rfl | rfl | rfl | rfl
  · exact .inl ⟨_, rfl⟩
  · exact pLi_ints 0 _ (by rw [st.t.1]; omega)
  · exact pLi_ints 0 _ (by rw [st.g.1]; omega)
  · exact .inl ⟨_, rfl⟩⟩
theorem tup_st {c l : Nat} {ss : List Stp} (h : Prg c l ss) : tupDs (ss.map sD) = ss.map sD := (steps_all true h.c8 ss h.st).2.2
theorem pIn_lsd {c l : Nat} {ss : List Stp} {y : PyData} (h : Prg c l ss) (hy : Lsd (stD ss) y) : pIn [.int c, .int l, y] := by
  obtain ⟨c2, l2, x, e, h0, h1, hok, t, xs, hseq, hst⟩ := pIn_ok h true true
  injection e with e1 e
  injection e with e2 e
  injection e with e3 _
  injection e1 with e1
  injection e2 with e2
  subst e1 e2 e3
  obtain ⟨t2, ys, rfl, hys⟩ := lsd_row hy
  refine ⟨c, l, _, rfl, h0, h1, ⟨by rw [hy.2.2]; exact hok.1, by rw [hy.2.1]; exact hok.2⟩, t2, ys, seqOf_mk t2 ys, fun s hs => ?_⟩
  rw [← stepD_tup]
  have hm : tupD s ∈ tupDs ys := by rw [tupDs_map]; exact List.mem_map.mpr ⟨s, hs, rfl⟩
  rw [hys, tup_st h] at hm
  have e5 : (true, ss.map sD) = (t, xs) := Option.some.inj hseq
  injection e5 with _ e5
  exact hst _ (by rw [← e5]; exact hm)
theorem fPr_lsd {c l : Nat} {ss : List Stp} {y : PyData} (h : Prg c l ss) (hy : Lsd (stD ss) y) (C : Addr) : insD C (fPr [.int c, .int l, y]) = prD C c l (stD ss) := by
  show prD C c l (tupD y) = _
  rw [hy.1]
  show prD C c l (tupD (mkSeq true (ss.map sD))) = _
  rw [tup_seq, tup_st h]; rfl
theorem eq_self (c l : Int) (ss : List Stp) : eqP c l ss c l ss = true := SeqAt.eqv_refl _ (lay_gD c l ss).1
section
variable {P : Program} {w : World} {K : PySem.W.Frag} {mg : Str → Option Value} {base : Heap}
theorem ed_made {C : Addr} {E : XK} {ρ : En} {te : TE} {c l : Nat} {ss : List Stp} (h : Ed K te ρ (gD c l ss)) (hp : Prg c l ss) : Ed K (tCall (spR K 1 pMp (rMp C)) [] E (tCons te tNil)) ρ (prD C c l (stD ss)) :=
  ed_call (ea_cons h ea_nil) rfl ⟨c, l, ss, rfl, hp⟩ fun z hz => by
    obtain ⟨c2, l2, ss2, e, rfl⟩ := hz
    injection e with e _
    obtain ⟨e1, e2, e3⟩ := gD_inj e
    rw [← e1, ← e2, e3]
/-- program[i] -/
theorem ed_g0 {ρ : En} {te : TE} {c l : Int} {ss : List Stp} (h : Ed K te ρ (gD c l ss)) : Ed K (tOp (rIx K) te (tC (.int 0))) ρ (.int c) := ed_op h ed_int (rd_ixT rfl)
theorem ed_g1 {ρ : En} {te : TE} {c l : Int} {ss : List Stp} (h : Ed K te ρ (gD c l ss)) : Ed K (tOp (rIx K) te (tC (.int 1))) ρ (.int l) := ed_op h ed_int (rd_ixT rfl)
theorem ed_g2 {ρ : En} {te : TE} {c l : Int} {ss : List Stp} (h : Ed K te ρ (gD c l ss)) : Ed K (tOp (rIx K) te (tC (.int 2))) ρ (.tuple (ss.map sD)) := ed_op h ed_int (rd_ixT rfl)
theorem rd_eqP {C : Addr} {c l c2 l2 : Int} {ss ss2 : List Stp} : RD K (rEqO C (spR K 2 (pEq C) (rEq C))) (prD C c l (stD ss)) (prD C c2 l2 (stD ss2)) (.bool (eqP c l ss c2 l2 ss2)) :=
  rd_eqO (C := C) (k1 := [(.str "counters", .int c), (.str "locations", .int l), (.str "steps", stD ss)]) (k2 := [(.str "counters", .int c2), (.str "locations", .int l2), (.str "steps", stD ss2)]) ⟨c, l, ss, c2, l2, ss2, rfl⟩ fun z hz => by
    obtain ⟨c3, l3, ss3, c4, l4, ss4, e, rfl⟩ := hz
    injection e with e1 e
    injection e with e2 _
    obtain ⟨a1, a2, a3⟩ := prD_inj (C := C) (s := stD ss) (s2 := stD ss3) e1
    obtain ⟨b1, b2, b3⟩ := prD_inj (C := C) (s := stD ss2) (s2 := stD ss4) e2
    rw [a1, a2, stD_inj a3, b1, b2, stD_inj b3]
theorem rc_min2 {a b : Int} : RC K (rMin K) [.list [.int a, .int b]] (.int (min a b)) := fun G H vs s d Q q => by
  obtain ⟨v, rfl, d1⟩ := d.one
  obtain ⟨p, us, rfl, hp, _, da⟩ := d1.lstH s
  have e : us = [a, b].map V.int := DAs.of_ints (ns := [a, b]) da
  subst e
  refine ⟨p, [a, b], rfl, SqL.of hp, by show 0 < 2; decide, fun m hm hle => ?_⟩
  have e : m = min a b := by
    simp only [List.mem_cons, List.not_mem_nil, or_false] at hm
    have h1 := hle a List.mem_cons_self
    have h2 := hle b (List.mem_cons_of_mem _ List.mem_cons_self)
    rcases hm with rfl | rfl <;> omega
  rw [e]
  exact q _ G H (Step.refl s) (.int _)
def pIk : List PyData → Prop := fun ds => ∃ c l : Nat, ∃ ss, ds = [gD c l ss] ∧ Prg c l ss ∧ ss.length ≤ 5 ∧ l ≤ 4 ∧ c ≤ 3
def kF (q : Nat) (C : Addr) (c l : Nat) (ss : List Stp) (so : Option Sl) (k b t g e be o : Option PyData) : En := [some (.pen q), some (.d (gD c l ss)), some (.d (prD C c l (stD ss))), so, k.map Sl.d, b.map Sl.d, t.map Sl.d, g.map Sl.d, e.map Sl.d, be.map Sl.d, o.map Sl.d]
theorem kF_pen {q r c l : Nat} {C : Addr} {ss : List Stp} {L : List PyData} {k b t g e be o : Option PyData} : setPen r (kF q C c l ss (some (.own L)) k b t g e be o) = kF r C c l ss (some (.own L)) k b t g e be o := by
  unfold setPen kF
  simp only [List.map_cons, List.map_nil, pn_d]
  rfl
theorem ok_law_is_kept {C f : Addr} {fd : FuncData} (F : Fun K "_law_is_kept" "_law_is_kept" s_law_is_kept f fd) (T : Bi mg) (A : PrA K C) (Q_Program : EqO P w K mg base C 1 (spR K 2 (pEq C) (rEq C))) (M_Program : MkO P w K mg base "Program" C 5 ["self", "counters", "locations", "steps"] (spNew K C 3 pIn fPr))
    (O_law_listed : OwnD P w K mg base 5 "_law_listed" ["pen", "row"] (spP K 1 (pLis 4) (bLi 4) rLis)) (O_law_made_program : OwnD P w K mg base 7 "_law_made_program" ["program"] (spR K 1 pMp (rMp C))) (O_law_pick : OwnD P w K mg base 2 "_law_pick" ["pen", "row"] (spP K 1 pPick 1 rPick)) :
    FnOk P w K mg base CX0 8 f fd ["pen", "program"] (spP K 1 pIk 1200 rTrue) := by
  refine fn_pen (ps := ["program"]) F sc_law_is_kept fun cdv A2 outer s H E hr => ⟨_, (pss_cons (ps_set (i := 2) sc_law_is_kept.nd rfl (by first | exact Or.inl rfl | exact Or.inr rfl) (pe_mko M_Program (hr.mono (by decide)) (pa_cons (pe_ix (k_ix (K := K)) (pv 1) pe_int (fun _ _ => rfl)) (pa_cons (pe_ix (k_ix (K := K)) (pv 1) pe_int (fun _ _ => rfl)) (pa_cons (pe_own O_law_listed (hr.mono (by decide)) (pa_cons (pv 0) (pa_cons (pe_ix (k_ix (K := K)) (pv 1) pe_int (fun _ _ => rfl)) pa_nil))) pa_nil)))))
      (pss_cons (ps_if (pw_or (pt_cmpR (k_neA (K := K) hr.units) (pe_tup (pa_cons (kpe_fld (K := K) (pv 2) rfl) (pa_cons (kpe_fld (K := K) (pv 2) rfl) (pa_cons (kpe_fld (K := K) (pv 2) rfl) pa_nil)))) (pv 1) (nomark _)) (pw_or1 (pt_not (pt_cmpR (op_eqO Q_Program (hr.mono (by decide))) (pv 2) (pe_own O_law_made_program (hr.mono (by decide)) (pa_cons (pv 1) pa_nil)) (nomark _))))).pt
        (pss_one (ps_ret pe_bl))
        pss_nil)
      (pss_cons (ps_set (i := 3) sc_law_is_kept.nd rfl (by first | exact Or.inl rfl | exact Or.inr rfl) (pe_lst (pa_cons (pe_tup (pa_cons (pe_ix (k_ix (K := K)) (pv 1) pe_int (fun _ _ => rfl)) (pa_cons (pe_callB (k_min (K := K) rfl) (by rfl) (T.n_min) (by decide +kernel) (pa_cons (pe_lst (pa_cons (pe_op op_add (pe_ix (k_ix (K := K)) (pv 1) pe_int (fun _ _ => rfl)) pe_int) (pa_cons pe_int pa_nil))) pa_nil)) (pa_cons (pe_ix (k_ix (K := K)) (pv 1) pe_int (fun _ _ => rfl)) pa_nil)))) (pa_cons (pe_tup (pa_cons (pe_ix (k_ix (K := K)) (pv 1) pe_int (fun _ _ => rfl)) (pa_cons (pe_ix (k_ix (K := K)) (pv 1) pe_int (fun _ _ => rfl)) (pa_cons (pe_op (k_catA (K := K)) (pe_ix (k_ix (K := K)) (pv 1) pe_int (fun _ _ => rfl)) (pe_slice (k_slT (K := K)) (pe_ix (k_ix (K := K)) (pv 1) pe_int (fun _ _ => rfl)) po_none (po_some pe_int))) pa_nil)))) pa_nil))))
      (pss_cons (ps_expr (pe_bm PySem.F.plainAttrs_list PySem.F.slot_list_append PySem.F.type_list_append mt_append (pv 3) (pa_cons (pe_tup (pa_cons (pe_ix (k_ix (K := K)) (pv 1) pe_int (fun _ _ => rfl)) (pa_cons (pe_ix (k_ix (K := K)) (pv 1) pe_int (fun _ _ => rfl)) (pa_cons (kpe_revS (K := K) (pe_ix (k_ix (K := K)) (pv 1) pe_int (fun _ _ => rfl))) pa_nil)))) pa_nil)))
      (pss_cons (ps_if (pt_cmpR (k_eqA (K := K) hr.units) (pe_ix (k_ix (K := K)) (pv 1) pe_int (fun _ _ => rfl)) (pe_tup pa_nil) (nomark _))
        (pss_one (ps_expr (pe_bm PySem.F.plainAttrs_list PySem.F.slot_list_append PySem.F.type_list_append mt_append (pv 3) (pa_cons (pe_tup (pa_cons (pe_op op_mod (pe_callTy call_int1 (by rfl) (T.n_int) PyProof.Rows.boot_int (pa_cons (pe_op op_add (pe_ix (k_ix (K := K)) (pv 1) pe_int (fun _ _ => rfl)) pe_int) pa_nil)) pe_int) (pa_cons (pe_ix (k_ix (K := K)) (pv 1) pe_int (fun _ _ => rfl)) (pa_cons (pe_tup pa_nil) pa_nil)))) pa_nil))))
        pss_nil)
      (pss_cons (ps_for PassesOwn.never rfl (kpi_en (K := K) (by rfl) (T.n_enumerate) (pa_cons (pe_ix (k_ix (K := K)) (pv 1) pe_int (fun _ _ => rfl)) pa_nil)) (kpg_tup (K := K) 2 rfl (pgs_cons (pg_name (i := 4) sc_law_is_kept.nd rfl (by first | exact Or.inl rfl | exact Or.inr rfl)) (pgs_cons (kpg_tup (K := K) 4 rfl (pgs_cons (pg_name (i := 5) sc_law_is_kept.nd rfl (by first | exact Or.inl rfl | exact Or.inr rfl)) (pgs_cons (pg_name (i := 6) sc_law_is_kept.nd rfl (by first | exact Or.inl rfl | exact Or.inr rfl)) (pgs_cons (pg_name (i := 7) sc_law_is_kept.nd rfl (by first | exact Or.inl rfl | exact Or.inr rfl)) (pgs_cons (pg_name (i := 8) sc_law_is_kept.nd rfl (by first | exact Or.inl rfl | exact Or.inr rfl)) pgs_nil))))) pgs_nil)))
        (pss_cons (ps_set (i := 9) sc_law_is_kept.nd rfl (by first | exact Or.inl rfl | exact Or.inr rfl) (pe_lst (pa_cons (pe_tup (pa_cons (pv 8) (pa_cons (pv 6) (pa_cons (pv 7) (pa_cons (pv 5) pa_nil))))) (pa_cons (pe_tup (pa_cons (pv 5) (pa_cons (pv 7) (pa_cons (pv 6) (pa_cons (pv 8) pa_nil))))) (pa_cons (pe_tup (pa_cons (pv 5) (pa_cons (pv 6) (pa_cons (pv 6) (pa_cons (pv 8) pa_nil))))) pa_nil)))))
        (pss_one (ps_expr (pe_bm PySem.F.plainAttrs_list PySem.F.slot_list_append PySem.F.type_list_append mt_append (pv 3) (pa_cons (pe_tup (pa_cons (pe_ix (k_ix (K := K)) (pv 1) pe_int (fun _ _ => rfl)) (pa_cons (pe_ix (k_ix (K := K)) (pv 1) pe_int (fun _ _ => rfl)) (pa_cons (pe_op (k_catA (K := K)) (pe_op (k_catA (K := K)) (pe_slice (k_slT (K := K)) (pe_ix (k_ix (K := K)) (pv 1) pe_int (fun _ _ => rfl)) po_none (po_some (pv 4))) (pe_tup (pa_cons (pe_own O_law_pick (hr.mono (by decide)) (pa_cons (pv 0) (pa_cons (pv 9) pa_nil))) pa_nil))) (pe_slice (k_slT (K := K)) (pe_ix (k_ix (K := K)) (pv 1) pe_int (fun _ _ => rfl)) (po_some (pe_op op_add (pv 4) pe_int)) po_none)) pa_nil)))) pa_nil))))))
      (pss_cons (ps_for PassesOwn.never rfl (kpi_list (K := K) (pv 3)) (pg_name (i := 10) sc_law_is_kept.nd rfl (by first | exact Or.inl rfl | exact Or.inr rfl))
        (pss_one (ps_if (pt_cmpR (k_neA (K := K) hr.units) (pe_cmpR (op_eqO Q_Program (hr.mono (by decide))) (pv 2) (pe_own O_law_made_program (hr.mono (by decide)) (pa_cons (pv 10) pa_nil)) (nomark _)) (pe_cmpR (k_eqA (K := K) hr.units) (pv 10) (pv 1) (nomark _)) (nomark _))
          (pss_one (ps_ret pe_bl))
          pss_nil)))
      (pss_one (ps_ret pe_bl))))))))), ?_⟩
  rintro b ds hb hl ⟨c, l, ss, rfl, hp, h5, hl4, hc3⟩
  have h8 := hp.c8
  have hl1 := hp.l1
  have cl := M_Program.cl
  show Es K _ [some (.pen b), some (.d (gD c l ss)), none, none, none, none, none, none, none, none, none] _
  refine eqv_set (R := fun ρ1 y => y = prD C c l (stD ss) ∧ ρ1 = [some (.pen (b + 1111)), some (.d (gD c l ss)), none, none, none, none, none, none, none, none, none]) ?_ fun ρ1 y h => ?_
  · show Ev K (tMake C (RS.spNew K C 3 pIn fPr) [] E0 _) _ _
    refine ev_make cl (R1 := fun ρ1 ds => ∃ y, ds = [.int c, .int l, y] ∧ Lsd (stD ss) y ∧ ρ1 = [some (.pen (b + 1111)), some (.d (gD c l ss)), none, none, none, none, none, none, none, none, none]) ?_ fun ρ1 ds h => ?_
    · refine (eva_consd (ed_g0 (ed_var rfl)) (eva_consd (ed_g1 (ed_var rfl)) (eva_one (ev_callP (c0 := b) (i := 0) (R := fun ρ1 y => Lsd (stD ss) y ∧ ρ1 = [some (.pen (b + 1111)), some (.d (gD c l ss)), none, none, none, none, none, none, none, none, none]) rfl (ea_cons (ed_g2 (ed_var rfl)) ea_nil) fun ρ1 ds e => ?_)))).imp fun ρ1 xs h => ?_
      · obtain ⟨rfl, rfl⟩ := e
        refine ⟨b, rfl, rfl, ⟨_, rfl, pLi_st hp⟩, (by show b + 1111 ≤ LIM; omega), fun y hy => ?_⟩
        obtain ⟨x, e, hy⟩ := hy
        cases e
        exact ⟨hy, rfl⟩
      · obtain ⟨_, rfl, _, rfl, y, rfl, hy, rfl⟩ := h
        exact ⟨y, rfl, hy, rfl⟩
    · obtain ⟨y, rfl, hy, rfl⟩ := h
      exact ⟨rfl, pIn_lsd hp hy, fPr_lsd hp hy C, rfl⟩
  obtain ⟨rfl, rfl⟩ := h
  show Es K _ [some (.pen (b + 1111)), some (.d (gD c l ss)), some (.d (prD C c l (stD ss))), none, none, none, none, none, none, none, none] _
  have hsh := (lay_gD c l ss).shaped (by decide)
  refine eq_when (c := false) ((eb_or (c := false) (d := false) ((eb_test (ed_op (x := gD c l ss) (ed_tup (ea_cons (ed_pc A (ed_var rfl)) (ea_cons (ed_pl A (ed_var rfl)) (ea_cons (ed_ps A (ed_var rfl)) ea_nil))) (by show 3 ≤ 1000; decide)) (ed_var rfl) (rd_neA hsh hsh))).to ?_) fun _ => (eb_not (eb_test (ed_op (ed_var rfl) (ed_made (ed_var rfl) hp) rd_eqP))).to ?_).to rfl) (fun z => nomatch z) fun _ => ?_
  · rw [show PyData.eqv (gD c l ss) (gD c l ss) = true from eq_self c l ss]; rfl
  · rw [eq_self]; rfl
  have hmin : (min ((l : Int) + 1) 4) = ((min (l + 1) 4 : Nat) : Int) := by omega
  refine eq_ownL (i := 3) (xs := [gT (c, min (l + 1) 4, ss), gT (c, l, ss ++ ss.take 1)]) ?_ (by show 2 ≤ 1000; decide) ?_
  · refine ea_cons ((ed_tup (ea_cons (ed_g0 (ed_var rfl)) (ea_cons (ed_cb (ea_cons (ed_lst (ea_cons (ed_op (ed_g1 (ed_var rfl)) ed_int rd_add) (ea_cons ed_int ea_nil)) (by show 2 ≤ 1000; decide)) ea_nil) rc_min2) (ea_cons (ed_g2 (ed_var rfl)) ea_nil))) (by show 3 ≤ 1000; decide)).to ?_) (ea_cons ((ed_tup (ea_cons (ed_g0 (ed_var rfl)) (ea_cons (ed_g1 (ed_var rfl)) (ea_cons (ed_op (ed_g2 (ed_var rfl)) (ed_slT (ed_g2 (ed_var rfl)) eo_none (eo_some ed_int)) (rd_catT ?_)) ea_nil))) (by show 3 ≤ 1000; decide)).to ?_) ea_nil)
    · rw [hmin]; rfl
    · show (ss.map sD).length + (cutP (ss.map sD) none (some ((1 : Nat) : Int))).length ≤ 1000000
      rw [cutP_to, List.length_take, List.length_map]; omega
    · show PyData.tuple [.int c, .int l, .tuple (ss.map sD ++ cutP (ss.map sD) none (some ((1 : Nat) : Int)))] = .tuple [.int c, .int l, .tuple ((ss ++ ss.take 1).map sD)]
      rw [cutP_to, List.map_append, List.map_take]
  show Es K _ (kF (b + 1111) C c l ss (some (.own ([(c, min (l + 1) 4, ss), (c, l, ss ++ ss.take 1)].map gT))) none none none none none none none) _
  refine eq_app (i := 3) (y := gT (c, l, ss.reverse)) rfl (by show 2 ≤ 100000; decide) ((ed_tup (ea_cons (ed_g0 (ed_var rfl)) (ea_cons (ed_g1 (ed_var rfl)) (ea_cons (ed_revS (t := true) (ed_g2 (ed_var rfl)) rfl (by rw [List.length_map]; omega)) ea_nil))) (by show 3 ≤ 1000; decide)).to ?_) ?_
  · show PyData.tuple [.int c, .int l, .tuple (ss.map sD).reverse] = .tuple [.int c, .int l, .tuple (ss.reverse.map sD)]
    rw [List.map_reverse]
  have all0 : AllP [(c, min (l + 1) 4, ss), (c, l, ss ++ ss.take 1), (c, l, ss.reverse)] := fun p hq => by
    simp only [List.mem_cons, List.not_mem_nil, or_false] at hq
    rcases hq with rfl | rfl | rfl
    · exact ⟨h8, by show 1 ≤ min (l + 1) 4; omega, hp.n, fun s hs => by
        have st := hp.st s hs
        have h1 := st.fr.2
        have h2 := st.to.2
        have e : (l : Int) ≤ ((min (l + 1) 4 : Nat) : Int) := by omega
        exact ⟨⟨st.fr.1, by show s.1 < ((min (l + 1) 4 : Nat) : Int); omega⟩, ⟨st.to.1, by show s.2.2.2 < ((min (l + 1) 4 : Nat) : Int); omega⟩, st.t, st.g⟩⟩
    · exact ⟨h8, hl1, by show (ss ++ ss.take 1).length ≤ 8; rw [List.length_append, List.length_take]; omega, fun s hs => by
        rcases List.mem_append.mp hs with hs | hs
        · exact hp.st s hs
        · exact hp.st s (List.mem_of_mem_take hs)⟩
    · exact ⟨h8, hl1, by show ss.reverse.length ≤ 8; rw [List.length_reverse]; exact hp.n, fun s hs => hp.st s (List.mem_reverse.mp hs)⟩
  show Es K _ (kF (b + 1111) C c l ss (some (.own ([(c, min (l + 1) 4, ss), (c, l, ss ++ ss.take 1), (c, l, ss.reverse)].map gT))) none none none none none none none) _
  refine es_nx (R := fun ρ1 => ∃ L : List Pg, AllP L ∧ L.length ≤ 4 ∧ ρ1 = kF (b + 1111) C c l ss (some (.own (L.map gT))) none none none none none none none) ?_ fun ρ1 h => ?_
  · refine es_if (c := PyData.eqv (.tuple (ss.map sD)) (.tuple [])) (eb_test (ed_op (ed_g2 (ed_var rfl)) (ed_tup ea_nil (by decide)) (rd_eqA ((lay_stD ss).shaped (by decide)) (by decide +kernel)))) (fun _ => ?_) fun _ => es_next ⟨_, all0, by show 3 ≤ 4; decide, rfl⟩
    refine es_app (i := 3) (y := gT ((c + 1) % 4, l, [])) rfl (by show 3 ≤ 100000; decide) ((ed_tup (ea_cons (ed_op (ed_cb (ea_cons (ed_op (ed_g0 (ed_var rfl)) ed_int rd_add) ea_nil) rc_int) ed_int (rd_mod (by decide))) (ea_cons (ed_g1 (ed_var rfl)) (ea_cons (ed_tup ea_nil (by decide)) ea_nil))) (by show 3 ≤ 1000; decide)).to ?_) ?_
    · have e : ((c : Int) + 1) % 4 = (((c + 1) % 4 : Nat) : Int) := by omega
      rw [e]; rfl
    · refine ⟨_, all0.snoc (p := ((c + 1) % 4, l, [])) ⟨by show (c + 1) % 4 ≤ 8; omega, hl1, by show 0 ≤ 8; decide, fun s hs => absurd hs List.not_mem_nil⟩, by show 4 ≤ 4; decide, ?_⟩
      rw [gT_snoc]; rfl
  obtain ⟨L, hL, hLn, rfl⟩ := h
  refine es_nx (R := fun ρ1 => ∃ (q : Nat) (L : List Pg) (k b2 t g e be : Option PyData), AllP L ∧ L.length ≤ 9 ∧ q ≤ b + 1111 + 5 ∧ ρ1 = kF q C c l ss (some (.own (L.map gT))) k b2 t g e be none) (es_forD (xs := enD (ss.map sD)) (ei_en (t := true) (ea_cons (ed_g2 (ed_var rfl)) ea_nil) rfl) (fun j ρ1 => ∃ (L : List Pg) (k b2 t g e be : Option PyData), AllP L ∧ L.length ≤ 4 + j ∧ ρ1 = kF (b + 1111 + j) C c l ss (some (.own (L.map gT))) k b2 t g e be none) ⟨L, none, none, none, none, none, none, hL, hLn, rfl⟩ (fun j x ρ1 hx hI => ?_) fun ρ1 hI => ?_) fun ρ1 h => ?_
  · obtain ⟨L, k, b2, t, g, e, be, hL, hLn, rfl⟩ := hI
    obtain ⟨y, hy, rfl⟩ := enD_get hx
    rw [List.getElem?_map] at hy
    cases hs : ss[j]? with
    | none => rw [hs] at hy; cases hy
    | some s =>
      rw [hs] at hy
      cases hy
      have hj : j < ss.length := (List.getElem?_eq_some_iff.mp hs).1
      have st := hp.st s (List.mem_of_getElem? hs)
      refine ⟨_, _, eg_tup rfl (egs_cons eg_name (egs_cons eg_four egs_nil)), ?_⟩
      show Es K _ (kF (b + 1111 + j) C c l ss (some (.own (L.map gT))) (some (.int (j : Nat))) (some (.int s.1)) (some (iD s.2.1)) (some (iD s.2.2.1)) (some (.int s.2.2.2)) be none) _
      refine eq_set (x := .list ([((s.2.2.2, s.2.1, s.2.2.1, s.1) : Stp), (s.1, s.2.2.1, s.2.1, s.2.2.2), (s.1, s.2.1, s.2.1, s.2.2.2)].map sD)) (ed_lst (ea_cons (ed_tup (ea_cons (ed_var rfl) (ea_cons (ed_var rfl) (ea_cons (ed_var rfl) (ea_cons (ed_var rfl) ea_nil)))) (by show 4 ≤ 1000; decide)) (ea_cons (ed_tup (ea_cons (ed_var rfl) (ea_cons (ed_var rfl) (ea_cons (ed_var rfl) (ea_cons (ed_var rfl) ea_nil)))) (by show 4 ≤ 1000; decide)) (ea_cons (ed_tup (ea_cons (ed_var rfl) (ea_cons (ed_var rfl) (ea_cons (ed_var rfl) (ea_cons (ed_var rfl) ea_nil)))) (by show 4 ≤ 1000; decide)) ea_nil))) (by show 3 ≤ 1000; decide)) ?_
      have bentOk : ∀ z ∈ [((s.2.2.2, s.2.1, s.2.2.1, s.1) : Stp), (s.1, s.2.2.1, s.2.1, s.2.2.2), (s.1, s.2.1, s.2.1, s.2.2.2)], StOk c l z := fun z hz => by
        simp only [List.mem_cons, List.not_mem_nil, or_false] at hz
        rcases hz with rfl | rfl | rfl
        · exact ⟨st.to, st.fr, st.t, st.g⟩
        · exact ⟨st.fr, st.to, st.g, st.t⟩
        · exact ⟨st.fr, st.to, st.t, st.t⟩
      generalize hB : [((s.2.2.2, s.2.1, s.2.2.1, s.1) : Stp), (s.1, s.2.2.1, s.2.1, s.2.2.2), (s.1, s.2.1, s.2.1, s.2.2.2)] = Bt at bentOk
      have hBn : Bt.length = 3 := by rw [← hB]; rfl
      show Es K _ (kF (b + 1111 + j) C c l ss (some (.own (L.map gT))) (some (.int (j : Nat))) (some (.int s.1)) (some (iD s.2.1)) (some (iD s.2.2.1)) (some (.int s.2.2.2)) (some (.list (Bt.map sD))) none) _
      have hslot : ∀ q, (kF q C c l ss (some (.own (L.map gT))) (some (.int (j : Nat))) (some (.int s.1)) (some (iD s.2.1)) (some (iD s.2.2.1)) (some (.int s.2.2.2)) (some (.list (Bt.map sD))) none)[3]? = some (some (.own (L.map gT))) := fun q => rfl
      refine esv_app (i := 3) (xs := L.map gT) rfl (by rw [List.length_map]; omega) (R := fun ρ1 y => ρ1 = kF (b + 1111 + (j + 1)) C c l ss (some (.own (L.map gT))) (some (.int (j : Nat))) (some (.int s.1)) (some (iD s.2.1)) (some (iD s.2.2.1)) (some (.int s.2.2.2)) (some (.list (Bt.map sD))) none ∧ ∃ z ∈ Bt, y = gT (c, l, ss.take j ++ [z] ++ ss.drop (j + 1))) ?_ fun ρ1 y h => ?_
      · refine ev_tup ((eva_consd (ed_g0 (ed_var rfl)) (eva_consd (ed_g1 (ed_var rfl)) (eva_one (ev_op2 (R1 := fun ρ1 y => ρ1 = kF (b + 1111 + (j + 1)) C c l ss (some (.own (L.map gT))) (some (.int (j : Nat))) (some (.int s.1)) (some (iD s.2.1)) (some (iD s.2.2.1)) (some (.int s.2.2.2)) (some (.list (Bt.map sD))) none ∧ ∃ z ∈ Bt, y = .tuple ((ss.take j ++ [z]).map sD)) (R2 := fun ρ1 _ ρ2 y => ρ2 = ρ1 ∧ y = .tuple ((ss.drop (j + 1)).map sD)) (R := fun ρ1 y => ρ1 = kF (b + 1111 + (j + 1)) C c l ss (some (.own (L.map gT))) (some (.int (j : Nat))) (some (.int s.1)) (some (iD s.2.1)) (some (iD s.2.2.1)) (some (.int s.2.2.2)) (some (.list (Bt.map sD))) none ∧ ∃ z ∈ Bt, y = .tuple ((ss.take j ++ [z] ++ ss.drop (j + 1)).map sD))
          (ev_op2 (ed_slT (ed_g2 (ed_var rfl)) eo_none (eo_some (ed_var rfl))) (R2 := fun _ _ ρ2 y => ρ2 = kF (b + 1111 + (j + 1)) C c l ss (some (.own (L.map gT))) (some (.int (j : Nat))) (some (.int s.1)) (some (iD s.2.1)) (some (iD s.2.2.1)) (some (.int s.2.2.2)) (some (.list (Bt.map sD))) none ∧ ∃ z ∈ Bt, y = .tuple [sD z]) (fun ρ1 x h => ?_) fun ρ1 x ρ2 y h1 h2 => ?_) (fun ρ1 x h => ?_) fun ρ1 x ρ2 y h1 h2 => ?_))))) fun ρ1 xs h => ?_
        · obtain ⟨rfl, rfl⟩ := h
          refine ev_tup (eva_one (ev_pick (c0 := b + 1111 + j) (i := 0) (xs := Bt.map sD) rfl kF_pen (ed_var rfl) (fun z => by rw [List.map_eq_nil_iff] at z; rw [z] at hBn; cases hBn) (by rw [List.length_map]; omega) (by omega))) fun ρ2 xs h => ?_
          obtain ⟨y, rfl, rfl, hy⟩ := h
          obtain ⟨z, hz, rfl⟩ := List.mem_map.mp hy
          exact ⟨by show 1 ≤ 1000; decide, kF_pen, z, hz, rfl⟩
        · obtain ⟨rfl, rfl⟩ := h1
          obtain ⟨rfl, z, hz, rfl⟩ := h2
          rw [cutP_to]
          exact ⟨_, rd_catT (by rw [List.length_take, List.length_map]; show min j ss.length + 1 ≤ 1000000; omega), rfl, z, hz, by rw [List.map_append, List.map_take]; rfl⟩
        · obtain ⟨rfl, z, hz, rfl⟩ := h
          refine (ed_slT (ed_g2 (ed_var rfl)) (eo_some (ed_op (ed_var rfl) ed_int rd_add)) eo_none).imp fun ρ2 y h => ?_
          obtain ⟨rfl, rfl⟩ := h
          refine ⟨rfl, ?_⟩
          rw [show ((j : Nat) : Int) + 1 = ((j + 1 : Nat) : Int) by omega, cutP_from, List.map_drop]
        · obtain ⟨rfl, z, hz, rfl⟩ := h1
          obtain ⟨rfl, rfl⟩ := h2
          exact ⟨_, rd_catT (by rw [List.length_map, List.length_map, List.length_append, List.length_take, List.length_drop]; show min j ss.length + 1 + (ss.length - (j + 1)) ≤ 1000000; omega), rfl, z, hz, by rw [← List.map_append]⟩
        · obtain ⟨_, rfl, _, rfl, y, rfl, rfl, z, hz, rfl⟩ := h
          exact ⟨by show 3 ≤ 1000; decide, rfl, z, hz, rfl⟩
      · obtain ⟨rfl, z, hz, rfl⟩ := h
        refine ⟨rfl, L ++ [(c, l, ss.take j ++ [z] ++ ss.drop (j + 1))], some (.int (j : Nat)), some (.int s.1), some (iD s.2.1), some (iD s.2.2.1), some (.int s.2.2.2), some (.list (Bt.map sD)), hL.snoc ⟨h8, hl1, ?_, fun s2 hs2 => ?_⟩, by rw [List.length_append]; show L.length + 1 ≤ 4 + (j + 1); omega, by rw [gT_snoc]; rfl⟩
        · show (ss.take j ++ [z] ++ ss.drop (j + 1)).length ≤ 8
          rw [List.length_append, List.length_append, List.length_take, List.length_drop]
          show min j ss.length + 1 + (ss.length - (j + 1)) ≤ 8
          omega
        · rcases List.mem_append.mp hs2 with h | h
          · rcases List.mem_append.mp h with h | h
            · exact hp.st s2 (List.mem_of_mem_take h)
            · rw [List.mem_singleton.mp h]; exact bentOk z hz
          · exact hp.st s2 (List.mem_of_mem_drop h)
  · obtain ⟨L, k, b2, t, g, e, be, hL, hLn, rfl⟩ := hI
    rw [enD_len, List.length_map] at hLn ⊢
    exact ⟨_, L, k, b2, t, g, e, be, hL, by omega, by omega, rfl⟩
  obtain ⟨q, L, k, b2, t, g, e, be, hL, hLn, hq, rfl⟩ := h
  refine es_disown (i := 3) (xs := L.map gT) rfl ?_
  show Es K _ (kF q C c l ss (some (.d (.list (L.map gT)))) k b2 t g e be none) _
  refine es_then (es_forD (xs := L.map gT) (ei_list (ed_var rfl)) (fun j ρ1 => ∃ o : Option PyData, ρ1 = kF q C c l ss (some (.d (.list (L.map gT)))) k b2 t g e be o) ⟨none, rfl⟩ (fun j x ρ1 hx hI => ?_) fun ρ1 hI => ?_)
  · obtain ⟨o, rfl⟩ := hI
    obtain ⟨p, hpm, rfl⟩ := List.mem_map.mp (List.mem_of_getElem? hx)
    refine ⟨_, _, eg_name, ?_⟩
    show Es K _ (kF q C c l ss (some (.d (.list (L.map gT)))) k b2 t g e be (some (gD (p.1 : Nat) (p.2.1 : Nat) p.2.2))) _
    refine es_if (c := false) ((eb_test (ed_op (ed_op (ed_var rfl) (ed_made (ed_var rfl) (hL p hpm)) rd_eqP) (ed_op (ed_var rfl) (ed_var rfl) (rd_eqA ((lay_gD _ _ _).shaped (by decide)) hsh)) (rd_neA (sh_bool _) (sh_bool _)))).to ?_) (fun z => nomatch z) fun _ => es_next ⟨some (gD (p.1 : Nat) (p.2.1 : Nat) p.2.2), rfl⟩
    unfold eqP
    rw [PySem.W.eqv_comm (gD (p.1 : Nat) (p.2.1 : Nat) p.2.2) (gD c l ss)]
    generalize PyData.eqv (gD c l ss) (gD (p.1 : Nat) (p.2.1 : Nat) p.2.2) = v
    cases v <;> (unfold PyData.eqv; rfl)
  · obtain ⟨o, rfl⟩ := hI
    exact es_ret ed_bl ⟨rfl, q, rfl, by omega⟩
end
end K04
end
section
set_option Elab.async false
set_option linter.all false
set_option autoImplicit false
set_option maxRecDepth 100000
set_option maxHeartbeats 4000000
namespace K04
open PySem PySem.Spec PyProof.Rows L2 RS

/-! bent steps -/
structure StepOdd (c l : Nat) (z : PyData) : Prop where
  ok : okD z = true
  sz : szD z ≤ 60
  no : stepD c l z = false
def Pt (x : PyData) : Prop := okD x = true ∧ szD x ≤ 14
theorem pt_int (i : Int) : Pt (.int i) := ⟨by unfold okD; rfl, by unfold szD; omega⟩
theorem pt_bool (i : Bool) : Pt (.bool i) := ⟨by unfold okD; rfl, by unfold szD; omega⟩
theorem pt_str (i : Str) : Pt (.str i) := ⟨by unfold okD; rfl, by unfold szD; omega⟩
theorem pt_none : Pt .none := ⟨by unfold okD; rfl, by unfold szD; omega⟩
theorem okDs_all : ∀ {xs : List PyData}, (∀ x ∈ xs, okD x = true) → okDs xs = true
  | [], _ => by unfold okDs; rfl
  | x :: xs, h => by rw [okDs_cons, h x List.mem_cons_self, okDs_all fun y hy => h y (List.mem_cons_of_mem _ hy)]; rfl
theorem szDs_all {n : Nat} : ∀ {xs : List PyData}, (∀ x ∈ xs, szD x ≤ n) → szDs xs ≤ xs.length * n
  | [], _ => by unfold szDs; omega
  | x :: xs, h => by
    have h1 := h x List.mem_cons_self
    have h2 := szDs_all fun y hy => h y (List.mem_cons_of_mem _ hy)
    rw [szDs_cons, List.length_cons, Nat.add_mul]
    omega
theorem odd_seq {c l : Nat} (t : Bool) {xs : List PyData} (hp : ∀ x ∈ xs, Pt x) (hn : xs.length ≤ 4) (no : stepD c l (mkSeq t xs) = false) : StepOdd c l (mkSeq t xs) := by
  refine ⟨by rw [ok_seq]; exact okDs_all fun x hx => (hp x hx).1, ?_, no⟩
  rw [sz_seq]
  have h := szDs_all (n := 14) fun x hx => (hp x hx).2
  have h2 : xs.length * 14 ≤ 4 * 14 := Nat.mul_le_mul_right 14 hn
  omega
theorem step4 (c l : Nat) (t : Bool) (h a b e : PyData) : stepD c l (mkSeq t [h, a, b, e]) = (belD l h && (natsD c a && (natsD c b && belD l e))) := by
  cases t <;> rfl
theorem odd4 {c l : Nat} (t : Bool) {h a b e : PyData} (ph : Pt h) (pa : Pt a) (pb : Pt b) (pe : Pt e) (bad : belD l h = false ∨ natsD c a = false ∨ natsD c b = false ∨ belD l e = false) : StepOdd c l (mkSeq t [h, a, b, e]) := by
  refine odd_seq t (fun x hx => ?_) (by show 4 ≤ 4; decide) ?_
  · simp only [List.mem_cons, List.not_mem_nil, or_false] at hx
    rcases hx with rfl | rfl | rfl | rfl <;> assumption
  · rw [step4]
    rcases bad with z | z | z | z <;> rw [z] <;> simp
/-- zeros -/
def zR (c : Nat) : List PyData := List.replicate c (.int 0)
theorem zR_mem {c : Nat} {x : PyData} (h : x ∈ zR c) : x = .int 0 := (List.mem_replicate.mp h).2
theorem zR_len (c : Nat) : (zR c).length = c := List.length_replicate
theorem pt_seq {t : Bool} {xs : List PyData} (hn : xs.length ≤ 4) (hp : ∀ x ∈ xs, okD x = true ∧ szD x ≤ 3) : Pt (mkSeq t xs) := by
  refine ⟨by rw [ok_seq]; exact okDs_all fun x hx => (hp x hx).1, ?_⟩
  rw [sz_seq]
  have h := szDs_all (n := 3) fun x hx => (hp x hx).2
  have h2 : xs.length * 3 ≤ 4 * 3 := Nat.mul_le_mul_right 3 hn
  omega
theorem pt3_int (i : Int) : okD (.int i) = true ∧ szD (.int i) ≤ 3 := ⟨by unfold okD; rfl, by unfold szD; omega⟩
theorem pt_zR {t : Bool} {c : Nat} (h : c ≤ 3) : Pt (mkSeq t (zR c)) := pt_seq (by rw [zR_len]; omega) fun x hx => by rw [zR_mem hx]; exact pt3_int 0
theorem nats_len {c : Nat} (t : Bool) {xs : List PyData} (h : xs.length ≠ c) : natsD c (mkSeq t xs) = false := by
  unfold natsD
  rw [seqOf_mk]
  show (decide ((xs.length : Int) = (c : Nat)) && xs.all natD) = false
  rw [decide_eq_false (by omega)]; rfl
theorem nats_bad {c : Nat} (t : Bool) {xs : List PyData} {x : PyData} (h : x ∈ xs) (hb : natD x = false) : natsD c (mkSeq t xs) = false := by
  unfold natsD
  rw [seqOf_mk]
  show (decide ((xs.length : Int) = (c : Nat)) && xs.all natD) = false
  have e : xs.all natD = false := List.all_eq_false.mpr ⟨x, h, by rw [hb]; exact fun z => nomatch z⟩
  rw [e, Bool.and_false]
theorem bel_out (l : Nat) : belD l (.int (l : Nat)) = false := by
  show (decide (0 ≤ ((l : Nat) : Int)) && decide (((l : Nat) : Int) < (l : Int))) = false
  rw [decide_eq_false (p := ((l : Nat) : Int) < (l : Int)) (by omega), Bool.and_false]
def Sods (c l : Nat) (L : List PyData) : Prop := L ≠ [] ∧ L.length ≤ 30 ∧ ∀ y ∈ L, StepOdd c l y
theorem sods_app {c l : Nat} {L M : List PyData} (h : Sods c l L) (hl : L.length + M.length ≤ 30) (hm : ∀ y ∈ M, StepOdd c l y) : Sods c l (L ++ M) := ⟨fun z => h.1 (List.append_eq_nil_iff.mp z).1, by rw [List.length_append]; exact hl, fun y hy => (List.mem_append.mp hy).elim (h.2.2 y) (hm y)⟩
theorem sods_a {c l : Nat} (hc : c ≤ 3) : Sods c l [.none, .tuple [], .int 0, .str "step", .tuple [.int 0, .tuple (zR c), .tuple (zR c)], .tuple [.int 0, .tuple (zR c), .tuple (zR c), .int 0, .int 0], .tuple [.int (l : Nat), .tuple (zR c), .tuple (zR c), .int 0]] := by
  have z := pt_zR (t := true) hc
  refine ⟨(fun z => nomatch z), by show 7 ≤ 30; decide, fun y hy => ?_⟩
  simp only [List.mem_cons, List.not_mem_nil, or_false] at hy
  rcases hy with rfl | rfl | rfl | rfl | rfl | rfl | rfl
  · exact ⟨pt_none.1, by have := pt_none.2; omega, rfl⟩
  · exact odd_seq true (fun x hx => absurd hx List.not_mem_nil) (by decide) rfl
  · exact ⟨(pt_int 0).1, by have := (pt_int 0).2; omega, rfl⟩
  · exact ⟨(pt_str _).1, by have := (pt_str "step").2; omega, rfl⟩
  · refine odd_seq true (xs := [.int 0, .tuple (zR c), .tuple (zR c)]) (fun x hx => ?_) (by show 3 ≤ 4; decide) rfl
    simp only [List.mem_cons, List.not_mem_nil, or_false] at hx
    rcases hx with rfl | rfl | rfl
    · exact pt_int 0
    · exact z
    · exact z
  · have h1 := z.2
    have h2 := (pt_int 0).2
    refine ⟨?_, ?_, rfl⟩
    · show okD (mkSeq true [.int 0, .tuple (zR c), .tuple (zR c), .int 0, .int 0]) = true
      rw [ok_seq]
      refine okDs_all fun x hx => ?_
      simp only [List.mem_cons, List.not_mem_nil, or_false] at hx
      rcases hx with rfl | rfl | rfl | rfl | rfl
      · exact (pt_int 0).1
      · exact z.1
      · exact z.1
      · exact (pt_int 0).1
      · exact (pt_int 0).1
    · show szD (mkSeq true [.int 0, mkSeq true (zR c), mkSeq true (zR c), .int 0, .int 0]) ≤ 60
      have e : szDs [] = 0 := by unfold szDs; rfl
      have e1 : szD (.int 0) = 1 := by unfold szD; rfl
      rw [sz_seq, szDs_cons, szDs_cons, szDs_cons, szDs_cons, szDs_cons, e, e1]
      omega
  · exact odd4 true (pt_int _) z z (pt_int 0) (.inl (bel_out l))
theorem sods_b {c l : Nat} (hc : c ≤ 3) : ∀ y ∈ [PyData.tuple [.int 0, .tuple (zR c), .tuple (zR c), .int (l : Nat)], .tuple [.int (-1), .tuple (zR c), .tuple (zR c), .int 0], .tuple [.int 0, .tuple (zR c), .tuple (zR c), .bool true]], StepOdd c l y := fun y hy => by
  have z := pt_zR (t := true) hc
  simp only [List.mem_cons, List.not_mem_nil, or_false] at hy
  rcases hy with rfl | rfl | rfl
  · exact odd4 true (pt_int _) z z (pt_int _) (.inr (.inr (.inr (bel_out l))))
  · exact odd4 true (pt_int _) z z (pt_int _) (.inl rfl)
  · exact odd4 true (pt_int _) z z (pt_bool _) (.inr (.inr (.inr rfl)))
theorem sods_c {c l : Nat} (hc : c ≤ 3) : ∀ y ∈ [PyData.tuple [.bool false, .tuple (zR c), .tuple (zR c), .int 0], .tuple [.int 0, .tuple (zR c), .tuple (zR c), .int (-1)], .tuple [.none, .tuple (zR c), .tuple (zR c), .int 0], .tuple [.int 0, .tuple (zR c), .tuple (zR c), .str "0"]], StepOdd c l y := fun y hy => by
  have z := pt_zR (t := true) hc
  simp only [List.mem_cons, List.not_mem_nil, or_false] at hy
  rcases hy with rfl | rfl | rfl | rfl
  · exact odd4 true (pt_bool _) z z (pt_int _) (.inl rfl)
  · exact odd4 true (pt_int _) z z (pt_int _) (.inr (.inr (.inr rfl)))
  · exact odd4 true pt_none z z (pt_int _) (.inl rfl)
  · exact odd4 true (pt_int _) z z (pt_str _) (.inr (.inr (.inr rfl)))
theorem pt_zx {c : Nat} (hc : c ≤ 3) (i : Int) : Pt (mkSeq true (zR c ++ [.int i])) := pt_seq (by rw [List.length_append, zR_len]; show c + 1 ≤ 4; omega) fun x hx => by
  rcases List.mem_append.mp hx with h | h
  · rw [zR_mem h]; exact pt3_int 0
  · rw [List.mem_singleton.mp h]; exact pt3_int i
theorem sods_d {c l : Nat} (hc : c ≤ 3) : ∀ y ∈ [PyData.tuple [.int 0, .tuple (zR c ++ [.int 0]), .tuple (zR c), .int 0], .tuple [.int 0, .tuple (zR c), .tuple (zR c ++ [.int 1]), .int 0], .tuple [.int 0, .none, .tuple (zR c), .int 0], .tuple [.int 0, .tuple (zR c), .int 0, .int 0]], StepOdd c l y := fun y hy => by
  have z := pt_zR (t := true) hc
  have ne : ∀ i, (zR c ++ [PyData.int i]).length ≠ c := fun i => by rw [List.length_append, zR_len]; show c + 1 ≠ c; omega
  simp only [List.mem_cons, List.not_mem_nil, or_false] at hy
  rcases hy with rfl | rfl | rfl | rfl
  · exact odd4 true (pt_int _) (pt_zx hc 0) z (pt_int _) (.inr (.inl (nats_len true (ne 0))))
  · exact odd4 true (pt_int _) z (pt_zx hc 1) (pt_int _) (.inr (.inr (.inl (nats_len true (ne 1)))))
  · exact odd4 true (pt_int _) pt_none z (pt_int _) (.inr (.inl rfl))
  · exact odd4 true (pt_int _) z (pt_int 0) (pt_int _) (.inr (.inr (.inl rfl)))
/-- a row with something bad in it -/
structure BadRow (c : Nat) (xs : List PyData) : Prop where
  n : xs.length ≤ 4
  pt : ∀ x ∈ xs, okD x = true ∧ szD x ≤ 3
  bad : ∃ x ∈ xs, natD x = false
theorem sods_e {c l : Nat} {xs : List PyData} (hc : c ≤ 3) (h0 : 0 < c) (h : BadRow c xs) : ∀ y ∈ [PyData.tuple [.int 0, .tuple xs, .tuple (zR c), .int 0], .tuple [.int 0, .tuple (zR c), .tuple xs, .int 0], .list [.int 0, .list xs, .tuple (zR c), .int 0], .tuple [.int 0, .tuple ((zR c).drop 1), .tuple (zR c), .int 0]], StepOdd c l y := fun y hy => by
  have z := pt_zR (t := true) hc
  obtain ⟨x, hx, hb⟩ := h.bad
  have p : ∀ t, Pt (mkSeq t xs) := fun t => pt_seq h.n h.pt
  simp only [List.mem_cons, List.not_mem_nil, or_false] at hy
  rcases hy with rfl | rfl | rfl | rfl
  · exact odd4 true (pt_int _) (p true) z (pt_int _) (.inr (.inl (nats_bad true hx hb)))
  · exact odd4 true (pt_int _) z (p true) (pt_int _) (.inr (.inr (.inl (nats_bad true hx hb))))
  · exact odd4 false (pt_int _) (p false) z (pt_int _) (.inr (.inl (nats_bad false hx hb)))
  · exact odd4 true (pt_int _) (pt_seq (t := true) (by rw [List.length_drop, zR_len]; omega) fun x hx => by rw [zR_mem (List.mem_of_mem_drop hx)]; exact pt3_int 0) z (pt_int _) (.inr (.inl (nats_len true (by rw [List.length_drop, zR_len]; omega))))
theorem sods_f {c l : Nat} {xs : List PyData} (hc : c ≤ 3) (h0 : 0 < c) (h : BadRow c xs) : ∀ y ∈ [PyData.tuple [.int 0, .tuple xs, .tuple (zR c), .int 0], .tuple [.int 0, .tuple (zR c), .tuple xs, .int 0], .tuple [.int 0, .tuple (zR c), .tuple ((zR c).drop 1), .int 0]], StepOdd c l y := fun y hy => by
  have z := pt_zR (t := true) hc
  obtain ⟨x, hx, hb⟩ := h.bad
  have p : ∀ t, Pt (mkSeq t xs) := fun t => pt_seq h.n h.pt
  simp only [List.mem_cons, List.not_mem_nil, or_false] at hy
  rcases hy with rfl | rfl | rfl
  · exact odd4 true (pt_int _) (p true) z (pt_int _) (.inr (.inl (nats_bad true hx hb)))
  · exact odd4 true (pt_int _) z (p true) (pt_int _) (.inr (.inr (.inl (nats_bad true hx hb))))
  · exact odd4 true (pt_int _) z (pt_seq (t := true) (by rw [List.length_drop, zR_len]; omega) fun x hx => by rw [zR_mem (List.mem_of_mem_drop hx)]; exact pt3_int 0) (pt_int _) (.inr (.inr (.inl (nats_len true (by rw [List.length_drop, zR_len]; omega)))))
end K04
end
section
set_option Elab.async false
set_option linter.all false
set_option autoImplicit false
set_option maxRecDepth 100000
set_option maxHeartbeats 4000000
namespace K04
open PySem PySem.Spec PyProof.Rows L2 RS
abbrev s_law_bent_step : Stmt := top 42
abbrev N_law_bent_step : List Str := ["pen", "program", "zeros", "bent", "at", "odd"]
theorem sc_law_bent_step : FnScope N_law_bent_step ["pen", "program"] (defScope s_law_bent_step) := ⟨rfl, rfl, rfl, by decide +kernel, rfl, by decide +kernel, by decide +kernel⟩
/-! a bent step, picked -/
theorem zR_rep (c : Nat) : (List.replicate c [PyData.int 0]).flatten = zR c := by
  unfold zR
  induction c with
  | zero => rfl
  | succ c ih => rw [List.replicate_succ, List.replicate_succ, List.flatten_cons, ih]; rfl
def bF (q c l : Nat) (ss : List Stp) (z be at_ od : Option PyData) : En := [some (.pen q), some (.d (gD c l ss)), z.map Sl.d, be.map Sl.d, at_.map Sl.d, od.map Sl.d]
theorem bF_pen {q r c l : Nat} {ss : List Stp} {z be at_ od : Option PyData} : setPen r (bF q c l ss z be at_ od) = bF r c l ss z be at_ od := by
  unfold setPen bF
  simp only [List.map_cons, List.map_nil, pn_d]
  rfl
/-- what no counter can be -/
def oddsW : List PyData := [.int (-1), .bool true, .none, .str "1", .tuple [.int 1]]
theorem oddsW_ok {w : PyData} (h : w ∈ oddsW) : okD w = true ∧ szD w ≤ 3 ∧ natD w = false := by
  unfold oddsW at h
  simp only [List.mem_cons, List.not_mem_nil, or_false] at h
  rcases h with rfl | rfl | rfl | rfl | rfl
  · exact ⟨by unfold okD; rfl, by unfold szD; omega, rfl⟩
  · exact ⟨by unfold okD; rfl, by unfold szD; omega, rfl⟩
  · exact ⟨by unfold okD; rfl, by unfold szD; omega, rfl⟩
  · exact ⟨by unfold okD; rfl, by unfold szD; omega, rfl⟩
  · refine ⟨?_, ?_, rfl⟩
    · show okD (mkSeq true ([(1 : Int)].map PyData.int)) = true
      rw [ok_seq]; exact okDs_ints _
    · show szD (mkSeq true ([(1 : Int)].map PyData.int)) ≤ 3
      rw [sz_seq, szDs_ints]; show 2 + 1 ≤ 3; decide
theorem badRow {c a : Nat} {w : PyData} (hc : c ≤ 3) (ha : a < c) (hw : w ∈ oddsW) : BadRow c ((zR c).take a ++ [w] ++ (zR c).drop (a + 1)) := by
  obtain ⟨h1, h2, h3⟩ := oddsW_ok hw
  refine ⟨?_, fun x hx => ?_, w, List.mem_append_left _ (List.mem_append_right _ (List.mem_singleton.mpr rfl)), h3⟩
  · rw [List.length_append, List.length_append, List.length_take, List.length_drop, zR_len]
    show min a c + 1 + (c - (a + 1)) ≤ 4
    omega
  · rcases List.mem_append.mp hx with h | h
    · rcases List.mem_append.mp h with h | h
      · rw [zR_mem (List.mem_of_mem_take h)]; exact pt3_int 0
      · rw [List.mem_singleton.mp h]; exact ⟨h1, h2⟩
    · rw [zR_mem (List.mem_of_mem_drop h)]; exact pt3_int 0
def pBs : List PyData → Prop := fun ds => ∃ c l : Nat, ∃ ss, ds = [gD c l ss] ∧ c ≤ 3 ∧ 1 ≤ l
def rBs : List PyData → PyData → Prop := fun ds y => ∃ c l : Nat, ∃ ss, ds = [gD c l ss] ∧ StepOdd c l y
section
variable {P : Program} {w : World} {K : PySem.W.Frag} {mg : Str → Option Value} {base : Heap}
theorem ok_law_bent {f : Addr} {fd : FuncData} (F : Fun K "_law_bent_step" "_law_bent_step" s_law_bent_step f fd) (T : Bi mg) (O_law_draw : OwnD P w K mg base 1 "_law_draw" ["pen", "many"] (spP K 1 pDraw 1 rDraw)) (O_law_pick : OwnD P w K mg base 2 "_law_pick" ["pen", "row"] (spP K 1 pPick 1 rPick)) :
    FnOk P w K mg base CX0 3 f fd ["pen", "program"] (spP K 1 pBs 3 rBs) := by
  refine fn_pen (ps := ["program"]) F sc_law_bent_step fun cdv A outer s H E hr => ⟨_, (pss_cons (ps_set (i := 2) sc_law_bent_step.nd rfl (by first | exact Or.inl rfl | exact Or.inr rfl) (pe_op (k_repU (K := K)) (pe_tup (pa_cons pe_int pa_nil)) (pe_ix (k_ix (K := K)) (pv 1) pe_int (fun _ _ => rfl))))
      (pss_cons (ps_set (i := 3) sc_law_bent_step.nd rfl (by first | exact Or.inl rfl | exact Or.inr rfl) (pe_lst (pa_cons pe_non (pa_cons (pe_tup pa_nil) (pa_cons pe_int (pa_cons pe_str (pa_cons (pe_tup (pa_cons pe_int (pa_cons (pv 2) (pa_cons (pv 2) pa_nil)))) (pa_cons (pe_tup (pa_cons pe_int (pa_cons (pv 2) (pa_cons (pv 2) (pa_cons pe_int (pa_cons pe_int pa_nil)))))) (pa_cons (pe_tup (pa_cons (pe_ix (k_ix (K := K)) (pv 1) pe_int (fun _ _ => rfl)) (pa_cons (pv 2) (pa_cons (pv 2) (pa_cons pe_int pa_nil))))) pa_nil)))))))))
      (pss_cons (ps_set (i := 3) sc_law_bent_step.nd rfl (by first | exact Or.inl rfl | exact Or.inr rfl) (pe_op op_cat (pv 3) (pe_lst (pa_cons (pe_tup (pa_cons pe_int (pa_cons (pv 2) (pa_cons (pv 2) (pa_cons (pe_ix (k_ix (K := K)) (pv 1) pe_int (fun _ _ => rfl)) pa_nil))))) (pa_cons (pe_tup (pa_cons (pe_un un_neg pe_int) (pa_cons (pv 2) (pa_cons (pv 2) (pa_cons pe_int pa_nil))))) (pa_cons (pe_tup (pa_cons pe_int (pa_cons (pv 2) (pa_cons (pv 2) (pa_cons pe_bl pa_nil))))) pa_nil))))))
      (pss_cons (ps_set (i := 3) sc_law_bent_step.nd rfl (by first | exact Or.inl rfl | exact Or.inr rfl) (pe_op op_cat (pv 3) (pe_lst (pa_cons (pe_tup (pa_cons pe_bl (pa_cons (pv 2) (pa_cons (pv 2) (pa_cons pe_int pa_nil))))) (pa_cons (pe_tup (pa_cons pe_int (pa_cons (pv 2) (pa_cons (pv 2) (pa_cons (pe_un un_neg pe_int) pa_nil))))) (pa_cons (pe_tup (pa_cons pe_non (pa_cons (pv 2) (pa_cons (pv 2) (pa_cons pe_int pa_nil))))) (pa_cons (pe_tup (pa_cons pe_int (pa_cons (pv 2) (pa_cons (pv 2) (pa_cons pe_str pa_nil))))) pa_nil)))))))
      (pss_cons (ps_set (i := 3) sc_law_bent_step.nd rfl (by first | exact Or.inl rfl | exact Or.inr rfl) (pe_op op_cat (pv 3) (pe_lst (pa_cons (pe_tup (pa_cons pe_int (pa_cons (pe_op (k_catA (K := K)) (pv 2) (pe_tup (pa_cons pe_int pa_nil))) (pa_cons (pv 2) (pa_cons pe_int pa_nil))))) (pa_cons (pe_tup (pa_cons pe_int (pa_cons (pv 2) (pa_cons (pe_op (k_catA (K := K)) (pv 2) (pe_tup (pa_cons pe_int pa_nil))) (pa_cons pe_int pa_nil))))) (pa_cons (pe_tup (pa_cons pe_int (pa_cons pe_non (pa_cons (pv 2) (pa_cons pe_int pa_nil))))) (pa_cons (pe_tup (pa_cons pe_int (pa_cons (pv 2) (pa_cons pe_int (pa_cons pe_int pa_nil))))) pa_nil)))))))
      (pss_cons (ps_if (pt_cmpR op_gt (pe_ix (k_ix (K := K)) (pv 1) pe_int (fun _ _ => rfl)) pe_int (nomark _))
        (pss_cons (ps_set (i := 4) sc_law_bent_step.nd rfl (by first | exact Or.inl rfl | exact Or.inr rfl) (pe_own O_law_draw (hr.mono (by decide)) (pa_cons (pv 0) (pa_cons (pe_ix (k_ix (K := K)) (pv 1) pe_int (fun _ _ => rfl)) pa_nil))))
        (pss_cons (ps_set (i := 5) sc_law_bent_step.nd rfl (by first | exact Or.inl rfl | exact Or.inr rfl) (pe_op (k_catA (K := K)) (pe_op (k_catA (K := K)) (pe_slice (k_slT (K := K)) (pv 2) po_none (po_some (pv 4))) (pe_tup (pa_cons (pe_own O_law_pick (hr.mono (by decide)) (pa_cons (pv 0) (pa_cons (pe_lst (pa_cons (pe_un un_neg pe_int) (pa_cons pe_bl (pa_cons pe_non (pa_cons pe_str (pa_cons (pe_tup (pa_cons pe_int pa_nil)) pa_nil)))))) pa_nil))) pa_nil))) (pe_slice (k_slT (K := K)) (pv 2) (po_some (pe_op op_add (pv 4) pe_int)) po_none)))
        (pss_cons (ps_set (i := 3) sc_law_bent_step.nd rfl (by first | exact Or.inl rfl | exact Or.inr rfl) (pe_op op_cat (pv 3) (pe_lst (pa_cons (pe_tup (pa_cons pe_int (pa_cons (pv 5) (pa_cons (pv 2) (pa_cons pe_int pa_nil))))) (pa_cons (pe_tup (pa_cons pe_int (pa_cons (pv 2) (pa_cons (pv 5) (pa_cons pe_int pa_nil))))) (pa_cons (pe_lst (pa_cons pe_int (pa_cons (pe_callTy (k_list (K := K)) (by rfl) (T.n_list) PyProof.Rows.boot_list (pa_cons (pv 5) pa_nil)) (pa_cons (pv 2) (pa_cons pe_int pa_nil))))) (pa_cons (pe_tup (pa_cons pe_int (pa_cons (pe_slice (k_slT (K := K)) (pv 2) (po_some pe_int) po_none) (pa_cons (pv 2) (pa_cons pe_int pa_nil))))) pa_nil)))))))
        (pss_one (ps_set (i := 3) sc_law_bent_step.nd rfl (by first | exact Or.inl rfl | exact Or.inr rfl) (pe_op op_cat (pv 3) (pe_lst (pa_cons (pe_tup (pa_cons pe_int (pa_cons (pv 5) (pa_cons (pv 2) (pa_cons pe_int pa_nil))))) (pa_cons (pe_tup (pa_cons pe_int (pa_cons (pv 2) (pa_cons (pv 5) (pa_cons pe_int pa_nil))))) (pa_cons (pe_tup (pa_cons pe_int (pa_cons (pv 2) (pa_cons (pe_slice (k_slT (K := K)) (pv 2) (po_some pe_int) po_none) (pa_cons pe_int pa_nil))))) pa_nil))))))))))
        pss_nil)
      (pss_one (ps_ret (pe_own O_law_pick (hr.mono (by decide)) (pa_cons (pv 0) (pa_cons (pv 3) pa_nil))))))))))), ?_⟩
  rintro b ds hb hl ⟨c, l, ss, rfl, hc, hl1⟩
  show Es K _ (bF b c l ss none none none none) _
  refine eq_set ((ed_op (ed_tup (ea_cons ed_int ea_nil) (by show 1 ≤ 1000; decide)) (ed_g0 (ed_var rfl)) (rd_repU (by omega) (by show 1 ≤ 1000; decide) (fun z => nomatch z))).to (y := .tuple (zR c)) (by rw [zR_rep])) ?_
  show Es K _ (bF b c l ss (some (.tuple (zR c))) none none none) _
  refine eq_set (ed_lst (ea_cons ed_non (ea_cons (ed_tup ea_nil (by decide)) (ea_cons ed_int (ea_cons ed_str (ea_cons (ed_tup (ea_cons ed_int (ea_cons (ed_var rfl) (ea_cons (ed_var rfl) ea_nil))) (by show 3 ≤ 1000; decide)) (ea_cons (ed_tup (ea_cons ed_int (ea_cons (ed_var rfl) (ea_cons (ed_var rfl) (ea_cons ed_int (ea_cons ed_int ea_nil))))) (by show 5 ≤ 1000; decide)) (ea_cons (ed_tup (ea_cons (ed_g1 (ed_var rfl)) (ea_cons (ed_var rfl) (ea_cons (ed_var rfl) (ea_cons ed_int ea_nil)))) (by show 4 ≤ 1000; decide)) ea_nil))))))) (by show 7 ≤ 1000; decide)) ?_
  show Es K _ (bF b c l ss (some (.tuple (zR c))) (some (.list [.none, .tuple [], .int 0, .str "step", .tuple [.int 0, .tuple (zR c), .tuple (zR c)], .tuple [.int 0, .tuple (zR c), .tuple (zR c), .int 0, .int 0], .tuple [.int (l : Nat), .tuple (zR c), .tuple (zR c), .int 0]])) none none) _
  have hA := sods_a (c := c) (l := l) hc
  have nA : [PyData.none, .tuple [], .int 0, .str "step", .tuple [.int 0, .tuple (zR c), .tuple (zR c)], .tuple [.int 0, .tuple (zR c), .tuple (zR c), .int 0, .int 0], .tuple [.int (l : Nat), .tuple (zR c), .tuple (zR c), .int 0]].length = 7 := rfl
  generalize [PyData.none, .tuple [], .int 0, .str "step", .tuple [.int 0, .tuple (zR c), .tuple (zR c)], .tuple [.int 0, .tuple (zR c), .tuple (zR c), .int 0, .int 0], .tuple [.int (l : Nat), .tuple (zR c), .tuple (zR c), .int 0]] = A at hA nA ⊢
  refine eq_set (ed_op (ed_var rfl) (ed_lst (ea_cons (ed_tup (ea_cons ed_int (ea_cons (ed_var rfl) (ea_cons (ed_var rfl) (ea_cons (ed_g1 (ed_var rfl)) ea_nil)))) (by show 4 ≤ 1000; decide)) (ea_cons (ed_tup (ea_cons (ed_un ed_int ru_neg) (ea_cons (ed_var rfl) (ea_cons (ed_var rfl) (ea_cons ed_int ea_nil)))) (by show 4 ≤ 1000; decide)) (ea_cons (ed_tup (ea_cons ed_int (ea_cons (ed_var rfl) (ea_cons (ed_var rfl) (ea_cons ed_bl ea_nil)))) (by show 4 ≤ 1000; decide)) ea_nil))) (by show 3 ≤ 1000; decide)) (rd_catL (by show A.length + 3 ≤ 1000000; omega))) ?_
  show Es K _ (bF b c l ss (some (.tuple (zR c))) (some (.list (A ++ [.tuple [.int 0, .tuple (zR c), .tuple (zR c), .int (l : Nat)], .tuple [.int (-1), .tuple (zR c), .tuple (zR c), .int 0], .tuple [.int 0, .tuple (zR c), .tuple (zR c), .bool true]]))) none none) _
  have hB := sods_app hA (by show A.length + 3 ≤ 30; omega) (sods_b (l := l) hc)
  have nB : (A ++ [PyData.tuple [.int 0, .tuple (zR c), .tuple (zR c), .int (l : Nat)], .tuple [.int (-1), .tuple (zR c), .tuple (zR c), .int 0], .tuple [.int 0, .tuple (zR c), .tuple (zR c), .bool true]]).length = 10 := by rw [List.length_append, nA]; rfl
  generalize A ++ [PyData.tuple [.int 0, .tuple (zR c), .tuple (zR c), .int (l : Nat)], .tuple [.int (-1), .tuple (zR c), .tuple (zR c), .int 0], .tuple [.int 0, .tuple (zR c), .tuple (zR c), .bool true]] = B at hB nB ⊢
  refine eq_set (ed_op (ed_var rfl) (ed_lst (ea_cons (ed_tup (ea_cons ed_bl (ea_cons (ed_var rfl) (ea_cons (ed_var rfl) (ea_cons ed_int ea_nil)))) (by show 4 ≤ 1000; decide)) (ea_cons (ed_tup (ea_cons ed_int (ea_cons (ed_var rfl) (ea_cons (ed_var rfl) (ea_cons (ed_un ed_int ru_neg) ea_nil)))) (by show 4 ≤ 1000; decide)) (ea_cons (ed_tup (ea_cons ed_non (ea_cons (ed_var rfl) (ea_cons (ed_var rfl) (ea_cons ed_int ea_nil)))) (by show 4 ≤ 1000; decide)) (ea_cons (ed_tup (ea_cons ed_int (ea_cons (ed_var rfl) (ea_cons (ed_var rfl) (ea_cons ed_str ea_nil)))) (by show 4 ≤ 1000; decide)) ea_nil)))) (by show 4 ≤ 1000; decide)) (rd_catL (by show B.length + 4 ≤ 1000000; omega))) ?_
  show Es K _ (bF b c l ss (some (.tuple (zR c))) (some (.list (B ++ [.tuple [.bool false, .tuple (zR c), .tuple (zR c), .int 0], .tuple [.int 0, .tuple (zR c), .tuple (zR c), .int (-1)], .tuple [.none, .tuple (zR c), .tuple (zR c), .int 0], .tuple [.int 0, .tuple (zR c), .tuple (zR c), .str "0"]]))) none none) _
  have hC := sods_app hB (by show B.length + 4 ≤ 30; omega) (sods_c (l := l) hc)
  have nC : (B ++ [PyData.tuple [.bool false, .tuple (zR c), .tuple (zR c), .int 0], .tuple [.int 0, .tuple (zR c), .tuple (zR c), .int (-1)], .tuple [.none, .tuple (zR c), .tuple (zR c), .int 0], .tuple [.int 0, .tuple (zR c), .tuple (zR c), .str "0"]]).length = 14 := by rw [List.length_append, nB]; rfl
  generalize B ++ [PyData.tuple [.bool false, .tuple (zR c), .tuple (zR c), .int 0], .tuple [.int 0, .tuple (zR c), .tuple (zR c), .int (-1)], .tuple [.none, .tuple (zR c), .tuple (zR c), .int 0], .tuple [.int 0, .tuple (zR c), .tuple (zR c), .str "0"]] = Cc at hC nC ⊢
  have hz1 : (zR c).length + 1 ≤ 1000000 := by rw [zR_len]; omega
  refine eq_set (ed_op (ed_var rfl) (ed_lst (ea_cons (ed_tup (ea_cons ed_int (ea_cons (ed_op (ed_var rfl) (ed_tup (ea_cons ed_int ea_nil) (by show 1 ≤ 1000; decide)) (rd_catT hz1)) (ea_cons (ed_var rfl) (ea_cons ed_int ea_nil)))) (by show 4 ≤ 1000; decide)) (ea_cons (ed_tup (ea_cons ed_int (ea_cons (ed_var rfl) (ea_cons (ed_op (ed_var rfl) (ed_tup (ea_cons ed_int ea_nil) (by show 1 ≤ 1000; decide)) (rd_catT hz1)) (ea_cons ed_int ea_nil)))) (by show 4 ≤ 1000; decide)) (ea_cons (ed_tup (ea_cons ed_int (ea_cons ed_non (ea_cons (ed_var rfl) (ea_cons ed_int ea_nil)))) (by show 4 ≤ 1000; decide)) (ea_cons (ed_tup (ea_cons ed_int (ea_cons (ed_var rfl) (ea_cons ed_int (ea_cons ed_int ea_nil)))) (by show 4 ≤ 1000; decide)) ea_nil)))) (by show 4 ≤ 1000; decide)) (rd_catL (by show Cc.length + 4 ≤ 1000000; omega))) ?_
  show Es K _ (bF b c l ss (some (.tuple (zR c))) (some (.list (Cc ++ [.tuple [.int 0, .tuple (zR c ++ [.int 0]), .tuple (zR c), .int 0], .tuple [.int 0, .tuple (zR c), .tuple (zR c ++ [.int 1]), .int 0], .tuple [.int 0, .none, .tuple (zR c), .int 0], .tuple [.int 0, .tuple (zR c), .int 0, .int 0]]))) none none) _
  have hD := sods_app hC (by show Cc.length + 4 ≤ 30; omega) (sods_d (l := l) hc)
  have nD : (Cc ++ [PyData.tuple [.int 0, .tuple (zR c ++ [.int 0]), .tuple (zR c), .int 0], .tuple [.int 0, .tuple (zR c), .tuple (zR c ++ [.int 1]), .int 0], .tuple [.int 0, .none, .tuple (zR c), .int 0], .tuple [.int 0, .tuple (zR c), .int 0, .int 0]]).length = 18 := by rw [List.length_append, nC]; rfl
  generalize Cc ++ [PyData.tuple [.int 0, .tuple (zR c ++ [.int 0]), .tuple (zR c), .int 0], .tuple [.int 0, .tuple (zR c), .tuple (zR c ++ [.int 1]), .int 0], .tuple [.int 0, .none, .tuple (zR c), .int 0], .tuple [.int 0, .tuple (zR c), .int 0, .int 0]] = D at hD nD ⊢
  refine es_nx (R := fun ρ1 => ∃ (q : Nat) (L : List PyData) (x y : Option PyData), Sods c l L ∧ q ≤ b + 2 ∧ ρ1 = bF q c l ss (some (.tuple (zR c))) (some (.list L)) x y) (es_if (c := decide ((0 : Int) < (c : Nat))) (eb_test (ed_op (ed_g0 (ed_var rfl)) ed_int rd_gt)) (fun h0 => ?_) fun _ => es_next ⟨b, D, none, none, hD, by omega, rfl⟩) fun ρ1 h => ?_
  · have hc0 : 0 < c := by have := of_decide_eq_true h0; omega
    refine eqv_set (ev_drawN (c0 := b) (i := 0) (many := c) rfl bF_pen (ed_g0 (ed_var rfl)) hc0 (by omega) (by omega)) fun ρ1 y h => ?_
    obtain ⟨rfl, a, rfl, ha⟩ := h
    rw [bF_pen]
    show Es K _ (bF (b + 1) c l ss (some (.tuple (zR c))) (some (.list D)) (some (.int (a : Nat))) none) _
    refine eqv_set (R := fun ρ1 y => ρ1 = bF (b + 2) c l ss (some (.tuple (zR c))) (some (.list D)) (some (.int (a : Nat))) none ∧ ∃ xs, y = .tuple xs ∧ BadRow c xs) (ev_op2 (R1 := fun ρ1 y => ρ1 = bF (b + 2) c l ss (some (.tuple (zR c))) (some (.list D)) (some (.int (a : Nat))) none ∧ ∃ w ∈ oddsW, y = .tuple ((zR c).take a ++ [w])) (R2 := fun ρ1 _ ρ2 y => ρ2 = ρ1 ∧ y = .tuple ((zR c).drop (a + 1)))
      (ev_op2 (ed_slT (ed_var rfl) eo_none (eo_some (ed_var rfl))) (R2 := fun _ _ ρ2 y => ρ2 = bF (b + 2) c l ss (some (.tuple (zR c))) (some (.list D)) (some (.int (a : Nat))) none ∧ ∃ w ∈ oddsW, y = .tuple [w]) (fun ρ1 x h => ?_) fun ρ1 x ρ2 y h1 h2 => ?_) (fun ρ1 x h => ?_) fun ρ1 x ρ2 y h1 h2 => ?_) fun ρ1 y h => ?_
    · obtain ⟨rfl, rfl⟩ := h
      refine ev_tup (eva_one (ev_pick (c0 := b + 1) (i := 0) (xs := oddsW) rfl bF_pen (ed_lst (ea_cons (ed_un ed_int ru_neg) (ea_cons ed_bl (ea_cons ed_non (ea_cons ed_str (ea_cons (ed_tup (ea_cons ed_int ea_nil) (by show 1 ≤ 1000; decide)) ea_nil))))) (by show 5 ≤ 1000; decide)) (fun z => nomatch z) (by show 5 < 1000000; decide) (by omega))) fun ρ2 xs h => ?_
      obtain ⟨w, rfl, rfl, hw⟩ := h
      exact ⟨by show 1 ≤ 1000; decide, bF_pen, w, hw, rfl⟩
    · obtain ⟨rfl, rfl⟩ := h1
      obtain ⟨rfl, w, hw, rfl⟩ := h2
      rw [cutP_to]
      exact ⟨_, rd_catT (by rw [List.length_take, zR_len]; show min a c + 1 ≤ 1000000; omega), rfl, w, hw, rfl⟩
    · obtain ⟨rfl, w, hw, rfl⟩ := h
      refine (ed_slT (ed_var rfl) (eo_some (ed_op (ed_var rfl) ed_int rd_add)) eo_none).imp fun ρ2 y h => ?_
      obtain ⟨rfl, rfl⟩ := h
      refine ⟨rfl, ?_⟩
      rw [show ((a : Nat) : Int) + 1 = ((a + 1 : Nat) : Int) by omega, cutP_from]
    · obtain ⟨rfl, w, hw, rfl⟩ := h1
      obtain ⟨rfl, rfl⟩ := h2
      exact ⟨_, rd_catT (by rw [List.length_append, List.length_take, List.length_drop, zR_len]; show min a c + 1 + (c - (a + 1)) ≤ 1000000; omega), rfl, _, rfl, badRow hc ha hw⟩
    · obtain ⟨rfl, xs, rfl, hbad⟩ := h
      show Es K _ (bF (b + 2) c l ss (some (.tuple (zR c))) (some (.list D)) (some (.int (a : Nat))) (some (.tuple xs))) _
      have hdrop : cutP (zR c) (some ((1 : Nat) : Int)) none = (zR c).drop 1 := cutP_from _ 1
      refine eq_set ((ed_op (ed_var rfl) (ed_lst (ea_cons (ed_tup (ea_cons ed_int (ea_cons (ed_var rfl) (ea_cons (ed_var rfl) (ea_cons ed_int ea_nil)))) (by show 4 ≤ 1000; decide)) (ea_cons (ed_tup (ea_cons ed_int (ea_cons (ed_var rfl) (ea_cons (ed_var rfl) (ea_cons ed_int ea_nil)))) (by show 4 ≤ 1000; decide)) (ea_cons (ed_lst (ea_cons ed_int (ea_cons (ed_cb (ea_cons (ed_var rfl) ea_nil) rc_listT) (ea_cons (ed_var rfl) (ea_cons ed_int ea_nil)))) (by show 4 ≤ 1000; decide)) (ea_cons (ed_tup (ea_cons ed_int (ea_cons (ed_slT (ed_var rfl) (eo_some (i := ((1 : Nat) : Int)) ed_int) eo_none) (ea_cons (ed_var rfl) (ea_cons ed_int ea_nil)))) (by show 4 ≤ 1000; decide)) ea_nil)))) (by show 4 ≤ 1000; decide)) (rd_catL (by show D.length + 4 ≤ 1000000; omega))).to (y := .list (D ++ [PyData.tuple [.int 0, .tuple xs, .tuple (zR c), .int 0], .tuple [.int 0, .tuple (zR c), .tuple xs, .int 0], .list [.int 0, .list xs, .tuple (zR c), .int 0], .tuple [.int 0, .tuple ((zR c).drop 1), .tuple (zR c), .int 0]])) (by rw [hdrop])) ?_
      have hE := sods_app hD (by show D.length + 4 ≤ 30; omega) (sods_e (l := l) hc hc0 hbad)
      have nE : (D ++ [PyData.tuple [.int 0, .tuple xs, .tuple (zR c), .int 0], .tuple [.int 0, .tuple (zR c), .tuple xs, .int 0], .list [.int 0, .list xs, .tuple (zR c), .int 0], .tuple [.int 0, .tuple ((zR c).drop 1), .tuple (zR c), .int 0]]).length = 22 := by rw [List.length_append, nD]; rfl
      generalize D ++ [PyData.tuple [.int 0, .tuple xs, .tuple (zR c), .int 0], .tuple [.int 0, .tuple (zR c), .tuple xs, .int 0], .list [.int 0, .list xs, .tuple (zR c), .int 0], .tuple [.int 0, .tuple ((zR c).drop 1), .tuple (zR c), .int 0]] = Ee at hE nE ⊢
      show Es K _ (bF (b + 2) c l ss (some (.tuple (zR c))) (some (.list Ee)) (some (.int (a : Nat))) (some (.tuple xs))) _
      refine es_set ((ed_op (ed_var rfl) (ed_lst (ea_cons (ed_tup (ea_cons ed_int (ea_cons (ed_var rfl) (ea_cons (ed_var rfl) (ea_cons ed_int ea_nil)))) (by show 4 ≤ 1000; decide)) (ea_cons (ed_tup (ea_cons ed_int (ea_cons (ed_var rfl) (ea_cons (ed_var rfl) (ea_cons ed_int ea_nil)))) (by show 4 ≤ 1000; decide)) (ea_cons (ed_tup (ea_cons ed_int (ea_cons (ed_var rfl) (ea_cons (ed_slT (ed_var rfl) (eo_some (i := ((1 : Nat) : Int)) ed_int) eo_none) (ea_cons ed_int ea_nil)))) (by show 4 ≤ 1000; decide)) ea_nil))) (by show 3 ≤ 1000; decide)) (rd_catL (by show Ee.length + 3 ≤ 1000000; omega))).to (y := .list (Ee ++ [PyData.tuple [.int 0, .tuple xs, .tuple (zR c), .int 0], .tuple [.int 0, .tuple (zR c), .tuple xs, .int 0], .tuple [.int 0, .tuple (zR c), .tuple ((zR c).drop 1), .int 0]])) (by rw [hdrop])) ?_
      exact ⟨b + 2, _, some (.int (a : Nat)), some (.tuple xs), sods_app hE (by show Ee.length + 3 ≤ 30; omega) (sods_f (l := l) hc hc0 hbad), by omega, rfl⟩
  obtain ⟨q, L, x, y, hL, hq, rfl⟩ := h
  refine es_retv (ev_pick (c0 := q) (i := 0) (xs := L) rfl bF_pen (ed_var rfl) hL.1 (by have := hL.2.1; omega) (by omega)) fun ρ1 z h => ?_
  obtain ⟨rfl, hz⟩ := h
  exact ⟨⟨c, l, ss, rfl, hL.2.2 z hz⟩, q + 1, by rw [bF_pen]; rfl, by omega⟩
end
end K04
end
section
set_option Elab.async false
set_option linter.all false
set_option autoImplicit false
set_option maxRecDepth 100000
set_option maxHeartbeats 4000000
namespace K04
open PySem PySem.Spec PyProof.Rows L2 RS
abbrev s_law_odd_configuration : Stmt := top 38
abbrev N_law_odd_configuration : List Str := ["pen", "counters", "locations", "row", "odd", "bent", "at"]
theorem sc_law_odd_configuration : FnScope N_law_odd_configuration ["pen", "counters", "locations"] (defScope s_law_odd_configuration) := ⟨rfl, rfl, rfl, by decide +kernel, rfl, by decide +kernel, by decide +kernel⟩
/-! an odd configuration, picked -/
structure OddC (c l : Nat) (y : PyData) : Prop where
  ok : okD y = true
  sz : szD y ≤ 60
  eq : RS.okS y = true
  dp : PyData.depth y ≤ 20
  no : confD c l y = false
theorem OddC.data {c l : Nat} {y : PyData} (h : OddC c l y) : Ok y := ⟨h.ok, by have := h.sz; omega⟩
structure Pc (x : PyData) : Prop where
  ok : okD x = true
  sz : szD x ≤ 14
  eq : RS.okS x = true
  dp : PyData.depth x ≤ 10
theorem pc_int (i : Int) : Pc (.int i) := ⟨(pt_int i).1, (pt_int i).2, by unfold RS.okS; rfl, by unfold PyData.depth; omega⟩
theorem pc_bool (i : Bool) : Pc (.bool i) := ⟨(pt_bool i).1, (pt_bool i).2, by unfold RS.okS; rfl, by unfold PyData.depth; omega⟩
theorem pc_str (i : Str) : Pc (.str i) := ⟨(pt_str i).1, (pt_str i).2, by unfold RS.okS; rfl, by unfold PyData.depth; omega⟩
theorem pc_none : Pc .none := ⟨pt_none.1, pt_none.2, by unfold RS.okS; rfl, by unfold PyData.depth; omega⟩
theorem okAll_all : ∀ {xs : List PyData}, (∀ x ∈ xs, RS.okS x = true) → RS.okAll xs = true
  | [], _ => by unfold RS.okAll; rfl
  | x :: xs, h => by unfold RS.okAll; rw [h x List.mem_cons_self, okAll_all fun y hy => h y (List.mem_cons_of_mem _ hy)]; rfl
theorem dpAll_all {n : Nat} : ∀ {xs : List PyData}, (∀ x ∈ xs, PyData.depth x ≤ n) → PyData.depthAll xs ≤ n
  | [], _ => by unfold PyData.depthAll; omega
  | x :: xs, h => by
    have h1 := h x List.mem_cons_self
    have h2 := dpAll_all fun y hy => h y (List.mem_cons_of_mem _ hy)
    unfold PyData.depthAll
    omega
theorem okS_seq (t : Bool) (xs : List PyData) : RS.okS (mkSeq t xs) = RS.okAll xs := by cases t <;> (unfold mkSeq RS.okS; rfl)
theorem dp_seq (t : Bool) (xs : List PyData) : PyData.depth (mkSeq t xs) ≤ PyData.depthAll xs + 1 := by cases t <;> (unfold mkSeq PyData.depth; omega)
theorem oc_seq {c l : Nat} (t : Bool) {xs : List PyData} (hp : ∀ x ∈ xs, Pc x) (hn : xs.length ≤ 4) (no : confD c l (mkSeq t xs) = false) : OddC c l (mkSeq t xs) := by
  refine ⟨by rw [ok_seq]; exact okDs_all fun x hx => (hp x hx).ok, ?_, by rw [okS_seq]; exact okAll_all fun x hx => (hp x hx).eq, ?_, no⟩
  · rw [sz_seq]
    have h := szDs_all (n := 14) fun x hx => (hp x hx).sz
    have h2 : xs.length * 14 ≤ 4 * 14 := Nat.mul_le_mul_right 14 hn
    omega
  · have h := dpAll_all (n := 10) fun x hx => (hp x hx).dp
    have := dp_seq t xs
    omega
theorem oc_leaf {c l : Nat} {x : PyData} (h : Pc x) (no : confD c l x = false) : OddC c l x := ⟨h.ok, by have := h.sz; omega, h.eq, by have := h.dp; omega, no⟩
/-- a row of up to four small things -/
structure P3 (x : PyData) : Prop where
  ok : okD x = true
  sz : szD x ≤ 3
  eq : RS.okS x = true
  dp : PyData.depth x ≤ 3
theorem p3_int (i : Int) : P3 (.int i) := ⟨(pt3_int i).1, (pt3_int i).2, by unfold RS.okS; rfl, by unfold PyData.depth; omega⟩
theorem pc_seq {t : Bool} {xs : List PyData} (hn : xs.length ≤ 4) (hp : ∀ x ∈ xs, P3 x) : Pc (mkSeq t xs) := by
  refine ⟨by rw [ok_seq]; exact okDs_all fun x hx => (hp x hx).ok, ?_, by rw [okS_seq]; exact okAll_all fun x hx => (hp x hx).eq, ?_⟩
  · rw [sz_seq]
    have h := szDs_all (n := 3) fun x hx => (hp x hx).sz
    have h2 : xs.length * 3 ≤ 4 * 3 := Nat.mul_le_mul_right 3 hn
    omega
  · have h := dpAll_all (n := 3) fun x hx => (hp x hx).dp
    have := dp_seq t xs
    omega
theorem pc_zR {t : Bool} {c : Nat} (h : c ≤ 3) : Pc (mkSeq t (zR c)) := pc_seq (by rw [zR_len]; omega) fun x hx => by rw [zR_mem hx]; exact p3_int 0
theorem oddsW_p3 {w : PyData} (h : w ∈ oddsW) : P3 w := by
  obtain ⟨h1, h2, _⟩ := oddsW_ok h
  unfold oddsW at h
  simp only [List.mem_cons, List.not_mem_nil, or_false] at h
  refine ⟨h1, h2, ?_, ?_⟩
  · rcases h with rfl | rfl | rfl | rfl | rfl
    · unfold RS.okS; rfl
    · unfold RS.okS; rfl
    · unfold RS.okS; rfl
    · unfold RS.okS; rfl
    · unfold RS.okS RS.okAll RS.okS RS.okAll; rfl
  · rcases h with rfl | rfl | rfl | rfl | rfl
    · unfold PyData.depth; omega
    · unfold PyData.depth; omega
    · unfold PyData.depth; omega
    · unfold PyData.depth; omega
    · unfold PyData.depth PyData.depthAll PyData.depth PyData.depthAll; omega
theorem oc2 {c l : Nat} {p r : PyData} (hp : Pc p) (hr : Pc r) (bad : belD l p = false ∨ isTup r = false ∨ natsD c r = false) : OddC c l (.tuple [p, r]) := by
  refine oc_seq true (xs := [p, r]) (fun x hx => ?_) (by show 2 ≤ 4; decide) ?_
  · simp only [List.mem_cons, List.not_mem_nil, or_false] at hx
    rcases hx with rfl | rfl <;> assumption
  · show (belD l p && (isTup r && natsD c r)) = false
    rcases bad with z | z | z <;> rw [z] <;> simp
def Codds (c l : Nat) (L : List PyData) : Prop := L ≠ [] ∧ L.length ≤ 30 ∧ ∀ y ∈ L, OddC c l y
theorem codds_app {c l : Nat} {L M : List PyData} (h : Codds c l L) (hl : L.length + M.length ≤ 30) (hm : ∀ y ∈ M, OddC c l y) : Codds c l (L ++ M) := ⟨fun z => h.1 (List.append_eq_nil_iff.mp z).1, by rw [List.length_append]; exact hl, fun y hy => (List.mem_append.mp hy).elim (h.2.2 y) (hm y)⟩
theorem codds_a {c l : Nat} (hc : c ≤ 3) : Codds c l [.none, .tuple [], .int 0, .str "x", .tuple [.int 0], .tuple [.int 0, .tuple (zR c), .int 0], .tuple [.int (l : Nat), .tuple (zR c)], .tuple [.int (-1), .tuple (zR c)], .tuple [.bool true, .tuple (zR c)], .tuple [.str "0", .tuple (zR c)], .tuple [.none, .tuple (zR c)]] := by
  have z := pc_zR (t := true) hc
  refine ⟨(fun z => nomatch z), by show 11 ≤ 30; decide, fun y hy => ?_⟩
  simp only [List.mem_cons, List.not_mem_nil, or_false] at hy
  rcases hy with rfl | rfl | rfl | rfl | rfl | rfl | rfl | rfl | rfl | rfl | rfl
  · exact oc_leaf pc_none rfl
  · exact oc_seq true (fun x hx => absurd hx List.not_mem_nil) (by decide) rfl
  · exact oc_leaf (pc_int 0) rfl
  · exact oc_leaf (pc_str "x") rfl
  · exact oc_seq true (xs := [.int 0]) (fun x hx => by rw [List.mem_singleton.mp hx]; exact pc_int 0) (by show 1 ≤ 4; decide) rfl
  · refine oc_seq true (xs := [.int 0, .tuple (zR c), .int 0]) (fun x hx => ?_) (by show 3 ≤ 4; decide) rfl
    simp only [List.mem_cons, List.not_mem_nil, or_false] at hx
    rcases hx with rfl | rfl | rfl
    · exact pc_int 0
    · exact z
    · exact pc_int 0
  · exact oc2 (pc_int _) z (.inl (bel_out l))
  · exact oc2 (pc_int _) z (.inl rfl)
  · exact oc2 (pc_bool _) z (.inl rfl)
  · exact oc2 (pc_str _) z (.inl rfl)
  · exact oc2 pc_none z (.inl rfl)
theorem pc_zx {c : Nat} (hc : c ≤ 3) (i : Int) : Pc (mkSeq true (zR c ++ [.int i])) := pc_seq (by rw [List.length_append, zR_len]; show c + 1 ≤ 4; omega) fun x hx => by
  rcases List.mem_append.mp hx with h | h
  · rw [zR_mem h]; exact p3_int 0
  · rw [List.mem_singleton.mp h]; exact p3_int i
theorem codds_b {c l : Nat} (hc : c ≤ 3) (s : Str) : ∀ y ∈ [PyData.list [.int 0, .tuple (zR c)], .tuple [.int 0, .list (zR c)], .tuple [.int 0, .tuple (zR c ++ [.int 0])], .tuple [.int 0, .int 0], .tuple [.int 0, .none], .tuple [.int 0, .str s]], OddC c l y := fun y hy => by
  have z := pc_zR (t := true) hc
  have zf := pc_zR (t := false) hc
  simp only [List.mem_cons, List.not_mem_nil, or_false] at hy
  rcases hy with rfl | rfl | rfl | rfl | rfl | rfl
  · refine oc_seq false (xs := [.int 0, .tuple (zR c)]) (fun x hx => ?_) (by show 2 ≤ 4; decide) rfl
    simp only [List.mem_cons, List.not_mem_nil, or_false] at hx
    rcases hx with rfl | rfl
    · exact pc_int 0
    · exact z
  · exact oc2 (pc_int _) zf (.inr (.inl rfl))
  · exact oc2 (pc_int _) (pc_zx hc 0) (.inr (.inr (nats_len true (by rw [List.length_append, zR_len]; show c + 1 ≠ c; omega))))
  · exact oc2 (pc_int _) (pc_int _) (.inr (.inl rfl))
  · exact oc2 (pc_int _) pc_none (.inr (.inl rfl))
  · exact oc2 (pc_int _) (pc_str _) (.inr (.inl rfl))
theorem pc_bad {c a : Nat} {w : PyData} (hc : c ≤ 3) (ha : a < c) (hw : w ∈ oddsW) : Pc (.tuple ((zR c).take a ++ [w] ++ (zR c).drop (a + 1))) := pc_seq (t := true) (badRow hc ha hw).n fun x hx => by
  rcases List.mem_append.mp hx with h | h
  · rcases List.mem_append.mp h with h | h
    · rw [zR_mem (List.mem_of_mem_take h)]; exact p3_int 0
    · rw [List.mem_singleton.mp h]; exact oddsW_p3 hw
  · rw [zR_mem (List.mem_of_mem_drop h)]; exact p3_int 0
theorem codds_e {c l a : Nat} {w : PyData} (hc : c ≤ 3) (ha : a < c) (hw : w ∈ oddsW) : ∀ y ∈ [PyData.tuple [.int 0, .tuple ((zR c).drop 1)], .tuple [.int 0, .tuple ((zR c).take a ++ [w] ++ (zR c).drop (a + 1))], .tuple [.int 0, .tuple ((zR c).take a ++ [w] ++ (zR c).drop (a + 1))]], OddC c l y := fun y hy => by
  have hb : OddC c l (.tuple [.int 0, .tuple ((zR c).take a ++ [w] ++ (zR c).drop (a + 1))]) := by
    obtain ⟨x, hx, hb⟩ := (badRow hc ha hw).bad
    exact oc2 (pc_int _) (pc_bad hc ha hw) (.inr (.inr (nats_bad true hx hb)))
  simp only [List.mem_cons, List.not_mem_nil, or_false] at hy
  rcases hy with rfl | rfl | rfl
  · exact oc2 (pc_int _) (pc_seq (t := true) (by rw [List.length_drop, zR_len]; omega) fun x hx => by rw [zR_mem (List.mem_of_mem_drop hx)]; exact p3_int 0) (.inr (.inr (nats_len true (by rw [List.length_drop, zR_len]; omega))))
  · exact hb
  · exact hb
theorem rc_max2 {K : PySem.W.Frag} {a b : Int} : RC K (rMax K) [.list [.int a, .int b]] (.int (max a b)) := fun G H vs s d Q q => by
  obtain ⟨v, rfl, d1⟩ := d.one
  obtain ⟨p, us, rfl, hp, _, da⟩ := d1.lstH s
  have e : us = [a, b].map V.int := DAs.of_ints (ns := [a, b]) da
  subst e
  refine ⟨p, [a, b], rfl, SqL.of hp, by show 0 < 2; decide, fun m hm hle => ?_⟩
  have e : m = max a b := by
    simp only [List.mem_cons, List.not_mem_nil, or_false] at hm
    have h1 := hle a List.mem_cons_self
    have h2 := hle b (List.mem_cons_of_mem _ List.mem_cons_self)
    rcases hm with rfl | rfl <;> omega
  rw [e]
  exact q _ G H (Step.refl s) (.int _)
def oF (q c l : Nat) (ro od be at_ : Option PyData) : En := [some (.pen q), some (.d (.int (c : Nat))), some (.d (.int (l : Nat))), ro.map Sl.d, od.map Sl.d, be.map Sl.d, at_.map Sl.d]
theorem oF_pen {q r c l : Nat} {ro od be at_ : Option PyData} : setPen r (oF q c l ro od be at_) = oF r c l ro od be at_ := by
  unfold setPen oF
  simp only [List.map_cons, List.map_nil, pn_d]
  rfl
def pOc : List PyData → Prop := fun ds => ∃ c l : Nat, ds = [.int c, .int l] ∧ c ≤ 3
def rOc : List PyData → PyData → Prop := fun ds y => ∃ c l : Nat, ds = [.int c, .int l] ∧ OddC c l y
section
variable {P : Program} {w : World} {K : PySem.W.Frag} {mg : Str → Option Value} {base : Heap}
theorem ok_law_oddc {f : Addr} {fd : FuncData} (F : Fun K "_law_odd_configuration" "_law_odd_configuration" s_law_odd_configuration f fd) (T : Bi mg) (O_law_draw : OwnD P w K mg base 1 "_law_draw" ["pen", "many"] (spP K 1 pDraw 1 rDraw)) (O_law_pick : OwnD P w K mg base 2 "_law_pick" ["pen", "row"] (spP K 1 pPick 1 rPick)) :
    FnOk P w K mg base CX0 3 f fd ["pen", "counters", "locations"] (spP K 2 pOc 3 rOc) := by
  refine fn_pen (ps := ["counters", "locations"]) F sc_law_odd_configuration fun cdv A outer s H E hr => ⟨_, (pss_cons (ps_set (i := 3) sc_law_odd_configuration.nd rfl (by first | exact Or.inl rfl | exact Or.inr rfl) (pe_op (k_repU (K := K)) (pe_tup (pa_cons pe_int pa_nil)) (pv 1)))
      (pss_cons (ps_set (i := 4) sc_law_odd_configuration.nd rfl (by first | exact Or.inl rfl | exact Or.inr rfl) (pe_lst (pa_cons pe_non (pa_cons (pe_tup pa_nil) (pa_cons pe_int (pa_cons pe_str (pa_cons (pe_tup (pa_cons pe_int pa_nil)) (pa_cons (pe_tup (pa_cons pe_int (pa_cons (pv 3) (pa_cons pe_int pa_nil)))) (pa_cons (pe_tup (pa_cons (pv 2) (pa_cons (pv 3) pa_nil))) (pa_cons (pe_tup (pa_cons (pe_un un_neg pe_int) (pa_cons (pv 3) pa_nil))) (pa_cons (pe_tup (pa_cons pe_bl (pa_cons (pv 3) pa_nil))) (pa_cons (pe_tup (pa_cons pe_str (pa_cons (pv 3) pa_nil))) (pa_cons (pe_tup (pa_cons pe_non (pa_cons (pv 3) pa_nil))) pa_nil)))))))))))))
      (pss_cons (ps_set (i := 4) sc_law_odd_configuration.nd rfl (by first | exact Or.inl rfl | exact Or.inr rfl) (pe_op op_cat (pv 4) (pe_lst (pa_cons (pe_lst (pa_cons pe_int (pa_cons (pv 3) pa_nil))) (pa_cons (pe_tup (pa_cons pe_int (pa_cons (pe_callTy (k_list (K := K)) (by rfl) (T.n_list) PyProof.Rows.boot_list (pa_cons (pv 3) pa_nil)) pa_nil))) (pa_cons (pe_tup (pa_cons pe_int (pa_cons (pe_op (k_catA (K := K)) (pv 3) (pe_tup (pa_cons pe_int pa_nil))) pa_nil))) (pa_cons (pe_tup (pa_cons pe_int (pa_cons pe_int pa_nil))) (pa_cons (pe_tup (pa_cons pe_int (pa_cons pe_non pa_nil))) (pa_cons (pe_tup (pa_cons pe_int (pa_cons (pe_op op_repS pe_str (pe_callB (k_max (K := K) rfl) (by rfl) (T.n_max) (by decide +kernel) (pa_cons (pe_lst (pa_cons (pv 1) (pa_cons pe_int pa_nil))) pa_nil))) pa_nil))) pa_nil)))))))))
      (pss_cons (ps_if (pt_cmpR op_gt (pv 1) pe_int (nomark _))
        (pss_cons (ps_set (i := 5) sc_law_odd_configuration.nd rfl (by first | exact Or.inl rfl | exact Or.inr rfl) (pe_own O_law_pick (hr.mono (by decide)) (pa_cons (pv 0) (pa_cons (pe_lst (pa_cons (pe_un un_neg pe_int) (pa_cons pe_bl (pa_cons pe_non (pa_cons pe_str (pa_cons (pe_tup (pa_cons pe_int pa_nil)) pa_nil)))))) pa_nil))))
        (pss_cons (ps_set (i := 6) sc_law_odd_configuration.nd rfl (by first | exact Or.inl rfl | exact Or.inr rfl) (pe_own O_law_draw (hr.mono (by decide)) (pa_cons (pv 0) (pa_cons (pv 1) pa_nil))))
        (pss_one (ps_set (i := 4) sc_law_odd_configuration.nd rfl (by first | exact Or.inl rfl | exact Or.inr rfl) (pe_op op_cat (pv 4) (pe_lst (pa_cons (pe_tup (pa_cons pe_int (pa_cons (pe_slice (k_slT (K := K)) (pv 3) (po_some pe_int) po_none) pa_nil))) (pa_cons (pe_tup (pa_cons pe_int (pa_cons (pe_op (k_catA (K := K)) (pe_op (k_catA (K := K)) (pe_slice (k_slT (K := K)) (pv 3) po_none (po_some (pv 6))) (pe_tup (pa_cons (pv 5) pa_nil))) (pe_slice (k_slT (K := K)) (pv 3) (po_some (pe_op op_add (pv 6) pe_int)) po_none)) pa_nil))) (pa_cons (pe_tup (pa_cons pe_int (pa_cons (pe_op (k_catA (K := K)) (pe_op (k_catA (K := K)) (pe_slice (k_slT (K := K)) (pv 3) po_none (po_some (pv 6))) (pe_tup (pa_cons (pv 5) pa_nil))) (pe_slice (k_slT (K := K)) (pv 3) (po_some (pe_op op_add (pv 6) pe_int)) po_none)) pa_nil))) pa_nil)))))))))
        pss_nil)
      (pss_one (ps_ret (pe_own O_law_pick (hr.mono (by decide)) (pa_cons (pv 0) (pa_cons (pv 4) pa_nil))))))))), ?_⟩
  rintro b ds hb hl ⟨c, l, rfl, hc⟩
  show Es K _ (oF b c l none none none none) _
  refine eq_set ((ed_op (ed_tup (ea_cons ed_int ea_nil) (by show 1 ≤ 1000; decide)) (ed_var rfl) (rd_repU (by omega) (by show 1 ≤ 1000; decide) (fun z => nomatch z))).to (y := .tuple (zR c)) (by rw [zR_rep])) ?_
  show Es K _ (oF b c l (some (.tuple (zR c))) none none none) _
  refine eq_set (ed_lst (ea_cons ed_non (ea_cons (ed_tup ea_nil (by decide)) (ea_cons ed_int (ea_cons ed_str (ea_cons (ed_tup (ea_cons ed_int ea_nil) (by show 1 ≤ 1000; decide)) (ea_cons (ed_tup (ea_cons ed_int (ea_cons (ed_var rfl) (ea_cons ed_int ea_nil))) (by show 3 ≤ 1000; decide)) (ea_cons (ed_tup (ea_cons (ed_var rfl) (ea_cons (ed_var rfl) ea_nil)) (by show 2 ≤ 1000; decide)) (ea_cons (ed_tup (ea_cons (ed_un ed_int ru_neg) (ea_cons (ed_var rfl) ea_nil)) (by show 2 ≤ 1000; decide)) (ea_cons (ed_tup (ea_cons ed_bl (ea_cons (ed_var rfl) ea_nil)) (by show 2 ≤ 1000; decide)) (ea_cons (ed_tup (ea_cons ed_str (ea_cons (ed_var rfl) ea_nil)) (by show 2 ≤ 1000; decide)) (ea_cons (ed_tup (ea_cons ed_non (ea_cons (ed_var rfl) ea_nil)) (by show 2 ≤ 1000; decide)) ea_nil))))))))))) (by show 11 ≤ 1000; decide)) ?_
  show Es K _ (oF b c l (some (.tuple (zR c))) (some (.list [.none, .tuple [], .int 0, .str "x", .tuple [.int 0], .tuple [.int 0, .tuple (zR c), .int 0], .tuple [.int (l : Nat), .tuple (zR c)], .tuple [.int (-1), .tuple (zR c)], .tuple [.bool true, .tuple (zR c)], .tuple [.str "0", .tuple (zR c)], .tuple [.none, .tuple (zR c)]])) none none) _
  have hA := codds_a (c := c) (l := l) hc
  have nA : [PyData.none, .tuple [], .int 0, .str "x", .tuple [.int 0], .tuple [.int 0, .tuple (zR c), .int 0], .tuple [.int (l : Nat), .tuple (zR c)], .tuple [.int (-1), .tuple (zR c)], .tuple [.bool true, .tuple (zR c)], .tuple [.str "0", .tuple (zR c)], .tuple [.none, .tuple (zR c)]].length = 11 := rfl
  generalize [PyData.none, .tuple [], .int 0, .str "x", .tuple [.int 0], .tuple [.int 0, .tuple (zR c), .int 0], .tuple [.int (l : Nat), .tuple (zR c)], .tuple [.int (-1), .tuple (zR c)], .tuple [.bool true, .tuple (zR c)], .tuple [.str "0", .tuple (zR c)], .tuple [.none, .tuple (zR c)]] = A at hA nA ⊢
  have hz1 : (zR c).length + 1 ≤ 1000000 := by rw [zR_len]; omega
  have hmax : max (c : Int) 1 = ((max c 1 : Nat) : Int) := by omega
  have hrep : Ed K (tOp rRepS (tC (.str "0")) (tCB (rMax K) (tCons (tLst (tCons (tVar 1) (tCons (tC (.int 1)) tNil))) tNil))) (oF b c l (some (.tuple (zR c))) (some (.list A)) none none) (.str (repS "0" (max c 1))) :=
    ed_op (y := .int ((max c 1 : Nat) : Int)) ed_str ((ed_cb (ea_cons (ed_lst (ea_cons (ed_var rfl) (ea_cons ed_int ea_nil)) (by show 2 ≤ 1000; decide)) ea_nil) rc_max2).to (by rw [hmax])) (rd_repS (by omega) (by decide))
  refine eq_set (ed_op (ed_var rfl) (ed_lst (ea_cons (ed_lst (ea_cons ed_int (ea_cons (ed_var rfl) ea_nil)) (by show 2 ≤ 1000; decide)) (ea_cons (ed_tup (ea_cons ed_int (ea_cons (ed_cb (ea_cons (ed_var rfl) ea_nil) rc_listT) ea_nil)) (by show 2 ≤ 1000; decide)) (ea_cons (ed_tup (ea_cons ed_int (ea_cons (ed_op (ed_var rfl) (ed_tup (ea_cons ed_int ea_nil) (by show 1 ≤ 1000; decide)) (rd_catT hz1)) ea_nil)) (by show 2 ≤ 1000; decide)) (ea_cons (ed_tup (ea_cons ed_int (ea_cons ed_int ea_nil)) (by show 2 ≤ 1000; decide)) (ea_cons (ed_tup (ea_cons ed_int (ea_cons ed_non ea_nil)) (by show 2 ≤ 1000; decide)) (ea_cons (ed_tup (ea_cons ed_int (ea_cons hrep ea_nil)) (by show 2 ≤ 1000; decide)) ea_nil)))))) (by show 6 ≤ 1000; decide)) (rd_catL (by show A.length + 6 ≤ 1000000; omega))) ?_
  show Es K _ (oF b c l (some (.tuple (zR c))) (some (.list (A ++ [.list [.int 0, .tuple (zR c)], .tuple [.int 0, .list (zR c)], .tuple [.int 0, .tuple (zR c ++ [.int 0])], .tuple [.int 0, .int 0], .tuple [.int 0, .none], .tuple [.int 0, .str (repS "0" (max c 1))]]))) none none) _
  generalize repS "0" (max c 1) = str0
  have hD := codds_app hA (by show A.length + 6 ≤ 30; omega) (codds_b (l := l) hc str0)
  have nD : (A ++ [PyData.list [.int 0, .tuple (zR c)], .tuple [.int 0, .list (zR c)], .tuple [.int 0, .tuple (zR c ++ [.int 0])], .tuple [.int 0, .int 0], .tuple [.int 0, .none], .tuple [.int 0, .str str0]]).length = 17 := by rw [List.length_append, nA]; rfl
  generalize A ++ [PyData.list [.int 0, .tuple (zR c)], .tuple [.int 0, .list (zR c)], .tuple [.int 0, .tuple (zR c ++ [.int 0])], .tuple [.int 0, .int 0], .tuple [.int 0, .none], .tuple [.int 0, .str str0]] = D at hD nD ⊢
  refine es_nx (R := fun ρ1 => ∃ (q : Nat) (L : List PyData) (x y : Option PyData), Codds c l L ∧ q ≤ b + 2 ∧ ρ1 = oF q c l (some (.tuple (zR c))) (some (.list L)) x y) (es_if (c := decide ((0 : Int) < (c : Nat))) (eb_test (ed_op (ed_var rfl) ed_int rd_gt)) (fun h0 => ?_) fun _ => es_next ⟨b, D, none, none, hD, by omega, rfl⟩) fun ρ1 h => ?_
  · have hc0 : 0 < c := by have := of_decide_eq_true h0; omega
    refine eqv_set (ev_pick (c0 := b) (i := 0) (xs := oddsW) rfl oF_pen (ed_lst (ea_cons (ed_un ed_int ru_neg) (ea_cons ed_bl (ea_cons ed_non (ea_cons ed_str (ea_cons (ed_tup (ea_cons ed_int ea_nil) (by show 1 ≤ 1000; decide)) ea_nil))))) (by show 5 ≤ 1000; decide)) (fun z => nomatch z) (by show 5 < 1000000; decide) (by omega)) fun ρ1 w h => ?_
    obtain ⟨rfl, hw⟩ := h
    rw [oF_pen]
    show Es K _ (oF (b + 1) c l (some (.tuple (zR c))) (some (.list D)) (some w) none) _
    refine eqv_set (ev_drawN (c0 := b + 1) (i := 0) (many := c) rfl oF_pen (ed_var rfl) hc0 (by omega) (by omega)) fun ρ1 y h => ?_
    obtain ⟨rfl, a, rfl, ha⟩ := h
    rw [oF_pen]
    show Es K _ (oF (b + 2) c l (some (.tuple (zR c))) (some (.list D)) (some w) (some (.int (a : Nat)))) _
    have hdrop : cutP (zR c) (some ((1 : Nat) : Int)) none = (zR c).drop 1 := cutP_from _ 1
    have hrow : Ed K (tOp (rCatA K) (tOp (rCatA K) (tSl (rSlA K) (tVar 3) tNoPart (tPart (tVar 6))) (tTup (tCons (tVar 5) tNil))) (tSl (rSlA K) (tVar 3) (tPart (tOp (rI0 fun i j => .int (i + j)) (tVar 6) (tC (.int 1)))) tNoPart)) (oF (b + 2) c l (some (.tuple (zR c))) (some (.list D)) (some w) (some (.int (a : Nat)))) (.tuple ((zR c).take a ++ [w] ++ (zR c).drop (a + 1))) := by
      have e1 : cutP (zR c) (some (((a : Nat) : Int) + 1)) none = (zR c).drop (a + 1) := by rw [show ((a : Nat) : Int) + 1 = ((a + 1 : Nat) : Int) by omega, cutP_from]
      refine (ed_op (ed_op (ed_slT (ed_var rfl) eo_none (eo_some (ed_var rfl))) (ed_tup (ea_cons (ed_var rfl) ea_nil) (by show 1 ≤ 1000; decide)) (rd_catT ?_)) (ed_slT (ed_var rfl) (eo_some (ed_op (ed_var rfl) ed_int rd_add)) eo_none) (rd_catT ?_)).to ?_
      · rw [cutP_to, List.length_take, zR_len]; show min a c + 1 ≤ 1000000; omega
      · rw [cutP_to, e1, List.length_append, List.length_take, List.length_drop, zR_len]; show min a c + 1 + (c - (a + 1)) ≤ 1000000; omega
      · rw [cutP_to, e1]
    refine es_set ((ed_op (ed_var rfl) (ed_lst (ea_cons (ed_tup (ea_cons ed_int (ea_cons (ed_slT (ed_var rfl) (eo_some (i := ((1 : Nat) : Int)) ed_int) eo_none) ea_nil)) (by show 2 ≤ 1000; decide)) (ea_cons (ed_tup (ea_cons ed_int (ea_cons hrow ea_nil)) (by show 2 ≤ 1000; decide)) (ea_cons (ed_tup (ea_cons ed_int (ea_cons hrow ea_nil)) (by show 2 ≤ 1000; decide)) ea_nil))) (by show 3 ≤ 1000; decide)) (rd_catL (by show D.length + 3 ≤ 1000000; omega))).to (y := .list (D ++ [PyData.tuple [.int 0, .tuple ((zR c).drop 1)], .tuple [.int 0, .tuple ((zR c).take a ++ [w] ++ (zR c).drop (a + 1))], .tuple [.int 0, .tuple ((zR c).take a ++ [w] ++ (zR c).drop (a + 1))]])) (by rw [hdrop])) ?_
    exact ⟨b + 2, _, some w, some (.int (a : Nat)), codds_app hD (by show D.length + 3 ≤ 30; omega) (codds_e (l := l) hc ha hw), by omega, rfl⟩
  obtain ⟨q, L, x, y, hL, hq, rfl⟩ := h
  refine es_retv (ev_pick (c0 := q) (i := 0) (xs := L) rfl oF_pen (ed_var rfl) hL.1 (by have := hL.2.1; omega) (by omega)) fun ρ1 z h => ?_
  obtain ⟨rfl, hz⟩ := h
  exact ⟨⟨c, l, rfl, hL.2.2 z hz⟩, q + 1, by rw [oF_pen]; rfl, by omega⟩
end
end K04
end
section
set_option Elab.async false
set_option linter.all false
set_option autoImplicit false
set_option maxRecDepth 100000
set_option maxHeartbeats 4000000
namespace K04
open PySem PySem.Spec PyProof.Rows L2 RS
abbrev s_law_wrong : Stmt := top 35
abbrev N_law_wrong : List Str := ["call", "e"]
theorem sc_law_wrong : FnScope N_law_wrong ["call"] (defScope s_law_wrong) := ⟨rfl, rfl, rfl, by decide +kernel, rfl, by decide +kernel, by decide +kernel⟩
section
variable {X : Cx} {C_BadNumber C_BadProgram C_BadConfiguration C_BadStep C_BadLot C_BadReads C_Unlike C_NotOfKind : Addr}
theorem wrong_gives {g : Addr} {cdg : Value} {q : Str}
    (m_BadNumber : X.mg "BadNumber" = some (.ref C_BadNumber)) (x_BadNumber : XfC X.K C_BadNumber) (n_BadNumber_what : PySem.W.findIn X.K (.ref C_BadNumber) "what" = some none) (n_BadNumber_number : PySem.W.findIn X.K (.ref C_BadNumber) "number" = some none)
    (m_BadProgram : X.mg "BadProgram" = some (.ref C_BadProgram)) (x_BadProgram : XfC X.K C_BadProgram) (n_BadProgram_index : PySem.W.findIn X.K (.ref C_BadProgram) "index" = some none)
    (m_BadConfiguration : X.mg "BadConfiguration" = some (.ref C_BadConfiguration)) (x_BadConfiguration : XfC X.K C_BadConfiguration) (n_BadConfiguration_configuration : PySem.W.findIn X.K (.ref C_BadConfiguration) "configuration" = some none)
    (m_BadStep : X.mg "BadStep" = some (.ref C_BadStep)) (x_BadStep : XfC X.K C_BadStep) (n_BadStep_index : PySem.W.findIn X.K (.ref C_BadStep) "index" = some none)
    (m_BadLot : X.mg "BadLot" = some (.ref C_BadLot)) (x_BadLot : XfC X.K C_BadLot) (n_BadLot_lot : PySem.W.findIn X.K (.ref C_BadLot) "lot" = some none)
    (m_BadReads : X.mg "BadReads" = some (.ref C_BadReads)) (x_BadReads : XfC X.K C_BadReads) (n_BadReads_reads : PySem.W.findIn X.K (.ref C_BadReads) "reads" = some none)
    (m_Unlike : X.mg "Unlike" = some (.ref C_Unlike)) (x_Unlike : XfC X.K C_Unlike) (n_Unlike_what : PySem.W.findIn X.K (.ref C_Unlike) "what" = some none)
    (m_NotOfKind : X.mg "NotOfKind" = some (.ref C_NotOfKind)) (x_NotOfKind : XfC X.K C_NotOfKind) (n_NotOfKind_why : PySem.W.findIn X.K (.ref C_NotOfKind) "why" = some none)
    (ok : TabOk X.K [(C_BadNumber, "number", ["what", "number"]), (C_BadProgram, "program", ["index"]), (C_BadConfiguration, "configuration", ["configuration"]), (C_BadStep, "step", ["index"]), (C_BadLot, "lot", ["lot"]), (C_BadReads, "reads", ["reads"]), (C_Unlike, "unlike", ["what"]), (C_NotOfKind, "kind", ["why"])]) :
    LamX.GivesTo X N_law_wrong "_law_wrong" (defScope s_law_wrong) g cdg (defBody s_law_wrong) "call" q (TTw [(C_BadNumber, "number", ["what", "number"]), (C_BadProgram, "program", ["index"]), (C_BadConfiguration, "configuration", ["configuration"]), (C_BadStep, "step", ["index"]), (C_BadLot, "lot", ["lot"]), (C_BadReads, "reads", ["reads"]), (C_Unlike, "unlike", ["what"]), (C_NotOfKind, "kind", ["why"])]) := by
  intro f c' s H Q tl act hc h
  refine ⟨_, pss_cons (ps_try_manyA (X := (cxOf C8.CX0 X.prog X.w X.K X.mg X.base N_law_wrong "_law_wrong" (defScope s_law_wrong) g cdg X.A X.stack s H C8.E0).nox) (i := 1)
      (tb := fun W D σ H => ∃ Ech : XK, (∀ cls d σ' H', σ'.length = 2 → Ech cls d H' → W cls d σ' H') ∧ σ[0]? = some (some (.ref f)) ∧ H c' = some (LamX.CodeO c' q) ∧ tl Ech H fun _ H' => D.nx σ H')
      (l := suis [(C_BadNumber, "number", ["what", "number"]), (C_BadProgram, "program", ["index"]), (C_BadConfiguration, "configuration", ["configuration"]), (C_BadStep, "step", ["index"]), (C_BadLot, "lot", ["lot"]), (C_BadReads, "reads", ["reads"]), (C_Unlike, "unlike", ["what"]), (C_NotOfKind, "kind", ["why"])]) rfl rfl sc_law_wrong.nd rfl rfl takes0 (fun W pn xe tk _ => ?_) (.cons ⟨by rfl, by decide, .inl m_BadNumber⟩ (fun a oe cls d pn hz hf => (pss_one (ps_ret (pe_tup (pa_cons pe_str (pa_cons (pe_xf x_BadNumber n_BadNumber_what hz hf (pv 1)) (pa_cons (pe_xf x_BadNumber n_BadNumber_number hz hf (pv 1)) pa_nil)))))))
        (.cons ⟨by rfl, by decide, .inl m_BadProgram⟩ (fun a oe cls d pn hz hf => (pss_one (ps_ret (pe_tup (pa_cons pe_str (pa_cons (pe_xf x_BadProgram n_BadProgram_index hz hf (pv 1)) pa_nil))))))
        (.cons ⟨by rfl, by decide, .inl m_BadConfiguration⟩ (fun a oe cls d pn hz hf => (pss_one (ps_ret (pe_tup (pa_cons pe_str (pa_cons (pe_xf x_BadConfiguration n_BadConfiguration_configuration hz hf (pv 1)) pa_nil))))))
        (.cons ⟨by rfl, by decide, .inl m_BadStep⟩ (fun a oe cls d pn hz hf => (pss_one (ps_ret (pe_tup (pa_cons pe_str (pa_cons (pe_xf x_BadStep n_BadStep_index hz hf (pv 1)) pa_nil))))))
        (.cons ⟨by rfl, by decide, .inl m_BadLot⟩ (fun a oe cls d pn hz hf => (pss_one (ps_ret (pe_tup (pa_cons pe_str (pa_cons (pe_xf x_BadLot n_BadLot_lot hz hf (pv 1)) pa_nil))))))
        (.cons ⟨by rfl, by decide, .inl m_BadReads⟩ (fun a oe cls d pn hz hf => (pss_one (ps_ret (pe_tup (pa_cons pe_str (pa_cons (pe_xf x_BadReads n_BadReads_reads hz hf (pv 1)) pa_nil))))))
        (.cons ⟨by rfl, by decide, .inl m_Unlike⟩ (fun a oe cls d pn hz hf => (pss_one (ps_ret (pe_tup (pa_cons pe_str (pa_cons (pe_xf x_Unlike n_Unlike_what hz hf (pv 1)) pa_nil))))))
        (.cons ⟨by rfl, by decide, .inl m_NotOfKind⟩ (fun a oe cls d pn hz hf => (pss_one (ps_ret (pe_tup (pa_cons pe_str (pa_cons (pe_xf x_NotOfKind n_NotOfKind_why hz hf (pv 1)) pa_nil))))))
        .nil))))))))) (pss_one (ps_ret pe_non)), ?_⟩
  · refine ⟨fun pins s' σ H' D I h' => ?_⟩
    obtain ⟨Ech, hW, h1, h2, h3⟩ := h'
    exact (pss_one (ps_expr (act _ pn xe Ech _ _ (RS.Takes.len tk) fun cls d σ' H' e hl => hW cls d σ' H' hl e))).run pins s' σ H' D I ⟨h1, h2, h3⟩
  · exact ⟨Told [(C_BadNumber, "number", ["what", "number"]), (C_BadProgram, "program", ["index"]), (C_BadConfiguration, "configuration", ["configuration"]), (C_BadStep, "step", ["index"]), (C_BadLot, "lot", ["lot"]), (C_BadReads, "reads", ["reads"]), (C_Unlike, "unlike", ["what"]), (C_NotOfKind, "kind", ["why"])] Q, fun cls d σ' H' hl e => told_ok ok rfl hl e, rfl, hc, h⟩
end
end K04
end
section
set_option Elab.async false
set_option linter.all false
set_option autoImplicit false
set_option maxRecDepth 100000
set_option maxHeartbeats 4000000
namespace K04
open PySem PySem.Spec PyProof.Rows L2 RS
abbrev s_law_is_refused : Stmt := top 43
abbrev N_law_is_refused : List Str := ["pen", "program", "odd", "way", "steps", "wrong", "at", "bent"]
theorem sc_law_is_refused : FnScope N_law_is_refused ["pen", "program"] (defScope s_law_is_refused) := ⟨rfl, rfl, rfl, by decide +kernel, rfl, by decide +kernel, by decide +kernel⟩
/-! what is refused -/
def oddsN : List PyData := [.int (-1), .bool true, .none, .str "1", .tuple [.int 1], .int (-(10 ^ 20))]
theorem oddsN_ok {w : PyData} (h : w ∈ oddsN) : Pc w ∧ natD w = false ∧ locB w = false := by
  unfold oddsN at h
  simp only [List.mem_cons, List.not_mem_nil, or_false] at h
  rcases h with rfl | rfl | rfl | rfl | rfl | rfl
  · exact ⟨pc_int _, rfl, rfl⟩
  · exact ⟨pc_bool _, rfl, rfl⟩
  · exact ⟨pc_none, rfl, rfl⟩
  · exact ⟨pc_str _, rfl, rfl⟩
  · exact ⟨pc_seq (t := true) (xs := [.int 1]) (by show 1 ≤ 4; decide) fun x hx => by rw [List.mem_singleton.mp hx]; exact p3_int 1, rfl, rfl⟩
  · exact ⟨pc_int _, by show decide (0 ≤ (-(10 ^ 20) : Int)) = false; decide, by show decide (1 ≤ (-(10 ^ 20) : Int)) = false; decide⟩
theorem Pc.kd {x : PyData} (h : Pc x) : Kd x := okD_kd h.ok
def fF (q c l : Nat) (ss : List Stp) (od wa st wr at_ be : Option PyData) : En := [some (.pen q), some (.d (gD c l ss)), od.map Sl.d, wa.map Sl.d, st.map Sl.d, wr.map Sl.d, at_.map Sl.d, be.map Sl.d]
theorem fF_pen {q r c l : Nat} {ss : List Stp} {od wa st wr at_ be : Option PyData} : setPen r (fF q c l ss od wa st wr at_ be) = fF r c l ss od wa st wr at_ be := by
  unfold setPen fF
  simp only [List.map_cons, List.map_nil, pn_d]
  rfl
theorem badS_at {c l : Int} {z : PyData} {r : List PyData} (hz : stepD c l z = false) : ∀ {xs : List PyData} (j : Nat), (∀ x ∈ xs, stepD c l x = true) → badS c l (xs ++ z :: r) j = some (j + xs.length)
  | [], j, _ => by
    show badS c l (z :: r) j = some j
    unfold badS
    rw [hz, if_neg (fun z => nomatch z)]
  | x :: xs, j, h => by
    show badS c l (x :: (xs ++ z :: r)) j = _
    unfold badS
    rw [if_pos (h x List.mem_cons_self), badS_at hz (j + 1) fun y hy => h y (List.mem_cons_of_mem _ hy), List.length_cons]
    congr 1
    omega
theorem szDs_app (xs ys : List PyData) : szDs (xs ++ ys) = szDs xs + szDs ys := by
  induction xs with
  | nil => rw [List.nil_append, show szDs [] = 0 from by unfold szDs; rfl, Nat.zero_add]
  | cons x xs ih => rw [List.cons_append, szDs_cons, szDs_cons, ih]; omega
theorem okDs_app (xs ys : List PyData) : okDs (xs ++ ys) = (okDs xs && okDs ys) := by
  induction xs with
  | nil => rw [List.nil_append, show okDs [] = true from by unfold okDs; rfl, Bool.true_and]
  | cons x xs ih => rw [List.cons_append, okDs_cons, okDs_cons, ih, Bool.and_assoc]
section
variable {K : PySem.W.Frag} {T : Tb} {ρ : En} {O : Out → Prop} {te tb : TE} {tt : TT} {t u : TS}
theorem eqm_set {i : Nat} {R1 : En → PyData → Prop} (h : Ev K te ρ R1) (k : ∀ ρ1 x, R1 ρ1 x → EsM K T u (ρ1.set i (some (.d x))) O) : EsM K T (tSeq (tAsg te (gName i)) u) ρ O :=
  esm_nx (R := fun ρ' => ∃ ρ1 x, R1 ρ1 x ∧ ρ' = ρ1.set i (some (.d x))) (es_asg h fun ρ1 x r => ⟨_, _, eg_name, ρ1, x, r, rfl⟩) fun ρ' ⟨ρ1, x, r, e⟩ => by
    subst e
    exact k ρ1 x r
theorem eqm_when {c : Bool} (h : Eb K tt ρ c) (h1 : c = true → EsM K T t ρ O) (h2 : c = false → EsM K T u ρ O) (ht : ∀ o, O o → ThenM K T u O o) : EsM K T (tSeq (tIfS tt t tNext) u) ρ O :=
  esm_then (esm_if (EvT.m h) (fun ρ1 e => by
    obtain ⟨rfl, e⟩ := e
    exact esm_imp (h1 e.symm) ht) fun ρ1 e => by
    obtain ⟨rfl, e⟩ := e
    exact Es.m (es_next (h2 e.symm)))
theorem evm_told {R1 : En → Prop} {xs : List PyData} (h : EvM K T te ρ fun ρ1 y => R1 ρ1 ∧ y = .tuple xs) (h2 : ∀ ρ1, R1 ρ1 → Ed K tb ρ1 (.tuple xs)) (ok : RS.okAll xs = true) (hd : PyData.depthAll xs ≤ 60) : EvM K T (tOp (rEqA K) te tb) ρ fun ρ1 y => R1 ρ1 ∧ y = .bool true :=
  evm_op h (fun ρ1 x r => h2 ρ1 r.1) fun ρ1 x ρ2 y r1 r2 => by
    obtain ⟨r1, rfl⟩ := r1
    obtain ⟨rfl, rfl⟩ := r2
    exact ⟨_, rd_sameT ok hd, r1, rfl⟩
end
section
variable {P : Program} {w : World} {K : PySem.W.Frag} {mg : Str → Option Value} {base : Heap}
theorem ok_law_refused {C CN CP f fW cL PL : Addr} {tab : List Cl} {T2 : Tb} {ocL kVL docL pmL ctL ocW kVW docW pmW ctW cdW : Value} {odL anL odW anW : Option Addr} {oslL oslW : Array (Option Value)}
    (lk : K.lookup f = some ⟨ocL, odL, .func (PySem.W.fnOf "_law_is_refused" "_law_is_refused" (defArgs s_law_is_refused) (defBody s_law_is_refused) (defScope s_law_is_refused) .none kVL docL pmL anL (.ref cL) ctL), oslL⟩) (hcd : PySem.W.codeIn K (.ref cL) "_law_is_refused" = true) (T : Bi mg) (TB : LamX.TabB base mg cL PL)
    (m_wrong : mg "_law_wrong" = some (.ref fW)) (k_wrong : PySem.W.keepIn K (.ref fW) = true) (l_wrong : K.lookup fW = some ⟨ocW, odW, .func (PySem.W.fnOf "_law_wrong" "_law_wrong" (defArgs s_law_wrong) (defBody s_law_wrong) (defScope s_law_wrong) .none kVW docW pmW anW cdW ctW), oslW⟩) (c_wrong : PySem.W.codeIn K cdW "_law_wrong" = true)
    (b_wrong : L2.Binds K (PySem.W.fnOf "_law_wrong" "_law_wrong" (defArgs s_law_wrong) (defBody s_law_wrong) (defScope s_law_wrong) .none kVW docW pmW anW cdW ctW) ["call"] [])
    (gv : ∀ X : Cx, X.K = K → X.mg = mg → LamX.GivesTo X N_law_wrong "_law_wrong" (defScope s_law_wrong) fW cdW (defBody s_law_wrong) "call" "_law_is_refused.<locals>.<lambda>" (TTw tab)) (hm : (PL, ("_law_is_refused.<locals>.<lambda>" : Str)) ∈ T2) (hu : ∀ p ∈ T2, p.1 = PL → p.2 = ("_law_is_refused.<locals>.<lambda>" : Str))
    (memN : ((CN, "number", ["what", "number"]) : Cl) ∈ tab) (memP : ((CP, "program", ["index"]) : Cl) ∈ tab)
    (MC : MkOX P w K mg base "Program" C 5 ["self", "counters", "locations", "steps"] (spNx K 3 pInC CN kvInC)) (ML : MkOX P w K mg base "Program" C 5 ["self", "counters", "locations", "steps"] (spNx K 3 pInL CN kvInL)) (MP : MkOX P w K mg base "Program" C 5 ["self", "counters", "locations", "steps"] (spNx K 3 pInP CP kvInP))
    (O_law_draw : OwnD P w K mg base 1 "_law_draw" ["pen", "many"] (spP K 1 pDraw 1 rDraw)) (O_law_pick : OwnD P w K mg base 2 "_law_pick" ["pen", "row"] (spP K 1 pPick 1 rPick)) (O_law_listed : OwnD P w K mg base 5 "_law_listed" ["pen", "row"] (spP K 1 (pLis 4) (bLi 4) rLis))
    (O_law_bent_step : OwnD P w K mg base 3 "_law_bent_step" ["pen", "program"] (spP K 1 pBs 3 rBs)) :
    FnOk P w K mg base CX0 9 f (PySem.W.fnOf "_law_is_refused" "_law_is_refused" (defArgs s_law_is_refused) (defBody s_law_is_refused) (defScope s_law_is_refused) .none kVL docL pmL anL (.ref cL) ctL) ["pen", "program"] (spT K T2 1 pIk 1200 rTrue) := by
  refine fn_T (ps := ["program"]) lk hcd sc_law_is_refused fun A2 outer s H E hr => ⟨_, (pss_cons (ps_set (i := 2) sc_law_is_refused.nd rfl (by first | exact Or.inl rfl | exact Or.inr rfl) (pe_own O_law_pick (hr.mono (by decide)) (pa_cons (pv 0) (pa_cons (pe_lst (pa_cons (pe_un un_neg pe_int) (pa_cons pe_bl (pa_cons pe_non (pa_cons pe_str (pa_cons (pe_tup (pa_cons pe_int pa_nil)) (pa_cons (pe_un un_neg (pe_op op_pow pe_int pe_int)) pa_nil))))))) pa_nil))))
      (pss_cons (ps_set (i := 3) sc_law_is_refused.nd rfl (by first | exact Or.inl rfl | exact Or.inr rfl) (pe_own O_law_draw (hr.mono (by decide)) (pa_cons (pv 0) (pa_cons pe_int pa_nil))))
      (pss_cons (ps_set (i := 4) sc_law_is_refused.nd rfl (by first | exact Or.inl rfl | exact Or.inr rfl) (pe_own O_law_listed (hr.mono (by decide)) (pa_cons (pv 0) (pa_cons (pe_ix (k_ix (K := K)) (pv 1) pe_int (fun _ _ => rfl)) pa_nil))))
      (pss_cons (ps_if (pt_cmpR (k_eqA (K := K) hr.units) (pv 3) pe_int (nomark _))
        (pss_cons (ps_set (i := 5) sc_law_is_refused.nd rfl (by first | exact Or.inl rfl | exact Or.inr rfl) (pe_own O_law_pick (hr.mono (by decide)) (pa_cons (pv 0) (pa_cons (pe_lst (pa_cons (pv 4) (pa_cons pe_non (pa_cons (pe_tup (pa_cons pe_non pa_nil)) pa_nil)))) pa_nil))))
        (pss_one (ps_ret (pe_cmpR (k_eqA (K := K) hr.units) (LamX.pe_lamcall (k := 6) (T := T2) (TT := TTw tab) (a := "call") (t := _) (by rfl) m_wrong k_wrong l_wrong c_wrong b_wrong sc_law_wrong rfl (Or.inl rfl) (gv _ rfl rfl) TB rfl hm hu (hr.mono (by decide)) (LamX.lamS_by (sc := defScope s_law_is_refused) (by decide +kernel)) rfl (fun _ _ _ _ _ => rfl) (fun A2 outer2 s2 H2 E2 f2 c2 hr2 => pe_mkoX MC (hr2.mono (by decide)) (takes_of rfl rfl rfl rfl) (pa_cons (pv 2) (pa_cons (pe_own O_law_pick (hr2.mono (by decide)) (pa_cons (pv 0) (pa_cons (pe_lst (pa_cons (pe_ix (k_ix (K := K)) (pv 1) pe_int (fun _ _ => rfl)) (pa_cons pe_int pa_nil))) pa_nil))) (pa_cons (pv 5) pa_nil))))) (pe_tup (pa_cons pe_str (pa_cons pe_str (pa_cons (pv 2) pa_nil)))) (nomark _)))))
        pss_nil)
      (pss_cons (ps_if (pt_cmpR (k_eqA (K := K) hr.units) (pv 3) pe_int (nomark _))
        (pss_cons (ps_set (i := 2) sc_law_is_refused.nd rfl (by first | exact Or.inl rfl | exact Or.inr rfl) (pe_own O_law_pick (hr.mono (by decide)) (pa_cons (pv 0) (pa_cons (pe_lst (pa_cons pe_int (pa_cons (pv 2) pa_nil))) pa_nil))))
        (pss_cons (ps_set (i := 5) sc_law_is_refused.nd rfl (by first | exact Or.inl rfl | exact Or.inr rfl) (pe_own O_law_pick (hr.mono (by decide)) (pa_cons (pv 0) (pa_cons (pe_lst (pa_cons (pv 4) (pa_cons pe_non (pa_cons (pe_tup (pa_cons pe_non pa_nil)) pa_nil)))) pa_nil))))
        (pss_one (ps_ret (pe_cmpR (k_eqA (K := K) hr.units) (LamX.pe_lamcall (k := 6) (T := T2) (TT := TTw tab) (a := "call") (t := _) (by rfl) m_wrong k_wrong l_wrong c_wrong b_wrong sc_law_wrong rfl (Or.inl rfl) (gv _ rfl rfl) TB rfl hm hu (hr.mono (by decide)) (LamX.lamS_by (sc := defScope s_law_is_refused) (by decide +kernel)) rfl (fun _ _ _ _ _ => rfl) (fun A2 outer2 s2 H2 E2 f2 c2 hr2 => pe_mkoX ML (hr2.mono (by decide)) (takes_of rfl rfl rfl rfl) (pa_cons (pe_ix (k_ix (K := K)) (pv 1) pe_int (fun _ _ => rfl)) (pa_cons (pv 2) (pa_cons (pv 5) pa_nil))))) (pe_tup (pa_cons pe_str (pa_cons pe_str (pa_cons (pv 2) pa_nil)))) (nomark _))))))
        pss_nil)
      (pss_cons (ps_if (pt_cmpR (k_eqA (K := K) hr.units) (pv 3) pe_int (nomark _))
        (pss_cons (ps_set (i := 2) sc_law_is_refused.nd rfl (by first | exact Or.inl rfl | exact Or.inr rfl) (pe_own O_law_pick (hr.mono (by decide)) (pa_cons (pv 0) (pa_cons (pe_lst (pa_cons pe_non (pa_cons pe_int (pa_cons pe_str (pa_cons pe_dnewK (pa_cons pe_bl pa_nil)))))) pa_nil))))
        (pss_one (ps_ret (pe_cmpR (k_eqA (K := K) hr.units) (LamX.pe_lamcall (k := 6) (T := T2) (TT := TTw tab) (a := "call") (t := _) (by rfl) m_wrong k_wrong l_wrong c_wrong b_wrong sc_law_wrong rfl (Or.inl rfl) (gv _ rfl rfl) TB rfl hm hu (hr.mono (by decide)) (LamX.lamS_by (sc := defScope s_law_is_refused) (by decide +kernel)) rfl (fun _ _ _ _ _ => rfl) (fun A2 outer2 s2 H2 E2 f2 c2 hr2 => pe_mkoX MP (hr2.mono (by decide)) (takes_of rfl rfl rfl rfl) (pa_cons (pe_ix (k_ix (K := K)) (pv 1) pe_int (fun _ _ => rfl)) (pa_cons (pe_ix (k_ix (K := K)) (pv 1) pe_int (fun _ _ => rfl)) (pa_cons (pv 2) pa_nil))))) (pe_tup (pa_cons pe_str (pa_cons pe_non pa_nil))) (nomark _)))))
        pss_nil)
      (pss_cons (ps_set (i := 6) sc_law_is_refused.nd rfl (by first | exact Or.inl rfl | exact Or.inr rfl) (pe_own O_law_draw (hr.mono (by decide)) (pa_cons (pv 0) (pa_cons (pe_op op_add (pe_callB (k_len (K := K)) (by rfl) (T.n_len) PySem.boot_len (pa_cons (pe_ix (k_ix (K := K)) (pv 1) pe_int (fun _ _ => rfl)) pa_nil)) pe_int) pa_nil))))
      (pss_cons (ps_set (i := 7) sc_law_is_refused.nd rfl (by first | exact Or.inl rfl | exact Or.inr rfl) (pe_op (k_catA (K := K)) (pe_op (k_catA (K := K)) (pe_slice (k_slT (K := K)) (pe_ix (k_ix (K := K)) (pv 1) pe_int (fun _ _ => rfl)) po_none (po_some (pv 6))) (pe_tup (pa_cons (pe_own O_law_bent_step (hr.mono (by decide)) (pa_cons (pv 0) (pa_cons (pv 1) pa_nil))) pa_nil))) (pe_own O_law_pick (hr.mono (by decide)) (pa_cons (pv 0) (pa_cons (pe_lst (pa_cons (pe_tup pa_nil) (pa_cons (pe_slice (k_slT (K := K)) (pe_ix (k_ix (K := K)) (pv 1) pe_int (fun _ _ => rfl)) (po_some (pv 6)) po_none) (pa_cons (pe_tup (pa_cons pe_non pa_nil)) pa_nil)))) pa_nil)))))
      (pss_one (ps_ret (pe_cmpR (k_eqA (K := K) hr.units) (LamX.pe_lamcall (k := 6) (T := T2) (TT := TTw tab) (a := "call") (t := _) (by rfl) m_wrong k_wrong l_wrong c_wrong b_wrong sc_law_wrong rfl (Or.inl rfl) (gv _ rfl rfl) TB rfl hm hu (hr.mono (by decide)) (LamX.lamS_by (sc := defScope s_law_is_refused) (by decide +kernel)) rfl (fun _ _ _ _ _ => rfl) (fun A2 outer2 s2 H2 E2 f2 c2 hr2 => pe_mkoX MP (hr2.mono (by decide)) (takes_of rfl rfl rfl rfl) (pa_cons (pe_ix (k_ix (K := K)) (pv 1) pe_int (fun _ _ => rfl)) (pa_cons (pe_ix (k_ix (K := K)) (pv 1) pe_int (fun _ _ => rfl)) (pa_cons (pe_own O_law_pick (hr2.mono (by decide)) (pa_cons (pv 0) (pa_cons (pe_lst (pa_cons (pv 7) (pa_cons (pe_callTy (k_list (K := K)) (by rfl) (T.n_list) PyProof.Rows.boot_list (pa_cons (pv 7) pa_nil)) pa_nil))) pa_nil))) pa_nil))))) (pe_tup (pa_cons pe_str (pa_cons (pv 6) pa_nil))) (nomark _)))))))))))), ?_⟩
  rintro b ds hb hl ⟨c, l, ss, rfl, hp, h5, hl4, hc3⟩
  have hl1 := hp.l1
  show EsM K T2 _ (fF b c l ss none none none none none none) _
  refine eqm_set (ev_pick (c0 := b) (i := 0) (xs := oddsN) rfl fF_pen (ed_lst (ea_cons (ed_un ed_int ru_neg) (ea_cons ed_bl (ea_cons ed_non (ea_cons ed_str (ea_cons (ed_tup (ea_cons ed_int ea_nil) (by show 1 ≤ 1000; decide)) (ea_cons ((ed_un (ed_op ed_int ed_int (rd_pow (i := 10) (j := 20) ⟨by decide, by decide, by decide⟩)) ru_neg).to rfl) ea_nil)))))) (by show 6 ≤ 1000; decide)) (fun z => nomatch z) (by show 6 < 1000000; decide) (by omega)) fun ρ1 od h => ?_
  obtain ⟨rfl, hod⟩ := h
  rw [fF_pen]
  obtain ⟨pod, nod, lod⟩ := oddsN_ok hod
  show EsM K T2 _ (fF (b + 1) c l ss (some od) none none none none none) _
  refine eqm_set (ev_drawN (c0 := b + 1) (i := 0) (many := 4) rfl fF_pen ed_int (by decide) (by decide) (by omega)) fun ρ1 y h => ?_
  obtain ⟨rfl, way, rfl, hway⟩ := h
  rw [fF_pen]
  show EsM K T2 _ (fF (b + 2) c l ss (some od) (some (.int (way : Nat))) none none none none) _
  refine eqm_set (ev_callP (c0 := b + 2) (i := 0) (R := fun ρ1 y => Lsd (stD ss) y ∧ ρ1 = fF (b + 1113) c l ss (some od) (some (.int (way : Nat))) none none none none) rfl (ea_cons (ed_g2 (ed_var rfl)) ea_nil) fun ρ1 ds e => ?_) fun ρ1 st h => ?_
  · obtain ⟨rfl, rfl⟩ := e
    refine ⟨b + 2, fF_pen.symm, rfl, ⟨_, rfl, pLi_st hp⟩, (by show b + 2 + 1111 ≤ LIM; omega), fun y hy => ?_⟩
    obtain ⟨x, e, hy⟩ := hy
    cases e
    exact ⟨hy, fF_pen⟩
  obtain ⟨hst, rfl⟩ := h
  show EsM K T2 _ (fF (b + 1113) c l ss (some od) (some (.int (way : Nat))) (some st) none none none) _
  have ht : ∀ (u : TS) (o : Out), RetP (b + 1200) (rTrue [gD c l ss]) o → ThenM K T2 u (RetP (b + 1200) (rTrue [gD c l ss])) o := fun u o ho => by
    cases o with
    | nx ρ => obtain ⟨h, _⟩ := ho; cases h
    | rt ρ y => exact ho
    | bk ρ => exact ho
    | ct ρ => exact ho
  refine eqm_when (eb_test (ed_op (ed_var rfl) ed_int (rd_eqA (sh_int _) (sh_int _)))) (fun _ => ?_) (fun _ => ?_) (ht _)
  · refine eqm_set (ev_pick (c0 := b + 1113) (i := 0) (xs := [st, .none, .tuple [.none]]) rfl fF_pen (ed_lst (ea_cons (ed_var rfl) (ea_cons ed_non (ea_cons (ed_tup (ea_cons ed_non ea_nil) (by show 1 ≤ 1000; decide)) ea_nil))) (by show 3 ≤ 1000; decide)) (fun z => nomatch z) (by show 3 < 1000000; decide) (by omega)) fun ρ1 wr h => ?_
    obtain ⟨rfl, _⟩ := h
    rw [fF_pen]
    show EsM K T2 _ (fF (b + 1114) c l ss (some od) (some (.int (way : Nat))) (some st) (some wr) none none) _
    refine esm_ret (evm_told (xs := [.str "number", .str "counters", od]) (R1 := fun ρ1 => ρ1 = fF (b + 1115) c l ss (some od) (some (.int (way : Nat))) (some st) (some wr) none none) (evm_lamG (i := 0) (c0 := b + 1114) rfl (evx_make (R1 := fun ρ1 ds => ∃ x, ds = [od, x, wr] ∧ ρ1 = fF (b + 1115) c l ss (some od) (some (.int (way : Nat))) (some st) (some wr) none none) (R := fun ρ1 kv => kv = [(.str "number", od), (.str "what", .str "counters")] ∧ ρ1 = fF (b + 1115) c l ss (some od) (some (.int (way : Nat))) (some st) (some wr) none none) ?_ fun ρ1 ds h => ?_) memN (by decide) fun ρ1 kv h => ?_) (fun ρ1 h => ?_) ?_ ?_) fun ρ1 y h => ?_
    · refine eva_cons2 (ed_var rfl) (R2 := fun ρ1 _ ρ2 xs => ∃ x, xs = [x, wr] ∧ ρ2 = fF (b + 1115) c l ss (some od) (some (.int (way : Nat))) (some st) (some wr) none none) (fun ρ1 x h => ?_) fun ρ1 x ρ2 xs h1 h2 => ?_
      · obtain ⟨rfl, rfl⟩ := h
        refine eva_cons2 (ev_pick (c0 := b + 1114) (i := 0) (xs := [.int l, .int 0]) rfl fF_pen (ed_lst (ea_cons (ed_g1 (ed_var rfl)) (ea_cons ed_int ea_nil)) (by show 2 ≤ 1000; decide)) (fun z => nomatch z) (by show 2 < 1000000; decide) (by omega)) (R2 := fun ρ1 x ρ2 xs => ρ2 = ρ1 ∧ xs = [wr]) (fun ρ1 x h => ?_) fun ρ1 x ρ2 xs h1 h2 => ?_
        · obtain ⟨rfl, _⟩ := h
          rw [fF_pen]
          exact ea_cons (ed_var rfl) ea_nil
        · obtain ⟨rfl, _⟩ := h1
          obtain ⟨rfl, rfl⟩ := h2
          exact ⟨x, rfl, fF_pen⟩
      · obtain ⟨rfl, rfl⟩ := h1
        obtain ⟨x, rfl, rfl⟩ := h2
        exact ⟨x, rfl, rfl⟩
    · obtain ⟨x, rfl, rfl⟩ := h
      exact ⟨rfl, ⟨od, x, wr, rfl, pod.kd, nod⟩, rfl, rfl⟩
    · obtain ⟨rfl, rfl⟩ := h
      exact ⟨[.str "counters", od], ⟨rfl, rfl, True.intro⟩, rfl, rfl⟩
    · subst h
      exact ed_tup (ea_cons ed_str (ea_cons ed_str (ea_cons (ed_var rfl) ea_nil))) (by show 3 ≤ 1000; decide)
    · exact okAll_all fun x hx => by
        simp only [List.mem_cons, List.not_mem_nil, or_false] at hx
        rcases hx with rfl | rfl | rfl
        · exact (pc_str _).eq
        · exact (pc_str _).eq
        · exact pod.eq
    · exact Nat.le_trans (dpAll_all (n := 10) fun x hx => by
        simp only [List.mem_cons, List.not_mem_nil, or_false] at hx
        rcases hx with rfl | rfl | rfl
        · exact (pc_str _).dp
        · exact (pc_str _).dp
        · exact pod.dp) (by decide)
    · obtain ⟨rfl, rfl⟩ := h
      exact ⟨rfl, b + 1115, rfl, by omega⟩
  refine eqm_when (eb_test (ed_op (ed_var rfl) ed_int (rd_eqA (sh_int _) (sh_int _)))) (fun _ => ?_) (fun _ => ?_) (ht _)
  · -- locations
    refine eqm_set (ev_pick (c0 := b + 1113) (i := 0) (xs := [.int 0, od]) rfl fF_pen (ed_lst (ea_cons ed_int (ea_cons (ed_var rfl) ea_nil)) (by show 2 ≤ 1000; decide)) (fun z => nomatch z) (by show 2 < 1000000; decide) (by omega)) fun ρ1 od2 h => ?_
    obtain ⟨rfl, hod2⟩ := h
    rw [fF_pen]
    have hod3 : Pc od2 ∧ locB od2 = false := by
      simp only [List.mem_cons, List.not_mem_nil, or_false] at hod2
      rcases hod2 with rfl | rfl
      · exact ⟨pc_int 0, rfl⟩
      · exact ⟨pod, lod⟩
    obtain ⟨pod2, lod2⟩ := hod3
    show EsM K T2 _ (fF (b + 1114) c l ss (some od2) (some (.int (way : Nat))) (some st) none none none) _
    refine eqm_set (ev_pick (c0 := b + 1114) (i := 0) (xs := [st, .none, .tuple [.none]]) rfl fF_pen (ed_lst (ea_cons (ed_var rfl) (ea_cons ed_non (ea_cons (ed_tup (ea_cons ed_non ea_nil) (by show 1 ≤ 1000; decide)) ea_nil))) (by show 3 ≤ 1000; decide)) (fun z => nomatch z) (by show 3 < 1000000; decide) (by omega)) fun ρ1 wr h => ?_
    obtain ⟨rfl, _⟩ := h
    rw [fF_pen]
    show EsM K T2 _ (fF (b + 1115) c l ss (some od2) (some (.int (way : Nat))) (some st) (some wr) none none) _
    refine esm_ret (evm_told (xs := [.str "number", .str "locations", od2]) (R1 := fun ρ1 => ρ1 = fF (b + 1115) c l ss (some od2) (some (.int (way : Nat))) (some st) (some wr) none none) (evm_lamG (i := 0) (c0 := b + 1115) rfl (evx_make (R1 := fun ρ1 ds => ds = [.int c, od2, wr] ∧ ρ1 = fF (b + 1115) c l ss (some od2) (some (.int (way : Nat))) (some st) (some wr) none none) (R := fun ρ1 kv => kv = [(.str "number", od2), (.str "what", .str "locations")] ∧ ρ1 = fF (b + 1115) c l ss (some od2) (some (.int (way : Nat))) (some st) (some wr) none none) ((ea_cons (ed_g0 (ed_var rfl)) (ea_cons (ed_var rfl) (ea_cons (ed_var rfl) ea_nil))).imp fun ρ1 ds h => ⟨h.2, h.1⟩) fun ρ1 ds h => ?_) memN (by decide) fun ρ1 kv h => ?_) (fun ρ1 h => ?_) ?_ ?_) fun ρ1 y h => ?_
    · obtain ⟨rfl, rfl⟩ := h
      exact ⟨rfl, ⟨c, od2, wr, rfl, Int.natCast_nonneg c, pod2.kd, lod2⟩, rfl, rfl⟩
    · obtain ⟨rfl, rfl⟩ := h
      exact ⟨[.str "locations", od2], ⟨rfl, rfl, True.intro⟩, rfl, rfl⟩
    · subst h
      exact ed_tup (ea_cons ed_str (ea_cons ed_str (ea_cons (ed_var rfl) ea_nil))) (by show 3 ≤ 1000; decide)
    · exact okAll_all fun x hx => by
        simp only [List.mem_cons, List.not_mem_nil, or_false] at hx
        rcases hx with rfl | rfl | rfl
        · exact (pc_str _).eq
        · exact (pc_str _).eq
        · exact pod2.eq
    · exact Nat.le_trans (dpAll_all (n := 10) fun x hx => by
        simp only [List.mem_cons, List.not_mem_nil, or_false] at hx
        rcases hx with rfl | rfl | rfl
        · exact (pc_str _).dp
        · exact (pc_str _).dp
        · exact pod2.dp) (by decide)
    · obtain ⟨rfl, rfl⟩ := h
      exact ⟨rfl, b + 1115, rfl, by omega⟩
  refine eqm_when (eb_test (ed_op (ed_var rfl) ed_int (rd_eqA (sh_int _) (sh_int _)))) (fun _ => ?_) (fun _ => ?_) (ht _)
  · -- steps that are no row
    have htail : EvA K (tCons tDNewK (tCons (tC (.bl true)) tNil)) (fF (b + 1113) c l ss (some od) (some (.int (way : Nat))) (some st) none none none) fun ρ2 xs => ρ2 = fF (b + 1113) c l ss (some od) (some (.int (way : Nat))) (some st) none none none ∧ ∃ a, xs = [opq a, .bool true] :=
      eva_cons2 ev_dnew (R2 := fun ρ1 _ ρ2 xs => ρ2 = ρ1 ∧ xs = [.bool true]) (fun ρ1 x h => ea_cons ed_bl ea_nil) fun ρ1 x ρ2 xs h1 h2 => by
        obtain ⟨rfl, a, rfl⟩ := h1
        obtain ⟨rfl, rfl⟩ := h2
        exact ⟨rfl, a, rfl⟩
    refine eqm_set (R1 := fun ρ1 y => ρ1 = fF (b + 1114) c l ss (some od) (some (.int (way : Nat))) (some st) none none none ∧ Ok y ∧ seqOf y = none) ((ev_pickv (c0 := b + 1113) (i := 0) (R1 := fun ρ1 y => ρ1 = fF (b + 1113) c l ss (some od) (some (.int (way : Nat))) (some st) none none none ∧ ∃ a, y = .list [.none, .int 0, .str "steps", opq a, .bool true]) rfl (ev_lst (eva_consd ed_non (eva_consd ed_int (eva_consd ed_str htail))) fun ρ1 xs h => ?_) fun ρ1 y h => ?_).imp fun ρ1 y h => ?_) fun ρ1 od2 h => ?_
    · obtain ⟨_, rfl, _, rfl, _, rfl, rfl, a, rfl⟩ := h
      exact ⟨by show 5 ≤ 1000; decide, rfl, a, rfl⟩
    · obtain ⟨rfl, a, rfl⟩ := h
      exact ⟨b + 1113, _, fF_pen.symm, .inl rfl, (fun z => nomatch z), by show 5 < 1000000; decide, by omega⟩
    · obtain ⟨c1, xs, h, rfl, hy⟩ := h
      have hc1 : c1 = b + 1113 ∧ ∃ a, xs = [.none, .int 0, .str "steps", opq a, .bool true] := by
        rcases h with ⟨h1, a, h2⟩ | ⟨h1, a, h2⟩
        · rw [fF_pen] at h1
          have h3 := congrArg (fun ρ : En => ρ[0]?) h1
          have h4 : (some (some (Sl.pen c1)) : Option (Option Sl)) = some (some (Sl.pen (b + 1113))) := h3
          injection h4 with h4
          injection h4 with h4
          injection h4 with h4
          injection h2 with h2
          exact ⟨h4, a, h2⟩
        · cases h2
      obtain ⟨rfl, a, rfl⟩ := hc1
      rw [fF_pen]
      refine ⟨rfl, ?_⟩
      simp only [List.mem_cons, List.not_mem_nil, or_false] at hy
      rcases hy with rfl | rfl | rfl | rfl | rfl
      · exact ⟨⟨by unfold okD; rfl, by unfold szD; omega⟩, rfl⟩
      · exact ⟨⟨by unfold okD; rfl, by unfold szD; omega⟩, rfl⟩
      · exact ⟨⟨by unfold okD; rfl, by unfold szD; omega⟩, rfl⟩
      · exact ⟨⟨by unfold opq okD; rfl, by unfold opq szD; omega⟩, rfl⟩
      · exact ⟨⟨by unfold okD; rfl, by unfold szD; omega⟩, rfl⟩
    · obtain ⟨rfl, ok2, no2⟩ := h
      show EsM K T2 _ (fF (b + 1114) c l ss (some od2) (some (.int (way : Nat))) (some st) none none none) _
      refine esm_ret (evm_told (xs := [.str "program", .none]) (R1 := fun ρ1 => ρ1 = fF (b + 1114) c l ss (some od2) (some (.int (way : Nat))) (some st) none none none) (evm_lamG (i := 0) (c0 := b + 1114) rfl (evx_make (R1 := fun ρ1 ds => ds = [.int c, .int l, od2] ∧ ρ1 = fF (b + 1114) c l ss (some od2) (some (.int (way : Nat))) (some st) none none none) (R := fun ρ1 kv => kv = [(.str "index", .none)] ∧ ρ1 = fF (b + 1114) c l ss (some od2) (some (.int (way : Nat))) (some st) none none none) ((ea_cons (ed_g0 (ed_var rfl)) (ea_cons (ed_g1 (ed_var rfl)) (ea_cons (ed_var rfl) ea_nil))).imp fun ρ1 ds h => ⟨h.2, h.1⟩) fun ρ1 ds h => ?_) memP (by decide) fun ρ1 kv h => ?_) (fun ρ1 h => ?_) ?_ ?_) fun ρ1 y h => ?_
      · obtain ⟨rfl, rfl⟩ := h
        refine ⟨rfl, ⟨c, l, od2, rfl, Int.natCast_nonneg c, by omega, ok2, .inl no2⟩, ?_, rfl⟩
        show (match seqOf od2 with
          | none => _
          | some (_, xs) => _) = _
        rw [no2]
      · obtain ⟨rfl, rfl⟩ := h
        exact ⟨[.none], ⟨rfl, True.intro⟩, rfl, rfl⟩
      · subst h
        exact ed_tup (ea_cons ed_str (ea_cons ed_non ea_nil)) (by show 2 ≤ 1000; decide)
      · exact okAll_all fun x hx => by
          simp only [List.mem_cons, List.not_mem_nil, or_false] at hx
          rcases hx with rfl | rfl
          · exact (pc_str _).eq
          · exact pc_none.eq
      · exact Nat.le_trans (dpAll_all (n := 10) fun x hx => by
          simp only [List.mem_cons, List.not_mem_nil, or_false] at hx
          rcases hx with rfl | rfl
          · exact (pc_str _).dp
          · exact pc_none.dp) (by decide)
      · obtain ⟨rfl, rfl⟩ := h
        exact ⟨rfl, b + 1114, rfl, by omega⟩
  -- a bent step
  have hlen : Ed K (tOp (rI0 fun i j => .int (i + j)) (tCB (rLenS K) (tCons (tOp (rIx K) (tVar 1) (tC (.int 2))) tNil)) (tC (.int 1))) (fF (b + 1113) c l ss (some od) (some (.int (way : Nat))) (some st) none none none) (.int ((ss.length + 1 : Nat) : Int)) :=
    (ed_op (ed_lenS (t := true) (ed_g2 (ed_var rfl)) rfl) ed_int rd_add).to (by rw [List.length_map]; rfl)
  refine eqm_set (ev_drawN (c0 := b + 1113) (i := 0) (many := ss.length + 1) rfl fF_pen hlen (by omega) (by omega) (by omega)) fun ρ1 y h => ?_
  obtain ⟨rfl, a, rfl, ha⟩ := h
  rw [fF_pen]
  show EsM K T2 _ (fF (b + 1114) c l ss (some od) (some (.int (way : Nat))) (some st) none (some (.int (a : Nat))) none) _
  refine eqm_set (R1 := fun ρ1 y => ρ1 = fF (b + 1118) c l ss (some od) (some (.int (way : Nat))) (some st) none (some (.int (a : Nat))) none ∧ ∃ z r, y = .tuple ((ss.take a).map sD ++ z :: r) ∧ StepOdd c l z ∧ okDs r = true ∧ szDs r ≤ 150 ∧ r.length ≤ 5) ?_ fun ρ1 y h => ?_
  · refine ev_op2 (R1 := fun ρ1 y => ρ1 = fF (b + 1117) c l ss (some od) (some (.int (way : Nat))) (some st) none (some (.int (a : Nat))) none ∧ ∃ z, y = .tuple ((ss.take a).map sD ++ [z]) ∧ StepOdd c l z) (R2 := fun ρ1 _ ρ2 y => ρ2 = fF (b + 1118) c l ss (some od) (some (.int (way : Nat))) (some st) none (some (.int (a : Nat))) none ∧ ∃ r, y = .tuple r ∧ okDs r = true ∧ szDs r ≤ 150 ∧ r.length ≤ 5) (ev_op2 (ed_slT (ed_g2 (ed_var rfl)) eo_none (eo_some (ed_var rfl))) (R2 := fun _ _ ρ2 y => ρ2 = fF (b + 1117) c l ss (some od) (some (.int (way : Nat))) (some st) none (some (.int (a : Nat))) none ∧ ∃ z, y = .tuple [z] ∧ StepOdd c l z) (fun ρ1 x h => ?_) fun ρ1 x ρ2 y h1 h2 => ?_) (fun ρ1 x h => ?_) fun ρ1 x ρ2 y h1 h2 => ?_
    · obtain ⟨rfl, rfl⟩ := h
      refine ev_tup (eva_one (ev_callP (c0 := b + 1114) (i := 0) (R := fun ρ1 y => ρ1 = fF (b + 1117) c l ss (some od) (some (.int (way : Nat))) (some st) none (some (.int (a : Nat))) none ∧ StepOdd c l y) rfl (ea_cons (ed_var rfl) ea_nil) fun ρ1 ds e => ?_)) fun ρ2 xs h => ?_
      · obtain ⟨rfl, rfl⟩ := e
        refine ⟨b + 1114, fF_pen.symm, rfl, ⟨c, l, ss, rfl, hc3, hl1⟩, by omega, fun y hy => ⟨fF_pen, ?_⟩⟩
        obtain ⟨c2, l2, ss2, e, hy⟩ := hy
        injection e with e _
        obtain ⟨e1, e2, _⟩ := gD_inj e
        obtain rfl := Int.ofNat_inj.mp e1
        obtain rfl := Int.ofNat_inj.mp e2
        exact hy
      · obtain ⟨z, rfl, rfl, hz⟩ := h
        exact ⟨by show 1 ≤ 1000; decide, rfl, z, rfl, hz⟩
    · obtain ⟨rfl, rfl⟩ := h1
      obtain ⟨rfl, z, rfl, hz⟩ := h2
      rw [cutP_to]
      exact ⟨_, rd_catT (by rw [List.length_take, List.length_map]; show min a ss.length + 1 ≤ 1000000; omega), rfl, z, by rw [List.map_take], hz⟩
    · obtain ⟨rfl, z, rfl, hz⟩ := h
      have hcut : cutP (ss.map sD) (some ((a : Nat) : Int)) none = (ss.drop a).map sD := by rw [cutP_from, List.map_drop]
      refine (ev_pick (c0 := b + 1117) (i := 0) (xs := [.tuple [], .tuple ((ss.drop a).map sD), .tuple [.none]]) rfl fF_pen (ed_lst (ea_cons (ed_tup ea_nil (by decide)) (ea_cons ((ed_slT (ed_g2 (ed_var rfl)) (eo_some (ed_var rfl)) eo_none).to (by rw [hcut])) (ea_cons (ed_tup (ea_cons ed_non ea_nil) (by show 1 ≤ 1000; decide)) ea_nil))) (by show 3 ≤ 1000; decide)) (fun z => nomatch z) (by show 3 < 1000000; decide) (by omega)).imp fun ρ2 y h => ?_
      obtain ⟨rfl, hy⟩ := h
      rw [fF_pen]
      refine ⟨rfl, ?_⟩
      simp only [List.mem_cons, List.not_mem_nil, or_false] at hy
      rcases hy with rfl | rfl | rfl
      · exact ⟨[], rfl, by unfold okDs; rfl, by unfold szDs; omega, by decide⟩
      · obtain ⟨g1, g2, _⟩ := steps_all true hp.c8 (ss.drop a) fun s hs => hp.st s (List.mem_of_mem_drop hs)
        have g1 : okDs ((ss.drop a).map sD) = true := g1
        have g2 : szDs ((ss.drop a).map sD) ≤ 24 * (ss.drop a).length := g2
        have g3 : (ss.drop a).length ≤ 5 := by rw [List.length_drop]; omega
        exact ⟨_, rfl, g1, by omega, by rw [List.length_map]; exact g3⟩
      · refine ⟨[.none], rfl, by rw [okDs_cons, pt_none.1, show okDs [] = true from by unfold okDs; rfl]; rfl, ?_, by decide⟩
        rw [szDs_cons, show szDs [] = 0 from by unfold szDs; rfl]
        have := pt_none.2
        omega
    · obtain ⟨rfl, z, rfl, hz⟩ := h1
      obtain ⟨rfl, r, rfl, hr1, hr2, hr3⟩ := h2
      exact ⟨_, rd_catT (by rw [List.length_append, List.length_map, List.length_take]; show min a ss.length + 1 + r.length ≤ 1000000; omega), rfl, z, r, by rw [List.append_assoc]; rfl, hz, hr1, hr2, hr3⟩
  obtain ⟨rfl, z, r, rfl, hz, hr1, hr2, hr3⟩ := h
  show EsM K T2 _ (fF (b + 1118) c l ss (some od) (some (.int (way : Nat))) (some st) none (some (.int (a : Nat))) (some (.tuple ((ss.take a).map sD ++ z :: r)))) _
  have hal : (ss.take a).length = a := by rw [List.length_take]; omega
  have hst2 : ∀ x ∈ (ss.take a).map sD, stepD c l x = true := fun x hx => by
    obtain ⟨s, hs, rfl⟩ := List.mem_map.mp hx
    exact step_ok (hp.st s (List.mem_of_mem_take hs)) true
  obtain ⟨g1, g2, _⟩ := steps_all true hp.c8 (ss.take a) fun s hs => hp.st s (List.mem_of_mem_take hs)
  have g1 : okDs ((ss.take a).map sD) = true := g1
  have g2 : szDs ((ss.take a).map sD) ≤ 24 * (ss.take a).length := g2
  have okX : ∀ t, Ok (mkSeq t ((ss.take a).map sD ++ z :: r)) := fun t => ⟨by rw [ok_seq, okDs_app, okDs_cons, g1, hz.ok, hr1]; rfl, by
    rw [sz_seq, szDs_app, szDs_cons]
    have := hz.sz
    omega⟩
  refine esm_ret (evm_told (xs := [.str "program", .int ((a : Nat) : Int)]) (R1 := fun ρ1 => ρ1 = fF (b + 1119) c l ss (some od) (some (.int (way : Nat))) (some st) none (some (.int (a : Nat))) (some (.tuple ((ss.take a).map sD ++ z :: r)))) (evm_lamG (i := 0) (c0 := b + 1118) rfl (evx_make (R1 := fun ρ1 ds => (∃ t, ds = [.int c, .int l, mkSeq t ((ss.take a).map sD ++ z :: r)]) ∧ ρ1 = fF (b + 1119) c l ss (some od) (some (.int (way : Nat))) (some st) none (some (.int (a : Nat))) (some (.tuple ((ss.take a).map sD ++ z :: r)))) (R := fun ρ1 kv => kv = [(.str "index", .int ((a : Nat) : Int))] ∧ ρ1 = fF (b + 1119) c l ss (some od) (some (.int (way : Nat))) (some st) none (some (.int (a : Nat))) (some (.tuple ((ss.take a).map sD ++ z :: r)))) ((eva_consd (ed_g0 (ed_var rfl)) (eva_consd (ed_g1 (ed_var rfl)) (eva_one (ev_pick (c0 := b + 1118) (i := 0) (xs := [.tuple ((ss.take a).map sD ++ z :: r), .list ((ss.take a).map sD ++ z :: r)]) rfl fF_pen (ed_lst (ea_cons (ed_var rfl) (ea_cons (ed_cb (ea_cons (ed_var rfl) ea_nil) rc_listT) ea_nil)) (by show 2 ≤ 1000; decide)) (fun z => nomatch z) (by show 2 < 1000000; decide) (by omega))))).imp fun ρ1 ds h => ?_) fun ρ1 ds h => ?_) memP (by decide) fun ρ1 kv h => ?_) (fun ρ1 h => ?_) ?_ ?_) fun ρ1 y h => ?_
  · obtain ⟨_, rfl, _, rfl, y, rfl, rfl, hy⟩ := h
    rw [fF_pen]
    simp only [List.mem_cons, List.not_mem_nil, or_false] at hy
    rcases hy with rfl | rfl
    · exact ⟨⟨true, rfl⟩, rfl⟩
    · exact ⟨⟨false, rfl⟩, rfl⟩
  · obtain ⟨⟨t, rfl⟩, rfl⟩ := h
    have hb2 : badS c l ((ss.take a).map sD ++ z :: r) 0 = some a := by rw [badS_at hz.no 0 hst2, List.length_map, hal, Nat.zero_add]
    refine ⟨rfl, ⟨c, l, _, rfl, Int.natCast_nonneg c, by omega, okX t, .inr ⟨t, _, a, seqOf_mk t _, hb2⟩⟩, ?_, rfl⟩
    show (match seqOf (mkSeq t ((ss.take a).map sD ++ z :: r)) with
      | none => _
      | some (_, xs) => _) = _
    rw [seqOf_mk]
    dsimp only
    rw [hb2]
  · obtain ⟨rfl, rfl⟩ := h
    exact ⟨[.int ((a : Nat) : Int)], ⟨rfl, True.intro⟩, rfl, rfl⟩
  · subst h
    exact ed_tup (ea_cons ed_str (ea_cons (ed_var rfl) ea_nil)) (by show 2 ≤ 1000; decide)
  · exact okAll_all fun x hx => by
      simp only [List.mem_cons, List.not_mem_nil, or_false] at hx
      rcases hx with rfl | rfl
      · exact (pc_str _).eq
      · exact (pc_int _).eq
  · exact Nat.le_trans (dpAll_all (n := 10) fun x hx => by
      simp only [List.mem_cons, List.not_mem_nil, or_false] at hx
      rcases hx with rfl | rfl
      · exact (pc_str _).dp
      · exact (pc_int _).dp) (by decide)
  · obtain ⟨rfl, rfl⟩ := h
    exact ⟨rfl, b + 1119, rfl, by omega⟩
end
end K04
end
section
set_option Elab.async false
set_option linter.all false
set_option autoImplicit false
set_option maxRecDepth 100000
set_option maxHeartbeats 4000000
namespace K04
open PySem PySem.Spec PyProof.Rows L2 RS
abbrev s_law_is_run_right : Stmt := top 46
abbrev N_law_is_run_right : List Str := ["pen", "program", "made", "configuration", "run", "at", "there", "unable", "k", "bent", "wrong"]
theorem sc_law_is_run_right : FnScope N_law_is_run_right ["pen", "program", "made", "configuration"] (defScope s_law_is_run_right) := ⟨rfl, rfl, rfl, by decide +kernel, rfl, by decide +kernel, by decide +kernel⟩
/-! runs -/
theorem CfI.ok {c l : Nat} {cf : Conf} (h : CfI c l cf) (hc : c ≤ 8) : CfOk c l cf := by
  have e : cD cf = mkSeq true [.int cf.1, mkSeq true (cf.2.map PyData.int)] := rfl
  have e1 : szDs [] = 0 := by unfold szDs; rfl
  have e2 : ∀ i, szD (.int i) = 1 := fun i => by unfold szD; rfl
  have e3 : ∀ i, okD (.int i) = true := fun i => by unfold okD; rfl
  refine ⟨⟨by rw [e, ok_seq, okDs_cons, okDs_cons, ok_seq, okDs_ints, e3, show okDs [] = true from by unfold okDs; rfl]; rfl, ?_⟩, ?_, by show cf.2.length ≤ 100; rw [h.2.2.1]; omega⟩
  · rw [e, sz_seq, szDs_cons, szDs_cons, sz_seq, szDs_ints, e1, e2, h.2.2.1]
    omega
  · show (belD l (.int cf.1) && (isTup (iD cf.2) && natsD c (mkSeq true (cf.2.map PyData.int)))) = true
    rw [bel_ok ⟨h.1, h.2.1⟩, nats_ok ⟨h.2.2.1, h.2.2.2⟩]; rfl
theorem lay_cD (cf : Conf) : Lay 2 (cD cf) := Lay.seq (n := 1) (t := true) (xs := [.int cf.1, iD cf.2]) fun x hx => by
  simp only [List.mem_cons, List.not_mem_nil, or_false] at hx
  rcases hx with rfl | rfl
  · exact .int _
  · exact lay_ints (t := true) _
theorem beh_run {ss : List Stp} : ∀ {ks : List Nat} {c e : Conf}, runI ss ks c = some e → behI ss ks (some c) = some e
  | [], c, e, h => h
  | k :: ks, c, e, h => by
    rw [behI_cons]
    unfold runI at h
    cases hs : ss[k]? with
    | none => rw [hs] at h; cases h
    | some s =>
      rw [hs] at h
      dsimp only at h
      cases hn : nextI c s with
      | none => rw [hn] at h; cases h
      | some d =>
        rw [hn] at h
        show behI ss ks (nextI c s) = some e
        rw [hn]
        exact beh_run h
theorem run_take {ss : List Stp} : ∀ {ks : List Nat} {c e : Conf} (a : Nat), runI ss ks c = some e → ∃ d, runI ss (ks.take a) c = some d
  | ks, c, e, 0, h => ⟨c, by rw [List.take_zero]; rfl⟩
  | [], c, e, a + 1, h => ⟨c, rfl⟩
  | k :: ks, c, e, a + 1, h => by
    rw [List.take_succ_cons]
    unfold runI at h ⊢
    cases hs : ss[k]? with
    | none => rw [hs] at h; cases h
    | some s =>
      rw [hs] at h
      dsimp only at h ⊢
      cases hn : nextI c s with
      | none => rw [hn] at h; cases h
      | some d =>
        rw [hn] at h
        exact run_take a h
theorem badI_cons (ss : List Stp) (e : Conf) (x : PyData) (xs : List PyData) (j : Nat) : badI ss e (x :: xs) j = match nextX ss e x with
    | some e2 => badI ss e2 xs (j + 1)
    | none => some j := rfl
theorem badI_at {ss : List Stp} {x : PyData} {r : List PyData} : ∀ {ks : List Nat} {c e : Conf} (j : Nat), runI ss ks c = some e → nextX ss e x = none → badI ss c (kD ks ++ x :: r) j = some (j + ks.length)
  | [], c, e, j, h, hx => by
    have h : c = e := Option.some.inj h
    subst h
    show badI ss c (x :: r) j = some j
    rw [badI_cons, hx]
  | k :: ks, c, e, j, h, hx => by
    show badI ss c (.int ((k : Nat) : Int) :: (kD ks ++ x :: r)) j = _
    rw [badI_cons]
    unfold runI at h
    cases hs : ss[k]? with
    | none => rw [hs] at h; cases h
    | some s =>
      rw [hs] at h
      rw [nextX_at hs]
      dsimp only at h
      cases hn : nextI c s with
      | none => rw [hn] at h; cases h
      | some d =>
        rw [hn] at h
        dsimp only
        rw [badI_at (j + 1) h hx, List.length_cons]
        congr 1
        omega
def unables (ss : List Stp) (cf : Conf) : List Nat := (List.range ss.length).filter fun k => !canI ss cf k
theorem unables_D (ss : List Stp) (cf : Conf) : (rgD ss.length).filter (fun y => !canD ss cf y && (match y with | .int _ => true | _ => false)) = kD (unables ss cf) := by
  unfold rgD kD unables
  rw [List.filter_map]
  congr 1
  refine List.filter_congr fun k _ => ?_
  show (!canI ss cf ((k : Nat) : Int).toNat && true) = _
  rw [Int.toNat_natCast, Bool.and_true]
theorem unable_in {ss : List Stp} {cf : Conf} {y : PyData} (h : y ∈ kD (unables ss cf)) : nextX ss cf y = none ∧ Kd y := by
  obtain ⟨k, hk, rfl⟩ := List.mem_map.mp h
  obtain ⟨h1, h2⟩ := List.mem_filter.mp hk
  have hlt := List.mem_range.mp h1
  refine ⟨?_, rfl⟩
  rw [nextX_at (List.getElem?_eq_getElem hlt)]
  unfold canI at h2
  rw [List.getElem?_eq_getElem hlt] at h2
  dsimp only at h2
  cases hn : nextI cf ss[k] with
  | none => rfl
  | some e => rw [hn] at h2; cases h2
section
variable {P : Program} {w : World} {K : PySem.W.Frag} {mg : Str → Option Value} {base : Heap}
theorem ed_unable {E : XK} {ρ : En} {ip is_ iv : Nat} {c l : Int} {ss : List Stp} {cf : Conf} {c0 : Nat} (hp : ρ[ip]? = some (some (.d (gD c l ss)))) (hs : ρ[is_]? = some (some (.d (cD cf)))) (hv : ρ[iv]? = some none) (pen : setPen c0 ρ = ρ) (ok : SsOk ss) (sm : Sm cf.2) (n1 : iv ≠ ip) (n2 : iv ≠ is_) :
    Ed K (tLc (iRng1 (tCons (tCB (rLenS K) (tCons (tOp (rIx K) (tVar ip) (tC (.int 2))) tNil)) tNil)) (gName iv) (tTest (tOp rIsN (tCall (spR K 3 pLn rLn) [] E (tCons (tVar ip) (tCons (tVar is_) (tCons (tVar iv) tNil)))) (tC .non))) (tVar iv) [iv]) ρ (.list (kD (unables ss cf))) := by
  have hl := ok.len
  have hlen : Ed K (tCB (rLenS K) (tCons (tOp (rIx K) (tVar ip) (tC (.int 2))) tNil)) ρ (.int (ss.map sD).length) := ed_lenS (t := true) (ed_op (ed_var hp) ed_int (rd_ixT (x := stD ss) rfl)) rfl
  have hr : Ei K (iRng1 (tCons (tCB (rLenS K) (tCons (tOp (rIx K) (tVar ip) (tC (.int 2))) tNil)) tNil)) ρ (rgD ss.length) := by
    have h := ei_rng1 (ea_cons hlen ea_nil) (by rw [List.length_map]; omega) (by rw [List.length_map]; omega)
    rw [Int.toNat_natCast, List.length_map] at h
    exact h
  have h := ed_lcNT (K := K) c0 (fun y => !canD ss cf y && (match y with | .int _ => true | _ => false)) (fun y => y) hr (by rw [rgD_len]; omega) pen (fun j hj => by rw [List.mem_singleton.mp hj]; exact hv) (vs := [iv]) (g := gName iv) (tt := tTest (tOp rIsN (tCall (spR K 3 pLn rLn) [] E (tCons (tVar ip) (tCons (tVar is_) (tCons (tVar iv) tNil)))) (tC .non))) (te := tVar iv) fun y hy => by
    obtain ⟨k, hk⟩ := List.mem_iff_getElem?.mp hy
    obtain ⟨rfl, hlt⟩ := rgD_get hk
    obtain ⟨s, hs2⟩ : ∃ s, ss[k]? = some s := ⟨_, List.getElem?_eq_getElem hlt⟩
    have hil : iv < ρ.length := (List.getElem?_eq_some_iff.mp hv).1
    have g1 : (ρ.set iv (some (Sl.d (.int (k : Nat)))))[ip]? = some (some (.d (gD c l ss))) := by rw [List.getElem?_set_ne n1]; exact hp
    have g2 : (ρ.set iv (some (Sl.d (.int (k : Nat)))))[is_]? = some (some (.d (cD cf))) := by rw [List.getElem?_set_ne n2]; exact hs
    have g3 : (ρ.set iv (some (Sl.d (.int (k : Nat)))))[iv]? = some (some (.d (.int (k : Nat)))) := List.getElem?_set_self hil
    refine ⟨[iv], _, fun j hj => hj, eg_name, setPen_set pen, (eb_test (ed_op (ed_next (ed_var g1) (ed_var g2) (ed_var g3) ok sm hs2) ed_non rd_isN)).to ?_, fun _ => ed_var g3⟩
    have e : isNon (optD (nextI cf s)) = !(nextI cf s).isSome := by cases nextI cf s <;> rfl
    rw [e]
    show _ = (!canI ss cf ((k : Nat) : Int).toNat && true)
    rw [Int.toNat_natCast, Bool.and_true]
    unfold canI
    rw [hs2]
  rw [unables_D, List.map_id'] at h
  exact h
def uF (q : Nat) (C : Addr) (c l : Nat) (ss : List Stp) (cf : Conf) (ru at_ th un be wr : Option PyData) : En := [some (.pen q), some (.d (gD c l ss)), some (.d (prD C c l (stD ss))), some (.d (cD cf)), ru.map Sl.d, at_.map Sl.d, th.map Sl.d, un.map Sl.d, none, be.map Sl.d, wr.map Sl.d]
theorem uF_pen {q r c l : Nat} {C : Addr} {ss : List Stp} {cf : Conf} {ru at_ th un be wr : Option PyData} : setPen r (uF q C c l ss cf ru at_ th un be wr) = uF r C c l ss cf ru at_ th un be wr := by
  unfold setPen uF
  simp only [List.map_cons, List.map_nil, pn_d]
  rfl
def pIrr (C : Addr) : List PyData → Prop := fun ds => ∃ c l : Nat, ∃ ss cf, ds = [gD c l ss, prD C c l (stD ss), cD cf] ∧ Prg c l ss ∧ CfI c l cf ∧ c ≤ 3
theorem ok_law_run_right {C CS f fW cL PL : Addr} {tab : List Cl} {T2 : Tb} {ocL kVL docL pmL ctL ocW kVW docW pmW ctW cdW : Value} {odL anL odW anW : Option Addr} {oslL oslW : Array (Option Value)}
    (lk : K.lookup f = some ⟨ocL, odL, .func (PySem.W.fnOf "_law_is_run_right" "_law_is_run_right" (defArgs s_law_is_run_right) (defBody s_law_is_run_right) (defScope s_law_is_run_right) .none kVL docL pmL anL (.ref cL) ctL), oslL⟩) (hcd : PySem.W.codeIn K (.ref cL) "_law_is_run_right" = true) (T : Bi mg) (TB : LamX.TabB base mg cL PL)
    (m_wrong : mg "_law_wrong" = some (.ref fW)) (k_wrong : PySem.W.keepIn K (.ref fW) = true) (l_wrong : K.lookup fW = some ⟨ocW, odW, .func (PySem.W.fnOf "_law_wrong" "_law_wrong" (defArgs s_law_wrong) (defBody s_law_wrong) (defScope s_law_wrong) .none kVW docW pmW anW cdW ctW), oslW⟩) (c_wrong : PySem.W.codeIn K cdW "_law_wrong" = true)
    (b_wrong : L2.Binds K (PySem.W.fnOf "_law_wrong" "_law_wrong" (defArgs s_law_wrong) (defBody s_law_wrong) (defScope s_law_wrong) .none kVW docW pmW anW cdW ctW) ["call"] [])
    (gv : ∀ X : Cx, X.K = K → X.mg = mg → LamX.GivesTo X N_law_wrong "_law_wrong" (defScope s_law_wrong) fW cdW (defBody s_law_wrong) "call" "_law_is_run_right.<locals>.<lambda>" (TTw tab)) (hm : (PL, ("_law_is_run_right.<locals>.<lambda>" : Str)) ∈ T2) (hu : ∀ p ∈ T2, p.1 = PL → p.2 = ("_law_is_run_right.<locals>.<lambda>" : Str))
    (memS : ((CS, "step", ["index"]) : Cl) ∈ tab)
    (OXrun : OwnX P w K mg base 7 "behind_run" ["program", "configuration", "run"] (spX K 3 (pRnK C) CS (kvRn C))) (Obehind_run : OwnD P w K mg base 7 "behind_run" ["program", "configuration", "run"] (spR K 3 (pRs C) (rRs C)))
    (O_law_draw : OwnD P w K mg base 1 "_law_draw" ["pen", "many"] (spP K 1 pDraw 1 rDraw)) (O_law_pick : OwnD P w K mg base 2 "_law_pick" ["pen", "row"] (spP K 1 pPick 1 rPick)) (O_law_next : OwnD P w K mg base 1 "_law_next" ["program", "configuration", "k"] (spR K 3 pLn rLn))
    (O_law_behind : OwnD P w K mg base 2 "_law_behind" ["program", "configuration", "run"] (spR K 3 pLb rLb)) (O_law_some_run : OwnD P w K mg base 3 "_law_some_run" ["pen", "program", "configuration", "most"] (spP K 3 pSr 30 rSr)) :
    FnOk P w K mg base CX0 10 f (PySem.W.fnOf "_law_is_run_right" "_law_is_run_right" (defArgs s_law_is_run_right) (defBody s_law_is_run_right) (defScope s_law_is_run_right) .none kVL docL pmL anL (.ref cL) ctL) ["pen", "program", "made", "configuration"] (spT K T2 3 (pIrr C) 40 rTrue) := by
  refine fn_T (ps := ["program", "made", "configuration"]) lk hcd sc_law_is_run_right fun A2 outer s H E hr => ⟨_, (pss_cons (ps_set (i := 4) sc_law_is_run_right.nd rfl (by first | exact Or.inl rfl | exact Or.inr rfl) (pe_own O_law_some_run (hr.mono (by decide)) (pa_cons (pv 0) (pa_cons (pv 1) (pa_cons (pv 3) (pa_cons pe_int pa_nil))))))
      (pss_cons (ps_if (pt_cmpR (k_neA (K := K) hr.units) (pe_own Obehind_run (hr.mono (by decide)) (pa_cons (pv 2) (pa_cons (pv 3) (pa_cons (pe_own O_law_pick (hr.mono (by decide)) (pa_cons (pv 0) (pa_cons (pe_lst (pa_cons (pv 4) (pa_cons (pe_callTy (k_list (K := K)) (by rfl) (T.n_list) PyProof.Rows.boot_list (pa_cons (pv 4) pa_nil)) pa_nil))) pa_nil))) pa_nil)))) (pe_own O_law_behind (hr.mono (by decide)) (pa_cons (pv 1) (pa_cons (pv 3) (pa_cons (pv 4) pa_nil)))) (nomark _))
        (pss_one (ps_ret pe_bl))
        pss_nil)
      (pss_cons (ps_set (i := 5) sc_law_is_run_right.nd rfl (by first | exact Or.inl rfl | exact Or.inr rfl) (pe_own O_law_draw (hr.mono (by decide)) (pa_cons (pv 0) (pa_cons (pe_op op_add (pe_callB (k_len (K := K)) (by rfl) (T.n_len) PySem.boot_len (pa_cons (pv 4) pa_nil)) pe_int) pa_nil))))
      (pss_cons (ps_set (i := 6) sc_law_is_run_right.nd rfl (by first | exact Or.inl rfl | exact Or.inr rfl) (pe_own O_law_behind (hr.mono (by decide)) (pa_cons (pv 1) (pa_cons (pv 3) (pa_cons (pe_slice (k_slT (K := K)) (pv 4) po_none (po_some (pv 5))) pa_nil)))))
      (pss_cons (ps_setLc (i := 7) (own := [("k", 8)]) rfl sc_law_is_run_right.nd rfl rfl (sw_true rfl rfl rfl (by decide +kernel)) (pi_range1 (by rfl) (T.n_range) (pa_cons (pe_callB (k_len (K := K)) (by rfl) (T.n_len) PySem.boot_len (pa_cons (pe_ix (k_ix (K := K)) (pv 1) pe_int (fun _ _ => rfl)) pa_nil)) pa_nil)) (blkOk_by (N := N_law_is_run_right) (sc := defScope s_law_is_run_right) (by decide +kernel)) (fun _ _ _ _ _ => (pg_name (i := 8) sc_law_is_run_right.nd rfl (by first | exact Or.inl rfl | exact Or.inr rfl))) (fun _ _ _ _ _ => (pts_one (pt_cmpR op_isN (pe_own O_law_next (hr.mono (by decide)) (pa_cons (pv 1) (pa_cons (pv 6) (pa_cons (pv 8) pa_nil)))) pe_non (nomark _)))) (fun _ _ _ _ _ => (pv 8)))
      (pss_cons (ps_set (i := 9) sc_law_is_run_right.nd rfl (by first | exact Or.inl rfl | exact Or.inr rfl) (pe_own O_law_pick (hr.mono (by decide)) (pa_cons (pv 0) (pa_cons (pe_op op_cat (pv 7) (pe_lst (pa_cons (pe_callB (k_len (K := K)) (by rfl) (T.n_len) PySem.boot_len (pa_cons (pe_ix (k_ix (K := K)) (pv 1) pe_int (fun _ _ => rfl)) pa_nil)) (pa_cons (pe_un un_neg pe_int) (pa_cons pe_non (pa_cons pe_bl (pa_cons pe_str pa_nil))))))) pa_nil))))
      (pss_cons (ps_set (i := 10) sc_law_is_run_right.nd rfl (by first | exact Or.inl rfl | exact Or.inr rfl) (pe_op (k_catA (K := K)) (pe_op (k_catA (K := K)) (pe_slice (k_slT (K := K)) (pv 4) po_none (po_some (pv 5))) (pe_tup (pa_cons (pv 9) pa_nil))) (pe_own O_law_pick (hr.mono (by decide)) (pa_cons (pv 0) (pa_cons (pe_lst (pa_cons (pe_tup pa_nil) (pa_cons (pe_slice (k_slT (K := K)) (pv 4) (po_some (pv 5)) po_none) (pa_cons (pe_tup (pa_cons pe_non pa_nil)) pa_nil)))) pa_nil)))))
      (pss_one (ps_ret (pe_cmpR (k_eqA (K := K) hr.units) (LamX.pe_lamcall (k := 7) (T := T2) (TT := TTw tab) (a := "call") (t := _) (by rfl) m_wrong k_wrong l_wrong c_wrong b_wrong sc_law_wrong rfl (Or.inl rfl) (gv _ rfl rfl) TB rfl hm hu (hr.mono (by decide)) (LamX.lamS_by (sc := defScope s_law_is_run_right) (by decide +kernel)) rfl (fun _ _ _ _ _ => rfl) (fun A2 outer2 s2 H2 E2 f2 c2 hr2 => pe_ownX OXrun (hr2.mono (by decide)) (takes_of rfl rfl rfl rfl) (pa_cons (pv 2) (pa_cons (pv 3) (pa_cons (pe_own O_law_pick (hr2.mono (by decide)) (pa_cons (pv 0) (pa_cons (pe_lst (pa_cons (pv 10) (pa_cons (pe_callTy (k_list (K := K)) (by rfl) (T.n_list) PyProof.Rows.boot_list (pa_cons (pv 10) pa_nil)) pa_nil))) pa_nil))) pa_nil))))) (pe_tup (pa_cons pe_str (pa_cons (pv 5) pa_nil))) (nomark _))))))))))), ?_⟩
  rintro b ds hb hl ⟨c, l, ss, cf, rfl, hp, hcf, hc3⟩
  have h8 := hp.c8
  have hn8 := hp.n
  have ok1 := SsOk.of hp
  have hcl := hcf.2.2.1
  have hsm : Sm cf.2 := by show cf.2.length ≤ 100; omega
  show EsM K T2 _ (uF b C c l ss cf none none none none none none) _
  refine eqm_set (ev_callP (c0 := b) (i := 0) (R := fun ρ1 y => ρ1 = uF (b + 30) C c l ss cf none none none none none none ∧ ∃ ks e, y = .tuple (kD ks) ∧ runI ss ks cf = some e ∧ ks.length ≤ 14) rfl (ea_cons (ed_var rfl) (ea_cons (ed_var rfl) (ea_cons ed_int ea_nil))) fun ρ1 ds e => ?_) fun ρ1 y h => ?_
  · obtain ⟨rfl, rfl⟩ := e
    refine ⟨b, uF_pen.symm, rfl, ⟨c, l, 14, ss, cf, rfl, hp, hcf, by decide, by decide⟩, by omega, fun y hy => ⟨uF_pen, ?_⟩⟩
    obtain ⟨c2, l2, m2, ss2, cf2, ks, e, he, rfl, hrun, hk⟩ := hy
    injection he with e1 he
    injection he with e2 _
    obtain ⟨_, _, e3⟩ := gD_inj e1
    rw [← e3, ← cD_inj e2] at hrun
    exact ⟨ks, e, rfl, hrun, hk⟩
  obtain ⟨rfl, ks, e, rfl, hrun, hk14⟩ := h
  show EsM K T2 _ (uF (b + 30) C c l ss cf (some (.tuple (kD ks))) none none none none none) _
  have rdc : ∀ x : Conf, RD K (rNeA K) (cD x) (cD x) (.bool false) := fun x => by
    have h := rd_neA (K := K) ((lay_cD x).shaped (by decide)) ((lay_cD x).shaped (by decide))
    rw [SeqAt.eqv_refl _ (lay_cD x).1] at h
    exact h
  have hbeh : ∀ (ρ : En) (kt : List Nat) (e2 : Conf) (tr : TE), ρ[1]? = some (some (.d (gD c l ss))) → ρ[3]? = some (some (.d (cD cf))) → Ed K tr ρ (.tuple (kD kt)) → runI ss kt cf = some e2 → kt.length ≤ 100 → Ed K (tCall (spR K 3 pLb rLb) [] E0 (tCons (tVar 1) (tCons (tVar 3) (tCons tr tNil)))) ρ (cD e2) := fun ρ kt e2 tr h1 h3 h4 hr hn =>
    ed_call (ea_cons (ed_var h1) (ea_cons (ed_var h3) (ea_cons h4 ea_nil))) rfl ⟨c, l, ss, some cf, kt, rfl, ok1, fun a ha => by cases ha; exact hsm, run_lt hr, hn⟩ fun z hz => by
      obtain ⟨c2, l2, ss2, cf2, ks2, he, rfl⟩ := hz
      injection he with e1 he
      injection he with e2 he
      injection he with e3 _
      injection e3 with e3
      obtain ⟨_, _, e4⟩ := gD_inj e1
      have e5 : some cf = cf2 := optD_inj (a := some cf) e2
      rw [← e4, ← e5, ← kD_inj e3, beh_run hr]; rfl
  refine esm_then (esm_if (R := fun ρ1 x => x = false ∧ ρ1 = uF (b + 31) C c l ss cf (some (.tuple (kD ks))) none none none none none) (EvT.m (evt_test (R1 := fun ρ1 y => y = .bool false ∧ ρ1 = uF (b + 31) C c l ss cf (some (.tuple (kD ks))) none none none none none) (ev_op2 (R1 := fun ρ1 y => ρ1 = uF (b + 31) C c l ss cf (some (.tuple (kD ks))) none none none none none ∧ y = cD e) (R2 := fun ρ1 _ ρ2 y => ρ2 = ρ1 ∧ y = cD e) (ev_call (eva_consd (ed_var rfl) (eva_consd (ed_var rfl) (eva_one (ev_pick (c0 := b + 30) (i := 0) (xs := [.tuple (kD ks), .list (kD ks)]) rfl uF_pen (ed_lst (ea_cons (ed_var rfl) (ea_cons (ed_cb (ea_cons (ed_var rfl) ea_nil) rc_listT) ea_nil)) (by show 2 ≤ 1000; decide)) (fun z => nomatch z) (by show 2 < 1000000; decide) (by omega))))) fun ρ1 zs h => ?_) (fun ρ1 x h => ?_) fun ρ1 x ρ2 y h1 h2 => ?_) fun ρ1 y h => ?_)) (fun ρ1 h => nomatch h.1) fun ρ1 h => ?_)
  · obtain ⟨_, rfl, _, rfl, y, rfl, rfl, hy⟩ := h
    rw [uF_pen]
    obtain ⟨t, rfl⟩ : ∃ t, y = mkSeq t (kD ks) := by
      simp only [List.mem_cons, List.not_mem_nil, or_false] at hy
      rcases hy with rfl | rfl
      · exact ⟨true, rfl⟩
      · exact ⟨false, rfl⟩
    refine ⟨rfl, ⟨c, l, ss, cf, ks, e, t, rfl, hcf.ok h8, ok1, by omega, hrun⟩, fun y hy => ⟨rfl, ?_⟩⟩
    obtain ⟨c2, l2, ss2, cf2, ks2, e2, t2, he, hr2, rfl⟩ := hy
    injection he with e1 he
    injection he with e2 he
    injection he with e3 _
    obtain ⟨_, _, e4⟩ := prD_inj e1
    have e5 := congrArg seqOf e3
    rw [seqOf_mk, seqOf_mk] at e5
    injection e5 with e5
    injection e5 with _ e5
    rw [← stD_inj e4, ← cD_inj e2, ← kD_inj e5, hrun] at hr2
    rw [← Option.some.inj hr2]
  · obtain ⟨rfl, rfl⟩ := h
    exact hbeh _ ks e _ rfl rfl (ed_var rfl) hrun (by omega)
  · obtain ⟨rfl, rfl⟩ := h1
    obtain ⟨rfl, rfl⟩ := h2
    exact ⟨_, rdc e, rfl, rfl⟩
  · obtain ⟨rfl, rfl⟩ := h
    exact ⟨false, rfl, rfl, rfl⟩
  obtain ⟨_, rfl⟩ := h
  refine Es.m (es_next ?_)
  show EsM K T2 _ (uF (b + 31) C c l ss cf (some (.tuple (kD ks))) none none none none none) _
  have hlen : Ed K (tOp (rI0 fun i j => .int (i + j)) (tCB (rLenS K) (tCons (tVar 4) tNil)) (tC (.int 1))) (uF (b + 31) C c l ss cf (some (.tuple (kD ks))) none none none none none) (.int ((ks.length + 1 : Nat) : Int)) :=
    (ed_op (ed_lenS (t := true) (xs := kD ks) (ed_var rfl) rfl) ed_int rd_add).to (by rw [kD_len]; rfl)
  refine eqm_set (ev_drawN (c0 := b + 31) (i := 0) (many := ks.length + 1) rfl uF_pen hlen (by omega) (by omega) (by omega)) fun ρ1 y h => ?_
  obtain ⟨rfl, a, rfl, ha⟩ := h
  rw [uF_pen]
  show EsM K T2 _ (uF (b + 32) C c l ss cf (some (.tuple (kD ks))) (some (.int (a : Nat))) none none none none) _
  obtain ⟨e1, hrun1⟩ := run_take a hrun
  have hcut : cutP (kD ks) none (some ((a : Nat) : Int)) = kD (ks.take a) := by rw [cutP_to]; unfold kD; rw [List.map_take]
  have hcut2 : cutP (kD ks) (some ((a : Nat) : Int)) none = kD (ks.drop a) := by rw [cutP_from]; unfold kD; rw [List.map_drop]
  have htl : (ks.take a).length = a := by rw [List.length_take]; omega
  have hce := run_ok hp hcf hrun1
  have hel := hce.2.2.1
  have hsm1 : Sm e1.2 := by show e1.2.length ≤ 100; omega
  refine eqm_set (hbeh _ (ks.take a) e1 _ rfl rfl ((ed_slT (xs := kD ks) (ed_var rfl) eo_none (eo_some (ed_var rfl))).to (by rw [hcut])) hrun1 (by omega)) fun ρ1 y h => ?_
  obtain ⟨rfl, rfl⟩ := h
  show EsM K T2 _ (uF (b + 32) C c l ss cf (some (.tuple (kD ks))) (some (.int (a : Nat))) (some (cD e1)) none none none) _
  refine eqm_set (ed_unable (c0 := b + 32) (ip := 1) (is_ := 6) (iv := 8) rfl rfl rfl uF_pen ok1 hsm1 (by decide) (by decide)) fun ρ1 y h => ?_
  obtain ⟨rfl, rfl⟩ := h
  show EsM K T2 _ (uF (b + 32) C c l ss cf (some (.tuple (kD ks))) (some (.int (a : Nat))) (some (cD e1)) (some (.list (kD (unables ss e1)))) none none) _
  have hul : (kD (unables ss e1)).length ≤ 8 := by
    rw [kD_len]
    unfold unables
    exact Nat.le_trans (List.length_filter_le _ _) (by rw [List.length_range]; exact hn8)
  refine eqm_set (ev_pick (c0 := b + 32) (i := 0) (xs := kD (unables ss e1) ++ [.int ((ss.length : Nat) : Int), .int (-1), .none, .bool true, .str "0"]) rfl uF_pen (ed_op (ed_var rfl) (ed_lst (ea_cons ((ed_lenS (t := true) (ed_g2 (ed_var rfl)) rfl).to (by rw [List.length_map])) (ea_cons (ed_un ed_int ru_neg) (ea_cons ed_non (ea_cons ed_bl (ea_cons ed_str ea_nil))))) (by show 5 ≤ 1000; decide)) (rd_catL (by show (kD (unables ss e1)).length + 5 ≤ 1000000; omega))) (fun z => by have := congrArg List.length z; rw [List.length_append] at this; cases this) (by rw [List.length_append]; show (kD (unables ss e1)).length + 5 < 1000000; omega) (by omega)) fun ρ1 z h => ?_
  obtain ⟨rfl, hz⟩ := h
  rw [uF_pen]
  have hz2 : nextX ss e1 z = none ∧ Kd z := by
    rcases List.mem_append.mp hz with h | h
    · exact unable_in h
    · simp only [List.mem_cons, List.not_mem_nil, or_false] at h
      rcases h with rfl | rfl | rfl | rfl | rfl
      · refine ⟨?_, rfl⟩
        rw [nextX_int, if_pos (Int.natCast_nonneg _), Int.toNat_natCast, List.getElem?_eq_none (Nat.le_refl _)]
      · exact ⟨rfl, rfl⟩
      · exact ⟨rfl, rfl⟩
      · exact ⟨rfl, rfl⟩
      · exact ⟨rfl, rfl⟩
  show EsM K T2 _ (uF (b + 33) C c l ss cf (some (.tuple (kD ks))) (some (.int (a : Nat))) (some (cD e1)) (some (.list (kD (unables ss e1)))) (some z) none) _
  refine eqm_set (R1 := fun ρ1 y => ρ1 = uF (b + 34) C c l ss cf (some (.tuple (kD ks))) (some (.int (a : Nat))) (some (cD e1)) (some (.list (kD (unables ss e1)))) (some z) none ∧ ∃ r, y = .tuple (kD (ks.take a) ++ z :: r) ∧ (∀ x ∈ r, Kd x) ∧ r.length ≤ 14) ?_ fun ρ1 y h => ?_
  · refine ev_op2 (ed_op (ed_slT (xs := kD ks) (ed_var rfl) eo_none (eo_some (ed_var rfl))) (ed_tup (ea_cons (ed_var rfl) ea_nil) (by show 1 ≤ 1000; decide)) (rd_catT (by rw [hcut, kD_len, htl]; show a + 1 ≤ 1000000; omega))) (R2 := fun ρ1 _ ρ2 y => ρ2 = uF (b + 34) C c l ss cf (some (.tuple (kD ks))) (some (.int (a : Nat))) (some (cD e1)) (some (.list (kD (unables ss e1)))) (some z) none ∧ ∃ r, y = .tuple r ∧ (∀ x ∈ r, Kd x) ∧ r.length ≤ 14) (fun ρ1 x h => ?_) fun ρ1 x ρ2 y h1 h2 => ?_
    · obtain ⟨rfl, rfl⟩ := h
      refine (ev_pick (c0 := b + 33) (i := 0) (xs := [.tuple [], .tuple (kD (ks.drop a)), .tuple [.none]]) rfl uF_pen (ed_lst (ea_cons (ed_tup ea_nil (by decide)) (ea_cons ((ed_slT (xs := kD ks) (ed_var rfl) (eo_some (ed_var rfl)) eo_none).to (by rw [hcut2])) (ea_cons (ed_tup (ea_cons ed_non ea_nil) (by show 1 ≤ 1000; decide)) ea_nil))) (by show 3 ≤ 1000; decide)) (fun z => nomatch z) (by show 3 < 1000000; decide) (by omega)).imp fun ρ2 y h => ?_
      obtain ⟨rfl, hy⟩ := h
      rw [uF_pen]
      refine ⟨rfl, ?_⟩
      simp only [List.mem_cons, List.not_mem_nil, or_false] at hy
      rcases hy with rfl | rfl | rfl
      · exact ⟨[], rfl, fun x hx => absurd hx List.not_mem_nil, by decide⟩
      · refine ⟨_, rfl, fun x hx => ?_, by rw [kD_len, List.length_drop]; omega⟩
        obtain ⟨k, _, rfl⟩ := List.mem_map.mp hx
        rfl
      · exact ⟨[.none], rfl, fun x hx => by rw [List.mem_singleton.mp hx]; rfl, by decide⟩
    · obtain ⟨rfl, rfl⟩ := h1
      obtain ⟨rfl, r, rfl, hr1, hr2⟩ := h2
      rw [hcut]
      exact ⟨_, rd_catT (by rw [List.length_append, kD_len, htl]; show a + 1 + r.length ≤ 1000000; omega), rfl, r, by rw [List.append_assoc]; rfl, hr1, hr2⟩
  obtain ⟨rfl, r, rfl, hr1, hr2⟩ := h
  show EsM K T2 _ (uF (b + 34) C c l ss cf (some (.tuple (kD ks))) (some (.int (a : Nat))) (some (cD e1)) (some (.list (kD (unables ss e1)))) (some z) (some (.tuple (kD (ks.take a) ++ z :: r)))) _
  have hbad : badI ss cf (kD (ks.take a) ++ z :: r) 0 = some a := by rw [badI_at 0 hrun1 hz2.1, htl, Nat.zero_add]
  have hkd : ∀ x ∈ kD (ks.take a) ++ z :: r, Kd x := fun x hx => by
    rcases List.mem_append.mp hx with h | h
    · obtain ⟨k, _, rfl⟩ := List.mem_map.mp h
      rfl
    · rcases List.mem_cons.mp h with rfl | h
      · exact hz2.2
      · exact hr1 x h
  have hwl : (kD (ks.take a) ++ z :: r).length ≤ 1000 := by
    rw [List.length_append, kD_len, htl, List.length_cons]; omega
  generalize kD (ks.take a) ++ z :: r = wr at hbad hkd hwl ⊢
  refine esm_ret (evm_told (xs := [.str "step", .int ((a : Nat) : Int)]) (R1 := fun ρ1 => ρ1 = uF (b + 35) C c l ss cf (some (.tuple (kD ks))) (some (.int (a : Nat))) (some (cD e1)) (some (.list (kD (unables ss e1)))) (some z) (some (.tuple wr))) (evm_lamG (i := 0) (c0 := b + 34) rfl (evx_call (R1 := fun ρ1 ds => (∃ t, ds = [prD C c l (stD ss), cD cf, mkSeq t wr]) ∧ ρ1 = uF (b + 35) C c l ss cf (some (.tuple (kD ks))) (some (.int (a : Nat))) (some (cD e1)) (some (.list (kD (unables ss e1)))) (some z) (some (.tuple wr))) (R := fun ρ1 kv => kv = [(.str "index", .int ((a : Nat) : Int))] ∧ ρ1 = uF (b + 35) C c l ss cf (some (.tuple (kD ks))) (some (.int (a : Nat))) (some (cD e1)) (some (.list (kD (unables ss e1)))) (some z) (some (.tuple wr))) ((eva_consd (ed_var rfl) (eva_consd (ed_var rfl) (eva_one (ev_pick (c0 := b + 34) (i := 0) (xs := [.tuple wr, .list wr]) rfl uF_pen (ed_lst (ea_cons (ed_var rfl) (ea_cons (ed_cb (ea_cons (ed_var rfl) ea_nil) rc_listT) ea_nil)) (by show 2 ≤ 1000; decide)) (fun z => nomatch z) (by show 2 < 1000000; decide) (by omega))))).imp fun ρ1 ds h => ?_) fun ρ1 ds h => ?_) memS (by decide) fun ρ1 kv h => ?_) (fun ρ1 h => ?_) ?_ ?_) fun ρ1 y h => ?_
  · obtain ⟨_, rfl, _, rfl, y, rfl, rfl, hy⟩ := h
    rw [uF_pen]
    simp only [List.mem_cons, List.not_mem_nil, or_false] at hy
    rcases hy with rfl | rfl
    · exact ⟨⟨true, rfl⟩, rfl⟩
    · exact ⟨⟨false, rfl⟩, rfl⟩
  · obtain ⟨⟨t, rfl⟩, rfl⟩ := h
    exact ⟨rfl, ⟨c, l, ss, cf, t, wr, a, rfl, hcf.ok h8, ok1, hkd, hwl, hbad⟩, kvRn_at hbad, rfl⟩
  · obtain ⟨rfl, rfl⟩ := h
    exact ⟨[.int ((a : Nat) : Int)], ⟨rfl, True.intro⟩, rfl, rfl⟩
  · subst h
    exact ed_tup (ea_cons ed_str (ea_cons (ed_var rfl) ea_nil)) (by show 2 ≤ 1000; decide)
  · exact okAll_all fun x hx => by
      simp only [List.mem_cons, List.not_mem_nil, or_false] at hx
      rcases hx with rfl | rfl
      · exact (pc_str _).eq
      · exact (pc_int _).eq
  · exact Nat.le_trans (dpAll_all (n := 10) fun x hx => by
      simp only [List.mem_cons, List.not_mem_nil, or_false] at hx
      rcases hx with rfl | rfl
      · exact (pc_str _).dp
      · exact (pc_int _).dp) (by decide)
  · obtain ⟨rfl, rfl⟩ := h
    exact ⟨rfl, b + 35, rfl, by omega⟩
end
end K04
end
section
set_option Elab.async false
set_option linter.all false
set_option autoImplicit false
set_option maxRecDepth 100000
set_option maxHeartbeats 4000000
namespace K04
open PySem PySem.Spec PyProof.Rows L2 RS
abbrev s_law_are_steps_right : Stmt := top 44
abbrev N_law_are_steps_right : List Str := ["pen", "program", "made", "configuration", "due", "k", "odd", "wrong", "calls", "call"]
theorem sc_law_are_steps_right : FnScope N_law_are_steps_right ["pen", "program", "made", "configuration"] (defScope s_law_are_steps_right) := ⟨rfl, rfl, rfl, by decide +kernel, rfl, by decide +kernel, by decide +kernel⟩
/-! steps: all but the last four statements -/
def dueAt (ss : List Stp) (cf : Conf) (k : Nat) : PyData := match ss[k]? with
  | some s => optD (nextI cf s)
  | none => .none
def dueL (ss : List Stp) (cf : Conf) : List PyData := (List.range ss.length).map (dueAt ss cf)
theorem due_get {ss : List Stp} {cf : Conf} {k : Nat} {s : Stp} (h : ss[k]? = some s) : (dueL ss cf)[k]? = some (optD (nextI cf s)) := by
  have hlt := (List.getElem?_eq_some_iff.mp h).1
  unfold dueL
  rw [List.getElem?_map, List.getElem?_range hlt]
  show some (dueAt ss cf k) = _
  unfold dueAt
  rw [h]
theorem due_len (ss : List Stp) (cf : Conf) : (dueL ss cf).length = ss.length := by unfold dueL; rw [List.length_map, List.length_range]
theorem lay_opt (o : Option Conf) : Lay 2 (optD o) := by
  cases o with
  | none => exact ⟨by unfold optD PyData.canLay0; rfl, by unfold optD PyData.depth; omega⟩
  | some c => exact lay_cD c
def vF (q : Nat) (C : Addr) (c l : Nat) (ss : List Stp) (cf : Conf) (du k od wr ca : Option PyData) : En := [some (.pen q), some (.d (gD c l ss)), some (.d (prD C c l (stD ss))), some (.d (cD cf)), du.map Sl.d, k.map Sl.d, od.map Sl.d, wr.map Sl.d, ca.map Sl.d, none]
theorem vF_pen {q r c l : Nat} {C : Addr} {ss : List Stp} {cf : Conf} {du k od wr ca : Option PyData} : setPen r (vF q C c l ss cf du k od wr ca) = vF r C c l ss cf du k od wr ca := by
  unfold setPen vF
  simp only [List.map_cons, List.map_nil, pn_d]
  rfl
section
variable {P : Program} {w : World} {K : PySem.W.Frag} {mg : Str → Option Value} {base : Heap}
theorem ok_law_steps_right {C CN f fW cL PL : Addr} {tab : List Cl} {T2 : Tb} {ocL kVL docL pmL ctL ocW kVW docW pmW ctW cdW : Value} {odL anL odW anW : Option Addr} {oslL oslW : Array (Option Value)}
    (lk : K.lookup f = some ⟨ocL, odL, .func (PySem.W.fnOf "_law_are_steps_right" "_law_are_steps_right" (defArgs s_law_are_steps_right) (defBody s_law_are_steps_right) (defScope s_law_are_steps_right) .none kVL docL pmL anL (.ref cL) ctL), oslL⟩) (hcd : PySem.W.codeIn K (.ref cL) "_law_are_steps_right" = true) (T : Bi mg) (TB : LamX.TabB base mg cL PL)
    (m_wrong : mg "_law_wrong" = some (.ref fW)) (k_wrong : PySem.W.keepIn K (.ref fW) = true) (l_wrong : K.lookup fW = some ⟨ocW, odW, .func (PySem.W.fnOf "_law_wrong" "_law_wrong" (defArgs s_law_wrong) (defBody s_law_wrong) (defScope s_law_wrong) .none kVW docW pmW anW cdW ctW), oslW⟩) (c_wrong : PySem.W.codeIn K cdW "_law_wrong" = true)
    (b_wrong : L2.Binds K (PySem.W.fnOf "_law_wrong" "_law_wrong" (defArgs s_law_wrong) (defBody s_law_wrong) (defScope s_law_wrong) .none kVW docW pmW anW cdW ctW) ["call"] [])
    (gv : ∀ X : Cx, X.K = K → X.mg = mg → LamX.GivesTo X N_law_wrong "_law_wrong" (defScope s_law_wrong) fW cdW (defBody s_law_wrong) "call" "_law_are_steps_right.<locals>.<lambda>" (TTw tab)) (hm : (PL, ("_law_are_steps_right.<locals>.<lambda>" : Str)) ∈ T2) (hu : ∀ p ∈ T2, p.1 = PL → p.2 = ("_law_are_steps_right.<locals>.<lambda>" : Str))
    (memN : ((CN, "number", ["what", "number"]) : Cl) ∈ tab)
    (OXnext : OwnX P w K mg base 7 "next_one" ["program", "configuration", "k"] (spX K 3 (pNxK C) CN kvNk)) (Onext_one : OwnD P w K mg base 7 "next_one" ["program", "configuration", "k"] (spR K 3 (pNx C) (rNx C))) (Osteps_at : OwnD P w K mg base 7 "steps_at" ["program", "configuration"] (spR K 2 (pSa C) (rSa C)))
    (Ois_configuration : OwnD P w K mg base 5 "is_configuration" ["program", "value"] (spR K 2 (pCf C) (rCf C)))
    (O_law_pick : OwnD P w K mg base 2 "_law_pick" ["pen", "row"] (spP K 1 pPick 1 rPick)) (O_law_next : OwnD P w K mg base 1 "_law_next" ["program", "configuration", "k"] (spR K 3 pLn rLn)) (O_law_odd_configuration : OwnD P w K mg base 3 "_law_odd_configuration" ["pen", "counters", "locations"] (spP K 2 pOc 3 rOc))
    (tl : ∀ (A : Around) (outer : List PySem.Env) (s : Shared) (H : Hp) (E : XK), Room 9 (A.deeper (PyProof.Rows.envOfC "_law_are_steps_right" (defScope s_law_are_steps_right) s.heap.objs.size f (.ref cL))) →
      ∃ tT : TS, PSs (cxOf CX0 P w K mg base N_law_are_steps_right "_law_are_steps_right" (defScope s_law_are_steps_right) f (.ref cL) A outer s H E).nox ((defBody s_law_are_steps_right).drop 7) tT ∧
        ∀ (b q c l : Nat) (ss : List Stp) (cf : Conf) (du : PyData) (k0 : Option PyData) (od wr : PyData), Prg c l ss → CfI c l cf → Kd od → OddC c l wr → q + 50 ≤ b + 100 → b + 100 ≤ LIM → EsM K T2 tT (vF q C c l ss cf (some du) k0 (some od) (some wr) none) (RetP (b + 100) (rTrue [gD c l ss, prD C c l (stD ss), cD cf]))) :
    FnOk P w K mg base CX0 10 f (PySem.W.fnOf "_law_are_steps_right" "_law_are_steps_right" (defArgs s_law_are_steps_right) (defBody s_law_are_steps_right) (defScope s_law_are_steps_right) .none kVL docL pmL anL (.ref cL) ctL) ["pen", "program", "made", "configuration"] (spT K T2 3 (pIrr C) 100 rTrue) := by
  refine fn_T (ps := ["program", "made", "configuration"]) lk hcd sc_law_are_steps_right fun A2 outer s H E hr => ?_
  obtain ⟨tT, htl⟩ := tl A2 outer s H E hr
  refine ⟨_, (pss_cons (ps_set (i := 4) sc_law_are_steps_right.nd rfl (by first | exact Or.inl rfl | exact Or.inr rfl) (pe_lc (own := [("k", 5)]) rfl sc_law_are_steps_right.nd (pi_range1 (by rfl) (T.n_range) (pa_cons (pe_callB (k_len (K := K)) (by rfl) (T.n_len) PySem.boot_len (pa_cons (pe_ix (k_ix (K := K)) (pv 1) pe_int (fun _ _ => rfl)) pa_nil)) pa_nil)) (blkOk_by (N := N_law_are_steps_right) (sc := defScope s_law_are_steps_right) (by decide +kernel)) (fun _ _ _ _ _ => (pg_name (i := 5) sc_law_are_steps_right.nd rfl (by first | exact Or.inl rfl | exact Or.inr rfl))) (fun _ _ _ _ _ => pts_nil) (fun _ _ _ _ _ => (pe_own O_law_next (hr.mono (by decide)) (pa_cons (pv 1) (pa_cons (pv 3) (pa_cons (pv 5) pa_nil)))))))
      (pss_cons (ps_if (pt_cmpR (k_neA (K := K) hr.units) (pe_own Osteps_at (hr.mono (by decide)) (pa_cons (pv 2) (pa_cons (pv 3) pa_nil))) (pe_callTy (k_tuple (K := K)) (by rfl) (T.n_tuple) PyProof.Rows.boot_tuple (pa_cons (pe_lc (own := [("k", 5)]) rfl sc_law_are_steps_right.nd (pi_range1 (by rfl) (T.n_range) (pa_cons (pe_callB (k_len (K := K)) (by rfl) (T.n_len) PySem.boot_len (pa_cons (pv 4) pa_nil)) pa_nil)) (blkOk_by (N := N_law_are_steps_right) (sc := defScope s_law_are_steps_right) (by decide +kernel)) (fun _ _ _ _ _ => (pg_name (i := 5) sc_law_are_steps_right.nd rfl (by first | exact Or.inl rfl | exact Or.inr rfl))) (fun _ _ _ _ _ => (pts_one (pt_cmpR op_notN (pe_ix (k_ix (K := K)) (pv 4) (pv 5) (fun _ _ => rfl)) pe_non (nomark _)))) (fun _ _ _ _ _ => (pv 5))) pa_nil)) (nomark _))
        (pss_one (ps_ret pe_bl))
        pss_nil)
      (pss_cons (ps_for PassesOwn.never rfl (pi_range1 (by rfl) (T.n_range) (pa_cons (pe_callB (k_len (K := K)) (by rfl) (T.n_len) PySem.boot_len (pa_cons (pv 4) pa_nil)) pa_nil)) (pg_name (i := 5) sc_law_are_steps_right.nd rfl (by first | exact Or.inl rfl | exact Or.inr rfl))
        (pss_one (ps_if (pt_cmpR (k_neA (K := K) hr.units) (pe_own Onext_one (hr.mono (by decide)) (pa_cons (pv 2) (pa_cons (pv 3) (pa_cons (pv 5) pa_nil)))) (pe_ix (k_ix (K := K)) (pv 4) (pv 5) (fun _ _ => rfl)) (nomark _))
          (pss_one (ps_ret pe_bl))
          pss_nil)))
      (pss_cons (ps_set (i := 6) sc_law_are_steps_right.nd rfl (by first | exact Or.inl rfl | exact Or.inr rfl) (pe_own O_law_pick (hr.mono (by decide)) (pa_cons (pv 0) (pa_cons (pe_lst (pa_cons (pe_un un_neg pe_int) (pa_cons (pe_callB (k_len (K := K)) (by rfl) (T.n_len) PySem.boot_len (pa_cons (pv 4) pa_nil)) (pa_cons pe_bl (pa_cons pe_non (pa_cons pe_str (pa_cons (pe_tup (pa_cons pe_int pa_nil)) pa_nil))))))) pa_nil))))
      (pss_cons (ps_if (pt_cmpR (k_neA (K := K) hr.units) (LamX.pe_lamcall (k := 7) (T := T2) (TT := TTw tab) (a := "call") (t := _) (by rfl) m_wrong k_wrong l_wrong c_wrong b_wrong sc_law_wrong rfl (Or.inl rfl) (gv _ rfl rfl) TB rfl hm hu (hr.mono (by decide)) (LamX.lamS_by (sc := defScope s_law_are_steps_right) (by decide +kernel)) rfl (fun _ _ _ _ _ => rfl) (fun A2 outer2 s2 H2 E2 f2 c2 hr2 => pe_ownX OXnext (hr2.mono (by decide)) (takes_of rfl rfl rfl rfl) (pa_cons (pv 2) (pa_cons (pv 3) (pa_cons (pv 6) pa_nil))))) (pe_tup (pa_cons pe_str (pa_cons pe_str (pa_cons (pv 6) pa_nil)))) (nomark _))
        (pss_one (ps_ret pe_bl))
        pss_nil)
      (pss_cons (ps_set (i := 7) sc_law_are_steps_right.nd rfl (by first | exact Or.inl rfl | exact Or.inr rfl) (pe_own O_law_odd_configuration (hr.mono (by decide)) (pa_cons (pv 0) (pa_cons (pe_ix (k_ix (K := K)) (pv 1) pe_int (fun _ _ => rfl)) (pa_cons (pe_ix (k_ix (K := K)) (pv 1) pe_int (fun _ _ => rfl)) pa_nil)))))
      (pss_cons (ps_if (pw_or (pt_cmpR op_notBl (pe_own Ois_configuration (hr.mono (by decide)) (pa_cons (pv 2) (pa_cons (pv 3) pa_nil))) pe_bl (nomark _)) (pw_or1 (pt_cmpR op_notBl (pe_own Ois_configuration (hr.mono (by decide)) (pa_cons (pv 2) (pa_cons (pv 7) pa_nil))) pe_bl (nomark _)))).pt
        (pss_one (ps_ret pe_bl))
        pss_nil)
      htl.1))))))), ?_⟩
  rintro b ds hb hl ⟨c, l, ss, cf, rfl, hp, hcf, hc3⟩
  have h8 := hp.c8
  have hn8 := hp.n
  have ok1 := SsOk.of hp
  have hcl := hcf.2.2.1
  have hsm : Sm cf.2 := by show cf.2.length ≤ 100; omega
  show EsM K T2 _ (vF b C c l ss cf none none none none none) _
  have hrng : ∀ ρ : En, ρ[1]? = some (some (.d (gD c l ss))) → Ei K (iRng1 (tCons (tCB (rLenS K) (tCons (tOp (rIx K) (tVar 1) (tC (.int 2))) tNil)) tNil)) ρ (rgD ss.length) := fun ρ h1 => by
    have hlen : Ed K (tCB (rLenS K) (tCons (tOp (rIx K) (tVar 1) (tC (.int 2))) tNil)) ρ (.int (ss.map sD).length) := ed_lenS (t := true) (ed_op (ed_var h1) ed_int (rd_ixT (x := stD ss) rfl)) rfl
    have h := ei_rng1 (ea_cons hlen ea_nil) (by rw [List.length_map]; omega) (by rw [List.length_map]; omega)
    rw [Int.toNat_natCast, List.length_map] at h
    exact h
  have hdlen : ∀ (ρ : En), ρ[4]? = some (some (.d (.list (dueL ss cf)))) → Ed K (tCB (rLenS K) (tCons (tVar 4) tNil)) ρ (.int ((ss.length : Nat) : Int)) := fun ρ h4 => (ed_lenS (t := false) (xs := dueL ss cf) (ed_var h4) rfl).to (by rw [due_len])
  have hrng2 : ∀ ρ : En, ρ[4]? = some (some (.d (.list (dueL ss cf)))) → Ei K (iRng1 (tCons (tCB (rLenS K) (tCons (tVar 4) tNil)) tNil)) ρ (rgD ss.length) := fun ρ h4 => by
    have h := ei_rng1 (ea_cons (hdlen ρ h4) ea_nil) (by omega) (by omega)
    rw [Int.toNat_natCast] at h
    exact h
  -- due
  refine eqm_set (R1 := fun ρ1 y => ρ1 = vF b C c l ss cf none none none none none ∧ y = .list (dueL ss cf)) ((ed_lcG (fun k : Nat => PyData.int ((k : Nat) : Int)) (dueAt ss cf) (fun a b h => by injection h with h; rw [Int.ofNat_inj.mp h]) (List.range ss.length) b (hrng _ rfl) (by rw [List.length_range]; omega) vF_pen (fun j hj => ?_) fun k hk => ?_).imp fun ρ1 y h => h) fun ρ1 y h => ?_
  · simp only [List.mem_cons, List.not_mem_nil, or_false, List.map_cons, List.map_nil] at hj
    rcases hj with rfl; rfl
  · have hlt := List.mem_range.mp hk
    refine ⟨_, _, fun j hj => hj, eg_name, ?_, ?_⟩
    · show setPen b (vF b C c l ss cf none (some (.int ((k : Nat) : Int))) none none none) = _
      exact vF_pen
    · show Ed K _ (vF b C c l ss cf none (some (.int ((k : Nat) : Int))) none none none) _
      unfold dueAt
      rw [List.getElem?_eq_getElem hlt]
      exact ed_next (ed_var rfl) (ed_var rfl) (ed_var rfl) ok1 hsm (List.getElem?_eq_getElem hlt)
  obtain ⟨rfl, rfl⟩ := h
  show EsM K T2 _ (vF b C c l ss cf (some (.list (dueL ss cf))) none none none none) _
  have ht : ∀ (u : TS) (o : Out), RetP (b + 100) (rTrue [gD c l ss, prD C c l (stD ss), cD cf]) o → ThenM K T2 u (RetP (b + 100) (rTrue [gD c l ss, prD C c l (stD ss), cD cf])) o := fun u o ho => by
    cases o with
    | nx ρ => obtain ⟨h, _⟩ := ho; cases h
    | rt ρ y => exact ho
    | bk ρ => exact ho
    | ct ρ => exact ho
  -- steps_at
  have hsteps : Ed K (tCall (spR K 2 (pSa C) (rSa C)) [] E0 (tCons (tVar 2) (tCons (tVar 3) tNil))) (vF b C c l ss cf (some (.list (dueL ss cf))) none none none none) (.tuple (kD (ables ss cf))) :=
    ed_call (ea_cons (ed_var rfl) (ea_cons (ed_var rfl) ea_nil)) rfl ⟨c, l, ss, cf, rfl, ok1, hcf.ok h8⟩ fun z hz => by
      obtain ⟨c2, l2, ss2, cf2, e, rfl⟩ := hz
      injection e with e1 e
      injection e with e2 _
      obtain ⟨_, _, e3⟩ := prD_inj e1
      rw [stD_inj e3, cD_inj e2]
  have hsh : SeqAt.shaped (.tuple (kD (ables ss cf))) = true := (lay_kD true _).shaped (by decide)
  have hself : PyData.eqv (.tuple (kD (ables ss cf))) (.tuple (kD (ables ss cf))) = true := SeqAt.eqv_refl _ (lay_kD true _).1
  refine eqm_when (c := false) ((eb_test (ed_op hsteps (ed_cb (ea_cons ((ed_lcNT b (canD ss cf) (fun y => y) (hrng2 _ rfl) (by rw [rgD_len]; omega) vF_pen (fun j hj => ?_) fun y hy => ?_).to (y := .list (kD (ables ss cf))) (by rw [ables_D, List.map_id'])) ea_nil) rc_tupleL) (rd_neA hsh hsh))).to (by rw [hself]; rfl)) (fun z => nomatch z) (fun _ => ?_) (ht _)
  · simp only [List.mem_cons, List.not_mem_nil, or_false, List.map_cons, List.map_nil] at hj
    rcases hj with rfl; rfl
  · obtain ⟨k, hk⟩ := List.mem_iff_getElem?.mp hy
    obtain ⟨rfl, hlt⟩ := rgD_get hk
    obtain ⟨s, hs⟩ : ∃ s, ss[k]? = some s := ⟨_, List.getElem?_eq_getElem hlt⟩
    refine ⟨_, _, fun j hj => hj, eg_name, ?_, ?_, fun _ => ?_⟩
    · show setPen b (vF b C c l ss cf (some (.list (dueL ss cf))) (some (.int ((k : Nat) : Int))) none none none) = _
      exact vF_pen
    · refine (eb_test (ed_op (ed_op (y := .int ((k : Nat) : Int)) (ed_var rfl) (ed_var rfl) (rd_ixL (atI_nat (due_get hs)))) ed_non rd_notN)).to ?_
      rw [optD_non]
      show _ = canI ss cf ((k : Nat) : Int).toNat
      rw [Int.toNat_natCast]
      unfold canI
      rw [hs]
    · exact ed_var rfl
  -- next_one
  refine esm_nx (R := fun ρ1 => ∃ k : Option PyData, ρ1 = vF b C c l ss cf (some (.list (dueL ss cf))) k none none none) (es_forD (xs := rgD ss.length) (hrng2 _ rfl) (fun _ ρ1 => ∃ k : Option PyData, ρ1 = vF b C c l ss cf (some (.list (dueL ss cf))) k none none none) ⟨none, rfl⟩ (fun i x ρ1 hx hI => ?_) fun ρ1 hI => hI) fun ρ1 h => ?_
  · obtain ⟨k0, rfl⟩ := hI
    obtain ⟨rfl, hlt⟩ := rgD_get hx
    obtain ⟨s, hs⟩ : ∃ s, ss[i]? = some s := ⟨_, List.getElem?_eq_getElem hlt⟩
    refine ⟨_, _, eg_name, ?_⟩
    show Es K _ (vF b C c l ss cf (some (.list (dueL ss cf))) (some (.int ((i : Nat) : Int))) none none none) _
    have hnx : Ed K (tCall (spR K 3 (pNx C) (rNx C)) [] E0 (tCons (tVar 2) (tCons (tVar 3) (tCons (tVar 5) tNil)))) (vF b C c l ss cf (some (.list (dueL ss cf))) (some (.int ((i : Nat) : Int))) none none none) (optD (nextI cf s)) :=
      ed_call (ea_cons (ed_var rfl) (ea_cons (ed_var rfl) (ea_cons (ed_var rfl) ea_nil))) rfl ⟨c, l, ss, cf, i, rfl, hcf.ok h8, ok1, hlt⟩ fun z hz => by
        obtain ⟨c2, l2, ss2, cf2, k2, s2, e, hs2, rfl⟩ := hz
        injection e with e1 e
        injection e with e2 e
        injection e with e3 _
        injection e3 with e3
        obtain ⟨_, _, e4⟩ := prD_inj e1
        rw [← stD_inj e4, ← Int.ofNat_inj.mp e3, hs] at hs2
        cases hs2
        rw [cD_inj e2]
    have hso := (lay_opt (nextI cf s)).shaped (by decide)
    refine es_if (c := false) ((eb_test (ed_op hnx (ed_op (y := .int ((i : Nat) : Int)) (ed_var rfl) (ed_var rfl) (rd_ixL (atI_nat (due_get hs)))) (rd_neA hso hso))).to ?_) (fun z => nomatch z) fun _ => es_next ⟨_, rfl⟩
    rw [SeqAt.eqv_refl _ (lay_opt (nextI cf s)).1]; rfl
  obtain ⟨k0, rfl⟩ := h
  -- odd
  refine eqm_set (ev_pick (c0 := b) (i := 0) (xs := [.int (-1), .int ((ss.length : Nat) : Int), .bool true, .none, .str "0", .tuple [.int 0]]) rfl vF_pen (ed_lst (ea_cons (ed_un ed_int ru_neg) (ea_cons (hdlen _ rfl) (ea_cons ed_bl (ea_cons ed_non (ea_cons ed_str (ea_cons (ed_tup (ea_cons ed_int ea_nil) (by show 1 ≤ 1000; decide)) ea_nil)))))) (by show 6 ≤ 1000; decide)) (fun z => nomatch z) (by show 6 < 1000000; decide) (by omega)) fun ρ1 od h => ?_
  obtain ⟨rfl, hod⟩ := h
  rw [vF_pen]
  have hod2 : Pc od ∧ belD ((ss.length : Nat) : Int) od = false := by
    simp only [List.mem_cons, List.not_mem_nil, or_false] at hod
    rcases hod with rfl | rfl | rfl | rfl | rfl | rfl
    · exact ⟨pc_int _, rfl⟩
    · exact ⟨pc_int _, bel_out ss.length⟩
    · exact ⟨pc_bool _, rfl⟩
    · exact ⟨pc_none, rfl⟩
    · exact ⟨pc_str _, rfl⟩
    · exact ⟨pc_seq (t := true) (xs := [.int 0]) (by show 1 ≤ 4; decide) fun x hx => by rw [List.mem_singleton.mp hx]; exact p3_int 0, rfl⟩
  obtain ⟨pod, nod⟩ := hod2
  show EsM K T2 _ (vF (b + 1) C c l ss cf (some (.list (dueL ss cf))) k0 (some od) none none) _
  have okod : RS.okAll [.str "number", .str "step", od] = true := okAll_all fun x hx => by
    simp only [List.mem_cons, List.not_mem_nil, or_false] at hx
    rcases hx with rfl | rfl | rfl
    · exact (pc_str _).eq
    · exact (pc_str _).eq
    · exact pod.eq
  have dpod : PyData.depthAll [.str "number", .str "step", od] ≤ 60 := Nat.le_trans (dpAll_all (n := 10) fun x hx => by
    simp only [List.mem_cons, List.not_mem_nil, or_false] at hx
    rcases hx with rfl | rfl | rfl
    · exact (pc_str _).dp
    · exact (pc_str _).dp
    · exact pod.dp) (by decide)
  refine esm_then (esm_if (R := fun ρ1 x => x = false ∧ ρ1 = vF (b + 1) C c l ss cf (some (.list (dueL ss cf))) k0 (some od) none none) (etm_test (R1 := fun ρ1 y => y = .bool false ∧ ρ1 = vF (b + 1) C c l ss cf (some (.list (dueL ss cf))) k0 (some od) none none) (evm_op (R1 := fun ρ1 y => ρ1 = vF (b + 1) C c l ss cf (some (.list (dueL ss cf))) k0 (some od) none none ∧ y = .tuple [.str "number", .str "step", od]) (R2 := fun ρ1 _ ρ2 y => ρ2 = ρ1 ∧ y = .tuple [.str "number", .str "step", od]) (evm_lamG (i := 0) (c0 := b + 1) rfl (evx_call (R1 := fun ρ1 ds => ds = [prD C c l (stD ss), cD cf, od] ∧ ρ1 = vF (b + 1) C c l ss cf (some (.list (dueL ss cf))) k0 (some od) none none) (R := fun ρ1 kv => kv = [(.str "number", od), (.str "what", .str "step")] ∧ ρ1 = vF (b + 1) C c l ss cf (some (.list (dueL ss cf))) k0 (some od) none none) ((ea_cons (ed_var rfl) (ea_cons (ed_var rfl) (ea_cons (ed_var rfl) ea_nil))).imp fun ρ1 ds h => ⟨h.2, h.1⟩) fun ρ1 ds h => ?_) memN (by decide) fun ρ1 kv h => ?_) (fun ρ1 x h => ?_) fun ρ1 x ρ2 y h1 h2 => ?_) fun ρ1 y h => ?_) (fun ρ1 h => nomatch h.1) fun ρ1 h => ?_)
  · obtain ⟨rfl, rfl⟩ := h
    exact ⟨rfl, ⟨c, l, ss, cf, od, rfl, hcf.ok h8, pod.kd, nod⟩, rfl, rfl⟩
  · obtain ⟨rfl, rfl⟩ := h
    exact ⟨[.str "step", od], ⟨rfl, rfl, True.intro⟩, rfl, rfl⟩
  · obtain ⟨rfl, rfl⟩ := h
    exact ed_tup (ea_cons ed_str (ea_cons ed_str (ea_cons (ed_var rfl) ea_nil))) (by show 3 ≤ 1000; decide)
  · obtain ⟨rfl, rfl⟩ := h1
    obtain ⟨rfl, rfl⟩ := h2
    exact ⟨_, rd_nsameT okod dpod, rfl, rfl⟩
  · obtain ⟨rfl, rfl⟩ := h
    exact ⟨false, rfl, rfl, rfl⟩
  obtain ⟨_, rfl⟩ := h
  refine Es.m (es_next ?_)
  show EsM K T2 _ (vF (b + 1) C c l ss cf (some (.list (dueL ss cf))) k0 (some od) none none) _
  -- wrong
  refine eqm_set (ev_callP (c0 := b + 1) (i := 0) (R := fun ρ1 y => ρ1 = vF (b + 4) C c l ss cf (some (.list (dueL ss cf))) k0 (some od) none none ∧ OddC c l y) rfl (ea_cons (ed_g0 (ed_var rfl)) (ea_cons (ed_g1 (ed_var rfl)) ea_nil)) fun ρ1 ds e => ?_) fun ρ1 wr h => ?_
  · obtain ⟨rfl, rfl⟩ := e
    refine ⟨b + 1, vF_pen.symm, rfl, ⟨c, l, rfl, hc3⟩, by omega, fun y hy => ⟨vF_pen, ?_⟩⟩
    obtain ⟨c2, l2, e, hy⟩ := hy
    injection e with e1 e
    injection e with e2 _
    injection e1 with e1
    injection e2 with e2
    obtain rfl := Int.ofNat_inj.mp e1
    obtain rfl := Int.ofNat_inj.mp e2
    exact hy
  obtain ⟨rfl, hwr⟩ := h
  show EsM K T2 _ (vF (b + 4) C c l ss cf (some (.list (dueL ss cf))) k0 (some od) (some wr) none) _
  have hic : ∀ (i : Nat) (x : PyData), (vF (b + 4) C c l ss cf (some (.list (dueL ss cf))) k0 (some od) (some wr) none)[i]? = some (some (.d x)) → Ok x → Ed K (tCall (spR K 2 (pCf C) (rCf C)) [] E0 (tCons (tVar 2) (tCons (tVar i) tNil))) (vF (b + 4) C c l ss cf (some (.list (dueL ss cf))) k0 (some od) (some wr) none) (.bool (confD c l x)) := fun i x hi hx =>
    ed_call (ea_cons (ed_var rfl) (ea_cons (ed_var hi) ea_nil)) rfl ⟨c, l, stD ss, x, rfl, hx⟩ fun z hz => by
      obtain ⟨c2, l2, st2, x2, e, rfl⟩ := hz
      injection e with e1 e
      injection e with e2 _
      obtain ⟨e3, e4, _⟩ := prD_inj e1
      rw [e3, e4, e2]
  refine eqm_when (c := false) ((eb_or (c := false) (d := false) ((eb_test (ed_op (hic 3 _ rfl (hcf.ok h8).ok) ed_bl rd_notB)).to ?_) fun _ => (eb_test (ed_op (hic 7 _ rfl hwr.data) ed_bl rd_notB)).to ?_).to rfl) (fun z => nomatch z) (fun _ => ?_) (ht _)
  · rw [(hcf.ok h8).good]; rfl
  · rw [hwr.no]; rfl
  exact htl.2 b (b + 4) c l ss cf _ k0 od wr hp hcf pod.kd hwr (by omega) hb
end
end K04
end
section
set_option Elab.async false
set_option linter.all false
set_option autoImplicit false
set_option maxRecDepth 100000
set_option maxHeartbeats 4000000
namespace K04
open PySem PySem.Spec PyProof.Rows L2 RS
abbrev s_law_pen : Stmt := top 29
abbrev N_law_pen : List Str := ["script", "blend", "cell"]
theorem sc_law_pen : FnScope N_law_pen ["script"] (defScope s_law_pen) := ⟨rfl, rfl, rfl, by decide +kernel, rfl, by decide +kernel, by decide +kernel⟩
abbrev s_law_draw : Stmt := top 30
abbrev N_law_draw : List Str := ["pen", "many", "cell", "digit", "mixed"]
theorem sc_law_draw : FnScope N_law_draw ["pen", "many"] (defScope s_law_draw) := ⟨rfl, rfl, rfl, by decide +kernel, rfl, by decide +kernel, by decide +kernel⟩
abbrev s_law_pick : Stmt := top 31
abbrev N_law_pick : List Str := ["pen", "row"]
theorem sc_law_pick : FnScope N_law_pick ["pen", "row"] (defScope s_law_pick) := ⟨rfl, rfl, rfl, by decide +kernel, rfl, by decide +kernel, by decide +kernel⟩
abbrev s_law : Stmt := top 47
abbrev N_law : List Str := ["script", "pen", "lap", "program", "made", "turn", "configuration"]
theorem sc_law : FnScope N_law ["script"] (defScope s_law) := ⟨rfl, rfl, rfl, by decide +kernel, rfl, by decide +kernel, by decide +kernel⟩
section
variable {P : Program} {w : World} {K : PySem.W.Frag} {mg : Str → Option Value} {base : Heap}
theorem ok_pen {f : Addr} {fd : FuncData} (F : Fun K "_law_pen" "_law_pen" s_law_pen f fd) (T : Bi mg) : FnOk P w K mg base CX0 1 f fd ["script"] (spMkPen K) := by
  refine F.ok sc_law_pen (fun vs H Q E h => ?_) (fun cdv A outer s H vs Q E hr h => ⟨tMkPen K, ?_, ?_⟩)
  · obtain ⟨_, _, rfl, _⟩ := h
    rfl
  · exact (pss_cons (ps_set (i := 1) sc_law_pen.nd rfl (by first | exact Or.inl rfl | exact Or.inr rfl) pe_int)
      (pss_cons (ps_for PassesOwn.never rfl (kpi_list (K := K) (pv 0)) (pg_name (i := 2) sc_law_pen.nd rfl (by first | exact Or.inl rfl | exact Or.inr rfl))
        (pss_one (ps_set (i := 1) sc_law_pen.nd rfl (by first | exact Or.inl rfl | exact Or.inr rfl) (pe_op op_mod (pe_callTy call_int1 (by rfl) (T.n_int) PyProof.Rows.boot_int (pa_cons (pe_op op_add (pe_op op_mul (pv 1) pe_int) (pv 2)) pa_nil)) pe_int))))
      (pss_one (ps_ret (pe_disp (pps_cons pe_str (pe_callTy (k_list (K := K)) (by rfl) (T.n_list) PyProof.Rows.boot_list (pa_cons (pv 0) pa_nil)) (pps_cons pe_str pe_int (pps_cons pe_str pe_int (pps_cons pe_str pe_int (pps_cons pe_str (pv 1) pps_nil))))) (by rfl) (by rfl) (fun z => by cases z) (by decide))))))
  · obtain ⟨a, ns, rfl, hS, hn, q⟩ := h
    exact mkpen_ok hS hn q
theorem ok_draw {f : Addr} {fd : FuncData} (F : Fun K "_law_draw" "_law_draw" s_law_draw f fd) (T : Bi mg) : FnOk P w K mg base CX0 1 f fd ["pen", "many"] (spP K 1 pDraw 1 rDraw) := by
  refine F.ok sc_law_draw (fun vs H Q E h => ?_) (fun cdv A outer s H vs Q E hr h => ⟨tDraw K, ?_, draw_sp rfl h⟩)
  · obtain ⟨G, p, c, vs', ds, rfl, _, _, _, _, d, hl, _⟩ := h
    rw [List.length_cons, d.length, hl]
    rfl
  · exact (pss_cons (ps_dput (hu_of hr) (pv 0) pe_str (pe_op op_add (pe_dget (hu_of hr) (pv 0) pe_str (fun _ _ => rfl)) pe_int) rfl)
      (pss_cons (ps_if (pw_and (pt_cmpR op_eq (pe_dget (hu_of hr) (pv 0) pe_str (fun _ _ => rfl)) pe_int (nomark _)) (pw_and1 (pt_cmpR op_lt (pe_dget (hu_of hr) (pv 0) pe_str (fun _ _ => rfl)) (pe_callB (k_len (K := K)) (by rfl) (T.n_len) PySem.boot_len (pa_cons (pe_dget (hu_of hr) (pv 0) pe_str (fun _ _ => rfl)) pa_nil)) (nomark _)))).pt
        (pss_cons (ps_set (i := 2) sc_law_draw.nd rfl (by first | exact Or.inl rfl | exact Or.inr rfl) (pe_ix (k_ix (K := K)) (pe_dget (hu_of hr) (pv 0) pe_str (fun _ _ => rfl)) (pe_dget (hu_of hr) (pv 0) pe_str (fun _ _ => rfl)) (fun _ _ => rfl)))
        (pss_cons (ps_dput (hu_of hr) (pv 0) pe_str (pe_op op_add (pe_dget (hu_of hr) (pv 0) pe_str (fun _ _ => rfl)) pe_int) rfl)
        (pss_one (ps_if (pt_cmpR op_ge (pv 2) (pe_op op_pow pe_int pe_int) (nomark _))
          (pss_one (ps_dput (hu_of hr) (pv 0) pe_str (pe_op op_sub (pv 2) (pe_op op_pow pe_int pe_int)) rfl))
          (pss_one (ps_dput (hu_of hr) (pv 0) pe_str (pe_op op_mod (pe_callTy call_int1 (by rfl) (T.n_int) PyProof.Rows.boot_int (pa_cons (pe_op op_add (pe_op op_mul (pe_dget (hu_of hr) (pv 0) pe_str (fun _ _ => rfl)) pe_int) (pv 2)) pa_nil)) pe_int) rfl))))))
        pss_nil)
      (pss_cons (ps_if (pt_cmpR op_gt (pe_dget (hu_of hr) (pv 0) pe_str (fun _ _ => rfl)) pe_int (nomark _))
        (pss_cons (ps_set (i := 3) sc_law_draw.nd rfl (by first | exact Or.inl rfl | exact Or.inr rfl) (pe_op op_mod (pe_callTy call_int1 (by rfl) (T.n_int) PyProof.Rows.boot_int (pa_cons (pe_dget (hu_of hr) (pv 0) pe_str (fun _ _ => rfl)) pa_nil)) (pv 1)))
        (pss_cons (ps_dput (hu_of hr) (pv 0) pe_str (pe_op op_fdiv (pe_dget (hu_of hr) (pv 0) pe_str (fun _ _ => rfl)) (pv 1)) rfl)
        (pss_one (ps_ret (pv 3)))))
        pss_nil)
      (pss_cons (ps_set (i := 4) sc_law_draw.nd rfl (by first | exact Or.inl rfl | exact Or.inr rfl) (pe_op op_add (pe_op op_add (pe_dget (hu_of hr) (pv 0) pe_str (fun _ _ => rfl)) (pe_op op_mul (pe_dget (hu_of hr) (pv 0) pe_str (fun _ _ => rfl)) pe_int)) pe_int))
      (pss_one (ps_ret (pe_op op_mod (pe_op op_fdiv (pe_callTy call_int1 (by rfl) (T.n_int) PyProof.Rows.boot_int (pa_cons (pe_op op_mod (pe_op op_pow (pv 4) pe_int) pe_int) pa_nil)) pe_int) (pv 1))))))))
theorem ok_pick {f : Addr} {fd : FuncData} (F : Fun K "_law_pick" "_law_pick" s_law_pick f fd) (T : Bi mg) (O_law_draw : OwnD P w K mg base 1 "_law_draw" ["pen", "many"] (spP K 1 pDraw 1 rDraw)) : FnOk P w K mg base CX0 2 f fd ["pen", "row"] (spP K 1 pPick 1 rPick) := by
  refine fn_pen (ps := ["row"]) F sc_law_pick fun cdv A outer s H E hr => ⟨tPick K, ?_, fun c ds hc hl hp => pick_es rfl hc hp⟩
  exact (pss_one (ps_ret (pe_ix (k_ix (K := K)) (pv 1) (pe_own O_law_draw (hr.mono (by decide)) (pa_cons (pv 0) (pa_cons (pe_callB (k_len (K := K)) (by rfl) (T.n_len) PySem.boot_len (pa_cons (pv 1) pa_nil)) pa_nil))) (fun _ _ => rfl))))
end
/-! the law -/
section
variable {P : Program} {w : World} {K : PySem.W.Frag} {mg : Str → Option Value} {base : Heap}
def lF (q : Nat) (la pr ma tu cf : Option PyData) : En := [none, some (.pen q), la.map Sl.d, pr.map Sl.d, ma.map Sl.d, tu.map Sl.d, cf.map Sl.d]
theorem lF_pen {q b : Nat} {la pr ma tu cf : Option PyData} : setPen q (lF b la pr ma tu cf) = lF q la pr ma tu cf := by
  unfold setPen lF
  simp only [List.map_cons, List.map_nil, pn_d]
  rfl
theorem ok_law {C fL cL : Addr} {T2 : Tb} {ocL kVL docL pmL ctL : Value} {odL anL : Option Addr} {oslL : Array (Option Value)}
    (lk : K.lookup fL = some ⟨ocL, odL, .func (PySem.W.fnOf "law" "law" (defArgs s_law) (defBody s_law) (defScope s_law) .none kVL docL pmL anL (.ref cL) ctL), oslL⟩) (hcd : PySem.W.codeIn K (.ref cL) "law" = true) (T : Bi mg)
    (O_law_pen : OwnD P w K mg base 1 "_law_pen" ["script"] (spMkPen K)) (O_law_draw : OwnD P w K mg base 1 "_law_draw" ["pen", "many"] (spP K 1 pDraw 1 rDraw)) (O_law_pick : OwnD P w K mg base 2 "_law_pick" ["pen", "row"] (spP K 1 pPick 1 rPick))
    (O_law_some_program : OwnD P w K mg base 4 "_law_some_program" ["pen"] (spP K 0 pNil 210 rSo)) (O_law_is_kept : OwnD P w K mg base 8 "_law_is_kept" ["pen", "program"] (spP K 1 pIk 1200 rTrue)) (O_law_is_refused : OwnD P w K mg base 9 "_law_is_refused" ["pen", "program"] (spT K T2 1 pIk 1200 rTrue))
    (O_law_made_program : OwnD P w K mg base 7 "_law_made_program" ["program"] (spR K 1 pMp (rMp C))) (O_law_drawn_configuration : OwnD P w K mg base 2 "_law_drawn_configuration" ["pen", "counters", "locations", "most"] (spP K 3 pDc 101 rDc))
    (O_law_are_steps_right : OwnD P w K mg base 10 "_law_are_steps_right" ["pen", "program", "made", "configuration"] (spT K T2 3 (pIrr C) 100 rTrue)) (O_law_is_run_right : OwnD P w K mg base 10 "_law_is_run_right" ["pen", "program", "made", "configuration"] (spT K T2 3 (pIrr C) 40 rTrue)) :
    FnOk P w K mg base CX0 11 fL (PySem.W.fnOf "law" "law" (defArgs s_law) (defBody s_law) (defScope s_law) .none kVL docL pmL anL (.ref cL) ctL) ["script"] (spLawT K (T2.map (·.1))) := by
  refine fn_lawM lk hcd sc_law (by decide) fun A outer s H E hr => ⟨_, (pss_cons (ps_set (i := 1) sc_law.nd rfl (by first | exact Or.inl rfl | exact Or.inr rfl) (pe_own O_law_pen (hr.mono (by decide)) (pa_cons (pv 0) pa_nil)))
      (pss_cons (ps_for PassesOwn.never rfl (pi_range1 (by rfl) (T.n_range) (pa_cons pe_int pa_nil)) (pg_name (i := 2) sc_law.nd rfl (by first | exact Or.inl rfl | exact Or.inr rfl))
        (pss_cons (ps_set (i := 3) sc_law.nd rfl (by first | exact Or.inl rfl | exact Or.inr rfl) (pe_own O_law_some_program (hr.mono (by decide)) (pa_cons (pv 1) pa_nil)))
        (pss_cons (ps_if (pw_or (pt_not (pt_val (pe_own O_law_is_kept (hr.mono (by decide)) (pa_cons (pv 1) (pa_cons (pv 3) pa_nil))))) (pw_or1 (pt_not (pt_val (pe_own O_law_is_refused (hr.mono (by decide)) (pa_cons (pv 1) (pa_cons (pv 3) pa_nil))))))).pt
          (pss_one (ps_ret pe_bl))
          pss_nil)
        (pss_cons (ps_set (i := 4) sc_law.nd rfl (by first | exact Or.inl rfl | exact Or.inr rfl) (pe_own O_law_made_program (hr.mono (by decide)) (pa_cons (pv 3) pa_nil)))
        (pss_one (ps_for PassesOwn.never rfl (pi_range1 (by rfl) (T.n_range) (pa_cons pe_int pa_nil)) (pg_name (i := 5) sc_law.nd rfl (by first | exact Or.inl rfl | exact Or.inr rfl))
          (pss_cons (ps_set (i := 6) sc_law.nd rfl (by first | exact Or.inl rfl | exact Or.inr rfl) (pe_own O_law_drawn_configuration (hr.mono (by decide)) (pa_cons (pv 1) (pa_cons (pe_ix (k_ix (K := K)) (pv 3) pe_int (fun _ _ => rfl)) (pa_cons (pe_ix (k_ix (K := K)) (pv 3) pe_int (fun _ _ => rfl)) (pa_cons (pe_own O_law_pick (hr.mono (by decide)) (pa_cons (pv 1) (pa_cons (pe_lst (pa_cons pe_int (pa_cons pe_int (pa_cons pe_int pa_nil)))) pa_nil))) pa_nil))))))
          (pss_cons (ps_if (pt_not (pt_val (pe_own O_law_are_steps_right (hr.mono (by decide)) (pa_cons (pv 1) (pa_cons (pv 3) (pa_cons (pv 4) (pa_cons (pv 6) pa_nil)))))))
            (pss_one (ps_ret pe_bl))
            pss_nil)
          (pss_one (ps_if (pt_not (pt_val (pe_own O_law_is_run_right (hr.mono (by decide)) (pa_cons (pv 1) (pa_cons (pv 3) (pa_cons (pv 4) (pa_cons (pv 6) pa_nil)))))))
            (pss_one (ps_ret pe_bl))
            pss_nil))))))))))
      (pss_one (ps_ret pe_bl)))), ?_⟩
  show EsM K T2 _ (lF 0 none none none none none) _
  have hLIM : (100000 : Nat) ≤ LIM := by decide
  refine esm_then (esm_rng (n := 4) (ea_cons ed_int ea_nil) (by decide) (fun j ρ => ∃ q la pr ma tu cf, q ≤ j * 5000 ∧ ρ = lF q la pr ma tu cf) ⟨0, none, none, none, none, none, by omega, rfl⟩ (fun j ρ hj hI => ?_) fun ρ hI => Es.m (es_ret ed_bl rfl))
  obtain ⟨q, la, pr, ma, tu, cf, hq, rfl⟩ := hI
  refine ⟨_, _, eg_name, ?_⟩
  show EsM K T2 _ (lF q (some (.int (j : Nat))) pr ma tu cf) _
  refine eqm_set (ev_callP (c0 := q) (i := 1) (R := fun ρ1 y => ρ1 = lF (q + 210) (some (.int (j : Nat))) pr ma tu cf ∧ rSo [] y) rfl ea_nil fun ρ1 ds e => ?_) fun ρ1 y h => ?_
  · obtain ⟨rfl, rfl⟩ := e
    exact ⟨q, lF_pen.symm, rfl, rfl, by omega, fun y hy => ⟨lF_pen, hy⟩⟩
  obtain ⟨rfl, c, l, ss, rfl, hp, hc3, hl4, h5⟩ := h
  have h8 := hp.c8
  have hl1 := hp.l1
  show EsM K T2 _ (lF (q + 210) (some (.int (j : Nat))) (some (gD c l ss)) ma tu cf) _
  refine esm_then (esm_if (R := fun ρ1 x => x = false ∧ ρ1 = lF (q + 2610) (some (.int (j : Nat))) (some (gD c l ss)) ma tu cf) (etm_or (R1 := fun ρ1 x => x = false ∧ ρ1 = lF (q + 1410) (some (.int (j : Nat))) (some (gD c l ss)) ma tu cf) (etm_not (R1 := fun ρ1 x => x = true ∧ ρ1 = lF (q + 1410) (some (.int (j : Nat))) (some (gD c l ss)) ma tu cf) (EvT.m (evt_test (R1 := fun ρ1 y => y = .bool true ∧ ρ1 = lF (q + 1410) (some (.int (j : Nat))) (some (gD c l ss)) ma tu cf) (ev_callP (c0 := q + 210) (i := 1) rfl (ea_cons (ed_var rfl) ea_nil) fun ρ1 ds e => ?_) fun ρ1 y h => ?_)) fun ρ1 x h => ?_) (fun ρ1 h => nomatch h.1) fun ρ1 h => ?_) (fun ρ1 h => nomatch h.1) fun ρ1 h => ?_)
  · obtain ⟨rfl, rfl⟩ := e
    exact ⟨q + 210, lF_pen.symm, rfl, ⟨c, l, ss, rfl, hp, h5, hl4, hc3⟩, by omega, fun y hy => ⟨hy, lF_pen⟩⟩
  · obtain ⟨rfl, rfl⟩ := h
    exact ⟨true, rfl, rfl, rfl⟩
  · obtain ⟨rfl, rfl⟩ := h
    exact ⟨rfl, rfl⟩
  · obtain ⟨_, rfl⟩ := h
    refine etm_not (R1 := fun ρ1 x => x = true ∧ ρ1 = lF (q + 2610) (some (.int (j : Nat))) (some (gD c l ss)) ma tu cf) (etm_test (R1 := fun ρ1 y => y = .bool true ∧ ρ1 = lF (q + 2610) (some (.int (j : Nat))) (some (gD c l ss)) ma tu cf) (evm_callT (c0 := q + 1410) (i := 1) rfl (ea_cons (ed_var rfl) ea_nil) fun ρ1 ds e => ?_) fun ρ1 y h => ?_) fun ρ1 x h => ?_
    · obtain ⟨rfl, rfl⟩ := e
      exact ⟨q + 1410, lF_pen.symm, rfl, ⟨c, l, ss, rfl, hp, h5, hl4, hc3⟩, by omega, fun y hy => ⟨hy, lF_pen⟩⟩
    · obtain ⟨rfl, rfl⟩ := h
      exact ⟨true, rfl, rfl, rfl⟩
    · obtain ⟨rfl, rfl⟩ := h
      exact ⟨rfl, rfl⟩
  obtain ⟨_, rfl⟩ := h
  refine Es.m (es_next ?_)
  show EsM K T2 _ (lF (q + 2610) (some (.int (j : Nat))) (some (gD c l ss)) ma tu cf) _
  refine eqm_set (ed_made (ed_var rfl) hp) fun ρ1 y h => ?_
  obtain ⟨rfl, rfl⟩ := h
  show EsM K T2 _ (lF (q + 2610) (some (.int (j : Nat))) (some (gD c l ss)) (some (prD C c l (stD ss))) tu cf) _
  refine esm_rng (n := 3) (ea_cons ed_int ea_nil) (by decide) (fun i ρ => ∃ q2 tu cf, q2 ≤ q + 2610 + i * 300 ∧ ρ = lF q2 (some (.int (j : Nat))) (some (gD c l ss)) (some (prD C c l (stD ss))) tu cf) ⟨q + 2610, tu, cf, by omega, rfl⟩ (fun i ρ hi hI => ?_) fun ρ hI => ?_
  · obtain ⟨q2, tu2, cf2, hq2, rfl⟩ := hI
    refine ⟨_, _, eg_name, ?_⟩
    show EsM K T2 _ (lF q2 (some (.int (j : Nat))) (some (gD c l ss)) (some (prD C c l (stD ss))) (some (.int (i : Nat))) cf2) _
    refine eqm_set (R1 := fun ρ1 y => ρ1 = lF (q2 + 102) (some (.int (j : Nat))) (some (gD c l ss)) (some (prD C c l (stD ss))) (some (.int (i : Nat))) cf2 ∧ ∃ cf, y = cD cf ∧ CfI c l cf) ((ev_callP (c0 := q2) (i := 1) (R := fun ρ1 y => ρ1 = lF (q2 + 102) (some (.int (j : Nat))) (some (gD c l ss)) (some (prD C c l (stD ss))) (some (.int (i : Nat))) cf2 ∧ ∃ cf, y = cD cf ∧ CfI c l cf) rfl (eva_consd (ed_g0 (ed_var rfl)) (eva_consd (ed_g1 (ed_var rfl)) (eva_one (ev_pick (c0 := q2) (i := 1) (xs := [.int 3, .int 8, .int 41]) rfl lF_pen (ed_lst (ea_cons ed_int (ea_cons ed_int (ea_cons ed_int ea_nil))) (by show 3 ≤ 1000; decide)) (fun z => nomatch z) (by show 3 < 1000000; decide) (by omega))))) fun ρ1 ds h => ?_)) fun ρ1 y h => ?_
    · obtain ⟨_, rfl, _, rfl, y, rfl, rfl, hy⟩ := h
      rw [lF_pen]
      have hm : ∃ m : Nat, y = .int (m : Nat) ∧ 1 ≤ m ∧ m ≤ 1000 := by
        simp only [List.mem_cons, List.not_mem_nil, or_false] at hy
        rcases hy with rfl | rfl | rfl
        · exact ⟨3, rfl, by decide, by decide⟩
        · exact ⟨8, rfl, by decide, by decide⟩
        · exact ⟨41, rfl, by decide, by decide⟩
      obtain ⟨m, rfl, hm1, hm2⟩ := hm
      refine ⟨q2 + 1, lF_pen.symm, rfl, ⟨c, l, m, rfl, by omega, hl1, by omega, hm1, hm2⟩, by omega, fun y hy => ⟨lF_pen, ?_⟩⟩
      obtain ⟨c2, l2, m2, cf, e, rfl, g1, g2, g3, g4⟩ := hy
      injection e with e1 e
      injection e with e2 _
      injection e1 with e1
      injection e2 with e2
      obtain rfl := Int.ofNat_inj.mp e1
      obtain rfl := Int.ofNat_inj.mp e2
      exact ⟨cf, rfl, g1, g2, g3, fun i hi => (g4 i hi).1⟩
    obtain ⟨rfl, cf, rfl, hcf⟩ := h
    show EsM K T2 _ (lF (q2 + 102) (some (.int (j : Nat))) (some (gD c l ss)) (some (prD C c l (stD ss))) (some (.int (i : Nat))) (some (cD cf))) _
    refine esm_then (esm_if (R := fun ρ1 x => x = false ∧ ρ1 = lF (q2 + 202) (some (.int (j : Nat))) (some (gD c l ss)) (some (prD C c l (stD ss))) (some (.int (i : Nat))) (some (cD cf))) (etm_not (R1 := fun ρ1 x => x = true ∧ ρ1 = lF (q2 + 202) (some (.int (j : Nat))) (some (gD c l ss)) (some (prD C c l (stD ss))) (some (.int (i : Nat))) (some (cD cf))) (etm_test (R1 := fun ρ1 y => y = .bool true ∧ ρ1 = lF (q2 + 202) (some (.int (j : Nat))) (some (gD c l ss)) (some (prD C c l (stD ss))) (some (.int (i : Nat))) (some (cD cf))) (evm_callT (c0 := q2 + 102) (i := 1) rfl (ea_cons (ed_var rfl) (ea_cons (ed_var rfl) (ea_cons (ed_var rfl) ea_nil))) fun ρ1 ds e => ?_) fun ρ1 y h => ?_) fun ρ1 x h => ?_) (fun ρ1 h => nomatch h.1) fun ρ1 h => ?_)
    · obtain ⟨rfl, rfl⟩ := e
      exact ⟨q2 + 102, lF_pen.symm, rfl, ⟨c, l, ss, cf, rfl, hp, hcf, hc3⟩, by omega, fun y hy => ⟨hy, lF_pen⟩⟩
    · obtain ⟨rfl, rfl⟩ := h
      exact ⟨true, rfl, rfl, rfl⟩
    · obtain ⟨rfl, rfl⟩ := h
      exact ⟨rfl, rfl⟩
    obtain ⟨_, rfl⟩ := h
    refine Es.m (es_next ?_)
    show EsM K T2 _ (lF (q2 + 202) (some (.int (j : Nat))) (some (gD c l ss)) (some (prD C c l (stD ss))) (some (.int (i : Nat))) (some (cD cf))) _
    refine esm_if (R := fun ρ1 x => x = false ∧ ρ1 = lF (q2 + 242) (some (.int (j : Nat))) (some (gD c l ss)) (some (prD C c l (stD ss))) (some (.int (i : Nat))) (some (cD cf))) (etm_not (R1 := fun ρ1 x => x = true ∧ ρ1 = lF (q2 + 242) (some (.int (j : Nat))) (some (gD c l ss)) (some (prD C c l (stD ss))) (some (.int (i : Nat))) (some (cD cf))) (etm_test (R1 := fun ρ1 y => y = .bool true ∧ ρ1 = lF (q2 + 242) (some (.int (j : Nat))) (some (gD c l ss)) (some (prD C c l (stD ss))) (some (.int (i : Nat))) (some (cD cf))) (evm_callT (c0 := q2 + 202) (i := 1) rfl (ea_cons (ed_var rfl) (ea_cons (ed_var rfl) (ea_cons (ed_var rfl) ea_nil))) fun ρ1 ds e => ?_) fun ρ1 y h => ?_) fun ρ1 x h => ?_) (fun ρ1 h => nomatch h.1) fun ρ1 h => ?_
    · obtain ⟨rfl, rfl⟩ := e
      exact ⟨q2 + 202, lF_pen.symm, rfl, ⟨c, l, ss, cf, rfl, hp, hcf, hc3⟩, by omega, fun y hy => ⟨hy, lF_pen⟩⟩
    · obtain ⟨rfl, rfl⟩ := h
      exact ⟨true, rfl, rfl, rfl⟩
    · obtain ⟨rfl, rfl⟩ := h
      exact ⟨rfl, rfl⟩
    obtain ⟨_, rfl⟩ := h
    exact Es.m (es_next ⟨q2 + 242, some (.int (i : Nat)), some (cD cf), by omega, rfl⟩)
  · obtain ⟨q2, tu2, cf2, hq2, rfl⟩ := hI
    exact ⟨q2, _, _, _, _, _, by omega, rfl⟩
end
end K04
end
section
set_option Elab.async false
set_option linter.all false
set_option autoImplicit false
set_option maxRecDepth 100000
set_option maxHeartbeats 4000000
namespace K04
open PySem PySem.Spec PyProof.Rows L2 RS
/-! steps: the last four statements -/
def stE : Stmt → Expr
  | .Assign _ v _ => v
  | .Expr v _ => v
  | .Return (some v) _ => v
  | _ => .List [] default
def arg0 : Expr → Expr
  | .List (e :: _) _ => e
  | .Call _ (e :: _) _ _ => e
  | e => e
def lamW : Expr → LW
  | .Lambda p b s _ => ⟨p, b, s⟩
  | e => ⟨⟨[], [], none, [], [], none, []⟩, e, default⟩
def lwAt (n : Nat) : LW := lamW (arg0 (stE ((defBody s_law_are_steps_right).getD n (.Return none default))))
section
variable {P : Program} {w : World} {K : PySem.W.Frag} {mg : Str → Option Value} {base : Heap}
abbrev tA1 : TA := tCons (tVar 2) (tCons (tVar 7) tNil)
abbrev tA2 : TA := tCons (tVar 2) (tCons (tVar 7) (tCons (tVar 6) tNil))
abbrev tA3 : TA := tCons (tVar 2) (tCons (tVar 7) (tCons (tTup (tCons (tVar 6) tNil)) tNil))
abbrev Ls4 (K : PySem.W.Frag) (C CC : Addr) : List (LW × (XK → TE)) := [(lwAt 7, fun E => tCallS (spX K 2 (pNcX C) CC kvNc) (fun _ => E) tA1), (lwAt 8, fun E => tCallS (spX K 3 (pNxX C) CC kvNc) (fun _ => E) tA2), (lwAt 9, fun E => tCallS (spX K 3 (pRnX C) CC kvNc) (fun _ => E) tA3)]
theorem tl_ok {C CC f fW cL PL : Addr} {tab : List Cl} {T2 : Tb} {ocW kVW docW pmW ctW cdW : Value} {odW anW : Option Addr} {oslW : Array (Option Value)} (T : Bi mg) (TB : LamX.TabB base mg cL PL)
    (m_wrong : mg "_law_wrong" = some (.ref fW)) (k_wrong : PySem.W.keepIn K (.ref fW) = true) (l_wrong : K.lookup fW = some ⟨ocW, odW, .func (PySem.W.fnOf "_law_wrong" "_law_wrong" (defArgs s_law_wrong) (defBody s_law_wrong) (defScope s_law_wrong) .none kVW docW pmW anW cdW ctW), oslW⟩) (c_wrong : PySem.W.codeIn K cdW "_law_wrong" = true)
    (b_wrong : L2.Binds K (PySem.W.fnOf "_law_wrong" "_law_wrong" (defArgs s_law_wrong) (defBody s_law_wrong) (defScope s_law_wrong) .none kVW docW pmW anW cdW ctW) ["call"] [])
    (gv : ∀ X : Cx, X.K = K → X.mg = mg → LamX.GivesTo X N_law_wrong "_law_wrong" (defScope s_law_wrong) fW cdW (defBody s_law_wrong) "call" "_law_are_steps_right.<locals>.<lambda>" (TTw tab)) (hm : (PL, ("_law_are_steps_right.<locals>.<lambda>" : Str)) ∈ T2) (hu : ∀ p ∈ T2, p.1 = PL → p.2 = ("_law_are_steps_right.<locals>.<lambda>" : Str))
    (memC : ((CC, "configuration", ["configuration"]) : Cl) ∈ tab)
    (X1 : OwnX P w K mg base 7 "steps_at" ["program", "configuration"] (spX K 2 (pNcX C) CC kvNc)) (X2 : OwnX P w K mg base 7 "next_one" ["program", "configuration", "k"] (spX K 3 (pNxX C) CC kvNc)) (X3 : OwnX P w K mg base 7 "behind_run" ["program", "configuration", "run"] (spX K 3 (pRnX C) CC kvNc)) :
    ∀ (A : Around) (outer : List PySem.Env) (s : Shared) (H : Hp) (E : XK), Room 9 (A.deeper (PyProof.Rows.envOfC "_law_are_steps_right" (defScope s_law_are_steps_right) s.heap.objs.size f (.ref cL))) →
      ∃ tT : TS, PSs (cxOf CX0 P w K mg base N_law_are_steps_right "_law_are_steps_right" (defScope s_law_are_steps_right) f (.ref cL) A outer s H E).nox ((defBody s_law_are_steps_right).drop 7) tT ∧
        ∀ (b q c l : Nat) (ss : List Stp) (cf : Conf) (du : PyData) (k0 : Option PyData) (od wr : PyData), Prg c l ss → CfI c l cf → Kd od → OddC c l wr → q + 50 ≤ b + 100 → b + 100 ≤ LIM → EsM K T2 tT (vF q C c l ss cf (some du) k0 (some od) (some wr) none) (RetP (b + 100) (rTrue [gD c l ss, prD C c l (stD ss), cD cf])) := by
  intro A2 outer s H E hr
  have p1 : LamP (cxOf CX0 P w K mg base N_law_are_steps_right "_law_are_steps_right" (defScope s_law_are_steps_right) f (.ref cL) A2 outer s H E).nox 7 (lwAt 7) (fun E => tCallS (spX K 2 (pNcX C) CC kvNc) (fun _ => E) tA1) :=
    ⟨LamX.lamS_by (sc := defScope s_law_are_steps_right) (by decide +kernel), fun _ _ _ _ _ => rfl, fun A outer s H E f c' hr2 => pe_ownX X1 (hr2.mono (by decide)) (takes_of rfl rfl rfl rfl) (pa_cons (pv 2) (pa_cons (pv 7) pa_nil))⟩
  have p2 : LamP (cxOf CX0 P w K mg base N_law_are_steps_right "_law_are_steps_right" (defScope s_law_are_steps_right) f (.ref cL) A2 outer s H E).nox 7 (lwAt 8) (fun E => tCallS (spX K 3 (pNxX C) CC kvNc) (fun _ => E) tA2) :=
    ⟨LamX.lamS_by (sc := defScope s_law_are_steps_right) (by decide +kernel), fun _ _ _ _ _ => rfl, fun A outer s H E f c' hr2 => pe_ownX X2 (hr2.mono (by decide)) (takes_of rfl rfl rfl rfl) (pa_cons (pv 2) (pa_cons (pv 7) (pa_cons (pv 6) pa_nil)))⟩
  have p3 : LamP (cxOf CX0 P w K mg base N_law_are_steps_right "_law_are_steps_right" (defScope s_law_are_steps_right) f (.ref cL) A2 outer s H E).nox 7 (lwAt 9) (fun E => tCallS (spX K 3 (pRnX C) CC kvNc) (fun _ => E) tA3) :=
    ⟨LamX.lamS_by (sc := defScope s_law_are_steps_right) (by decide +kernel), fun _ _ _ _ _ => rfl, fun A outer s H E f c' hr2 => pe_ownX X3 (hr2.mono (by decide)) (takes_of rfl rfl rfl rfl) (pa_cons (pv 2) (pa_cons (pv 7) (pa_cons (pe_tup (pa_cons (pv 6) pa_nil)) pa_nil)))⟩
  have pL : ∀ l t, (l, t) ∈ Ls4 K C CC → LamP (cxOf CX0 P w K mg base N_law_are_steps_right "_law_are_steps_right" (defScope s_law_are_steps_right) f (.ref cL) A2 outer s H E).nox 7 l t := fun l t h => by
    rcases List.mem_cons.mp h with e | h
    · cases e; exact p1
    · rcases List.mem_cons.mp h with e | h
      · cases e; exact p2
      · cases List.mem_singleton.mp h; exact p3
  refine ⟨_, (pss_cons (ps_set (i := 8) sc_law_are_steps_right.nd rfl (by first | exact Or.inl rfl | exact Or.inr rfl) (pe_lst (pa_cons (pe_mkLam (T := T2) TB rfl hm hu p1.sc rfl) pa_nil)))
    (pss_cons (ps_expr (pe_bm PySem.F.plainAttrs_list PySem.F.slot_list_append PySem.F.type_list_append mt_append (pv 8) (pa_cons (pe_mkLam (T := T2) TB rfl hm hu p2.sc rfl) pa_nil)))
    (pss_cons (ps_expr (pe_bm PySem.F.plainAttrs_list PySem.F.slot_list_append PySem.F.type_list_append mt_append (pv 8) (pa_cons (pe_mkLam (T := T2) TB rfl hm hu p3.sc rfl) pa_nil)))
    (pss_one (ps_ret (pe_cmpR (k_eqA (K := K) hr.units) (pe_lcI (own := [("call", 9)]) (tt := fun σ0 => tTest (tOp (rNeA K) (tKept (TTw tab) "_law_are_steps_right.<locals>.<lambda>" _ (Ls4 K C CC) 9 σ0) _)) (te := fun _ => _) rfl sc_law_are_steps_right.nd (kpi_list (K := K) (pv 8)) (blkOk_by (N := N_law_are_steps_right) (sc := defScope s_law_are_steps_right) (by decide +kernel))
      (fun _ _ _ _ _ => (pg_name (i := 9) sc_law_are_steps_right.nd rfl (by first | exact Or.inl rfl | exact Or.inr rfl)))
      (fun pins σ s H C2 cl fp I hf => pts_one (pt_cmpR (k_neA (K := K) hr.units) (pe_kept (k := 7) I hf (by rfl) m_wrong k_wrong l_wrong c_wrong b_wrong sc_law_wrong rfl (Or.inl rfl) (gv _ rfl rfl) (hr.mono (by decide)) pL rfl (by first | exact Or.inl rfl | exact Or.inr rfl)) (pe_tup (pa_cons pe_str (pa_cons (pv 7) pa_nil))) (nomark _)))
      (fun _ _ _ _ _ _ _ _ _ => pe_int)) (pe_lst pa_nil) (nomark _))))))), ?_⟩
  intro b q c l ss cf du k0 od wr hp hcf hod hwr hq hb
  have h8 := hp.c8
  have okw : RS.okAll [.str "configuration", wr] = true := okAll_all fun x hx => by
    simp only [List.mem_cons, List.not_mem_nil, or_false] at hx
    rcases hx with rfl | rfl
    · exact (pc_str _).eq
    · exact hwr.eq
  have dpw : PyData.depthAll [.str "configuration", wr] ≤ 60 := Nat.le_trans (dpAll_all (n := 20) fun x hx => by
    simp only [List.mem_cons, List.not_mem_nil, or_false] at hx
    rcases hx with rfl | rfl
    · exact Nat.le_trans (pc_str _).dp (by decide)
    · exact hwr.dp) (by decide)
  have gv2 : ∀ (xs : List PyData) (j : Nat) (x : PyData), (vF q C c l ss cf (some du) k0 (some od) (some wr) none)[j]? = some (some (.d x)) → j ≠ 8 → ((vF q C c l ss cf (some du) k0 (some od) (some wr) none).set 8 (some (.own xs)))[j]? = some (some (.d x)) := fun xs j x h n => by
    rw [List.getElem?_set_ne (fun z => n z.symm)]; exact h
  refine EsF.m (esf_list (i := 0) (W := lwAt 7) (fun _ _ _ _ => trivial) rfl hm fun x1 => ?_)
  refine esf_app (i := 0) (W := lwAt 8) (xs := [x1]) (up_and (fun _ _ _ _ => trivial) up_kp) rfl hm rfl (by show 1 ≤ 100000; decide) fun x2 => ?_
  refine esf_app (i := 0) (W := lwAt 9) (xs := [x1, x2]) (up_and (up_and (fun _ _ _ _ => trivial) up_kp) up_kp) rfl hm rfl (by show 2 ≤ 100000; decide) fun x3 => ?_
  intro b0 G H2 σ D L hB S To
  have fin : ∀ {te : TE} {B : Bs → Prop}, B b0 → EvB K te ((vF q C c l ss cf (some du) k0 (some od) (some wr) none).set 8 (some (.own [x1, x2, x3]))) B (.list []) → tRet (tOp (rEqA K) te (tLst tNil)) D σ H2 := fun {te B} hb2 h => by
    refine h b0 G H2 σ hb2 S _ fun v G3 H3 S3 d3 => ?_
    refine (ed_lst (K := K) ea_nil (by show 0 ≤ 1000; decide)).runG S3 fun w y ρ2 G4 H4 e S4 g4 d4 => ?_
    obtain ⟨rfl, rfl⟩ := e
    refine rd_eqA (K := K) (x := .list []) (y := .list []) rfl rfl G4 H4 v w S4.sub (d3.mono g4) d4 _ fun u G5 H5 st5 d5 => ?_
    exact (To b0 L (Ge.refl b0)).rt _ _ u σ G5 H5 ⟨rfl, q, rfl, by omega⟩ (S4.step st5) d5
  refine fin hB (evb_calls (K := K) (B := fun b => ((True ∧ Kp "_law_are_steps_right.<locals>.<lambda>" _ (lwAt 7) x1 b) ∧ Kp "_law_are_steps_right.<locals>.<lambda>" _ (lwAt 8) x2 b) ∧ Kp "_law_are_steps_right.<locals>.<lambda>" _ (lwAt 9) x3 b) (i := 8) (j := 9) (q := "_law_are_steps_right.<locals>.<lambda>") (Ls := Ls4 K C CC) (tab := tab) (xs := [x1, x2, x3]) (wd := "configuration") (outs := [wr]) (te := tC (.int 1)) (tb := tTup (tCons (tC (.str "configuration")) (tCons (tVar 7) tNil)))
    (ρ := (vF q C c l ss cf (some du) k0 (some od) (some wr) none).set 8 (some (.own [x1, x2, x3]))) rfl rfl (by show 3 ≤ 100000; decide) okw dpw (ed_tup (ea_cons ed_str (ea_cons (ed_var rfl) ea_nil)) (by show 2 ≤ 1000; decide)) (fun x hx => ?_))
  rcases List.mem_cons.mp hx with rfl | hx
  · exact ⟨lwAt 7, _, CC, ["configuration"], List.mem_cons_self, fun b h => h.1.1.2, memC, by decide, evx_call (R1 := fun ρ1 ds => ds = [prD C c l (stD ss), wr] ∧ ρ1 = (vF q C c l ss cf (some du) k0 (some od) (some wr) none).set 8 (some (.own [x, x2, x3])))
      ((ea_cons (ed_var rfl) (ea_cons (ed_var rfl) ea_nil)).imp fun ρ1 ds h => ⟨h.2, h.1⟩) fun ρ1 ds h => by
        obtain ⟨rfl, rfl⟩ := h
        exact ⟨rfl, ⟨c, l, _, wr, rfl, hwr.data, hwr.no⟩, rfl, ⟨rfl, trivial⟩⟩⟩
  · rcases List.mem_cons.mp hx with rfl | hx
    · exact ⟨lwAt 8, _, CC, ["configuration"], List.mem_cons_of_mem _ List.mem_cons_self, fun b h => h.1.2, memC, by decide, evx_call (R1 := fun ρ1 ds => ds = [prD C c l (stD ss), wr, od] ∧ ρ1 = (vF q C c l ss cf (some du) k0 (some od) (some wr) none).set 8 (some (.own [x1, x, x3])))
        ((ea_cons (ed_var rfl) (ea_cons (ed_var rfl) (ea_cons (ed_var rfl) ea_nil))).imp fun ρ1 ds h => ⟨h.2, h.1⟩) fun ρ1 ds h => by
          obtain ⟨rfl, rfl⟩ := h
          exact ⟨rfl, ⟨c, l, _, wr, od, rfl, hwr.data, hwr.no⟩, rfl, ⟨rfl, trivial⟩⟩⟩
    · obtain rfl := List.mem_singleton.mp hx
      exact ⟨lwAt 9, _, CC, ["configuration"], List.mem_cons_of_mem _ (List.mem_cons_of_mem _ List.mem_cons_self), fun b h => h.2, memC, by decide, evx_call (R1 := fun ρ1 ds => ds = [prD C c l (stD ss), wr, .tuple [od]] ∧ ρ1 = (vF q C c l ss cf (some du) k0 (some od) (some wr) none).set 8 (some (.own [x1, x2, x])))
        ((ea_cons (ed_var rfl) (ea_cons (ed_var rfl) (ea_cons (ed_tup (ea_cons (ed_var rfl) ea_nil) (by show 1 ≤ 1000; decide)) ea_nil))).imp fun ρ1 ds h => ⟨h.2, h.1⟩) fun ρ1 ds h => by
          obtain ⟨rfl, rfl⟩ := h
          exact ⟨rfl, ⟨c, l, _, wr, .tuple [od], rfl, hwr.data, hwr.no⟩, rfl, ⟨rfl, trivial⟩⟩⟩
end
end K04
end
section
set_option Elab.async false
set_option linter.all false
set_option autoImplicit false
set_option maxRecDepth 100000
set_option maxHeartbeats 4000000
namespace K04
open PySem PySem.Spec PyProof.Rows L2 RS
abbrev i_s_BadNumber : Stmt := inClass (top 10) 0
theorem si_BadNumber : FnScope ["self", "what", "number"] ["self", "what", "number"] (defScope i_s_BadNumber) := ⟨rfl, rfl, rfl, by decide +kernel, rfl, by decide +kernel, by decide +kernel⟩
abbrev i_s_BadProgram : Stmt := inClass (top 11) 0
theorem si_BadProgram : FnScope ["self", "index"] ["self", "index"] (defScope i_s_BadProgram) := ⟨rfl, rfl, rfl, by decide +kernel, rfl, by decide +kernel, by decide +kernel⟩
abbrev i_s_BadConfiguration : Stmt := inClass (top 12) 0
theorem si_BadConfiguration : FnScope ["self", "configuration"] ["self", "configuration"] (defScope i_s_BadConfiguration) := ⟨rfl, rfl, rfl, by decide +kernel, rfl, by decide +kernel, by decide +kernel⟩
abbrev i_s_BadStep : Stmt := inClass (top 13) 0
theorem si_BadStep : FnScope ["self", "index"] ["self", "index"] (defScope i_s_BadStep) := ⟨rfl, rfl, rfl, by decide +kernel, rfl, by decide +kernel, by decide +kernel⟩
theorem all_mk {P : Program} {w : World} {K : PySem.W.Frag} {h : Heap} {mg : Str → Option Value} {fa : Addr} (X : K.In h) (G : h.Ns mainGlobals mg) (hfa : mg "law" = some (.ref fa))
  {C_BadNumber : Addr}
  {C_BadProgram : Addr}
  {C_BadConfiguration : Addr}
  {C_BadStep : Addr}
  {C_BadLot : Addr}
  {C_BadReads : Addr}
  {C_Unlike : Addr}
  {C_NotOfKind : Addr}
  {f_BadNumber : Addr}
  {od_BadNumber an_BadNumber : Option Addr} {sl_BadNumber : Array (Option Value)} {oc_BadNumber kV_BadNumber dc_BadNumber pm_BadNumber cd_BadNumber ct_BadNumber : Value}
  {f_BadProgram : Addr}
  {od_BadProgram an_BadProgram : Option Addr} {sl_BadProgram : Array (Option Value)} {oc_BadProgram kV_BadProgram dc_BadProgram pm_BadProgram cd_BadProgram ct_BadProgram : Value}
  {f_BadConfiguration : Addr}
  {od_BadConfiguration an_BadConfiguration : Option Addr} {sl_BadConfiguration : Array (Option Value)} {oc_BadConfiguration kV_BadConfiguration dc_BadConfiguration pm_BadConfiguration cd_BadConfiguration ct_BadConfiguration : Value}
  {f_BadStep : Addr}
  {od_BadStep an_BadStep : Option Addr} {sl_BadStep : Array (Option Value)} {oc_BadStep kV_BadStep dc_BadStep pm_BadStep cd_BadStep ct_BadStep : Value}
  {C f_Program_init f_Program_eq : Addr}
  {od_Program_init an_Program_init : Option Addr} {sl_Program_init : Array (Option Value)} {oc_Program_init kV_Program_init dc_Program_init pm_Program_init cd_Program_init ct_Program_init : Value}
  {od_Program_eq an_Program_eq : Option Addr} {sl_Program_eq : Array (Option Value)} {oc_Program_eq kV_Program_eq dc_Program_eq pm_Program_eq cd_Program_eq ct_Program_eq : Value}
  {c_1 P_1 c_2 P_2 c_3 P_3 cL : Addr} {ts : List Addr}
  {f_is_integer : Addr}
  {od_is_integer an_is_integer : Option Addr} {sl_is_integer : Array (Option Value)} {oc_is_integer kV_is_integer dc_is_integer pm_is_integer cd_is_integer ct_is_integer : Value}
  {f_is_natural : Addr}
  {od_is_natural an_is_natural : Option Addr} {sl_is_natural : Array (Option Value)} {oc_is_natural kV_is_natural dc_is_natural pm_is_natural cd_is_natural ct_is_natural : Value}
  {f_is_below : Addr}
  {od_is_below an_is_below : Option Addr} {sl_is_below : Array (Option Value)} {oc_is_below kV_is_below dc_is_below pm_is_below cd_is_below ct_is_below : Value}
  {f_is_row : Addr}
  {od_is_row an_is_row : Option Addr} {sl_is_row : Array (Option Value)} {oc_is_row kV_is_row dc_is_row pm_is_row cd_is_row ct_is_row : Value}
  {f_are_naturals : Addr}
  {od_are_naturals an_are_naturals : Option Addr} {sl_are_naturals : Array (Option Value)} {oc_are_naturals kV_are_naturals dc_are_naturals pm_are_naturals cd_are_naturals ct_are_naturals : Value}
  {f_is_placed : Addr}
  {od_is_placed an_is_placed : Option Addr} {sl_is_placed : Array (Option Value)} {oc_is_placed kV_is_placed dc_is_placed pm_is_placed cd_is_placed ct_is_placed : Value}
  {f_tupled : Addr}
  {od_tupled an_tupled : Option Addr} {sl_tupled : Array (Option Value)} {oc_tupled kV_tupled dc_tupled pm_tupled cd_tupled ct_tupled : Value}
  {f__is_step : Addr}
  {od__is_step an__is_step : Option Addr} {sl__is_step : Array (Option Value)} {oc__is_step kV__is_step dc__is_step pm__is_step cd__is_step ct__is_step : Value}
  {f_is_configuration : Addr}
  {od_is_configuration an_is_configuration : Option Addr} {sl_is_configuration : Array (Option Value)} {oc_is_configuration kV_is_configuration dc_is_configuration pm_is_configuration cd_is_configuration ct_is_configuration : Value}
  {f_need_configuration : Addr}
  {od_need_configuration an_need_configuration : Option Addr} {sl_need_configuration : Array (Option Value)} {oc_need_configuration kV_need_configuration dc_need_configuration pm_need_configuration cd_need_configuration ct_need_configuration : Value}
  {f__behind : Addr}
  {od__behind an__behind : Option Addr} {sl__behind : Array (Option Value)} {oc__behind kV__behind dc__behind pm__behind cd__behind ct__behind : Value}
  {f__all_behind : Addr}
  {od__all_behind an__all_behind : Option Addr} {sl__all_behind : Array (Option Value)} {oc__all_behind kV__all_behind dc__all_behind pm__all_behind cd__all_behind ct__all_behind : Value}
  {f_steps_at : Addr}
  {od_steps_at an_steps_at : Option Addr} {sl_steps_at : Array (Option Value)} {oc_steps_at kV_steps_at dc_steps_at pm_steps_at cd_steps_at ct_steps_at : Value}
  {f_next_one : Addr}
  {od_next_one an_next_one : Option Addr} {sl_next_one : Array (Option Value)} {oc_next_one kV_next_one dc_next_one pm_next_one cd_next_one ct_next_one : Value}
  {f_behind_run : Addr}
  {od_behind_run an_behind_run : Option Addr} {sl_behind_run : Array (Option Value)} {oc_behind_run kV_behind_run dc_behind_run pm_behind_run cd_behind_run ct_behind_run : Value}
  {f__law_pen : Addr}
  {od__law_pen an__law_pen : Option Addr} {sl__law_pen : Array (Option Value)} {oc__law_pen kV__law_pen dc__law_pen pm__law_pen cd__law_pen ct__law_pen : Value}
  {f__law_draw : Addr}
  {od__law_draw an__law_draw : Option Addr} {sl__law_draw : Array (Option Value)} {oc__law_draw kV__law_draw dc__law_draw pm__law_draw cd__law_draw ct__law_draw : Value}
  {f__law_pick : Addr}
  {od__law_pick an__law_pick : Option Addr} {sl__law_pick : Array (Option Value)} {oc__law_pick kV__law_pick dc__law_pick pm__law_pick cd__law_pick ct__law_pick : Value}
  {f__law_drawn_program : Addr}
  {od__law_drawn_program an__law_drawn_program : Option Addr} {sl__law_drawn_program : Array (Option Value)} {oc__law_drawn_program kV__law_drawn_program dc__law_drawn_program pm__law_drawn_program cd__law_drawn_program ct__law_drawn_program : Value}
  {f__law_next : Addr}
  {od__law_next an__law_next : Option Addr} {sl__law_next : Array (Option Value)} {oc__law_next kV__law_next dc__law_next pm__law_next cd__law_next ct__law_next : Value}
  {f__law_behind : Addr}
  {od__law_behind an__law_behind : Option Addr} {sl__law_behind : Array (Option Value)} {oc__law_behind kV__law_behind dc__law_behind pm__law_behind cd__law_behind ct__law_behind : Value}
  {f__law_wrong : Addr}
  {od__law_wrong an__law_wrong : Option Addr} {sl__law_wrong : Array (Option Value)} {oc__law_wrong kV__law_wrong dc__law_wrong pm__law_wrong cd__law_wrong ct__law_wrong : Value}
  {f__law_listed : Addr}
  {od__law_listed an__law_listed : Option Addr} {sl__law_listed : Array (Option Value)} {oc__law_listed kV__law_listed dc__law_listed pm__law_listed cd__law_listed ct__law_listed : Value}
  {f__law_drawn_configuration : Addr}
  {od__law_drawn_configuration an__law_drawn_configuration : Option Addr} {sl__law_drawn_configuration : Array (Option Value)} {oc__law_drawn_configuration kV__law_drawn_configuration dc__law_drawn_configuration pm__law_drawn_configuration cd__law_drawn_configuration ct__law_drawn_configuration : Value}
  {f__law_odd_configuration : Addr}
  {od__law_odd_configuration an__law_odd_configuration : Option Addr} {sl__law_odd_configuration : Array (Option Value)} {oc__law_odd_configuration kV__law_odd_configuration dc__law_odd_configuration pm__law_odd_configuration cd__law_odd_configuration ct__law_odd_configuration : Value}
  {f__law_made_program : Addr}
  {od__law_made_program an__law_made_program : Option Addr} {sl__law_made_program : Array (Option Value)} {oc__law_made_program kV__law_made_program dc__law_made_program pm__law_made_program cd__law_made_program ct__law_made_program : Value}
  {f__law_some_program : Addr}
  {od__law_some_program an__law_some_program : Option Addr} {sl__law_some_program : Array (Option Value)} {oc__law_some_program kV__law_some_program dc__law_some_program pm__law_some_program cd__law_some_program ct__law_some_program : Value}
  {f__law_is_kept : Addr}
  {od__law_is_kept an__law_is_kept : Option Addr} {sl__law_is_kept : Array (Option Value)} {oc__law_is_kept kV__law_is_kept dc__law_is_kept pm__law_is_kept cd__law_is_kept ct__law_is_kept : Value}
  {f__law_bent_step : Addr}
  {od__law_bent_step an__law_bent_step : Option Addr} {sl__law_bent_step : Array (Option Value)} {oc__law_bent_step kV__law_bent_step dc__law_bent_step pm__law_bent_step cd__law_bent_step ct__law_bent_step : Value}
  {f__law_some_run : Addr}
  {od__law_some_run an__law_some_run : Option Addr} {sl__law_some_run : Array (Option Value)} {oc__law_some_run kV__law_some_run dc__law_some_run pm__law_some_run cd__law_some_run ct__law_some_run : Value}
  {f__law_is_refused : Addr}
  {od__law_is_refused an__law_is_refused : Option Addr} {sl__law_is_refused : Array (Option Value)} {oc__law_is_refused kV__law_is_refused dc__law_is_refused pm__law_is_refused ct__law_is_refused : Value}
  {f__law_are_steps_right : Addr}
  {od__law_are_steps_right an__law_are_steps_right : Option Addr} {sl__law_are_steps_right : Array (Option Value)} {oc__law_are_steps_right kV__law_are_steps_right dc__law_are_steps_right pm__law_are_steps_right ct__law_are_steps_right : Value}
  {f__law_is_run_right : Addr}
  {od__law_is_run_right an__law_is_run_right : Option Addr} {sl__law_is_run_right : Array (Option Value)} {oc__law_is_run_right kV__law_is_run_right dc__law_is_run_right pm__law_is_run_right ct__law_is_run_right : Value}
  {f_law : Addr}
  {od_law an_law : Option Addr} {sl_law : Array (Option Value)} {oc_law kV_law dc_law pm_law ct_law : Value}
  {e_1 : Value} {d_1 : Option Addr} {v_1 : Array Value} {sl__1 : Array (Option Value)}
  {e_2 : Value} {d_2 : Option Addr} {v_2 : Array Value} {sl__2 : Array (Option Value)}
  {e_3 : Value} {d_3 : Option Addr} {v_3 : Array Value} {sl__3 : Array (Option Value)}
  (a_BadNumber : PySem.W.nsIn K mainGlobals "BadNumber" = some (some (.ref C_BadNumber)))
  (x_BadNumber : xcB K C_BadNumber = true)
  (n_BadNumber_what : PySem.W.findIn K (.ref C_BadNumber) "what" = some none)
  (n_BadNumber_number : PySem.W.findIn K (.ref C_BadNumber) "number" = some none)
  (a_BadProgram : PySem.W.nsIn K mainGlobals "BadProgram" = some (some (.ref C_BadProgram)))
  (x_BadProgram : xcB K C_BadProgram = true)
  (n_BadProgram_index : PySem.W.findIn K (.ref C_BadProgram) "index" = some none)
  (a_BadConfiguration : PySem.W.nsIn K mainGlobals "BadConfiguration" = some (some (.ref C_BadConfiguration)))
  (x_BadConfiguration : xcB K C_BadConfiguration = true)
  (n_BadConfiguration_configuration : PySem.W.findIn K (.ref C_BadConfiguration) "configuration" = some none)
  (a_BadStep : PySem.W.nsIn K mainGlobals "BadStep" = some (some (.ref C_BadStep)))
  (x_BadStep : xcB K C_BadStep = true)
  (n_BadStep_index : PySem.W.findIn K (.ref C_BadStep) "index" = some none)
  (a_BadLot : PySem.W.nsIn K mainGlobals "BadLot" = some (some (.ref C_BadLot)))
  (x_BadLot : xcB K C_BadLot = true)
  (n_BadLot_lot : PySem.W.findIn K (.ref C_BadLot) "lot" = some none)
  (a_BadReads : PySem.W.nsIn K mainGlobals "BadReads" = some (some (.ref C_BadReads)))
  (x_BadReads : xcB K C_BadReads = true)
  (n_BadReads_reads : PySem.W.findIn K (.ref C_BadReads) "reads" = some none)
  (a_Unlike : PySem.W.nsIn K mainGlobals "Unlike" = some (some (.ref C_Unlike)))
  (x_Unlike : xcB K C_Unlike = true)
  (n_Unlike_what : PySem.W.findIn K (.ref C_Unlike) "what" = some none)
  (a_NotOfKind : PySem.W.nsIn K mainGlobals "NotOfKind" = some (some (.ref C_NotOfKind)))
  (x_NotOfKind : xcB K C_NotOfKind = true)
  (n_NotOfKind_why : PySem.W.findIn K (.ref C_NotOfKind) "why" = some none)
  (tab : exmB K [C_BadNumber, C_BadProgram, C_BadConfiguration, C_BadStep, C_BadLot, C_BadReads, C_Unlike, C_NotOfKind] = true)
  (i_BadNumber : PySem.W.findIn K (.ref C_BadNumber) "__init__" = some (some (.ref f_BadNumber)))
  (t_BadNumber : PySem.W.typeIn K (.ref f_BadNumber) = some (.type "function"))
  (l_BadNumber : K.lookup f_BadNumber = some ⟨oc_BadNumber, od_BadNumber, .func (PySem.W.fnOf "__init__" "BadNumber.__init__" (defArgs i_s_BadNumber) (defBody i_s_BadNumber) (defScope i_s_BadNumber) .none kV_BadNumber dc_BadNumber pm_BadNumber an_BadNumber cd_BadNumber ct_BadNumber), sl_BadNumber⟩)
  (c_BadNumber : PySem.W.codeIn K cd_BadNumber "BadNumber.__init__" = true)
  (k_BadNumber : PySem.W.keepIn K (.ref f_BadNumber) = true)
  (i_BadProgram : PySem.W.findIn K (.ref C_BadProgram) "__init__" = some (some (.ref f_BadProgram)))
  (t_BadProgram : PySem.W.typeIn K (.ref f_BadProgram) = some (.type "function"))
  (l_BadProgram : K.lookup f_BadProgram = some ⟨oc_BadProgram, od_BadProgram, .func (PySem.W.fnOf "__init__" "BadProgram.__init__" (defArgs i_s_BadProgram) (defBody i_s_BadProgram) (defScope i_s_BadProgram) .none kV_BadProgram dc_BadProgram pm_BadProgram an_BadProgram cd_BadProgram ct_BadProgram), sl_BadProgram⟩)
  (c_BadProgram : PySem.W.codeIn K cd_BadProgram "BadProgram.__init__" = true)
  (k_BadProgram : PySem.W.keepIn K (.ref f_BadProgram) = true)
  (i_BadConfiguration : PySem.W.findIn K (.ref C_BadConfiguration) "__init__" = some (some (.ref f_BadConfiguration)))
  (t_BadConfiguration : PySem.W.typeIn K (.ref f_BadConfiguration) = some (.type "function"))
  (l_BadConfiguration : K.lookup f_BadConfiguration = some ⟨oc_BadConfiguration, od_BadConfiguration, .func (PySem.W.fnOf "__init__" "BadConfiguration.__init__" (defArgs i_s_BadConfiguration) (defBody i_s_BadConfiguration) (defScope i_s_BadConfiguration) .none kV_BadConfiguration dc_BadConfiguration pm_BadConfiguration an_BadConfiguration cd_BadConfiguration ct_BadConfiguration), sl_BadConfiguration⟩)
  (c_BadConfiguration : PySem.W.codeIn K cd_BadConfiguration "BadConfiguration.__init__" = true)
  (k_BadConfiguration : PySem.W.keepIn K (.ref f_BadConfiguration) = true)
  (i_BadStep : PySem.W.findIn K (.ref C_BadStep) "__init__" = some (some (.ref f_BadStep)))
  (t_BadStep : PySem.W.typeIn K (.ref f_BadStep) = some (.type "function"))
  (l_BadStep : K.lookup f_BadStep = some ⟨oc_BadStep, od_BadStep, .func (PySem.W.fnOf "__init__" "BadStep.__init__" (defArgs i_s_BadStep) (defBody i_s_BadStep) (defScope i_s_BadStep) .none kV_BadStep dc_BadStep pm_BadStep an_BadStep cd_BadStep ct_BadStep), sl_BadStep⟩)
  (c_BadStep : PySem.W.codeIn K cd_BadStep "BadStep.__init__" = true)
  (k_BadStep : PySem.W.keepIn K (.ref f_BadStep) = true)
  (a_Program : PySem.W.nsIn K mainGlobals "Program" = some (some (.ref C)))
  (cl_pg : PySem.W.plainGet K C Str.empty = true)
  (cl_hd : PySem.W.hasDictIn K C = true)
  (cl_po : PySem.W.plainOver K C = true)
  (cl_sa : PySem.W.findIn K (.ref C) "__setattr__" = some (some (.builtin "object.__setattr__")))
  (mk_makes : PySem.W.makesIn K C = true)
  (mk_init : PySem.W.findIn K (.ref C) "__init__" = some (some (.ref f_Program_init)))
  (mk_fn : PySem.W.isFn K (.ref f_Program_init) = true)
  (mk_kp : PySem.W.keepIn K (.ref C) = true)
  (eq_f : PySem.W.findIn K (.ref C) "__eq__" = some (some (.ref f_Program_eq)))
  (eq_fn : PySem.W.isFn K (.ref f_Program_eq) = true)
  (in_a : PySem.W.findIn K (.ref C) "__class__" = some (some (.builtin "object.__class__")))
  (in_n : PySem.W.specialIn K (.builtin "object.__class__") "__get__" = some (some (.builtin "getset_descriptor.__get__")))
  (in_t : PySem.W.takesIn K (.builtin "object.__class__") = some true)
  (in_m : PySem.W.mroIn K C (.type "object") = some true)
  (kit : PySem.W.kitOne K (.ref C) (.ref C) = some true)
  (n_Program_counters : PySem.W.findIn K (.ref C) "counters" = some none)
  (n_Program_locations : PySem.W.findIn K (.ref C) "locations" = some none)
  (n_Program_steps : PySem.W.findIn K (.ref C) "steps" = some none)
  (l_Program_init : K.lookup f_Program_init = some ⟨oc_Program_init, od_Program_init, .func (PySem.W.fnOf "__init__" "Program.__init__" (defArgs s_Program_init) (defBody s_Program_init) (defScope s_Program_init) .none kV_Program_init dc_Program_init pm_Program_init an_Program_init cd_Program_init ct_Program_init), sl_Program_init⟩)
  (c_Program_init : PySem.W.codeIn K cd_Program_init "Program.__init__" = true)
  (k_Program_init : PySem.W.keepIn K (.ref f_Program_init) = true)
  (l_Program_eq : K.lookup f_Program_eq = some ⟨oc_Program_eq, od_Program_eq, .func (PySem.W.fnOf "__eq__" "Program.__eq__" (defArgs s_Program_eq) (defBody s_Program_eq) (defScope s_Program_eq) .none kV_Program_eq dc_Program_eq pm_Program_eq an_Program_eq cd_Program_eq ct_Program_eq), sl_Program_eq⟩)
  (c_Program_eq : PySem.W.codeIn K cd_Program_eq "Program.__eq__" = true)
  (k_Program_eq : PySem.W.keepIn K (.ref f_Program_eq) = true)
  (kinds : kindsB K = true)
  (z_len : PySem.W.nsIn K mainGlobals "len" = some none)
  (z_int : PySem.W.nsIn K mainGlobals "int" = some none)
  (z_list : PySem.W.nsIn K mainGlobals "list" = some none)
  (z_tuple : PySem.W.nsIn K mainGlobals "tuple" = some none)
  (z_isinstance : PySem.W.nsIn K mainGlobals "isinstance" = some none)
  (z_range : PySem.W.nsIn K mainGlobals "range" = some none)
  (z_all : PySem.W.nsIn K mainGlobals "all" = some none)
  (z_any : PySem.W.nsIn K mainGlobals "any" = some none)
  (z_enumerate : PySem.W.nsIn K mainGlobals "enumerate" = some none)
  (z_zip : PySem.W.nsIn K mainGlobals "zip" = some none)
  (z_min : PySem.W.nsIn K mainGlobals "min" = some none)
  (z_max : PySem.W.nsIn K mainGlobals "max" = some none)
  (z_bool : PySem.W.nsIn K mainGlobals "bool" = some none)
  (z_str : PySem.W.nsIn K mainGlobals "str" = some none)
  (z_ValueError : PySem.W.nsIn K mainGlobals "ValueError" = some none)
  (g_is_integer : PySem.W.nsIn K mainGlobals "is_integer" = some (some (.ref f_is_integer)))
  (l_is_integer : K.lookup f_is_integer = some ⟨oc_is_integer, od_is_integer, .func (PySem.W.fnOf "is_integer" "is_integer" (defArgs s_is_integer) (defBody s_is_integer) (defScope s_is_integer) .none kV_is_integer dc_is_integer pm_is_integer an_is_integer cd_is_integer ct_is_integer), sl_is_integer⟩)
  (c_is_integer : PySem.W.codeIn K cd_is_integer "is_integer" = true)
  (k_is_integer : PySem.W.keepIn K (.ref f_is_integer) = true)
  (g_is_natural : PySem.W.nsIn K mainGlobals "is_natural" = some (some (.ref f_is_natural)))
  (l_is_natural : K.lookup f_is_natural = some ⟨oc_is_natural, od_is_natural, .func (PySem.W.fnOf "is_natural" "is_natural" (defArgs s_is_natural) (defBody s_is_natural) (defScope s_is_natural) .none kV_is_natural dc_is_natural pm_is_natural an_is_natural cd_is_natural ct_is_natural), sl_is_natural⟩)
  (c_is_natural : PySem.W.codeIn K cd_is_natural "is_natural" = true)
  (k_is_natural : PySem.W.keepIn K (.ref f_is_natural) = true)
  (g_is_below : PySem.W.nsIn K mainGlobals "is_below" = some (some (.ref f_is_below)))
  (l_is_below : K.lookup f_is_below = some ⟨oc_is_below, od_is_below, .func (PySem.W.fnOf "is_below" "is_below" (defArgs s_is_below) (defBody s_is_below) (defScope s_is_below) .none kV_is_below dc_is_below pm_is_below an_is_below cd_is_below ct_is_below), sl_is_below⟩)
  (c_is_below : PySem.W.codeIn K cd_is_below "is_below" = true)
  (k_is_below : PySem.W.keepIn K (.ref f_is_below) = true)
  (g_is_row : PySem.W.nsIn K mainGlobals "is_row" = some (some (.ref f_is_row)))
  (l_is_row : K.lookup f_is_row = some ⟨oc_is_row, od_is_row, .func (PySem.W.fnOf "is_row" "is_row" (defArgs s_is_row) (defBody s_is_row) (defScope s_is_row) .none kV_is_row dc_is_row pm_is_row an_is_row cd_is_row ct_is_row), sl_is_row⟩)
  (c_is_row : PySem.W.codeIn K cd_is_row "is_row" = true)
  (k_is_row : PySem.W.keepIn K (.ref f_is_row) = true)
  (g_are_naturals : PySem.W.nsIn K mainGlobals "are_naturals" = some (some (.ref f_are_naturals)))
  (l_are_naturals : K.lookup f_are_naturals = some ⟨oc_are_naturals, od_are_naturals, .func (PySem.W.fnOf "are_naturals" "are_naturals" (defArgs s_are_naturals) (defBody s_are_naturals) (defScope s_are_naturals) .none kV_are_naturals dc_are_naturals pm_are_naturals an_are_naturals cd_are_naturals ct_are_naturals), sl_are_naturals⟩)
  (c_are_naturals : PySem.W.codeIn K cd_are_naturals "are_naturals" = true)
  (k_are_naturals : PySem.W.keepIn K (.ref f_are_naturals) = true)
  (g_is_placed : PySem.W.nsIn K mainGlobals "is_placed" = some (some (.ref f_is_placed)))
  (l_is_placed : K.lookup f_is_placed = some ⟨oc_is_placed, od_is_placed, .func (PySem.W.fnOf "is_placed" "is_placed" (defArgs s_is_placed) (defBody s_is_placed) (defScope s_is_placed) .none kV_is_placed dc_is_placed pm_is_placed an_is_placed cd_is_placed ct_is_placed), sl_is_placed⟩)
  (c_is_placed : PySem.W.codeIn K cd_is_placed "is_placed" = true)
  (k_is_placed : PySem.W.keepIn K (.ref f_is_placed) = true)
  (g_tupled : PySem.W.nsIn K mainGlobals "tupled" = some (some (.ref f_tupled)))
  (l_tupled : K.lookup f_tupled = some ⟨oc_tupled, od_tupled, .func (PySem.W.fnOf "tupled" "tupled" (defArgs s_tupled) (defBody s_tupled) (defScope s_tupled) .none kV_tupled dc_tupled pm_tupled an_tupled cd_tupled ct_tupled), sl_tupled⟩)
  (c_tupled : PySem.W.codeIn K cd_tupled "tupled" = true)
  (k_tupled : PySem.W.keepIn K (.ref f_tupled) = true)
  (g__is_step : PySem.W.nsIn K mainGlobals "_is_step" = some (some (.ref f__is_step)))
  (l__is_step : K.lookup f__is_step = some ⟨oc__is_step, od__is_step, .func (PySem.W.fnOf "_is_step" "_is_step" (defArgs s_is_step) (defBody s_is_step) (defScope s_is_step) .none kV__is_step dc__is_step pm__is_step an__is_step cd__is_step ct__is_step), sl__is_step⟩)
  (c__is_step : PySem.W.codeIn K cd__is_step "_is_step" = true)
  (k__is_step : PySem.W.keepIn K (.ref f__is_step) = true)
  (g_is_configuration : PySem.W.nsIn K mainGlobals "is_configuration" = some (some (.ref f_is_configuration)))
  (l_is_configuration : K.lookup f_is_configuration = some ⟨oc_is_configuration, od_is_configuration, .func (PySem.W.fnOf "is_configuration" "is_configuration" (defArgs s_is_configuration) (defBody s_is_configuration) (defScope s_is_configuration) .none kV_is_configuration dc_is_configuration pm_is_configuration an_is_configuration cd_is_configuration ct_is_configuration), sl_is_configuration⟩)
  (c_is_configuration : PySem.W.codeIn K cd_is_configuration "is_configuration" = true)
  (k_is_configuration : PySem.W.keepIn K (.ref f_is_configuration) = true)
  (g_need_configuration : PySem.W.nsIn K mainGlobals "need_configuration" = some (some (.ref f_need_configuration)))
  (l_need_configuration : K.lookup f_need_configuration = some ⟨oc_need_configuration, od_need_configuration, .func (PySem.W.fnOf "need_configuration" "need_configuration" (defArgs s_need_configuration) (defBody s_need_configuration) (defScope s_need_configuration) .none kV_need_configuration dc_need_configuration pm_need_configuration an_need_configuration cd_need_configuration ct_need_configuration), sl_need_configuration⟩)
  (c_need_configuration : PySem.W.codeIn K cd_need_configuration "need_configuration" = true)
  (k_need_configuration : PySem.W.keepIn K (.ref f_need_configuration) = true)
  (g__behind : PySem.W.nsIn K mainGlobals "_behind" = some (some (.ref f__behind)))
  (l__behind : K.lookup f__behind = some ⟨oc__behind, od__behind, .func (PySem.W.fnOf "_behind" "_behind" (defArgs s_behind) (defBody s_behind) (defScope s_behind) .none kV__behind dc__behind pm__behind an__behind cd__behind ct__behind), sl__behind⟩)
  (c__behind : PySem.W.codeIn K cd__behind "_behind" = true)
  (k__behind : PySem.W.keepIn K (.ref f__behind) = true)
  (g__all_behind : PySem.W.nsIn K mainGlobals "_all_behind" = some (some (.ref f__all_behind)))
  (l__all_behind : K.lookup f__all_behind = some ⟨oc__all_behind, od__all_behind, .func (PySem.W.fnOf "_all_behind" "_all_behind" (defArgs s_all_behind) (defBody s_all_behind) (defScope s_all_behind) .none kV__all_behind dc__all_behind pm__all_behind an__all_behind cd__all_behind ct__all_behind), sl__all_behind⟩)
  (c__all_behind : PySem.W.codeIn K cd__all_behind "_all_behind" = true)
  (k__all_behind : PySem.W.keepIn K (.ref f__all_behind) = true)
  (g_steps_at : PySem.W.nsIn K mainGlobals "steps_at" = some (some (.ref f_steps_at)))
  (l_steps_at : K.lookup f_steps_at = some ⟨oc_steps_at, od_steps_at, .func (PySem.W.fnOf "steps_at" "steps_at" (defArgs s_steps_at) (defBody s_steps_at) (defScope s_steps_at) .none kV_steps_at dc_steps_at pm_steps_at an_steps_at cd_steps_at ct_steps_at), sl_steps_at⟩)
  (c_steps_at : PySem.W.codeIn K cd_steps_at "steps_at" = true)
  (k_steps_at : PySem.W.keepIn K (.ref f_steps_at) = true)
  (g_next_one : PySem.W.nsIn K mainGlobals "next_one" = some (some (.ref f_next_one)))
  (l_next_one : K.lookup f_next_one = some ⟨oc_next_one, od_next_one, .func (PySem.W.fnOf "next_one" "next_one" (defArgs s_next_one) (defBody s_next_one) (defScope s_next_one) .none kV_next_one dc_next_one pm_next_one an_next_one cd_next_one ct_next_one), sl_next_one⟩)
  (c_next_one : PySem.W.codeIn K cd_next_one "next_one" = true)
  (k_next_one : PySem.W.keepIn K (.ref f_next_one) = true)
  (g_behind_run : PySem.W.nsIn K mainGlobals "behind_run" = some (some (.ref f_behind_run)))
  (l_behind_run : K.lookup f_behind_run = some ⟨oc_behind_run, od_behind_run, .func (PySem.W.fnOf "behind_run" "behind_run" (defArgs s_behind_run) (defBody s_behind_run) (defScope s_behind_run) .none kV_behind_run dc_behind_run pm_behind_run an_behind_run cd_behind_run ct_behind_run), sl_behind_run⟩)
  (c_behind_run : PySem.W.codeIn K cd_behind_run "behind_run" = true)
  (k_behind_run : PySem.W.keepIn K (.ref f_behind_run) = true)
  (g__law_pen : PySem.W.nsIn K mainGlobals "_law_pen" = some (some (.ref f__law_pen)))
  (l__law_pen : K.lookup f__law_pen = some ⟨oc__law_pen, od__law_pen, .func (PySem.W.fnOf "_law_pen" "_law_pen" (defArgs s_law_pen) (defBody s_law_pen) (defScope s_law_pen) .none kV__law_pen dc__law_pen pm__law_pen an__law_pen cd__law_pen ct__law_pen), sl__law_pen⟩)
  (c__law_pen : PySem.W.codeIn K cd__law_pen "_law_pen" = true)
  (k__law_pen : PySem.W.keepIn K (.ref f__law_pen) = true)
  (g__law_draw : PySem.W.nsIn K mainGlobals "_law_draw" = some (some (.ref f__law_draw)))
  (l__law_draw : K.lookup f__law_draw = some ⟨oc__law_draw, od__law_draw, .func (PySem.W.fnOf "_law_draw" "_law_draw" (defArgs s_law_draw) (defBody s_law_draw) (defScope s_law_draw) .none kV__law_draw dc__law_draw pm__law_draw an__law_draw cd__law_draw ct__law_draw), sl__law_draw⟩)
  (c__law_draw : PySem.W.codeIn K cd__law_draw "_law_draw" = true)
  (k__law_draw : PySem.W.keepIn K (.ref f__law_draw) = true)
  (g__law_pick : PySem.W.nsIn K mainGlobals "_law_pick" = some (some (.ref f__law_pick)))
  (l__law_pick : K.lookup f__law_pick = some ⟨oc__law_pick, od__law_pick, .func (PySem.W.fnOf "_law_pick" "_law_pick" (defArgs s_law_pick) (defBody s_law_pick) (defScope s_law_pick) .none kV__law_pick dc__law_pick pm__law_pick an__law_pick cd__law_pick ct__law_pick), sl__law_pick⟩)
  (c__law_pick : PySem.W.codeIn K cd__law_pick "_law_pick" = true)
  (k__law_pick : PySem.W.keepIn K (.ref f__law_pick) = true)
  (g__law_drawn_program : PySem.W.nsIn K mainGlobals "_law_drawn_program" = some (some (.ref f__law_drawn_program)))
  (l__law_drawn_program : K.lookup f__law_drawn_program = some ⟨oc__law_drawn_program, od__law_drawn_program, .func (PySem.W.fnOf "_law_drawn_program" "_law_drawn_program" (defArgs s_law_drawn_program) (defBody s_law_drawn_program) (defScope s_law_drawn_program) .none kV__law_drawn_program dc__law_drawn_program pm__law_drawn_program an__law_drawn_program cd__law_drawn_program ct__law_drawn_program), sl__law_drawn_program⟩)
  (c__law_drawn_program : PySem.W.codeIn K cd__law_drawn_program "_law_drawn_program" = true)
  (k__law_drawn_program : PySem.W.keepIn K (.ref f__law_drawn_program) = true)
  (g__law_next : PySem.W.nsIn K mainGlobals "_law_next" = some (some (.ref f__law_next)))
  (l__law_next : K.lookup f__law_next = some ⟨oc__law_next, od__law_next, .func (PySem.W.fnOf "_law_next" "_law_next" (defArgs s_law_next) (defBody s_law_next) (defScope s_law_next) .none kV__law_next dc__law_next pm__law_next an__law_next cd__law_next ct__law_next), sl__law_next⟩)
  (c__law_next : PySem.W.codeIn K cd__law_next "_law_next" = true)
  (k__law_next : PySem.W.keepIn K (.ref f__law_next) = true)
  (g__law_behind : PySem.W.nsIn K mainGlobals "_law_behind" = some (some (.ref f__law_behind)))
  (l__law_behind : K.lookup f__law_behind = some ⟨oc__law_behind, od__law_behind, .func (PySem.W.fnOf "_law_behind" "_law_behind" (defArgs s_law_behind) (defBody s_law_behind) (defScope s_law_behind) .none kV__law_behind dc__law_behind pm__law_behind an__law_behind cd__law_behind ct__law_behind), sl__law_behind⟩)
  (c__law_behind : PySem.W.codeIn K cd__law_behind "_law_behind" = true)
  (k__law_behind : PySem.W.keepIn K (.ref f__law_behind) = true)
  (g__law_wrong : PySem.W.nsIn K mainGlobals "_law_wrong" = some (some (.ref f__law_wrong)))
  (l__law_wrong : K.lookup f__law_wrong = some ⟨oc__law_wrong, od__law_wrong, .func (PySem.W.fnOf "_law_wrong" "_law_wrong" (defArgs s_law_wrong) (defBody s_law_wrong) (defScope s_law_wrong) .none kV__law_wrong dc__law_wrong pm__law_wrong an__law_wrong cd__law_wrong ct__law_wrong), sl__law_wrong⟩)
  (c__law_wrong : PySem.W.codeIn K cd__law_wrong "_law_wrong" = true)
  (k__law_wrong : PySem.W.keepIn K (.ref f__law_wrong) = true)
  (g__law_listed : PySem.W.nsIn K mainGlobals "_law_listed" = some (some (.ref f__law_listed)))
  (l__law_listed : K.lookup f__law_listed = some ⟨oc__law_listed, od__law_listed, .func (PySem.W.fnOf "_law_listed" "_law_listed" (defArgs s_law_listed) (defBody s_law_listed) (defScope s_law_listed) .none kV__law_listed dc__law_listed pm__law_listed an__law_listed cd__law_listed ct__law_listed), sl__law_listed⟩)
  (c__law_listed : PySem.W.codeIn K cd__law_listed "_law_listed" = true)
  (k__law_listed : PySem.W.keepIn K (.ref f__law_listed) = true)
  (g__law_drawn_configuration : PySem.W.nsIn K mainGlobals "_law_drawn_configuration" = some (some (.ref f__law_drawn_configuration)))
  (l__law_drawn_configuration : K.lookup f__law_drawn_configuration = some ⟨oc__law_drawn_configuration, od__law_drawn_configuration, .func (PySem.W.fnOf "_law_drawn_configuration" "_law_drawn_configuration" (defArgs s_law_drawn_configuration) (defBody s_law_drawn_configuration) (defScope s_law_drawn_configuration) .none kV__law_drawn_configuration dc__law_drawn_configuration pm__law_drawn_configuration an__law_drawn_configuration cd__law_drawn_configuration ct__law_drawn_configuration), sl__law_drawn_configuration⟩)
  (c__law_drawn_configuration : PySem.W.codeIn K cd__law_drawn_configuration "_law_drawn_configuration" = true)
  (k__law_drawn_configuration : PySem.W.keepIn K (.ref f__law_drawn_configuration) = true)
  (g__law_odd_configuration : PySem.W.nsIn K mainGlobals "_law_odd_configuration" = some (some (.ref f__law_odd_configuration)))
  (l__law_odd_configuration : K.lookup f__law_odd_configuration = some ⟨oc__law_odd_configuration, od__law_odd_configuration, .func (PySem.W.fnOf "_law_odd_configuration" "_law_odd_configuration" (defArgs s_law_odd_configuration) (defBody s_law_odd_configuration) (defScope s_law_odd_configuration) .none kV__law_odd_configuration dc__law_odd_configuration pm__law_odd_configuration an__law_odd_configuration cd__law_odd_configuration ct__law_odd_configuration), sl__law_odd_configuration⟩)
  (c__law_odd_configuration : PySem.W.codeIn K cd__law_odd_configuration "_law_odd_configuration" = true)
  (k__law_odd_configuration : PySem.W.keepIn K (.ref f__law_odd_configuration) = true)
  (g__law_made_program : PySem.W.nsIn K mainGlobals "_law_made_program" = some (some (.ref f__law_made_program)))
  (l__law_made_program : K.lookup f__law_made_program = some ⟨oc__law_made_program, od__law_made_program, .func (PySem.W.fnOf "_law_made_program" "_law_made_program" (defArgs s_law_made_program) (defBody s_law_made_program) (defScope s_law_made_program) .none kV__law_made_program dc__law_made_program pm__law_made_program an__law_made_program cd__law_made_program ct__law_made_program), sl__law_made_program⟩)
  (c__law_made_program : PySem.W.codeIn K cd__law_made_program "_law_made_program" = true)
  (k__law_made_program : PySem.W.keepIn K (.ref f__law_made_program) = true)
  (g__law_some_program : PySem.W.nsIn K mainGlobals "_law_some_program" = some (some (.ref f__law_some_program)))
  (l__law_some_program : K.lookup f__law_some_program = some ⟨oc__law_some_program, od__law_some_program, .func (PySem.W.fnOf "_law_some_program" "_law_some_program" (defArgs s_law_some_program) (defBody s_law_some_program) (defScope s_law_some_program) .none kV__law_some_program dc__law_some_program pm__law_some_program an__law_some_program cd__law_some_program ct__law_some_program), sl__law_some_program⟩)
  (c__law_some_program : PySem.W.codeIn K cd__law_some_program "_law_some_program" = true)
  (k__law_some_program : PySem.W.keepIn K (.ref f__law_some_program) = true)
  (g__law_is_kept : PySem.W.nsIn K mainGlobals "_law_is_kept" = some (some (.ref f__law_is_kept)))
  (l__law_is_kept : K.lookup f__law_is_kept = some ⟨oc__law_is_kept, od__law_is_kept, .func (PySem.W.fnOf "_law_is_kept" "_law_is_kept" (defArgs s_law_is_kept) (defBody s_law_is_kept) (defScope s_law_is_kept) .none kV__law_is_kept dc__law_is_kept pm__law_is_kept an__law_is_kept cd__law_is_kept ct__law_is_kept), sl__law_is_kept⟩)
  (c__law_is_kept : PySem.W.codeIn K cd__law_is_kept "_law_is_kept" = true)
  (k__law_is_kept : PySem.W.keepIn K (.ref f__law_is_kept) = true)
  (g__law_bent_step : PySem.W.nsIn K mainGlobals "_law_bent_step" = some (some (.ref f__law_bent_step)))
  (l__law_bent_step : K.lookup f__law_bent_step = some ⟨oc__law_bent_step, od__law_bent_step, .func (PySem.W.fnOf "_law_bent_step" "_law_bent_step" (defArgs s_law_bent_step) (defBody s_law_bent_step) (defScope s_law_bent_step) .none kV__law_bent_step dc__law_bent_step pm__law_bent_step an__law_bent_step cd__law_bent_step ct__law_bent_step), sl__law_bent_step⟩)
  (c__law_bent_step : PySem.W.codeIn K cd__law_bent_step "_law_bent_step" = true)
  (k__law_bent_step : PySem.W.keepIn K (.ref f__law_bent_step) = true)
  (g__law_some_run : PySem.W.nsIn K mainGlobals "_law_some_run" = some (some (.ref f__law_some_run)))
  (l__law_some_run : K.lookup f__law_some_run = some ⟨oc__law_some_run, od__law_some_run, .func (PySem.W.fnOf "_law_some_run" "_law_some_run" (defArgs s_law_some_run) (defBody s_law_some_run) (defScope s_law_some_run) .none kV__law_some_run dc__law_some_run pm__law_some_run an__law_some_run cd__law_some_run ct__law_some_run), sl__law_some_run⟩)
  (c__law_some_run : PySem.W.codeIn K cd__law_some_run "_law_some_run" = true)
  (k__law_some_run : PySem.W.keepIn K (.ref f__law_some_run) = true)
  (g__law_is_refused : PySem.W.nsIn K mainGlobals "_law_is_refused" = some (some (.ref f__law_is_refused)))
  (l__law_is_refused : K.lookup f__law_is_refused = some ⟨oc__law_is_refused, od__law_is_refused, .func (PySem.W.fnOf "_law_is_refused" "_law_is_refused" (defArgs s_law_is_refused) (defBody s_law_is_refused) (defScope s_law_is_refused) .none kV__law_is_refused dc__law_is_refused pm__law_is_refused an__law_is_refused (.ref c_1) ct__law_is_refused), sl__law_is_refused⟩)
  (c__law_is_refused : PySem.W.codeIn K (.ref c_1) "_law_is_refused" = true)
  (k__law_is_refused : PySem.W.keepIn K (.ref f__law_is_refused) = true)
  (g__law_are_steps_right : PySem.W.nsIn K mainGlobals "_law_are_steps_right" = some (some (.ref f__law_are_steps_right)))
  (l__law_are_steps_right : K.lookup f__law_are_steps_right = some ⟨oc__law_are_steps_right, od__law_are_steps_right, .func (PySem.W.fnOf "_law_are_steps_right" "_law_are_steps_right" (defArgs s_law_are_steps_right) (defBody s_law_are_steps_right) (defScope s_law_are_steps_right) .none kV__law_are_steps_right dc__law_are_steps_right pm__law_are_steps_right an__law_are_steps_right (.ref c_2) ct__law_are_steps_right), sl__law_are_steps_right⟩)
  (c__law_are_steps_right : PySem.W.codeIn K (.ref c_2) "_law_are_steps_right" = true)
  (k__law_are_steps_right : PySem.W.keepIn K (.ref f__law_are_steps_right) = true)
  (g__law_is_run_right : PySem.W.nsIn K mainGlobals "_law_is_run_right" = some (some (.ref f__law_is_run_right)))
  (l__law_is_run_right : K.lookup f__law_is_run_right = some ⟨oc__law_is_run_right, od__law_is_run_right, .func (PySem.W.fnOf "_law_is_run_right" "_law_is_run_right" (defArgs s_law_is_run_right) (defBody s_law_is_run_right) (defScope s_law_is_run_right) .none kV__law_is_run_right dc__law_is_run_right pm__law_is_run_right an__law_is_run_right (.ref c_3) ct__law_is_run_right), sl__law_is_run_right⟩)
  (c__law_is_run_right : PySem.W.codeIn K (.ref c_3) "_law_is_run_right" = true)
  (k__law_is_run_right : PySem.W.keepIn K (.ref f__law_is_run_right) = true)
  (g_law : PySem.W.nsIn K mainGlobals "law" = some (some (.ref f_law)))
  (l_law : K.lookup f_law = some ⟨oc_law, od_law, .func (PySem.W.fnOf "law" "law" (defArgs s_law) (defBody s_law) (defScope s_law) .none kV_law dc_law pm_law an_law (.ref cL) ct_law), sl_law⟩)
  (c_law : PySem.W.codeIn K (.ref cL) "law" = true)
  (k_law : PySem.W.keepIn K (.ref f_law) = true)
  (lk_1 : K.lookup c_1 = some ⟨e_1, d_1, .fields v_1, sl__1⟩)
  (v11_1 : v_1[11]? = some (.ref P_1))
  (hd_1 : PySem.W.codeHdIn K c_1 P_1 = true)
  (no_1 : K.lookup P_1 = none)
  (lk_2 : K.lookup c_2 = some ⟨e_2, d_2, .fields v_2, sl__2⟩)
  (v11_2 : v_2[11]? = some (.ref P_2))
  (hd_2 : PySem.W.codeHdIn K c_2 P_2 = true)
  (no_2 : K.lookup P_2 = none)
  (lk_3 : K.lookup c_3 = some ⟨e_3, d_3, .fields v_3, sl__3⟩)
  (v11_3 : v_3[11]? = some (.ref P_3))
  (hd_3 : PySem.W.codeHdIn K c_3 P_3 = true)
  (no_3 : K.lookup P_3 = none)
  (ne : (P_1 == P_2 || P_1 == P_3 || P_2 == P_3) = false)
  (hts : (ts.contains P_1 && ts.contains P_2 && ts.contains P_3) = true) :
    ∃ (fd : FuncData) (cs : List (Addr × Addr)) (T : Tb), T.map (·.1) = cs.map (·.2) ∧ (∀ p ∈ cs, p.2 ∈ ts) ∧ (∀ p ∈ cs, PySem.W.codeHdIn K p.1 p.2 = true) ∧ (∀ p ∈ cs, K.lookup p.2 = none) ∧
        (∀ (s : Shared) (u : Value), BindsTo s fd ⟨[u], []⟩ [("script", u)]) ∧ ∀ base : Heap, K.In base → base.Ns mainGlobals mg → (∀ p ∈ cs, LamX.TabB base mg p.1 p.2) → FnOk P w K mg base CX0 11 fa fd ["script"] (spLawT K (T.map (·.1))) := by
  have e := hfa.symm.trans (PySem.W.mg_of X G g_law)
  cases e
  have T : Bi mg := ⟨PySem.W.mg_none_of X G z_len, PySem.W.mg_none_of X G z_int, PySem.W.mg_none_of X G z_list, PySem.W.mg_none_of X G z_tuple, PySem.W.mg_none_of X G z_isinstance, PySem.W.mg_none_of X G z_range, PySem.W.mg_none_of X G z_all, PySem.W.mg_none_of X G z_any, PySem.W.mg_none_of X G z_enumerate, PySem.W.mg_none_of X G z_zip, PySem.W.mg_none_of X G z_min, PySem.W.mg_none_of X G z_max, PySem.W.mg_none_of X G z_bool, PySem.W.mg_none_of X G z_str, PySem.W.mg_none_of X G z_ValueError⟩
  have Y : Ty K := kinds_ty kinds
  have cl : Cls K C := ⟨cl_pg, cl_hd, cl_po, cl_sa⟩
  have PA : PrA K C := ⟨n_Program_counters, n_Program_locations, n_Program_steps⟩
  have IN : InsT K C := ⟨in_a, in_n, in_t, in_m⟩
  have M_BadNumber : ∀ base, MkX P w K mg base "BadNumber" C_BadNumber ["self", "what", "number"] (spIni2 K C_BadNumber "what" "number") := fun base => mk_2 X G a_BadNumber x_BadNumber i_BadNumber t_BadNumber l_BadNumber c_BadNumber k_BadNumber si_BadNumber rfl rfl rfl rfl (by decide) (by decide) (by decide) (by decide) (fun _ _ _ _ _ _ us hl => match us, hl with | [_, _, _], _ => rfl)
  have M_BadProgram : ∀ base, MkX P w K mg base "BadProgram" C_BadProgram ["self", "index"] (spIni1 K C_BadProgram "index") := fun base => mk_1 X G a_BadProgram x_BadProgram i_BadProgram t_BadProgram l_BadProgram c_BadProgram k_BadProgram si_BadProgram rfl rfl rfl (by decide) (by decide) (fun _ _ _ _ _ _ us hl => match us, hl with | [_, _], _ => rfl)
  have M_BadConfiguration : ∀ base, MkX P w K mg base "BadConfiguration" C_BadConfiguration ["self", "configuration"] (spIni1 K C_BadConfiguration "configuration") := fun base => mk_1 X G a_BadConfiguration x_BadConfiguration i_BadConfiguration t_BadConfiguration l_BadConfiguration c_BadConfiguration k_BadConfiguration si_BadConfiguration rfl rfl rfl (by decide) (by decide) (fun _ _ _ _ _ _ us hl => match us, hl with | [_, _], _ => rfl)
  have M_BadStep : ∀ base, MkX P w K mg base "BadStep" C_BadStep ["self", "index"] (spIni1 K C_BadStep "index") := fun base => mk_1 X G a_BadStep x_BadStep i_BadStep t_BadStep l_BadStep c_BadStep k_BadStep si_BadStep rfl rfl rfl (by decide) (by decide) (fun _ _ _ _ _ _ us hl => match us, hl with | [_, _], _ => rfl)
  have Ois_integer : ∀ base, OwnD P w K mg base 1 "is_integer" ["value"] (spR K 1 p1 (rB isInt)) := fun base => own_mk (st := s_is_integer) X G g_is_integer l_is_integer c_is_integer k_is_integer (fun _ _ _ _ _ _ us hl => match us, hl with | [_], _ => rfl) fun fd F => ok_is_integer F T Y
  have Ois_natural : ∀ base, OwnD P w K mg base 2 "is_natural" ["value"] (spR K 1 p1 (rB natD)) := fun base => own_mk (st := s_is_natural) X G g_is_natural l_is_natural c_is_natural k_is_natural (fun _ _ _ _ _ _ us hl => match us, hl with | [_], _ => rfl) fun fd F => ok_is_natural F (Ois_integer base)
  have Ois_below : ∀ base, OwnD P w K mg base 3 "is_below" ["value", "many"] (spR K 2 p2 (rB2 belD)) := fun base => own_mk (st := s_is_below) X G g_is_below l_is_below c_is_below k_is_below (fun _ _ _ _ _ _ us hl => match us, hl with | [_, _], _ => rfl) fun fd F => ok_is_below F (Ois_natural base)
  have Ois_row : ∀ base, OwnD P w K mg base 1 "is_row" ["value"] (spR K 1 p1 (rB isRow)) := fun base => own_mk (st := s_is_row) X G g_is_row l_is_row c_is_row k_is_row (fun _ _ _ _ _ _ us hl => match us, hl with | [_], _ => rfl) fun fd F => ok_is_row F T Y
  have Oare_naturals : ∀ base, OwnD P w K mg base 3 "are_naturals" ["value", "many"] (spR K 2 pR (rB2 natsD)) := fun base => own_mk (st := s_are_naturals) X G g_are_naturals l_are_naturals c_are_naturals k_are_naturals (fun _ _ _ _ _ _ us hl => match us, hl with | [_, _], _ => rfl) fun fd F => ok_are_naturals F T (Ois_row base) (Ois_natural base)
  have Ois_placed : ∀ base, OwnD P w K mg base 4 "is_placed" ["value", "counters", "locations"] (spR K 3 pSt rPd) := fun base => own_mk (st := s_is_placed) X G g_is_placed l_is_placed c_is_placed k_is_placed (fun _ _ _ _ _ _ us hl => match us, hl with | [_, _, _], _ => rfl) fun fd F => ok_is_placed F T Y (Ois_below base) (Oare_naturals base)
  have Otupled : ∀ base, OwnD P w K mg base 2 "tupled" ["value"] (spR K 1 pT rT) := fun base => own_mk (st := s_tupled) X G g_tupled l_tupled c_tupled k_tupled (fun _ _ _ _ _ _ us hl => match us, hl with | [_], _ => rfl) fun fd F => ok_tupled F T (Ois_row base)
  have O_is_step : ∀ base, OwnD P w K mg base 4 "_is_step" ["value", "counters", "locations"] (spR K 3 pSt rSt) := fun base => own_mk (st := s_is_step) X G g__is_step l__is_step c__is_step k__is_step (fun _ _ _ _ _ _ us hl => match us, hl with | [_, _, _], _ => rfl) fun fd F => ok_is_step F T (Ois_row base) (Ois_below base) (Oare_naturals base)
  have Ois_configuration : ∀ base, OwnD P w K mg base 5 "is_configuration" ["program", "value"] (spR K 2 (pCf C) (rCf C)) := fun base => own_mk (st := s_is_configuration) X G g_is_configuration l_is_configuration c_is_configuration k_is_configuration (fun _ _ _ _ _ _ us hl => match us, hl with | [_, _], _ => rfl) fun fd F => ok_is_configuration F PA (Ois_placed base)
  have Oneed_configuration : ∀ base, OwnD P w K mg base 6 "need_configuration" ["program", "value"] (spR K 2 (pNc C) rNone) := fun base => own_mk (st := s_need_configuration) X G g_need_configuration l_need_configuration c_need_configuration k_need_configuration (fun _ _ _ _ _ _ us hl => match us, hl with | [_, _], _ => rfl) fun fd F => ok_need F (Ois_configuration base)
  have OXneed_configuration : ∀ base, OwnX P w K mg base 6 "need_configuration" ["program", "value"] (spX K 2 (pNcX C) C_BadConfiguration kvNc) := fun base => own_mkX (st := s_need_configuration) X G g_need_configuration l_need_configuration c_need_configuration k_need_configuration (fun _ _ _ _ _ _ us hl => match us, hl with | [_, _], _ => rfl) fun fd F => ok_needX F n_BadConfiguration_configuration (Ois_configuration base) (M_BadConfiguration base)
  have O_behind : ∀ base, OwnD P w K mg base 1 "_behind" ["configuration", "step"] (spR K 2 pBe rBe) := fun base => own_mk (st := s_behind) X G g__behind l__behind c__behind k__behind (fun _ _ _ _ _ _ us hl => match us, hl with | [_, _], _ => rfl) fun fd F => ok_behind F T
  have O_all_behind : ∀ base, OwnD P w K mg base 2 "_all_behind" ["program", "configuration"] (spR K 2 (pAb C) (rAb C)) := fun base => own_mk (st := s_all_behind) X G g__all_behind l__all_behind c__all_behind k__all_behind (fun _ _ _ _ _ _ us hl => match us, hl with | [_, _], _ => rfl) fun fd F => ok_all_behind F T PA (O_behind base)
  have Osteps_at : ∀ base, OwnD P w K mg base 7 "steps_at" ["program", "configuration"] (spR K 2 (pSa C) (rSa C)) := fun base => own_mk (st := s_steps_at) X G g_steps_at l_steps_at c_steps_at k_steps_at (fun _ _ _ _ _ _ us hl => match us, hl with | [_, _], _ => rfl) fun fd F => ok_steps_at F T (Oneed_configuration base) (O_all_behind base)
  have OXsteps_at : ∀ base, OwnX P w K mg base 7 "steps_at" ["program", "configuration"] (spX K 2 (pNcX C) C_BadConfiguration kvNc) := fun base => own_mkX (st := s_steps_at) X G g_steps_at l_steps_at c_steps_at k_steps_at (fun _ _ _ _ _ _ us hl => match us, hl with | [_, _], _ => rfl) fun fd F => ok_steps_atX F T (OXneed_configuration base) (O_all_behind base)
  have Onext_one : ∀ base, OwnD P w K mg base 7 "next_one" ["program", "configuration", "k"] (spR K 3 (pNx C) (rNx C)) := fun base => own_mk (st := s_next_one) X G g_next_one l_next_one c_next_one k_next_one (fun _ _ _ _ _ _ us hl => match us, hl with | [_, _, _], _ => rfl) fun fd F => ok_next_one F T PA (Oneed_configuration base) (Ois_below base) (O_behind base)
  have OXnext_oneC : ∀ base, OwnX P w K mg base 7 "next_one" ["program", "configuration", "k"] (spX K 3 (pNxX C) C_BadConfiguration kvNc) := fun base => own_mkX (st := s_next_one) X G g_next_one l_next_one c_next_one k_next_one (fun _ _ _ _ _ _ us hl => match us, hl with | [_, _, _], _ => rfl) fun fd F => ok_next_oneX F T (OXneed_configuration base) (Ois_below base) (O_behind base) (M_BadNumber base)
  have OXnext_one : ∀ base, OwnX P w K mg base 7 "next_one" ["program", "configuration", "k"] (spX K 3 (pNxK C) C_BadNumber kvNk) := fun base => own_mkX (st := s_next_one) X G g_next_one l_next_one c_next_one k_next_one (fun _ _ _ _ _ _ us hl => match us, hl with | [_, _, _], _ => rfl) fun fd F => ok_next_oneK F T PA n_BadNumber_what n_BadNumber_number (Oneed_configuration base) (Ois_below base) (O_behind base) (M_BadNumber base)
  have Obehind_run : ∀ base, OwnD P w K mg base 7 "behind_run" ["program", "configuration", "run"] (spR K 3 (pRs C) (rRs C)) := fun base => own_mk (st := s_behind_run) X G g_behind_run l_behind_run c_behind_run k_behind_run (fun _ _ _ _ _ _ us hl => match us, hl with | [_, _, _], _ => rfl) fun fd F => ok_behind_runS F T PA (Oneed_configuration base) (Ois_below base) (O_behind base)
  have OXbehind_runC : ∀ base, OwnX P w K mg base 7 "behind_run" ["program", "configuration", "run"] (spX K 3 (pRnX C) C_BadConfiguration kvNc) := fun base => own_mkX (st := s_behind_run) X G g_behind_run l_behind_run c_behind_run k_behind_run (fun _ _ _ _ _ _ us hl => match us, hl with | [_, _, _], _ => rfl) fun fd F => ok_behind_runX F T (OXneed_configuration base) (Ois_below base) (O_behind base) (M_BadStep base)
  have OXbehind_run : ∀ base, OwnX P w K mg base 7 "behind_run" ["program", "configuration", "run"] (spX K 3 (pRnK C) C_BadStep (kvRn C)) := fun base => own_mkX (st := s_behind_run) X G g_behind_run l_behind_run c_behind_run k_behind_run (fun _ _ _ _ _ _ us hl => match us, hl with | [_, _, _], _ => rfl) fun fd F => ok_behind_runK F T PA n_BadStep_index (Oneed_configuration base) (Ois_below base) (O_behind base) (M_BadStep base)
  have bP : Binds K _ ["self", "counters", "locations", "steps"] [] := (fun_mk (st := s_Program_init) l_Program_init c_Program_init k_Program_init).binds (fun _ _ _ _ _ _ us hl => match us, hl with | [_, _, _, _], _ => rfl)
  have M_Program : ∀ base, MkO P w K mg base "Program" C 5 ["self", "counters", "locations", "steps"] (spNew K C 3 pIn fPr) := fun base => ⟨cl, PySem.W.mg_of X G a_Program, f_Program_init, _, ⟨mk_makes, mk_init, mk_fn, mk_kp⟩, ok_init (fun_mk (st := s_Program_init) l_Program_init c_Program_init k_Program_init) T cl PA (Ois_integer base) (Ois_natural base) (Ois_row base) (O_is_step base) (Otupled base), bP⟩
  have MC : ∀ base, MkOX P w K mg base "Program" C 5 ["self", "counters", "locations", "steps"] (spNx K 3 pInC C_BadNumber kvInC) := fun base => ⟨cl, PySem.W.mg_of X G a_Program, f_Program_init, _, ⟨mk_makes, mk_init, mk_fn, mk_kp⟩, ok_initC (C := C) (fun_mk (st := s_Program_init) l_Program_init c_Program_init k_Program_init) T n_BadNumber_what n_BadNumber_number (M_BadNumber base) (M_BadProgram base) (Ois_integer base) (Ois_natural base) (Ois_row base) (O_is_step base) (Otupled base), bP⟩
  have ML : ∀ base, MkOX P w K mg base "Program" C 5 ["self", "counters", "locations", "steps"] (spNx K 3 pInL C_BadNumber kvInL) := fun base => ⟨cl, PySem.W.mg_of X G a_Program, f_Program_init, _, ⟨mk_makes, mk_init, mk_fn, mk_kp⟩, ok_initL (C := C) (fun_mk (st := s_Program_init) l_Program_init c_Program_init k_Program_init) T n_BadNumber_what n_BadNumber_number (M_BadNumber base) (M_BadProgram base) (Ois_integer base) (Ois_natural base) (Ois_row base) (O_is_step base) (Otupled base), bP⟩
  have MP : ∀ base, MkOX P w K mg base "Program" C 5 ["self", "counters", "locations", "steps"] (spNx K 3 pInP C_BadProgram kvInP) := fun base => ⟨cl, PySem.W.mg_of X G a_Program, f_Program_init, _, ⟨mk_makes, mk_init, mk_fn, mk_kp⟩, ok_initP (C := C) (fun_mk (st := s_Program_init) l_Program_init c_Program_init k_Program_init) T n_BadProgram_index (M_BadNumber base) (M_BadProgram base) (Ois_integer base) (Ois_natural base) (Ois_row base) (O_is_step base) (Otupled base), bP⟩
  have QP : ∀ base, EqO P w K mg base C 1 (spR K 2 (pEq C) (rEq C)) := fun base => ⟨f_Program_eq, _, ["self", "other"], ok_eq (fun_mk (st := s_Program_eq) l_Program_eq c_Program_eq k_Program_eq) T PA IN (PySem.W.mg_of X G a_Program) kit, eq_f, eq_fn, (fun_mk (st := s_Program_eq) l_Program_eq c_Program_eq k_Program_eq).binds (fun _ _ _ _ _ _ us hl => match us, hl with | [_, _], _ => rfl)⟩
  have O_law_pen : ∀ base, OwnD P w K mg base 1 "_law_pen" ["script"] (spMkPen K) := fun base => own_mk (st := s_law_pen) X G g__law_pen l__law_pen c__law_pen k__law_pen (fun _ _ _ _ _ _ us hl => match us, hl with | [_], _ => rfl) fun fd F => ok_pen F T
  have O_law_draw : ∀ base, OwnD P w K mg base 1 "_law_draw" ["pen", "many"] (spP K 1 pDraw 1 rDraw) := fun base => own_mk (st := s_law_draw) X G g__law_draw l__law_draw c__law_draw k__law_draw (fun _ _ _ _ _ _ us hl => match us, hl with | [_, _], _ => rfl) fun fd F => ok_draw F T
  have O_law_pick : ∀ base, OwnD P w K mg base 2 "_law_pick" ["pen", "row"] (spP K 1 pPick 1 rPick) := fun base => own_mk (st := s_law_pick) X G g__law_pick l__law_pick c__law_pick k__law_pick (fun _ _ _ _ _ _ us hl => match us, hl with | [_, _], _ => rfl) fun fd F => ok_pick F T (O_law_draw base)
  have O_law_next : ∀ base, OwnD P w K mg base 1 "_law_next" ["program", "configuration", "k"] (spR K 3 pLn rLn) := fun base => own_mk (st := s_law_next) X G g__law_next l__law_next c__law_next k__law_next (fun _ _ _ _ _ _ us hl => match us, hl with | [_, _, _], _ => rfl) fun fd F => ok_law_next F T
  have O_law_behind : ∀ base, OwnD P w K mg base 2 "_law_behind" ["program", "configuration", "run"] (spR K 3 pLb rLb) := fun base => own_mk (st := s_law_behind) X G g__law_behind l__law_behind c__law_behind k__law_behind (fun _ _ _ _ _ _ us hl => match us, hl with | [_, _, _], _ => rfl) fun fd F => ok_law_behind F T (O_law_next base)
  have fLis := fun_mk (st := s_law_listed) l__law_listed c__law_listed k__law_listed
  have O_law_listed : ∀ base, OwnD P w K mg base 5 "_law_listed" ["pen", "row"] (spP K 1 (pLis 4) (bLi 4) rLis) := fun base => ⟨f__law_listed, _, ok_law_listed fLis T Y (PySem.W.mg_of X G g__law_listed) k__law_listed (fLis.binds (fun _ _ _ _ _ _ us hl => match us, hl with | [_, _], _ => rfl)) (O_law_draw base) 4, PySem.W.mg_of X G g__law_listed, k__law_listed, fLis.binds (fun _ _ _ _ _ _ us hl => match us, hl with | [_, _], _ => rfl)⟩
  have O_law_made_program : ∀ base, OwnD P w K mg base 7 "_law_made_program" ["program"] (spR K 1 pMp (rMp C)) := fun base => own_mk (st := s_law_made_program) X G g__law_made_program l__law_made_program c__law_made_program k__law_made_program (fun _ _ _ _ _ _ us hl => match us, hl with | [_], _ => rfl) fun fd F => ok_law_made F (M_Program base)
  have O_law_drawn_configuration : ∀ base, OwnD P w K mg base 2 "_law_drawn_configuration" ["pen", "counters", "locations", "most"] (spP K 3 pDc 101 rDc) := fun base => own_mk (st := s_law_drawn_configuration) X G g__law_drawn_configuration l__law_drawn_configuration c__law_drawn_configuration k__law_drawn_configuration (fun _ _ _ _ _ _ us hl => match us, hl with | [_, _, _, _], _ => rfl) fun fd F => ok_law_conf F T (O_law_draw base)
  have O_law_drawn_program : ∀ base, OwnD P w K mg base 3 "_law_drawn_program" ["pen", "counters", "locations", "most"] (spP K 3 pDp 200 rDp) := fun base => own_mk (st := s_law_drawn_program) X G g__law_drawn_program l__law_drawn_program c__law_drawn_program k__law_drawn_program (fun _ _ _ _ _ _ us hl => match us, hl with | [_, _, _, _], _ => rfl) fun fd F => ok_law_prog F T (O_law_draw base) (O_law_pick base)
  have O_law_some_program : ∀ base, OwnD P w K mg base 4 "_law_some_program" ["pen"] (spP K 0 pNil 210 rSo) := fun base => own_mk (st := s_law_some_program) X G g__law_some_program l__law_some_program c__law_some_program k__law_some_program (fun _ _ _ _ _ _ us hl => match us, hl with | [_], _ => rfl) fun fd F => ok_law_some_program F T (O_law_draw base) (O_law_drawn_program base)
  have O_law_some_run : ∀ base, OwnD P w K mg base 3 "_law_some_run" ["pen", "program", "configuration", "most"] (spP K 3 pSr 30 rSr) := fun base => own_mk (st := s_law_some_run) X G g__law_some_run l__law_some_run c__law_some_run k__law_some_run (fun _ _ _ _ _ _ us hl => match us, hl with | [_, _, _, _], _ => rfl) fun fd F => ok_law_some_run F T (O_law_draw base) (O_law_pick base) (O_law_next base)
  have O_law_is_kept : ∀ base, OwnD P w K mg base 8 "_law_is_kept" ["pen", "program"] (spP K 1 pIk 1200 rTrue) := fun base => own_mk (st := s_law_is_kept) X G g__law_is_kept l__law_is_kept c__law_is_kept k__law_is_kept (fun _ _ _ _ _ _ us hl => match us, hl with | [_, _], _ => rfl) fun fd F => ok_law_is_kept F T PA (QP base) (M_Program base) (O_law_listed base) (O_law_made_program base) (O_law_pick base)
  have O_law_bent_step : ∀ base, OwnD P w K mg base 3 "_law_bent_step" ["pen", "program"] (spP K 1 pBs 3 rBs) := fun base => own_mk (st := s_law_bent_step) X G g__law_bent_step l__law_bent_step c__law_bent_step k__law_bent_step (fun _ _ _ _ _ _ us hl => match us, hl with | [_, _], _ => rfl) fun fd F => ok_law_bent F T (O_law_draw base) (O_law_pick base)
  have O_law_odd_configuration : ∀ base, OwnD P w K mg base 3 "_law_odd_configuration" ["pen", "counters", "locations"] (spP K 2 pOc 3 rOc) := fun base => own_mk (st := s_law_odd_configuration) X G g__law_odd_configuration l__law_odd_configuration c__law_odd_configuration k__law_odd_configuration (fun _ _ _ _ _ _ us hl => match us, hl with | [_, _, _], _ => rfl) fun fd F => ok_law_oddc F T (O_law_draw base) (O_law_pick base)
  have TO : TabOk K [(C_BadNumber, "number", ["what", "number"]), (C_BadProgram, "program", ["index"]), (C_BadConfiguration, "configuration", ["configuration"]), (C_BadStep, "step", ["index"]), (C_BadLot, "lot", ["lot"]), (C_BadReads, "reads", ["reads"]), (C_Unlike, "unlike", ["what"]), (C_NotOfKind, "kind", ["why"])] := exm_tab tab
  have gv : ∀ (q : Str) (Z : Cx), Z.K = K → Z.mg = mg → LamX.GivesTo Z N_law_wrong "_law_wrong" (defScope s_law_wrong) f__law_wrong cd__law_wrong (defBody s_law_wrong) "call" q (TTw [(C_BadNumber, "number", ["what", "number"]), (C_BadProgram, "program", ["index"]), (C_BadConfiguration, "configuration", ["configuration"]), (C_BadStep, "step", ["index"]), (C_BadLot, "lot", ["lot"]), (C_BadReads, "reads", ["reads"]), (C_Unlike, "unlike", ["what"]), (C_NotOfKind, "kind", ["why"])]) := fun q Z e1 e2 => wrong_gives ((congrFun e2 _).trans (PySem.W.mg_of X G a_BadNumber)) (e1 ▸ (xcB_ok x_BadNumber).xf) (e1 ▸ n_BadNumber_what) (e1 ▸ n_BadNumber_number) ((congrFun e2 _).trans (PySem.W.mg_of X G a_BadProgram)) (e1 ▸ (xcB_ok x_BadProgram).xf) (e1 ▸ n_BadProgram_index) ((congrFun e2 _).trans (PySem.W.mg_of X G a_BadConfiguration)) (e1 ▸ (xcB_ok x_BadConfiguration).xf) (e1 ▸ n_BadConfiguration_configuration) ((congrFun e2 _).trans (PySem.W.mg_of X G a_BadStep)) (e1 ▸ (xcB_ok x_BadStep).xf) (e1 ▸ n_BadStep_index) ((congrFun e2 _).trans (PySem.W.mg_of X G a_BadLot)) (e1 ▸ (xcB_ok x_BadLot).xf) (e1 ▸ n_BadLot_lot) ((congrFun e2 _).trans (PySem.W.mg_of X G a_BadReads)) (e1 ▸ (xcB_ok x_BadReads).xf) (e1 ▸ n_BadReads_reads) ((congrFun e2 _).trans (PySem.W.mg_of X G a_Unlike)) (e1 ▸ (xcB_ok x_Unlike).xf) (e1 ▸ n_Unlike_what) ((congrFun e2 _).trans (PySem.W.mg_of X G a_NotOfKind)) (e1 ▸ (xcB_ok x_NotOfKind).xf) (e1 ▸ n_NotOfKind_why) (e1 ▸ TO)
  have bw : Binds K _ ["call"] [] := (fun_mk (st := s_law_wrong) l__law_wrong c__law_wrong k__law_wrong).binds (fun _ _ _ _ _ _ us hl => match us, hl with | [_], _ => rfl)
  simp only [Bool.or_eq_false_iff, beq_eq_false_iff_ne] at ne
  obtain ⟨⟨ne12, ne13⟩, ne23⟩ := ne
  simp only [Bool.and_eq_true, List.contains_iff_mem] at hts
  obtain ⟨⟨in1, in2⟩, in3⟩ := hts
  refine ⟨PySem.W.fnOf "law" "law" (defArgs s_law) (defBody s_law) (defScope s_law) .none kV_law dc_law pm_law an_law (.ref cL) ct_law, [(c_1, P_1), (c_2, P_2), (c_3, P_3)], [(P_1, ("_law_is_refused.<locals>.<lambda>" : Str)), (P_2, ("_law_are_steps_right.<locals>.<lambda>" : Str)), (P_3, ("_law_is_run_right.<locals>.<lambda>" : Str))], rfl, fun p hp => ?_, fun p hp => ?_, fun p hp => ?_, fun s v => .of_eq rfl, fun base _ _ TB => ?_⟩
  · simp only [List.mem_cons, List.not_mem_nil, or_false] at hp
    rcases hp with rfl | rfl | rfl
    · exact in1
    · exact in2
    · exact in3
  · simp only [List.mem_cons, List.not_mem_nil, or_false] at hp
    rcases hp with rfl | rfl | rfl
    · exact hd_1
    · exact hd_2
    · exact hd_3
  · simp only [List.mem_cons, List.not_mem_nil, or_false] at hp
    rcases hp with rfl | rfl | rfl
    · exact no_1
    · exact no_2
    · exact no_3
  have TB1 := TB (c_1, P_1) (by simp)
  have TB2 := TB (c_2, P_2) (by simp)
  have TB3 := TB (c_3, P_3) (by simp)
  have O_law_is_refused : OwnD P w K mg base 9 "_law_is_refused" ["pen", "program"] (spT K [(P_1, ("_law_is_refused.<locals>.<lambda>" : Str)), (P_2, ("_law_are_steps_right.<locals>.<lambda>" : Str)), (P_3, ("_law_is_run_right.<locals>.<lambda>" : Str))] 1 pIk 1200 rTrue) := ⟨f__law_is_refused, _, ok_law_refused l__law_is_refused c__law_is_refused T TB1 (PySem.W.mg_of X G g__law_wrong) k__law_wrong l__law_wrong c__law_wrong bw (gv _) (by simp) (fun p hp e => by
    simp only [List.mem_cons, List.not_mem_nil, or_false] at hp
    rcases hp with rfl | rfl | rfl <;> first | rfl | exact absurd e ne12 | exact absurd e.symm ne12 | exact absurd e ne13 | exact absurd e.symm ne13 | exact absurd e ne23 | exact absurd e.symm ne23) (by simp) (by simp) (MC base) (ML base) (MP base) (O_law_draw base) (O_law_pick base) (O_law_listed base) (O_law_bent_step base), PySem.W.mg_of X G g__law_is_refused, k__law_is_refused, (fun_mk (st := s_law_is_refused) l__law_is_refused c__law_is_refused k__law_is_refused).binds (fun _ _ _ _ _ _ us hl => match us, hl with | [_, _], _ => rfl)⟩
  have O_law_are_steps_right : OwnD P w K mg base 10 "_law_are_steps_right" ["pen", "program", "made", "configuration"] (spT K [(P_1, ("_law_is_refused.<locals>.<lambda>" : Str)), (P_2, ("_law_are_steps_right.<locals>.<lambda>" : Str)), (P_3, ("_law_is_run_right.<locals>.<lambda>" : Str))] 3 (pIrr C) 100 rTrue) := ⟨f__law_are_steps_right, _, ok_law_steps_right l__law_are_steps_right c__law_are_steps_right T TB2 (PySem.W.mg_of X G g__law_wrong) k__law_wrong l__law_wrong c__law_wrong bw (gv _) (by simp) (fun p hp e => by
    simp only [List.mem_cons, List.not_mem_nil, or_false] at hp
    rcases hp with rfl | rfl | rfl <;> first | rfl | exact absurd e ne12 | exact absurd e.symm ne12 | exact absurd e ne13 | exact absurd e.symm ne13 | exact absurd e ne23 | exact absurd e.symm ne23) (by simp) (OXnext_one base) (Onext_one base) (Osteps_at base) (Ois_configuration base) (O_law_pick base) (O_law_next base) (O_law_odd_configuration base) (tl_ok T TB2 (PySem.W.mg_of X G g__law_wrong) k__law_wrong l__law_wrong c__law_wrong bw (gv _) (by simp) (fun p hp e => by
    simp only [List.mem_cons, List.not_mem_nil, or_false] at hp
    rcases hp with rfl | rfl | rfl <;> first | rfl | exact absurd e ne12 | exact absurd e.symm ne12 | exact absurd e ne13 | exact absurd e.symm ne13 | exact absurd e ne23 | exact absurd e.symm ne23) (by simp) (OXsteps_at base) (OXnext_oneC base) (OXbehind_runC base)), PySem.W.mg_of X G g__law_are_steps_right, k__law_are_steps_right, (fun_mk (st := s_law_are_steps_right) l__law_are_steps_right c__law_are_steps_right k__law_are_steps_right).binds (fun _ _ _ _ _ _ us hl => match us, hl with | [_, _, _, _], _ => rfl)⟩
  have O_law_is_run_right : OwnD P w K mg base 10 "_law_is_run_right" ["pen", "program", "made", "configuration"] (spT K [(P_1, ("_law_is_refused.<locals>.<lambda>" : Str)), (P_2, ("_law_are_steps_right.<locals>.<lambda>" : Str)), (P_3, ("_law_is_run_right.<locals>.<lambda>" : Str))] 3 (pIrr C) 40 rTrue) := ⟨f__law_is_run_right, _, ok_law_run_right l__law_is_run_right c__law_is_run_right T TB3 (PySem.W.mg_of X G g__law_wrong) k__law_wrong l__law_wrong c__law_wrong bw (gv _) (by simp) (fun p hp e => by
    simp only [List.mem_cons, List.not_mem_nil, or_false] at hp
    rcases hp with rfl | rfl | rfl <;> first | rfl | exact absurd e ne12 | exact absurd e.symm ne12 | exact absurd e ne13 | exact absurd e.symm ne13 | exact absurd e ne23 | exact absurd e.symm ne23) (by simp) (OXbehind_run base) (Obehind_run base) (O_law_draw base) (O_law_pick base) (O_law_next base) (O_law_behind base) (O_law_some_run base), PySem.W.mg_of X G g__law_is_run_right, k__law_is_run_right, (fun_mk (st := s_law_is_run_right) l__law_is_run_right c__law_is_run_right k__law_is_run_right).binds (fun _ _ _ _ _ _ us hl => match us, hl with | [_, _, _, _], _ => rfl)⟩
  exact ok_law l_law c_law T (O_law_pen base) (O_law_draw base) (O_law_pick base) (O_law_some_program base) (O_law_is_kept base) O_law_is_refused (O_law_made_program base) (O_law_drawn_configuration base) O_law_are_steps_right O_law_is_run_right
end K04
end
section
set_option Elab.async false
set_option maxRecDepth 100000
open PySem PySem.W PyProof.Rows
set_option maxRecDepth 100000 in
set_option maxHeartbeats 0 in
theorem PySem.Challenge.cw_numberwall_k04_whole_steps_and_runs_holds : PySem.Challenge.rw_numberwall_k04_whole_steps_and_runs.Holds := by
  w_on; o_law; k_head; (case hw => w_witness2)
  k_fill
  refine RS.walkM (k := 11) _ (l := PySem.Challenge.rw_numberwall_k04_whole_steps_and_runs) rfl rfl ?hk (fun w h Y => PySem.W.km_in_of Y) (fun w h Y => PySem.W.km_tabs_of Y) ?F
  case hk => exact ⟨rfl, by decide, by decide⟩
  case F =>
    intro w mg fa h KX G hmg
    refine' K04.all_mk KX G hmg ?a_BadNumber ?x_BadNumber ?n_BadNumber_what ?n_BadNumber_number ?a_BadProgram ?x_BadProgram ?n_BadProgram_index ?a_BadConfiguration ?x_BadConfiguration ?n_BadConfiguration_configuration ?a_BadStep ?x_BadStep ?n_BadStep_index ?a_BadLot ?x_BadLot ?n_BadLot_lot ?a_BadReads ?x_BadReads ?n_BadReads_reads ?a_Unlike ?x_Unlike ?n_Unlike_what ?a_NotOfKind ?x_NotOfKind ?n_NotOfKind_why ?tab ?i_BadNumber ?t_BadNumber ?l_BadNumber ?c_BadNumber ?k_BadNumber ?i_BadProgram ?t_BadProgram ?l_BadProgram ?c_BadProgram ?k_BadProgram ?i_BadConfiguration ?t_BadConfiguration ?l_BadConfiguration ?c_BadConfiguration ?k_BadConfiguration ?i_BadStep ?t_BadStep ?l_BadStep ?c_BadStep ?k_BadStep ?a_Program ?cl_pg ?cl_hd ?cl_po ?cl_sa ?mk_makes ?mk_init ?mk_fn ?mk_kp ?eq_f ?eq_fn ?in_a ?in_n ?in_t ?in_m ?kit ?n_Program_counters ?n_Program_locations ?n_Program_steps ?l_Program_init ?c_Program_init ?k_Program_init ?l_Program_eq ?c_Program_eq ?k_Program_eq ?kinds ?z_len ?z_int ?z_list ?z_tuple ?z_isinstance ?z_range ?z_all ?z_any ?z_enumerate ?z_zip ?z_min ?z_max ?z_bool ?z_str ?z_ValueError ?g_is_integer ?l_is_integer ?c_is_integer ?k_is_integer ?g_is_natural ?l_is_natural ?c_is_natural ?k_is_natural ?g_is_below ?l_is_below ?c_is_below ?k_is_below ?g_is_row ?l_is_row ?c_is_row ?k_is_row ?g_are_naturals ?l_are_naturals ?c_are_naturals ?k_are_naturals ?g_is_placed ?l_is_placed ?c_is_placed ?k_is_placed ?g_tupled ?l_tupled ?c_tupled ?k_tupled ?g__is_step ?l__is_step ?c__is_step ?k__is_step ?g_is_configuration ?l_is_configuration ?c_is_configuration ?k_is_configuration ?g_need_configuration ?l_need_configuration ?c_need_configuration ?k_need_configuration ?g__behind ?l__behind ?c__behind ?k__behind ?g__all_behind ?l__all_behind ?c__all_behind ?k__all_behind ?g_steps_at ?l_steps_at ?c_steps_at ?k_steps_at ?g_next_one ?l_next_one ?c_next_one ?k_next_one ?g_behind_run ?l_behind_run ?c_behind_run ?k_behind_run ?g__law_pen ?l__law_pen ?c__law_pen ?k__law_pen ?g__law_draw ?l__law_draw ?c__law_draw ?k__law_draw ?g__law_pick ?l__law_pick ?c__law_pick ?k__law_pick ?g__law_drawn_program ?l__law_drawn_program ?c__law_drawn_program ?k__law_drawn_program ?g__law_next ?l__law_next ?c__law_next ?k__law_next ?g__law_behind ?l__law_behind ?c__law_behind ?k__law_behind ?g__law_wrong ?l__law_wrong ?c__law_wrong ?k__law_wrong ?g__law_listed ?l__law_listed ?c__law_listed ?k__law_listed ?g__law_drawn_configuration ?l__law_drawn_configuration ?c__law_drawn_configuration ?k__law_drawn_configuration ?g__law_odd_configuration ?l__law_odd_configuration ?c__law_odd_configuration ?k__law_odd_configuration ?g__law_made_program ?l__law_made_program ?c__law_made_program ?k__law_made_program ?g__law_some_program ?l__law_some_program ?c__law_some_program ?k__law_some_program ?g__law_is_kept ?l__law_is_kept ?c__law_is_kept ?k__law_is_kept ?g__law_bent_step ?l__law_bent_step ?c__law_bent_step ?k__law_bent_step ?g__law_some_run ?l__law_some_run ?c__law_some_run ?k__law_some_run ?g__law_is_refused ?l__law_is_refused ?c__law_is_refused ?k__law_is_refused ?g__law_are_steps_right ?l__law_are_steps_right ?c__law_are_steps_right ?k__law_are_steps_right ?g__law_is_run_right ?l__law_is_run_right ?c__law_is_run_right ?k__law_is_run_right ?g_law ?l_law ?c_law ?k_law ?lk_1 ?v11_1 ?hd_1 ?no_1 ?lk_2 ?v11_2 ?hd_2 ?no_2 ?lk_3 ?v11_3 ?hd_3 ?no_3 ?ne ?hts
    (case a_BadNumber => k_is)
    (case x_BadNumber => kernel_rfl)
    (case n_BadNumber_what => k_is)
    (case n_BadNumber_number => k_is)
    (case a_BadProgram => k_is)
    (case x_BadProgram => kernel_rfl)
    (case n_BadProgram_index => k_is)
    (case a_BadConfiguration => k_is)
    (case x_BadConfiguration => kernel_rfl)
    (case n_BadConfiguration_configuration => k_is)
    (case a_BadStep => k_is)
    (case x_BadStep => kernel_rfl)
    (case n_BadStep_index => k_is)
    (case a_BadLot => k_is)
    (case x_BadLot => kernel_rfl)
    (case n_BadLot_lot => k_is)
    (case a_BadReads => k_is)
    (case x_BadReads => kernel_rfl)
    (case n_BadReads_reads => k_is)
    (case a_Unlike => k_is)
    (case x_Unlike => kernel_rfl)
    (case n_Unlike_what => k_is)
    (case a_NotOfKind => k_is)
    (case x_NotOfKind => kernel_rfl)
    (case n_NotOfKind_why => k_is)
    (case tab => kernel_rfl)
    (case i_BadNumber => k_is)
    (case t_BadNumber => k_is)
    (case l_BadNumber => k_is)
    (case c_BadNumber => k_is)
    (case k_BadNumber => k_is)
    (case i_BadProgram => k_is)
    (case t_BadProgram => k_is)
    (case l_BadProgram => k_is)
    (case c_BadProgram => k_is)
    (case k_BadProgram => k_is)
    (case i_BadConfiguration => k_is)
    (case t_BadConfiguration => k_is)
    (case l_BadConfiguration => k_is)
    (case c_BadConfiguration => k_is)
    (case k_BadConfiguration => k_is)
    (case i_BadStep => k_is)
    (case t_BadStep => k_is)
    (case l_BadStep => k_is)
    (case c_BadStep => k_is)
    (case k_BadStep => k_is)
    (case a_Program => k_is)
    (case cl_pg => k_is)
    (case cl_hd => k_is)
    (case cl_po => k_is)
    (case cl_sa => k_is)
    (case mk_makes => k_is)
    (case mk_init => k_is)
    (case mk_fn => k_is)
    (case mk_kp => k_is)
    (case eq_f => k_is)
    (case eq_fn => k_is)
    (case in_a => k_is)
    (case in_n => k_is)
    (case in_t => k_is)
    (case in_m => k_is)
    (case kit => kernel_rfl)
    (case n_Program_counters => k_is)
    (case n_Program_locations => k_is)
    (case n_Program_steps => k_is)
    (case l_Program_init => k_is)
    (case c_Program_init => k_is)
    (case k_Program_init => k_is)
    (case l_Program_eq => k_is)
    (case c_Program_eq => k_is)
    (case k_Program_eq => k_is)
    (case kinds => kernel_rfl)
    (case z_len => k_is)
    (case z_int => k_is)
    (case z_list => k_is)
    (case z_tuple => k_is)
    (case z_isinstance => k_is)
    (case z_range => k_is)
    (case z_all => k_is)
    (case z_any => k_is)
    (case z_enumerate => k_is)
    (case z_zip => k_is)
    (case z_min => k_is)
    (case z_max => k_is)
    (case z_bool => k_is)
    (case z_str => k_is)
    (case z_ValueError => k_is)
    (case g_is_integer => k_is)
    (case l_is_integer => k_is)
    (case c_is_integer => k_is)
    (case k_is_integer => k_is)
    (case g_is_natural => k_is)
    (case l_is_natural => k_is)
    (case c_is_natural => k_is)
    (case k_is_natural => k_is)
    (case g_is_below => k_is)
    (case l_is_below => k_is)
    (case c_is_below => k_is)
    (case k_is_below => k_is)
    (case g_is_row => k_is)
    (case l_is_row => k_is)
    (case c_is_row => k_is)
    (case k_is_row => k_is)
    (case g_are_naturals => k_is)
    (case l_are_naturals => k_is)
    (case c_are_naturals => k_is)
    (case k_are_naturals => k_is)
    (case g_is_placed => k_is)
    (case l_is_placed => k_is)
    (case c_is_placed => k_is)
    (case k_is_placed => k_is)
    (case g_tupled => k_is)
    (case l_tupled => k_is)
    (case c_tupled => k_is)
    (case k_tupled => k_is)
    (case g__is_step => k_is)
    (case l__is_step => k_is)
    (case c__is_step => k_is)
    (case k__is_step => k_is)
    (case g_is_configuration => k_is)
    (case l_is_configuration => k_is)
    (case c_is_configuration => k_is)
    (case k_is_configuration => k_is)
    (case g_need_configuration => k_is)
    (case l_need_configuration => k_is)
    (case c_need_configuration => k_is)
    (case k_need_configuration => k_is)
    (case g__behind => k_is)
    (case l__behind => k_is)
    (case c__behind => k_is)
    (case k__behind => k_is)
    (case g__all_behind => k_is)
    (case l__all_behind => k_is)
    (case c__all_behind => k_is)
    (case k__all_behind => k_is)
    (case g_steps_at => k_is)
    (case l_steps_at => k_is)
    (case c_steps_at => k_is)
    (case k_steps_at => k_is)
    (case g_next_one => k_is)
    (case l_next_one => k_is)
    (case c_next_one => k_is)
    (case k_next_one => k_is)
    (case g_behind_run => k_is)
    (case l_behind_run => k_is)
    (case c_behind_run => k_is)
    (case k_behind_run => k_is)
    (case g__law_pen => k_is)
    (case l__law_pen => k_is)
    (case c__law_pen => k_is)
    (case k__law_pen => k_is)
    (case g__law_draw => k_is)
    (case l__law_draw => k_is)
    (case c__law_draw => k_is)
    (case k__law_draw => k_is)
    (case g__law_pick => k_is)
    (case l__law_pick => k_is)
    (case c__law_pick => k_is)
    (case k__law_pick => k_is)
    (case g__law_drawn_program => k_is)
    (case l__law_drawn_program => k_is)
    (case c__law_drawn_program => k_is)
    (case k__law_drawn_program => k_is)
    (case g__law_next => k_is)
    (case l__law_next => k_is)
    (case c__law_next => k_is)
    (case k__law_next => k_is)
    (case g__law_behind => k_is)
    (case l__law_behind => k_is)
    (case c__law_behind => k_is)
    (case k__law_behind => k_is)
    (case g__law_wrong => k_is)
    (case l__law_wrong => k_is)
    (case c__law_wrong => k_is)
    (case k__law_wrong => k_is)
    (case g__law_listed => k_is)
    (case l__law_listed => k_is)
    (case c__law_listed => k_is)
    (case k__law_listed => k_is)
    (case g__law_drawn_configuration => k_is)
    (case l__law_drawn_configuration => k_is)
    (case c__law_drawn_configuration => k_is)
    (case k__law_drawn_configuration => k_is)
    (case g__law_odd_configuration => k_is)
    (case l__law_odd_configuration => k_is)
    (case c__law_odd_configuration => k_is)
    (case k__law_odd_configuration => k_is)
    (case g__law_made_program => k_is)
    (case l__law_made_program => k_is)
    (case c__law_made_program => k_is)
    (case k__law_made_program => k_is)
    (case g__law_some_program => k_is)
    (case l__law_some_program => k_is)
    (case c__law_some_program => k_is)
    (case k__law_some_program => k_is)
    (case g__law_is_kept => k_is)
    (case l__law_is_kept => k_is)
    (case c__law_is_kept => k_is)
    (case k__law_is_kept => k_is)
    (case g__law_bent_step => k_is)
    (case l__law_bent_step => k_is)
    (case c__law_bent_step => k_is)
    (case k__law_bent_step => k_is)
    (case g__law_some_run => k_is)
    (case l__law_some_run => k_is)
    (case c__law_some_run => k_is)
    (case k__law_some_run => k_is)
    (case g__law_is_refused => k_is)
    (case l__law_is_refused => k_is)
    (case c__law_is_refused => k_is)
    (case k__law_is_refused => k_is)
    (case g__law_are_steps_right => k_is)
    (case l__law_are_steps_right => k_is)
    (case c__law_are_steps_right => k_is)
    (case k__law_are_steps_right => k_is)
    (case g__law_is_run_right => k_is)
    (case l__law_is_run_right => k_is)
    (case c__law_is_run_right => k_is)
    (case k__law_is_run_right => k_is)
    (case g_law => k_is)
    (case l_law => k_is)
    (case c_law => k_is)
    (case k_law => k_is)
    (case lk_1 => k_is)
    (case v11_1 => rfl)
    (case hd_1 => kernel_rfl)
    (case no_1 => kernel_rfl)
    (case lk_2 => k_is)
    (case v11_2 => rfl)
    (case hd_2 => kernel_rfl)
    (case no_2 => kernel_rfl)
    (case lk_3 => k_is)
    (case v11_3 => rfl)
    (case hd_3 => kernel_rfl)
    (case no_3 => kernel_rfl)
    (case ne => kernel_rfl)
    (case hts => kernel_rfl)
end
