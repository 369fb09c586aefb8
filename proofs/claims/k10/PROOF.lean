import PyProof.Rows.All
import Wide.All
import OpenK.AllK
import Wide.FinOn
import HandS.ForMost
import HandS.IsInst
import HandS.Wide
import HandS.Style
import HandS.SortInts
import HandS.More
import HandS.Rev
import HandS.Zip
import HandS.SetFor
import PyProof.EqAt
import HandS.SetKeys
import HandS.DictComp
import HandS.Iter
import HandS.Conv
import HandS.Defaults
import HandS.Small
import KE.GoesMore
import KE.GoesEnum
import KE.KUnpack
import HandS.Deep
import PySem.Challenge.RW_boastrow_k10_never_comes_and_folds
set_option Elab.async false
set_option linter.all false
set_option maxRecDepth 100000
/-! PL: readings over plain data. -/
namespace PL
open PySem PySem.Spec L2
abbrev D := PyData
/-! ### data that stand in a heap of frozen objects -/
def keyD : Key → D
  | .inl i => .int i
  | .inr s => .str s
mutual
inductive Rp (G : Hp) : V → D → Prop
  | non : Rp G .non .none
  | bl (b : Bool) : Rp G (.bl b) (.bool b)
  | int (i : Int) : Rp G (.int i) (.int i)
  | str (x : Str) : Rp G (.str x) (.str x)
  | lst {a : Addr} {xs : List V} {ds : List D} : G a = some (.lst xs) → RpA G xs ds → Rp G (.ref a) (.list ds)
  | tup {a : Addr} {xs : List V} {ds : List D} : G a = some (.tup xs) → RpA G xs ds → Rp G (.ref a) (.tuple ds)
  | dct {a : Addr} {es : List (Key × V)} {ks : List (D × D)} : G a = some (.dK es) → RpK G es ks → Rp G (.ref a) (.dict ks)
inductive RpA (G : Hp) : List V → List D → Prop
  | nil : RpA G [] []
  | cons {v : V} {vs : List V} {d : D} {ds : List D} : Rp G v d → RpA G vs ds → RpA G (v :: vs) (d :: ds)
inductive RpK (G : Hp) : List (Key × V) → List (D × D) → Prop
  | nil : RpK G [] []
  | cons {k : Key} {v : V} {es : List (Key × V)} {d : D} {ks : List (D × D)} : Rp G v d → RpK G es ks → RpK G ((k, v) :: es) ((keyD k, d) :: ks)
end
mutual
theorem Rp.mono {G G' : Hp} (e : Same G G') : ∀ {v : V} {d : D}, Rp G v d → Rp G' v d
  | _, _, .non => .non
  | _, _, .bl b => .bl b
  | _, _, .int i => .int i
  | _, _, .str x => .str x
  | _, _, .lst h r => .lst (e _ _ h) (RpA.mono e r)
  | _, _, .tup h r => .tup (e _ _ h) (RpA.mono e r)
  | _, _, .dct h r => .dct (e _ _ h) (RpK.mono e r)
theorem RpA.mono {G G' : Hp} (e : Same G G') : ∀ {vs : List V} {ds : List D}, RpA G vs ds → RpA G' vs ds
  | _, _, .nil => .nil
  | _, _, .cons h r => .cons (Rp.mono e h) (RpA.mono e r)
theorem RpK.mono {G G' : Hp} (e : Same G G') : ∀ {vs : List (Key × V)} {ds : List (D × D)}, RpK G vs ds → RpK G' vs ds
  | _, _, .nil => .nil
  | _, _, .cons h r => .cons (Rp.mono e h) (RpK.mono e r)
end
theorem RpA.length {G : Hp} : ∀ {vs : List V} {ds : List D}, RpA G vs ds → vs.length = ds.length
  | _, _, .nil => rfl
  | _, _, .cons _ r => by simp [RpA.length r]
theorem RpA.get {G : Hp} : ∀ {vs : List V} {ds : List D} {i : Nat} {d : D}, RpA G vs ds → ds[i]? = some d → ∃ v, vs[i]? = some v ∧ Rp G v d
  | _, _, _, _, .nil, h => by simp at h
  | _, _, 0, _, .cons h r, e => by
    simp at e; subst e; exact ⟨_, rfl, h⟩
  | _, _, i + 1, _, .cons h r, e => by
    have := RpA.get (i := i) r (by simpa using e)
    simpa using this
theorem RpA.get' {G : Hp} : ∀ {vs : List V} {ds : List D} {i : Nat} {v : V}, RpA G vs ds → vs[i]? = some v → ∃ d, ds[i]? = some d ∧ Rp G v d
  | _, _, _, _, .nil, h => by simp at h
  | _, _, 0, _, .cons h r, e => by
    simp at e; subst e; exact ⟨_, rfl, h⟩
  | _, _, i + 1, _, .cons h r, e => by
    have := RpA.get' (i := i) r (by simpa using e)
    simpa using this
theorem RpA.append {G : Hp} : ∀ {vs ws : List V} {ds es : List D}, RpA G vs ds → RpA G ws es → RpA G (vs ++ ws) (ds ++ es)
  | _, _, _, _, .nil, s => s
  | _, _, _, _, .cons h r, s => .cons h (RpA.append r s)
theorem RpA.one {G : Hp} {v : V} {d : D} (h : Rp G v d) : RpA G [v] [d] := .cons h .nil
theorem RpA.take {G : Hp} : ∀ {vs : List V} {ds : List D} (n : Nat), RpA G vs ds → RpA G (vs.take n) (ds.take n)
  | _, _, 0, _ => by simpa using RpA.nil
  | _, _, n + 1, .nil => by simpa using RpA.nil
  | _, _, n + 1, .cons h r => .cons h (RpA.take n r)
theorem RpA.drop {G : Hp} : ∀ {vs : List V} {ds : List D} (n : Nat), RpA G vs ds → RpA G (vs.drop n) (ds.drop n)
  | _, _, 0, r => r
  | _, _, n + 1, .nil => by simpa using RpA.nil
  | _, _, n + 1, .cons h r => RpA.drop n r
theorem RpA.set {G : Hp} {v : V} {d : D} (h : Rp G v d) : ∀ {vs : List V} {ds : List D} (n : Nat), RpA G vs ds → RpA G (vs.set n v) (ds.set n d)
  | _, _, _, .nil => .nil
  | _, _, 0, .cons _ r => .cons h r
  | _, _, n + 1, .cons q r => .cons q (RpA.set h n r)
theorem RpA.reverse {G : Hp} : ∀ {vs : List V} {ds : List D}, RpA G vs ds → RpA G vs.reverse ds.reverse
  | _, _, .nil => .nil
  | _, _, .cons h r => by
    rw [List.reverse_cons, List.reverse_cons]
    exact (RpA.reverse r).append (.one h)
theorem RpA.ints {G : Hp} : ∀ (ns : List Int), RpA G (ns.map V.int) (ns.map PyData.int)
  | [] => .nil
  | n :: r => .cons (.int n) (RpA.ints r)
theorem RpA.of_ints {G : Hp} : ∀ (ns : List Int) {vs : List V}, RpA G vs (ns.map PyData.int) → vs = ns.map V.int
  | [], _, .nil => rfl
  | n :: r, _, .cons (.int _) h => by rw [RpA.of_ints r h]; rfl
theorem RpA.of_bools {G : Hp} : ∀ (ns : List Bool) {vs : List V}, RpA G vs (ns.map PyData.bool) → vs = ns.map V.bl
  | [], _, .nil => rfl
  | n :: r, _, .cons (.bl _) h => by rw [RpA.of_bools r h]; rfl
/-- the object itself stands in H, what is in it in G -/
inductive Sh (G H : Hp) : V → D → Prop
  | non : Sh G H .non .none
  | bl (b : Bool) : Sh G H (.bl b) (.bool b)
  | int (i : Int) : Sh G H (.int i) (.int i)
  | str (x : Str) : Sh G H (.str x) (.str x)
  | lst {a : Addr} {xs : List V} {ds : List D} : H a = some (.lst xs) → RpA G xs ds → Sh G H (.ref a) (.list ds)
  | tup {a : Addr} {xs : List V} {ds : List D} : H a = some (.tup xs) → RpA G xs ds → Sh G H (.ref a) (.tuple ds)
  | dct {a : Addr} {es : List (Key × V)} {ks : List (D × D)} : H a = some (.dK es) → RpK G es ks → Sh G H (.ref a) (.dict ks)
theorem Rp.sh {G H : Hp} (e : Same G H) {v : V} {d : D} (h : Rp G v d) : Sh G H v d := by
  cases h with
  | non => exact .non
  | bl b => exact .bl b
  | int i => exact .int i
  | str x => exact .str x
  | lst h r => exact .lst (e _ _ h) r
  | tup h r => exact .tup (e _ _ h) r
  | dct h r => exact .dct (e _ _ h) r
theorem Sh.mono {G G' H H' : Hp} (e : Same G G') (f : Same H H') {v : V} {d : D} (h : Sh G H v d) : Sh G' H' v d := by
  cases h with
  | non => exact .non
  | bl b => exact .bl b
  | int i => exact .int i
  | str x => exact .str x
  | lst h r => exact .lst (f _ _ h) (r.mono e)
  | tup h r => exact .tup (f _ _ h) (r.mono e)
  | dct h r => exact .dct (f _ _ h) (r.mono e)
/-- only the very object is looked at -/
theorem Sh.at {G G' H H' : Hp} (e : Same G G') {v : V} {d : D} (f : ∀ a, v = .ref a → ∀ o, H a = some o → H' a = some o) (h : Sh G H v d) : Sh G' H' v d := by
  cases h with
  | non => exact .non
  | bl b => exact .bl b
  | int i => exact .int i
  | str x => exact .str x
  | lst h r => exact .lst (f _ rfl _ h) (r.mono e)
  | tup h r => exact .tup (f _ rfl _ h) (r.mono e)
  | dct h r => exact .dct (f _ rfl _ h) (r.mono e)
def atom : D → Bool
  | .none => true
  | .bool _ => true
  | .int _ => true
  | .str _ => true
  | _ => false
theorem Sh.atom {G H : Hp} {v : V} {d : D} (h : Sh G H v d) (a : atom d = true) (G' : Hp) : Rp G' v d := by
  cases h with
  | non => exact .non
  | bl b => exact .bl b
  | int i => exact .int i
  | str x => exact .str x
  | lst h r => cases a
  | tup h r => cases a
  | dct h r => cases a
/-- the object is frozen -/
theorem Sh.frozen {G H : Hp} {a : Addr} {d : D} (h : Sh G H (.ref a) d) (hn : G a = none) : ∃ G', Same G G' ∧ (∀ b, G' b ≠ none → G b ≠ none ∨ b = a) ∧ (∀ b o, G' b = some o → G b = some o ∨ H b = some o) ∧ Rp G' (.ref a) d := by
  have key : ∀ (o : HO), H a = some o → Same G (upd G a o) ∧ (∀ b, upd G a o b ≠ none → G b ≠ none ∨ b = a) ∧ (∀ b u, upd G a o b = some u → G b = some u ∨ H b = some u) := by
    intro o ho
    refine ⟨fun b u e => ?_, fun b e => ?_, fun b u e => ?_⟩
    · rw [upd_ne (ne_of_none e hn)]; exact e
    · by_cases hb : b = a
      · exact .inr hb
      · rw [upd_ne hb] at e; exact .inl e
    · by_cases hb : b = a
      · subst hb; rw [upd_same] at e; cases e; exact .inr ho
      · rw [upd_ne hb] at e; exact .inl e
  cases h with
  | lst h r => exact ⟨_, (key _ h).1, (key _ h).2.1, (key _ h).2.2, .lst upd_same (r.mono (key _ h).1)⟩
  | tup h r => exact ⟨_, (key _ h).1, (key _ h).2.1, (key _ h).2.2, .tup upd_same (r.mono (key _ h).1)⟩
  | dct h r => exact ⟨_, (key _ h).1, (key _ h).2.1, (key _ h).2.2, .dct upd_same (r.mono (key _ h).1)⟩
/-! ### the names' state -/
inductive Sl where
  | un | val (d : D) | own (d : D) | io (d : D) | bor (d : D) | scr (ns : List Int)
inductive Pl where
  | val (d : D) | slot (i : Nat)
inductive Rv where
  | pl (p : Pl) | fr (d : D)
abbrev Env := List Sl
inductive R (α : Type) where
  | stuck | ok (a : α) (ρ : Env)
abbrev M (α : Type) := Env → R α
structure Ctx where
  K : PySem.W.Frag
  G0 : Hp
  B : Hp
  A : Addr → Prop
  P : Nat → Option V
  S : Nat → Sl
def BorOk (K : PySem.W.Frag) (G B : Hp) (v : V) : Sl → Prop
  | .bor d => Sh G B v d
  | .scr ns => ∃ a, v = .ref a ∧ SqL K B a (ns.map V.int)
  | _ => True
def SlOk (C : Ctx) (G H : Hp) (i : Nat) (o : Option V) : Sl → Prop
  | .un => True
  | .val d => ∃ v, o = some v ∧ Rp G v d
  | .own d => ∃ a, o = some (.ref a) ∧ Sh G H (.ref a) d ∧ G a = none ∧ C.B a = none ∧ C.A a
  | .io d => ∃ a, o = some (.ref a) ∧ Sh G H (.ref a) d ∧ G a = none ∧ C.B a = none ∧ C.P i = some (.ref a)
  | .bor d => ∃ v, o = some v ∧ C.P i = some v ∧ C.S i = .bor d
  | .scr ns => ∃ v, o = some v ∧ C.P i = some v ∧ C.S i = .scr ns
def ownK : Sl → Bool
  | .own _ => true
  | .io _ => true
  | _ => false
def Own (σ : St) (ρ : Env) (i : Nat) (a : Addr) : Prop := σ[i]? = some (some (.ref a)) ∧ ∃ s, ρ[i]? = some s ∧ ownK s = true
structure StOk (C : Ctx) (G : Hp) (σ : St) (H : Hp) (ρ : Env) : Prop where
  gh : Same G H
  bh : Same C.B H
  g0 : Same C.G0 G
  fr : ∀ a, H a = none → C.A a
  ga : ∀ a, G a ≠ none → C.G0 a ≠ none ∨ C.A a
  wf : ∀ (i : Nat) (v : V), C.P i = some v → BorOk C.K C.G0 C.B v (C.S i)
  len : σ.length = ρ.length
  sl : ∀ (i : Nat) (s : Sl), ρ[i]? = some s → ∃ o, σ[i]? = some o ∧ SlOk C G H i o s
  ds : ∀ (i j : Nat) (a : Addr), Own σ ρ i a → Own σ ρ j a → i = j
theorem BorOk.mono {K : PySem.W.Frag} {G G' B B' : Hp} {v : V} {s : Sl} (e : Same G G') (f : Same B B') (h : BorOk K G B v s) : BorOk K G' B' v s := by
  cases s with
  | bor d => exact Sh.mono e f h
  | scr ns => obtain ⟨a, e1, q⟩ := h; exact ⟨a, e1, Same.seq f q⟩
  | _ => trivial
/-- what stood stands, what is frozen anew is new -/
structure Grow (G H G' H' : Hp) : Prop where
  g : Same G G'
  h : Same H H'
  gh : Same G' H'
  nw : ∀ a, G' a ≠ none → G a ≠ none ∨ H a = none
theorem Grow.refl {G H : Hp} (e : Same G H) : Grow G H G H := ⟨Same.refl _, Same.refl _, e, fun _ h => .inl h⟩
theorem Grow.new {G H : Hp} {p : Addr} {o : HO} (e : Same G H) (hp : H p = none) : Grow G H (upd G p o) (upd H p o) := by
  have gp : G p = none := e.free hp
  refine ⟨fun b u q => ?_, fun b u q => ?_, fun b u q => ?_, fun b q => ?_⟩
  · rw [upd_ne (ne_of_none q gp)]; exact q
  · rw [upd_ne (ne_of_none q hp)]; exact q
  · by_cases hb : b = p
    · subst hb; rw [upd_same] at q ⊢; exact q
    · rw [upd_ne hb] at q ⊢; exact e b u q
  · by_cases hb : b = p
    · subst hb; exact .inr hp
    · rw [upd_ne hb] at q; exact .inl q
/-- a new object that isn't frozen -/
theorem Grow.newF {G H : Hp} {p : Addr} {o : HO} (e : Same G H) (hp : H p = none) : Grow G H G (upd H p o) := by
  refine ⟨Same.refl _, fun b u q => ?_, fun b u q => ?_, fun b q => .inl q⟩
  · rw [upd_ne (ne_of_none q hp)]; exact q
  · rw [upd_ne (ne_of_none (e b u q) hp)]; exact e b u q
theorem Grow.trans {G H G1 H1 G2 H2 : Hp} (a : Grow G H G1 H1) (b : Grow G1 H1 G2 H2) : Grow G H G2 H2 :=
  ⟨a.g.trans b.g, a.h.trans b.h, b.gh, fun x hx => (b.nw x hx).elim (a.nw x) fun q => .inr (a.h.free q)⟩
theorem ne_none_of {H : Hp} {a : Addr} {o : HO} (h : H a = some o) : H a ≠ none := by rw [h]; intro z; cases z
theorem Sh.tracked {G H : Hp} {a : Addr} {d : D} (h : Sh G H (.ref a) d) : H a ≠ none := by
  cases h with
  | lst h r => exact ne_none_of h
  | tup h r => exact ne_none_of h
  | dct h r => exact ne_none_of h
theorem SlOk.grow {C : Ctx} {G H G' H' : Hp} (w : Grow G H G' H') {i : Nat} {o : Option V} {s : Sl} (h : SlOk C G H i o s) : SlOk C G' H' i o s := by
  have fz : ∀ {a : Addr}, H a ≠ none → G a = none → G' a = none := fun {a} h1 h2 => by
    cases q : G' a with
    | none => rfl
    | some u =>
      rcases w.nw a (ne_none_of q) with z | z
      · exact absurd h2 z
      · exact absurd z h1
  cases s with
  | un => trivial
  | val d => obtain ⟨v, e, r⟩ := h; exact ⟨v, e, r.mono w.g⟩
  | own d => obtain ⟨a, e, r, h1, h2, h3⟩ := h; exact ⟨a, e, r.mono w.g w.h, fz r.tracked h1, h2, h3⟩
  | io d => obtain ⟨a, e, r, h1, h2⟩ := h; exact ⟨a, e, r.mono w.g w.h, fz r.tracked h1, h2⟩
  | bor d => exact h
  | scr ns => exact h
theorem StOk.grow {C : Ctx} {G H G' H' : Hp} {σ : St} {ρ : Env} (S : StOk C G σ H ρ) (w : Grow G H G' H') : StOk C G' σ H' ρ where
  gh := w.gh
  bh := S.bh.trans w.h
  g0 := S.g0.trans w.g
  fr := fun a h => S.fr a (w.h.free h)
  ga := fun a h => (w.nw a h).elim (S.ga a) fun q => .inr (S.fr a q)
  wf := S.wf
  len := S.len
  sl := fun i s e => let ⟨o, e1, q⟩ := S.sl i s e; ⟨o, e1, q.grow w⟩
  ds := S.ds
end PL
namespace PL
open PySem PySem.Spec L2
abbrev St' := L2.St
def okP (G : Hp) (σ : L2.St) (v : V) : Pl → Prop
  | .val d => Rp G v d
  | .slot i => σ[i]? = some (some v)
def okR (C : Ctx) (G : Hp) (σ : L2.St) (H : Hp) (ρ : Env) (v : V) : Rv → Prop
  | .pl p => okP G σ v p
  | .fr d => ∃ a, v = .ref a ∧ Sh G H (.ref a) d ∧ G a = none ∧ C.B a = none ∧ C.A a ∧ ∀ i, ¬ Own σ ρ i a
inductive okPs (G : Hp) (σ : L2.St) : List V → List Pl → Prop
  | nil : okPs G σ [] []
  | cons {v : V} {vs : List V} {p : Pl} {ps : List Pl} : okP G σ v p → okPs G σ vs ps → okPs G σ (v :: vs) (p :: ps)
theorem okP.mono {G G' : Hp} {σ : L2.St} {v : V} (e : Same G G') : ∀ {p : Pl}, okP G σ v p → okP G' σ v p
  | .val _, h => Rp.mono e h
  | .slot _, h => h
theorem okPs.mono {G G' : Hp} {σ : L2.St} (e : Same G G') : ∀ {vs : List V} {ps : List Pl}, okPs G σ vs ps → okPs G' σ vs ps
  | _, _, .nil => .nil
  | _, _, .cons h r => .cons (h.mono e) (okPs.mono e r)
/-! ### readings -/
def RdV (K : PySem.W.Frag) (t : TE) (f : M D) : Prop := ∀ (C : Ctx) (G : Hp) (σ : L2.St) (H : Hp) (ρ : Env) (Q : VK), C.K = K → StOk C G σ H ρ → ∀ (d : D) (ρ' : Env), f ρ = .ok d ρ' →
  (∀ (v : V) (G' H' : Hp), Same G G' → StOk C G' σ H' ρ' → Rp G' v d → Q v H') → t σ H Q
def RdP (K : PySem.W.Frag) (t : TE) (f : M Pl) : Prop := ∀ (C : Ctx) (G : Hp) (σ : L2.St) (H : Hp) (ρ : Env) (Q : VK), C.K = K → StOk C G σ H ρ → ∀ (d : Pl) (ρ' : Env), f ρ = .ok d ρ' →
  (∀ (v : V) (G' H' : Hp), Same G G' → StOk C G' σ H' ρ' → okP G' σ v d → Q v H') → t σ H Q
def RdF (K : PySem.W.Frag) (t : TE) (f : M Rv) : Prop := ∀ (C : Ctx) (G : Hp) (σ : L2.St) (H : Hp) (ρ : Env) (Q : VK), C.K = K → StOk C G σ H ρ → ∀ (d : Rv) (ρ' : Env), f ρ = .ok d ρ' →
  (∀ (v : V) (G' H' : Hp), Same G G' → StOk C G' σ H' ρ' → okR C G' σ H' ρ' v d → Q v H') → t σ H Q
def RdT (K : PySem.W.Frag) (t : TT) (f : M Bool) : Prop := ∀ (C : Ctx) (G : Hp) (σ : L2.St) (H : Hp) (ρ : Env) (Q : Bool → Hp → Prop), C.K = K → StOk C G σ H ρ → ∀ (b : Bool) (ρ' : Env), f ρ = .ok b ρ' →
  (∀ (G' H' : Hp), Same G G' → StOk C G' σ H' ρ' → Q b H') → t σ H Q
def RdA (K : PySem.W.Frag) (t : TA) (f : M (List D)) : Prop := ∀ (C : Ctx) (G : Hp) (σ : L2.St) (H : Hp) (ρ : Env) (Q : List V → Hp → Prop), C.K = K → StOk C G σ H ρ → ∀ (ds : List D) (ρ' : Env), f ρ = .ok ds ρ' →
  (∀ (vs : List V) (G' H' : Hp), Same G G' → StOk C G' σ H' ρ' → RpA G' vs ds → Q vs H') → t σ H Q
def RdPs (K : PySem.W.Frag) (t : TA) (f : M (List Pl)) : Prop := ∀ (C : Ctx) (G : Hp) (σ : L2.St) (H : Hp) (ρ : Env) (Q : List V → Hp → Prop), C.K = K → StOk C G σ H ρ → ∀ (ds : List Pl) (ρ' : Env), f ρ = .ok ds ρ' →
  (∀ (vs : List V) (G' H' : Hp), Same G G' → StOk C G' σ H' ρ' → okPs G' σ vs ds → Q vs H') → t σ H Q
/-- an expression that gives data | a place or data | also a new object of its own -/
def PV (X : Cx) (e : Expr) (f : M D) : Prop := ∃ t, PE X e t ∧ RdV X.K t f
def PP (X : Cx) (e : Expr) (f : M Pl) : Prop := ∃ t, PE X e t ∧ RdP X.K t f
def PF (X : Cx) (e : Expr) (f : M Rv) : Prop := ∃ t, PE X e t ∧ RdF X.K t f
def PTt (X : Cx) (e : Expr) (f : M Bool) : Prop := ∃ t, PT X e t ∧ RdT X.K t f
def PWt (X : Cx) (e : Expr) (f : M Bool) : Prop := ∃ t, PW X e t ∧ RdT X.K t f
def PVs (X : Cx) (es : List Expr) (f : M (List D)) : Prop := ∃ t, PA X es t ∧ RdA X.K t f
def PPs (X : Cx) (es : List Expr) (f : M (List Pl)) : Prop := ∃ t, PA X es t ∧ RdPs X.K t f
/-! ### the words of the mirror -/
def bnd {α β : Type} (f : M α) (g : α → M β) : M β := fun ρ => match f ρ with
  | .stuck => .stuck
  | .ok a ρ' => g a ρ'
def ret {α : Type} (a : α) : M α := fun ρ => .ok a ρ
def ofO {α : Type} : Option α → M α
  | some a => ret a
  | none => fun _ => .stuck
theorem bnd_ok {α β : Type} {f : M α} {g : α → M β} {ρ ρ' : Env} {b : β} (h : bnd f g ρ = .ok b ρ') : ∃ a ρ1, f ρ = .ok a ρ1 ∧ g a ρ1 = .ok b ρ' := by
  unfold bnd at h
  cases q : f ρ with
  | stuck => rw [q] at h; cases h
  | ok a ρ1 => rw [q] at h; exact ⟨a, ρ1, rfl, h⟩
theorem ofO_ok {α : Type} {o : Option α} {a : α} {ρ ρ' : Env} (h : ofO o ρ = .ok a ρ') : o = some a ∧ ρ' = ρ := by
  cases o with
  | none => cases h
  | some b => cases h; exact ⟨rfl, rfl⟩
def mVar (i : Nat) : M Pl := fun ρ => match ρ[i]? with
  | some .un => .stuck
  | none => .stuck
  | some (.val d) => .ok (.val d) ρ
  | some _ => .ok (.slot i) ρ
def mC (d : D) : M D := ret d
/-- data taken from a place: an object of one's own is frozen -/
def mGet (i : Nat) : M D := fun ρ => match ρ[i]? with
  | some (.val d) => .ok d ρ
  | some (.own d) => .ok d (ρ.set i (.val d))
  | some (.bor d) => if atom d = true then .ok d ρ else .stuck
  | _ => .stuck
def mFz (f : M Rv) : M D := bnd f fun r => match r with
  | .fr d => ret d
  | .pl (.val d) => ret d
  | .pl (.slot i) => mGet i
def mPl (f : M D) : M Pl := bnd f fun d => ret (.val d)
def mRv (f : M Pl) : M Rv := bnd f fun p => ret (.pl p)
/-- what stands at a place -/
def rsv (ρ : Env) : Pl → Option D
  | .val d => some d
  | .slot i => match ρ[i]? with
    | some (.val d) => some d
    | some (.own d) => some d
    | some (.io d) => some d
    | some (.bor d) => some d
    | _ => none
def look (p : Pl) : M D := fun ρ => match rsv ρ p with
  | some d => .ok d ρ
  | none => .stuck
def lookAll : List Pl → M (List D)
  | [] => ret []
  | p :: ps => bnd (look p) fun d => bnd (lookAll ps) fun ds => ret (d :: ds)
def mOp {α : Type} (g : D → D → Option α) (fa fb : M Pl) : M α := bnd fa fun p => bnd fb fun q => bnd (look p) fun d => bnd (look q) fun e => ofO (g d e)
def mUn {α : Type} (g : D → Option α) (fa : M Pl) : M α := bnd fa fun p => bnd (look p) fun d => ofO (g d)
def mNil {α : Type} : M (List α) := ret []
def mCons {α : Type} (fa : M α) (fr : M (List α)) : M (List α) := bnd fa fun p => bnd fr fun q => ret (p :: q)
def mN {α : Type} (g : List D → Option α) (fs : M (List Pl)) : M α := bnd fs fun ps => bnd (lookAll ps) fun ds => ofO (g ds)
def mFr (f : M D) : M Rv := bnd f fun d => ret (.fr d)
def mTup (f : M (List D)) : M D := bnd f fun ds => if ds.length ≤ 100000 then ret (.tuple ds) else fun _ => .stuck
def mLst (f : M (List D)) : M Rv := bnd f fun ds => if ds.length ≤ 100000 then ret (.fr (.list ds)) else fun _ => .stuck
def asBool : D → Option Bool
  | .bool b => some b
  | _ => none
def mB (f : M D) : M Bool := bnd f fun d => ofO (asBool d)
def mIf {α : Type} (c : M Bool) (a b : M α) : M α := bnd c fun k => if k = true then a else b
def mNot (c : M Bool) : M Bool := bnd c fun k => ret (!k)
def mAnd (a b : M Bool) : M Bool := bnd a fun k => if k = true then b else ret false
def mOr (a b : M Bool) : M Bool := bnd a fun k => if k = true then ret true else b
def mBool (c : M Bool) : M D := bnd c fun k => ret (.bool k)
def mAndV (a b : M D) : M D := bnd (mB a) fun k => if k = true then b else ret (.bool false)
def mOrV (a b : M D) : M D := bnd (mB a) fun k => if k = true then ret (.bool true) else b
def mNotV (a : M D) : M D := bnd (mB a) fun k => ret (.bool (!k))
/-! ### places -/
section
variable {C : Ctx} {G H : Hp} {σ : L2.St} {ρ ρ' : Env} {v : V} {p : Pl} {d : D}
theorem StOk.get (S : StOk C G σ H ρ) {i : Nat} {s : Sl} (e : ρ[i]? = some s) (hv : σ[i]? = some (some v)) : SlOk C G H i (some v) s := by
  obtain ⟨o, e1, q⟩ := S.sl i s e
  rw [hv] at e1; cases e1; exact q
theorem StOk.bor (S : StOk C G σ H ρ) {i : Nat} (h1 : C.P i = some v) (h2 : C.S i = .bor d) : Sh G H v d := by
  have := S.wf i v h1
  rw [h2] at this
  exact Sh.mono S.g0 S.bh this
theorem rsv_ok (S : StOk C G σ H ρ) (h : okP G σ v p) (e : rsv ρ p = some d) : Sh G H v d := by
  cases p with
  | val d' =>
    cases e
    exact Rp.sh S.gh h
  | slot i =>
    have hv : σ[i]? = some (some v) := h
    simp only [rsv] at e
    cases q : ρ[i]? with
    | none => rw [q] at e; cases e
    | some s =>
      have k := S.get q hv
      rw [q] at e
      cases s with
      | un => cases e
      | scr ns => cases e
      | val d' => cases e; obtain ⟨_, z, r⟩ := k; cases z; exact r.sh S.gh
      | own d' => cases e; obtain ⟨a, e2, r, _⟩ := k; cases e2; exact r
      | io d' => cases e; obtain ⟨a, e2, r, _⟩ := k; cases e2; exact r
      | bor d' => cases e; obtain ⟨_, z, p1, p2⟩ := k; cases z; exact S.bor p1 p2
theorem look_ok (S : StOk C G σ H ρ) (h : okP G σ v p) (e : look p ρ = .ok d ρ') : Sh G H v d ∧ ρ' = ρ := by
  unfold look at e
  cases q : rsv ρ p with
  | none => rw [q] at e; cases e
  | some d' => rw [q] at e; cases e; exact ⟨rsv_ok S h q, rfl⟩
/-- one name is given another thing -/
theorem Own.tracked (S : StOk C G σ H ρ) {i : Nat} {a : Addr} (h : Own σ ρ i a) : H a ≠ none ∧ G a = none ∧ C.B a = none := by
  obtain ⟨h1, s, h2, h3⟩ := h
  have k := S.get h2 h1
  cases s with
  | own d => obtain ⟨b, e, r, x, y, _⟩ := k; cases e; exact ⟨r.tracked, x, y⟩
  | io d => obtain ⟨b, e, r, x, y⟩ := k; cases e; exact ⟨r.tracked, x, y.1⟩
  | un => cases h3
  | val d => cases h3
  | bor d => cases h3
  | scr d => cases h3
/-- an own object is frozen: the name holds data from now on -/
theorem StOk.freeze (S : StOk C G σ H ρ) {i : Nat} (e : ρ[i]? = some (.own d)) (hv : σ[i]? = some (some v)) :
    ∃ G', Same G G' ∧ StOk C G' σ H (ρ.set i (.val d)) ∧ Rp G' v d := by
  obtain ⟨a, e2, r, gn, bn, aa⟩ := S.get e hv
  cases e2
  obtain ⟨G', g1, g2, g3, g4⟩ := r.frozen gn
  have hi : i < ρ.length := (List.getElem?_eq_some_iff.mp e).1
  have dist : ∀ {j : Nat} {s : Sl} {b : Addr}, j ≠ i → ρ[j]? = some s → ownK s = true → σ[j]? = some (some (.ref b)) → b ≠ a := fun {j s b} hj q k hb z => by
    subst z
    exact hj (S.ds j i b ⟨hb, s, q, k⟩ ⟨hv, _, e, rfl⟩)
  have still : ∀ {b : Addr}, b ≠ a → G b = none → G' b = none := fun {b} hb hg => by
    cases q : G' b with
    | none => rfl
    | some u => exact ((g2 b (ne_none_of q)).elim (fun z => (z hg).elim) fun z => (hb z).elim)
  refine ⟨G', g1, ⟨?_, S.bh, S.g0.trans g1, S.fr, ?_, S.wf, ?_, ?_, ?_⟩, g4⟩
  · intro b u q
    exact (g3 b u q).elim (fun z => S.gh b u z) id
  · intro b q
    rcases g2 b q with z | z
    · exact S.ga b z
    · subst z; exact .inr aa
  · rw [List.length_set]; exact S.len
  · intro j s q
    by_cases hj : j = i
    · subst hj
      rw [List.getElem?_set_self hi] at q
      cases q
      exact ⟨_, hv, _, rfl, g4⟩
    · rw [List.getElem?_set_ne (fun z => hj z.symm)] at q
      obtain ⟨o, e1, k⟩ := S.sl j s q
      refine ⟨o, e1, ?_⟩
      cases s with
      | un => trivial
      | val d' => obtain ⟨w, e, r⟩ := k; exact ⟨w, e, r.mono g1⟩
      | own d' =>
        obtain ⟨b, e3, r, x, y, z⟩ := k
        subst e3
        exact ⟨b, rfl, r.mono g1 (Same.refl _), still (dist hj q rfl e1) x, y, z⟩
      | io d' =>
        obtain ⟨b, e3, r, x, y⟩ := k
        subst e3
        exact ⟨b, rfl, r.mono g1 (Same.refl _), still (dist hj q rfl e1) x, y⟩
      | bor d' => exact k
      | scr ns => exact k
  · intro j k b hj hk
    have sub : ∀ {m : Nat}, Own σ (ρ.set i (.val d)) m b → Own σ ρ m b := fun {m} ⟨x, s, y, z⟩ => by
      by_cases hm : m = i
      · subst hm
        rw [List.getElem?_set_self hi] at y
        cases y; cases z
      · rw [List.getElem?_set_ne (fun z => hm z.symm)] at y
        exact ⟨x, s, y, z⟩
    exact S.ds j k b (sub hj) (sub hk)
/-- a new object of nobody is frozen -/
theorem StOk.freezeF (S : StOk C G σ H ρ) {a : Addr} (r : Sh G H (.ref a) d) (gn : G a = none) (aa : C.A a) (no : ∀ i, ¬ Own σ ρ i a) :
    ∃ G', Same G G' ∧ StOk C G' σ H ρ ∧ Rp G' (.ref a) d := by
  obtain ⟨G', g1, g2, g3, g4⟩ := r.frozen gn
  have still : ∀ {b : Addr}, b ≠ a → G b = none → G' b = none := fun {b} hb hg => by
    cases q : G' b with
    | none => rfl
    | some u => exact ((g2 b (ne_none_of q)).elim (fun z => (z hg).elim) fun z => (hb z).elim)
  refine ⟨G', g1, ⟨?_, S.bh, S.g0.trans g1, S.fr, ?_, S.wf, S.len, ?_, S.ds⟩, g4⟩
  · intro b u q
    exact (g3 b u q).elim (fun z => S.gh b u z) id
  · intro b q
    rcases g2 b q with z | z
    · exact S.ga b z
    · subst z; exact .inr aa
  · intro j s q
    obtain ⟨o, e1, k⟩ := S.sl j s q
    refine ⟨o, e1, ?_⟩
    have dist : ∀ {b : Addr}, ownK s = true → o = some (.ref b) → b ≠ a := fun {b} hk e z => by
      subst z; subst e
      exact no j ⟨e1, s, q, hk⟩
    cases s with
    | un => trivial
    | val d' => obtain ⟨w, e, r⟩ := k; exact ⟨w, e, r.mono g1⟩
    | own d' =>
      obtain ⟨b, e3, r, x, y, z⟩ := k
      exact ⟨b, e3, r.mono g1 (Same.refl _), still (dist rfl e3) x, y, z⟩
    | io d' =>
      obtain ⟨b, e3, r, x, y⟩ := k
      exact ⟨b, e3, r.mono g1 (Same.refl _), still (dist rfl e3) x, y⟩
    | bor d' => exact k
    | scr ns => exact k
theorem mGet_ok (S : StOk C G σ H ρ) {i : Nat} (hv : σ[i]? = some (some v)) (e : mGet i ρ = .ok d ρ') : ∃ G', Same G G' ∧ StOk C G' σ H ρ' ∧ Rp G' v d := by
  unfold mGet at e
  cases q : ρ[i]? with
  | none => rw [q] at e; cases e
  | some s =>
    rw [q] at e
    cases s with
    | un => cases e
    | scr ns => cases e
    | io d' => cases e
    | val d' => cases e; obtain ⟨_, z, r⟩ := S.get q hv; cases z; exact ⟨G, Same.refl _, S, r⟩
    | own d' => cases e; exact S.freeze q hv
    | bor d' =>
      by_cases ha : atom d' = true
      · simp only [ha, if_true] at e
        cases e
        obtain ⟨_, z, p1, p2⟩ := S.get q hv
        cases z
        exact ⟨G, Same.refl _, S, (S.bor p1 p2).atom ha G⟩
      · simp only [ha, if_false] at e
        cases e
end
/-! ### expressions -/
section
variable {X : Cx} {e a b c : Expr} {es : List Expr} {pos : Pos} {f fa fb : M D} {g ga gb : M Pl} {k : M Rv}
theorem pp_name (i : Nat) {x : Str} (hN : X.N[i]? = some x := by rfl) (hv : Vis X.env.scope x := by first | exact Or.inl rfl | exact Or.inr (Or.inl rfl) | exact Or.inr (Or.inr rfl)) (hd : (x == ("__debug__" : Str)) = false := by decide)
    (hcd : (x == ("__classdict__" : Str)) = false := by decide) : PP X (.Name x pos) (mVar i) := by
  refine ⟨_, pe_var hN hv hd hcd, fun C G σ H ρ Q hK S d ρ' hf q => ?_⟩
  unfold mVar at hf
  cases r : ρ[i]? with
  | none => rw [r] at hf; cases hf
  | some s =>
    rw [r] at hf
    obtain ⟨o, e1, k⟩ := S.sl i s r
    cases s with
    | un => cases hf
    | val d' => cases hf; obtain ⟨v, rfl, rr⟩ := k; exact ⟨v, e1, q v G H (Same.refl _) S rr⟩
    | own d' => cases hf; obtain ⟨a, rfl, _⟩ := k; exact ⟨_, e1, q _ G H (Same.refl _) S e1⟩
    | io d' => cases hf; obtain ⟨a, rfl, _⟩ := k; exact ⟨_, e1, q _ G H (Same.refl _) S e1⟩
    | bor d' => cases hf; obtain ⟨v, rfl, _⟩ := k; exact ⟨_, e1, q _ G H (Same.refl _) S e1⟩
    | scr ns => cases hf; obtain ⟨v, rfl, _⟩ := k; exact ⟨_, e1, q _ G H (Same.refl _) S e1⟩
theorem pv_const {v : V} {d : D} (h : PE X e (tC v)) (r : ∀ G, Rp G v d) : PV X e (mC d) := ⟨_, h, fun C G σ H ρ Q hK S d' ρ' hf q => by
  cases hf
  exact q v G H (Same.refl _) S (r G)⟩
theorem pv_int {i : Int} {j : Nat} : PV X (.Constant (.int i) j pos) (mC (.int i)) := pv_const pe_int fun _ => .int i
theorem pv_bl {b : Bool} {j : Nat} : PV X (.Constant (.bool b) j pos) (mC (.bool b)) := pv_const pe_bl fun _ => .bl b
theorem pv_non {j : Nat} : PV X (.Constant .none j pos) (mC .none) := pv_const pe_non fun _ => .non
theorem pv_str {x : String} {j : Nat} : PV X (.Constant (.str x) j pos) (mC (.str x)) := pv_const pe_str fun _ => .str x
theorem pp_of (h : PV X e f) : PP X e (mPl f) := by
  obtain ⟨t, ht, r⟩ := h
  refine ⟨t, ht, fun C G σ H ρ Q hK S d ρ' hf q => ?_⟩
  obtain ⟨d', ρ1, h1, h2⟩ := bnd_ok hf
  cases h2
  exact r C G σ H ρ Q hK S d' _ h1 q
theorem pf_of (h : PP X e g) : PF X e (mRv g) := by
  obtain ⟨t, ht, r⟩ := h
  refine ⟨t, ht, fun C G σ H ρ Q hK S d ρ' hf q => ?_⟩
  obtain ⟨d', ρ1, h1, h2⟩ := bnd_ok hf
  cases h2
  exact r C G σ H ρ Q hK S d' _ h1 q
theorem pv_of (h : PF X e k) : PV X e (mFz k) := by
  obtain ⟨t, ht, r⟩ := h
  refine ⟨t, ht, fun C G σ H ρ Q hK S d ρ' hf q => ?_⟩
  obtain ⟨d', ρ1, h1, h2⟩ := bnd_ok hf
  refine r C G σ H ρ Q hK S d' ρ1 h1 fun v G1 H1 g1 S1 o => ?_
  cases d' with
  | fr d2 =>
    cases h2
    obtain ⟨a, rfl, rr, gn, bn, aa, no⟩ := o
    obtain ⟨G2, g2, S2, r2⟩ := S1.freezeF rr gn aa no
    exact q _ G2 H1 (g1.trans g2) S2 r2
  | pl p =>
    cases p with
    | val d2 => cases h2; exact q v G1 H1 g1 S1 o
    | slot i =>
      obtain ⟨G2, g2, S2, r2⟩ := mGet_ok S1 (show σ[i]? = some (some v) from o) h2
      exact q _ G2 H1 (g1.trans g2) S2 r2
/-- an operation upon two things that are looked at -/
def POpV (r : R2) (g : D → D → Option D) : Prop := ∀ (G H : Hp) (x y : V) (d e z : D) (Q : VK), Same G H → Sh G H x d → Sh G H y e → g d e = some z → (∀ v G' H', Grow G H G' H' → Rp G' v z → Q v H') → r x y H Q
def POpF (r : R2) (g : D → D → Option D) : Prop := ∀ (G H : Hp) (x y : V) (d e z : D) (Q : VK), Same G H → Sh G H x d → Sh G H y e → g d e = some z → (∀ p H', H p = none → Grow G H G H' → Sh G H' (.ref p) z → Q (.ref p) H') → r x y H Q
theorem fresh_ok {C : Ctx} {G H H' : Hp} {σ : L2.St} {ρ : Env} {p : Addr} {z : D} (S : StOk C G σ H ρ) (hp : H p = none) (w : Grow G H G H') (s : Sh G H' (.ref p) z) : okR C G σ H' ρ (.ref p) (.fr z) :=
  ⟨p, rfl, s, S.gh.free hp, S.bh.free hp, S.fr p hp, fun i o => (Own.tracked S o).1 hp⟩
theorem rd_op {r : R2} {g' : D → D → Option D} {ta tb : TE} (hp : POpV r g') (ha : RdP X.K ta ga) (hb : RdP X.K tb gb) : RdV X.K (tOp r ta tb) (mOp g' ga gb) := by
  intro C G σ H ρ Q hK S d ρ' hf q
  obtain ⟨p, ρ1, h1, hf2⟩ := bnd_ok hf
  obtain ⟨p2, ρ2, h2, hf3⟩ := bnd_ok hf2
  refine ha C G σ H ρ _ hK S p ρ1 h1 fun v1 G1 H1 g1 S1 o1 => ?_
  refine hb C G1 σ H1 ρ1 _ hK S1 p2 ρ2 h2 fun v2 G2 H2 g2 S2 o2 => ?_
  obtain ⟨d1, ρ3, h3, hf4⟩ := bnd_ok hf3
  obtain ⟨s1, rfl⟩ := look_ok S2 (o1.mono g2) h3
  obtain ⟨d2, ρ4, h4, hf5⟩ := bnd_ok hf4
  obtain ⟨s2, rfl⟩ := look_ok S2 o2 h4
  obtain ⟨e, rfl⟩ := ofO_ok hf5
  exact hp G2 H2 v1 v2 d1 d2 d Q S2.gh s1 s2 e fun v G' H' w r => q v G' H' ((g1.trans g2).trans w.g) (S2.grow w) r
theorem rd_opF {r : R2} {g' : D → D → Option D} {ta tb : TE} (hp : POpF r g') (ha : RdP X.K ta ga) (hb : RdP X.K tb gb) : RdF X.K (tOp r ta tb) (mFr (mOp g' ga gb)) := by
  intro C G σ H ρ Q hK S d ρ' hf q
  obtain ⟨d', ρ0, hf0, h0⟩ := bnd_ok hf
  cases h0
  obtain ⟨p, ρ1, h1, hf2⟩ := bnd_ok hf0
  obtain ⟨p2, ρ2, h2, hf3⟩ := bnd_ok hf2
  refine ha C G σ H ρ _ hK S p ρ1 h1 fun v1 G1 H1 g1 S1 o1 => ?_
  refine hb C G1 σ H1 ρ1 _ hK S1 p2 ρ2 h2 fun v2 G2 H2 g2 S2 o2 => ?_
  obtain ⟨d1, ρ3, h3, hf4⟩ := bnd_ok hf3
  obtain ⟨s1, rfl⟩ := look_ok S2 (o1.mono g2) h3
  obtain ⟨d2, ρ4, h4, hf5⟩ := bnd_ok hf4
  obtain ⟨s2, rfl⟩ := look_ok S2 o2 h4
  obtain ⟨e, rfl⟩ := ofO_ok hf5
  exact hp G2 H2 v1 v2 d1 d2 d' Q S2.gh s1 s2 e fun p H' hn w s => q _ G2 H' (g1.trans g2) (S2.grow w) (fresh_ok S2 hn w s)
theorem pv_op {op : Operator} {r : R2} {g' : D → D → Option D} (ho : OpR X (binaryOp op) r) (hp : POpV r g') (ha : PP X a ga) (hb : PP X b gb) : PV X (.BinOp a op b pos) (mOp g' ga gb) := by
  obtain ⟨ta, ha, ra⟩ := ha
  obtain ⟨tb, hb, rb⟩ := hb
  exact ⟨_, pe_op ho ha hb, rd_op hp ra rb⟩
theorem pf_op {op : Operator} {r : R2} {g' : D → D → Option D} (ho : OpR X (binaryOp op) r) (hp : POpF r g') (ha : PP X a ga) (hb : PP X b gb) : PF X (.BinOp a op b pos) (mFr (mOp g' ga gb)) := by
  obtain ⟨ta, ha, ra⟩ := ha
  obtain ⟨tb, hb, rb⟩ := hb
  exact ⟨_, pe_op ho ha hb, rd_opF hp ra rb⟩
theorem pv_cmp {op : CmpOp} {r : R2} {g' : D → D → Option D} (ho : OpR X (compareOp op) r) (hp : POpV r g') (ha : PP X a ga) (hb : PP X b gb) (hm : behindInMarks op b = false) : PV X (.Compare a [op] [b] pos) (mOp g' ga gb) := by
  obtain ⟨ta, ha, ra⟩ := ha
  obtain ⟨tb, hb, rb⟩ := hb
  exact ⟨_, pe_cmpR ho ha hb hm, rd_op hp ra rb⟩
theorem rd_test {t : TE} (h : RdV X.K t f) : RdT X.K (tTest t) (mB f) := by
  intro C G σ H ρ Q hK S k ρ' hf q
  obtain ⟨d, ρ1, h1, hf⟩ := bnd_ok hf
  obtain ⟨e, rfl⟩ := ofO_ok hf
  refine h C G σ H ρ _ hK S d _ h1 fun v G' H' g S' r => ?_
  cases d with
  | bool b' => cases e; cases r; exact ⟨_, rfl, q G' H' g S'⟩
  | _ => cases e
theorem pt_cmp' {op : CmpOp} {r : R2} {g' : D → D → Option D} (ho : OpR X (compareOp op) r) (hp : POpV r g') (ha : PP X a ga) (hb : PP X b gb) (hm : behindInMarks op b = false) : PTt X (.Compare a [op] [b] pos) (mB (mOp g' ga gb)) := by
  obtain ⟨ta, ha, ra⟩ := ha
  obtain ⟨tb, hb, rb⟩ := hb
  exact ⟨_, pt_cmpR ho ha hb hm, rd_test (rd_op hp ra rb)⟩
theorem ptt_val (h : PV X e f) (he : ∀ whole, isTrue e X.env whole = (do let v ← whole; standAt e.pos; holding [v] (truthy v)) := by intro _; rfl) : PTt X e (mB f) := by
  obtain ⟨t, ht, r⟩ := h
  exact ⟨_, pt_val ht he, rd_test r⟩
theorem pt_of {gT : M Bool} (h : PWt X e gT) : PTt X e gT := let ⟨t, h, r⟩ := h; ⟨t, h.pt, r⟩
variable {ma mb : M Bool} {rest : List Expr}
theorem pwt_and1 (h : PTt X a ma) : PWt X (.BoolOp .And [a] pos) ma := let ⟨t, h, r⟩ := h; ⟨t, pw_and1 h, r⟩
theorem pwt_or1 (h : PTt X a ma) : PWt X (.BoolOp .Or [a] pos) ma := let ⟨t, h, r⟩ := h; ⟨t, pw_or1 h, r⟩
theorem pwt_and (h : PTt X a ma) (h2 : PWt X (.BoolOp .And (b :: rest) pos) mb) : PWt X (.BoolOp .And (a :: b :: rest) pos) (mAnd ma mb) := by
  obtain ⟨t, h, r⟩ := h
  obtain ⟨u, h2, r2⟩ := h2
  refine ⟨_, pw_and h h2, fun C G σ H ρ Q hK S k ρ' hf q => ?_⟩
  obtain ⟨k1, ρ1, h1, hf⟩ := bnd_ok hf
  refine r C G σ H ρ _ hK S k1 ρ1 h1 fun G1 H1 g1 S1 => ?_
  cases k1 with
  | true => exact r2 C G1 σ H1 ρ1 _ hK S1 k ρ' hf fun G2 H2 g2 S2 => q G2 H2 (g1.trans g2) S2
  | false => cases hf; exact q G1 H1 g1 S1
theorem pwt_or (h : PTt X a ma) (h2 : PWt X (.BoolOp .Or (b :: rest) pos) mb) : PWt X (.BoolOp .Or (a :: b :: rest) pos) (mOr ma mb) := by
  obtain ⟨t, h, r⟩ := h
  obtain ⟨u, h2, r2⟩ := h2
  refine ⟨_, pw_or h h2, fun C G σ H ρ Q hK S k ρ' hf q => ?_⟩
  obtain ⟨k1, ρ1, h1, hf⟩ := bnd_ok hf
  refine r C G σ H ρ _ hK S k1 ρ1 h1 fun G1 H1 g1 S1 => ?_
  cases k1 with
  | false => exact r2 C G1 σ H1 ρ1 _ hK S1 k ρ' hf fun G2 H2 g2 S2 => q G2 H2 (g1.trans g2) S2
  | true => cases hf; exact q G1 H1 g1 S1
theorem ptt_not (h : PTt X a ma) : PTt X (.UnaryOp .Not a pos) (mNot ma) := by
  obtain ⟨t, h, r⟩ := h
  refine ⟨_, pt_not h, fun C G σ H ρ Q hK S k ρ' hf q => ?_⟩
  obtain ⟨k1, ρ1, h1, hf⟩ := bnd_ok hf
  cases hf
  exact r C G σ H ρ _ hK S k1 _ h1 fun G1 H1 g1 S1 => q G1 H1 g1 S1
/-- and, or, not as values: all but the last one truths -/
theorem rdB {t : TE} (r : RdV X.K t f) {C : Ctx} {G : Hp} {σ : L2.St} {H : Hp} {ρ ρ1 : Env} {k : Bool} {Q : VK} (hK : C.K = X.K) (S : StOk C G σ H ρ) (h1 : mB f ρ = .ok k ρ1) (q : ∀ G' H', Same G G' → StOk C G' σ H' ρ1 → Q (.bl k) H') : t σ H Q := by
  obtain ⟨d, ρ2, h2, h3⟩ := bnd_ok h1
  obtain ⟨e, rfl⟩ := ofO_ok h3
  refine r C G σ H ρ _ hK S d _ h2 fun v G' H' g S' rr => ?_
  cases d with
  | bool b' => cases e; cases rr; exact q G' H' g S'
  | _ => cases e
theorem pv_one {op : BoolOp} (h : PV X a fa) : PV X (.BoolOp op [a] pos) fa := let ⟨t, h, r⟩ := h; ⟨t, pe_one h, r⟩
theorem pv_and (h : PV X a fa) (h2 : PV X (.BoolOp .And (b :: rest) pos) fb) : PV X (.BoolOp .And (a :: b :: rest) pos) (mAndV fa fb) := by
  obtain ⟨t, h, r⟩ := h
  obtain ⟨u, h2, r2⟩ := h2
  refine ⟨_, pe_and h h2, fun C G σ H ρ Q hK S d ρ' hf q => ?_⟩
  obtain ⟨k, ρ1, h1, hf⟩ := bnd_ok hf
  refine rdB r hK S h1 fun G1 H1 g1 S1 => ⟨k, rfl, ?_⟩
  cases k with
  | true => rw [if_pos rfl]; exact r2 C G1 σ H1 ρ1 _ hK S1 d ρ' hf fun v G2 H2 g2 S2 => q v G2 H2 (g1.trans g2) S2
  | false => cases hf; rw [if_neg Bool.false_ne_true]; exact q _ G1 H1 g1 S1 (.bl _)
theorem pv_or (h : PV X a fa) (h2 : PV X (.BoolOp .Or (b :: rest) pos) fb) : PV X (.BoolOp .Or (a :: b :: rest) pos) (mOrV fa fb) := by
  obtain ⟨t, h, r⟩ := h
  obtain ⟨u, h2, r2⟩ := h2
  refine ⟨_, pe_or h h2, fun C G σ H ρ Q hK S d ρ' hf q => ?_⟩
  obtain ⟨k, ρ1, h1, hf⟩ := bnd_ok hf
  refine rdB r hK S h1 fun G1 H1 g1 S1 => ⟨k, rfl, ?_⟩
  cases k with
  | false => rw [if_neg Bool.false_ne_true]; exact r2 C G1 σ H1 ρ1 _ hK S1 d ρ' hf fun v G2 H2 g2 S2 => q v G2 H2 (g1.trans g2) S2
  | true => cases hf; rw [if_pos rfl]; exact q _ G1 H1 g1 S1 (.bl _)
theorem pv_not (h : PV X a fa) : PV X (.UnaryOp .Not a pos) (mNotV fa) := by
  obtain ⟨t, h, r⟩ := h
  refine ⟨_, pe_not h, fun C G σ H ρ Q hK S d ρ' hf q => ?_⟩
  obtain ⟨k, ρ1, h1, hf⟩ := bnd_ok hf
  cases hf
  exact rdB r hK S h1 fun G1 H1 g1 S1 => ⟨_, rfl, q _ G1 H1 g1 S1 (.bl _)⟩
theorem pv_if (hc : PTt X c ma) (ha : PV X a fa) (hb : PV X b fb) : PV X (.IfExp c a b pos) (mIf ma fa fb) := by
  obtain ⟨t, hc, rc⟩ := hc
  obtain ⟨u, ha, ra⟩ := ha
  obtain ⟨w, hb, rb⟩ := hb
  refine ⟨_, pe_ifExp hc ha hb, fun C G σ H ρ Q hK S d ρ' hf q => ?_⟩
  obtain ⟨k, ρ1, h1, hf⟩ := bnd_ok hf
  refine rc C G σ H ρ _ hK S k ρ1 h1 fun G1 H1 g1 S1 => ?_
  cases k with
  | true => rw [if_pos rfl]; exact ra C G1 σ H1 ρ1 _ hK S1 d ρ' hf fun v G2 H2 g2 S2 => q v G2 H2 (g1.trans g2) S2
  | false => rw [if_neg Bool.false_ne_true]; exact rb C G1 σ H1 ρ1 _ hK S1 d ρ' hf fun v G2 H2 g2 S2 => q v G2 H2 (g1.trans g2) S2
/-! ### lists of expressions, displays -/
theorem pvs_nil : PVs X [] mNil := ⟨_, pa_nil, fun C G σ H ρ Q hK S d ρ' hf q => by cases hf; exact q [] G H (Same.refl _) S .nil⟩
theorem pvs_cons {fs : M (List D)} (h : PV X e f) (hr : PVs X es fs) (hs : starEach (e :: es) X.env = (false, eval e X.env) :: starEach es X.env := by rfl) : PVs X (e :: es) (mCons f fs) := by
  obtain ⟨t, h, r⟩ := h
  obtain ⟨u, hr, rr⟩ := hr
  refine ⟨_, pa_cons h hr hs, fun C G σ H ρ Q hK S ds ρ' hf q => ?_⟩
  obtain ⟨d, ρ1, h1, hf⟩ := bnd_ok hf
  obtain ⟨ds', ρ2, h2, hf⟩ := bnd_ok hf
  cases hf
  refine r C G σ H ρ _ hK S d ρ1 h1 fun v G1 H1 g1 S1 o1 => ?_
  exact rr C G1 σ H1 ρ1 _ hK S1 ds' _ h2 fun vs G2 H2 g2 S2 o2 => q _ G2 H2 (g1.trans g2) S2 (.cons (o1.mono g2) o2)
theorem pps_nil' : PPs X [] mNil := ⟨_, pa_nil, fun C G σ H ρ Q hK S d ρ' hf q => by cases hf; exact q [] G H (Same.refl _) S .nil⟩
theorem pps_cons' {fs : M (List Pl)} (h : PP X e g) (hr : PPs X es fs) (hs : starEach (e :: es) X.env = (false, eval e X.env) :: starEach es X.env := by rfl) : PPs X (e :: es) (mCons g fs) := by
  obtain ⟨t, h, r⟩ := h
  obtain ⟨u, hr, rr⟩ := hr
  refine ⟨_, pa_cons h hr hs, fun C G σ H ρ Q hK S ds ρ' hf q => ?_⟩
  obtain ⟨d, ρ1, h1, hf⟩ := bnd_ok hf
  obtain ⟨ds', ρ2, h2, hf⟩ := bnd_ok hf
  cases hf
  refine r C G σ H ρ _ hK S d ρ1 h1 fun v G1 H1 g1 S1 o1 => ?_
  exact rr C G1 σ H1 ρ1 _ hK S1 ds' _ h2 fun vs G2 H2 g2 S2 o2 => q _ G2 H2 (g1.trans g2) S2 (.cons (o1.mono g2) o2)
theorem line_of {n : Nat} (h : n ≤ 100000) : n ≤ sizeLine := Nat.le_trans h (by decide)
theorem pv_tup {x1} {fs : M (List D)} (h : PVs X es fs) : PV X (.Tuple es x1 pos) (mTup fs) := by
  obtain ⟨t, h, r⟩ := h
  refine ⟨_, pe_tup h, fun C G σ H ρ Q hK S d ρ' hf q => ?_⟩
  obtain ⟨ds, ρ1, h1, hf⟩ := bnd_ok hf
  by_cases hl : ds.length ≤ 100000
  · rw [if_pos hl] at hf
    cases hf
    refine r C G σ H ρ _ hK S ds _ h1 fun vs G1 H1 g1 S1 o1 => ⟨by rw [o1.length]; exact line_of hl, fun p hp => ?_⟩
    have w : Grow G1 H1 (upd G1 p (.tup vs)) (upd H1 p (.tup vs)) := Grow.new S1.gh hp
    exact q _ _ _ (g1.trans w.g) (S1.grow w) (.tup upd_same (o1.mono w.g))
  · rw [if_neg hl] at hf
    cases hf
theorem pf_lst {fs : M (List D)} (h : PVs X es fs) : PF X (.List es pos) (mLst fs) := by
  obtain ⟨t, h, r⟩ := h
  refine ⟨_, pe_lst h, fun C G σ H ρ Q hK S d ρ' hf q => ?_⟩
  obtain ⟨ds, ρ1, h1, hf⟩ := bnd_ok hf
  by_cases hl : ds.length ≤ 100000
  · rw [if_pos hl] at hf
    cases hf
    refine r C G σ H ρ _ hK S ds _ h1 fun vs G1 H1 g1 S1 o1 => ⟨by rw [o1.length]; exact line_of hl, fun p hp => ?_⟩
    have w : Grow G1 H1 G1 (upd H1 p (.lst vs)) := Grow.newF S1.gh hp
    exact q _ _ _ g1 (S1.grow w) (fresh_ok S1 hp w (.lst upd_same o1))
  · rw [if_neg hl] at hf
    cases hf
/-! ### built-ins by values -/
inductive ShA (G H : Hp) : List V → List D → Prop
  | nil : ShA G H [] []
  | cons {v : V} {vs : List V} {d : D} {ds : List D} : Sh G H v d → ShA G H vs ds → ShA G H (v :: vs) (d :: ds)
theorem lookAll_ok {C : Ctx} {G H : Hp} {σ : L2.St} {ρ : Env} (S : StOk C G σ H ρ) : ∀ {vs : List V} {ps : List Pl} {ds : List D} {ρ' : Env}, okPs G σ vs ps → lookAll ps ρ = .ok ds ρ' → ShA G H vs ds ∧ ρ' = ρ
  | _, _, _, _, .nil, e => by cases e; exact ⟨.nil, rfl⟩
  | _, _, _, _, .cons h r, e => by
    obtain ⟨d, ρ1, h1, e⟩ := bnd_ok e
    obtain ⟨ds', ρ2, h2, e⟩ := bnd_ok e
    cases e
    obtain ⟨s1, rfl⟩ := look_ok S h h1
    obtain ⟨s2, rfl⟩ := lookAll_ok S r h2
    exact ⟨.cons s1 s2, rfl⟩
def PClV (r : List V → Hp → VK → Prop) (g : List D → Option D) : Prop := ∀ (G H : Hp) (vs : List V) (ds : List D) (z : D) (Q : VK), Same G H → ShA G H vs ds → g ds = some z → (∀ v G' H', Grow G H G' H' → Rp G' v z → Q v H') → r vs H Q
def PClF (r : List V → Hp → VK → Prop) (g : List D → Option D) : Prop := ∀ (G H : Hp) (vs : List V) (ds : List D) (z : D) (Q : VK), Same G H → ShA G H vs ds → g ds = some z → (∀ p H', H p = none → Grow G H G H' → Sh G H' (.ref p) z → Q (.ref p) H') → r vs H Q
theorem rd_cl {r : List V → Hp → VK → Prop} {g' : List D → Option D} {t : TA} {fs : M (List Pl)} (hp : PClV r g') (ha : RdPs X.K t fs) : RdV X.K (tCB r t) (mN g' fs) := by
  intro C G σ H ρ Q hK S d ρ' hf q
  obtain ⟨ps, ρ1, h1, hf2⟩ := bnd_ok hf
  refine ha C G σ H ρ _ hK S ps ρ1 h1 fun vs G1 H1 g1 S1 o1 => ?_
  obtain ⟨ds, ρ2, h2, hf3⟩ := bnd_ok hf2
  obtain ⟨s, rfl⟩ := lookAll_ok S1 o1 h2
  obtain ⟨e, rfl⟩ := ofO_ok hf3
  exact hp G1 H1 vs ds d Q S1.gh s e fun v G' H' w rr => q v G' H' (g1.trans w.g) (S1.grow w) rr
theorem rd_clF {r : List V → Hp → VK → Prop} {g' : List D → Option D} {t : TA} {fs : M (List Pl)} (hp : PClF r g') (ha : RdPs X.K t fs) : RdF X.K (tCB r t) (mFr (mN g' fs)) := by
  intro C G σ H ρ Q hK S d ρ' hf q
  obtain ⟨d', ρ0, hf0, h0⟩ := bnd_ok hf
  cases h0
  obtain ⟨ps, ρ1, h1, hf2⟩ := bnd_ok hf0
  refine ha C G σ H ρ _ hK S ps ρ1 h1 fun vs G1 H1 g1 S1 o1 => ?_
  obtain ⟨ds, ρ2, h2, hf3⟩ := bnd_ok hf2
  obtain ⟨s, rfl⟩ := lookAll_ok S1 o1 h2
  obtain ⟨e, rfl⟩ := ofO_ok hf3
  exact hp G1 H1 vs ds d' Q S1.gh s e fun p H' hn w rr => q _ G1 H' g1 (S1.grow w) (fresh_ok S1 hn w rr)
end
end PL
namespace PL
open PySem PySem.Spec L2
inductive Fl where
  | nx | rt (r : Rv) | bk | ct
def endAt (D : Ends) (C : Ctx) (G : Hp) (σ : L2.St) (H : Hp) (ρ : Env) : Fl → Prop
  | .nx => D.nx σ H
  | .bk => D.bk σ H
  | .ct => D.ct σ H
  | .rt r => ∀ v, okR C G σ H ρ v r → D.rt v H
def RdS (K : PySem.W.Frag) (t : TS) (f : M Fl) : Prop := ∀ (C : Ctx) (G : Hp) (σ : L2.St) (H : Hp) (ρ : Env) (D : Ends), C.K = K → StOk C G σ H ρ → ∀ (fl : Fl) (ρ' : Env), f ρ = .ok fl ρ' →
  (∀ (σ' : L2.St) (G' H' : Hp), Same G G' → StOk C G' σ' H' ρ' → endAt D C G' σ' H' ρ' fl) → t D σ H
def RdG (K : PySem.W.Frag) (g : TG) (ts : List Nat) (m : D → M Unit) : Prop := ∀ (C : Ctx) (G : Hp) (σ : L2.St) (H : Hp) (ρ : Env) (v : V) (d : D) (Q : L2.St → Hp → Prop), C.K = K → StOk C G σ H ρ → Rp G v d → ∀ (ρ' : Env), m d ρ = .ok () ρ' →
  (∀ (σ' : L2.St), StOk C G σ' H ρ' → (∀ vs, (∀ i ∈ ts, i ∈ vs) → wipe σ' vs = wipe σ vs) → Q σ' H) → g v σ H Q
def RdGs (K : PySem.W.Frag) (g : TGs) (ts : List Nat) (m : List D → M Unit) : Prop := ∀ (C : Ctx) (G : Hp) (σ : L2.St) (H : Hp) (ρ : Env) (vs : List V) (ds : List D) (Q : L2.St → Hp → Prop), C.K = K → StOk C G σ H ρ → RpA G vs ds → ∀ (ρ' : Env), m ds ρ = .ok () ρ' →
  (∀ (σ' : L2.St), StOk C G σ' H ρ' → (∀ vs, (∀ i ∈ ts, i ∈ vs) → wipe σ' vs = wipe σ vs) → Q σ' H) → g vs σ H Q
structure JOk (J : It) (B G1 : Hp) (ds : List D) : Prop where
  go : ∀ (i : Nat) (G H : Hp), Same B H → Same G1 G → Same G H → i < ds.length → J.go i H
  yld : ∀ (i : Nat) (G H : Hp) (x : V) (H' : Hp) (d : D), Same B H → Same G1 G → Same G H → ds[i]? = some d → J.yld i H x H' → ∃ G', Grow G H G' H' ∧ Rp G' x d
  stop : ∀ (G H : Hp), Same B H → Same G1 G → Same G H → J.stop ds.length H
def RdI (K : PySem.W.Frag) (wi : TI) (f : M (List D)) : Prop := ∀ (C : Ctx) (G : Hp) (σ : L2.St) (H : Hp) (ρ : Env) (R : It → Hp → Prop), C.K = K → StOk C G σ H ρ → ∀ (ds : List D) (ρ' : Env), f ρ = .ok ds ρ' →
  (∀ (J : It) (G' H' : Hp), Same G G' → StOk C G' σ H' ρ' → JOk J C.B G' ds → R J H') → wi σ H R
def PSt (X : Cx) (st : Stmt) (f : M Fl) : Prop := ∃ t, PS X st t ∧ RdS X.K t f
def PSts (X : Cx) (st : List Stmt) (f : M Fl) : Prop := ∃ t, PSs X st t ∧ RdS X.K t f
def PGt (X : Cx) (e : Expr) (ts : List Nat) (m : D → M Unit) : Prop := ∃ g, PG X e g ∧ RdG X.K g ts m
def PGts (X : Cx) (es : List Expr) (ts : List Nat) (m : List D → M Unit) : Prop := ∃ g, PGs X es g ∧ RdGs X.K g ts m
def PIt (X : Cx) (tg e : Expr) (f : M (List D)) : Prop := ∃ wi, PI X tg e wi ∧ RdI X.K wi f
/-! ### the mirror's statements -/
def setS (i : Nat) (s : Sl) : M Unit := fun ρ => if i < ρ.length then .ok () (ρ.set i s) else .stuck
def mSet (i : Nat) (f : M Rv) : M Fl := bnd f fun r => match r with
  | .fr d => bnd (setS i (.own d)) fun _ => ret .nx
  | .pl (.val d) => bnd (setS i (.val d)) fun _ => ret .nx
  | .pl (.slot j) => bnd (mGet j) fun d => bnd (setS i (.val d)) fun _ => ret .nx
def mSeq (a b : M Fl) : M Fl := bnd a fun fl => match fl with
  | .nx => b
  | fl => ret fl
def mSkip : M Fl := ret .nx
def mRet (f : M Rv) : M Fl := bnd f fun r => ret (.rt r)
def mRetN : M Fl := ret (.rt (.pl (.val .none)))
def mDrop {α : Type} (f : M α) : M Fl := bnd f fun _ => ret .nx
def mBrk : M Fl := ret .bk
def mCnt : M Fl := ret .ct
def mNever {α : Type} : M α := fun _ => .stuck
def tName (i : Nat) : D → M Unit := fun d => setS i (.val d)
def tsNil : List D → M Unit
  | [] => ret ()
  | _ => fun _ => .stuck
def tsCons (t : D → M Unit) (u : List D → M Unit) : List D → M Unit
  | d :: ds => bnd (t d) fun _ => u ds
  | _ => fun _ => .stuck
def tTupl (u : List D → M Unit) : D → M Unit
  | .tuple ds => u ds
  | _ => fun _ => .stuck
def mAsg (t : D → M Unit) (f : M D) : M Fl := bnd f fun d => bnd (t d) fun _ => ret .nx
def forGo (t : D → M Unit) (b : M Fl) : List D → M Fl
  | [] => ret .nx
  | d :: ds => bnd (t d) fun _ => bnd b fun fl => match fl with
    | .nx => forGo t b ds
    | .ct => forGo t b ds
    | .bk => ret .nx
    | .rt r => ret (.rt r)
def mFor (f : M (List D)) (t : D → M Unit) (b : M Fl) : M Fl := bnd f fun ds => forGo t b ds
def whGo (c : M Bool) (b : M Fl) : Nat → M Fl
  | 0 => fun _ => .stuck
  | n + 1 => bnd c fun k => if k = true then bnd b fun fl => match fl with
    | .nx => whGo c b n
    | .ct => whGo c b n
    | .bk => ret .nx
    | .rt r => ret (.rt r)
    else ret .nx
def mWhile (n : Env → Nat) (c : M Bool) (b : M Fl) : M Fl := fun ρ => whGo c b (n ρ) ρ
section
variable {C : Ctx} {G H : Hp} {σ : L2.St} {ρ ρ' : Env} {v : V} {p : Pl} {d : D}
theorem setS_ok {i : Nat} {s : Sl} {u : Unit} (h : setS i s ρ = .ok u ρ') : i < ρ.length ∧ ρ' = ρ.set i s := by
  unfold setS at h
  by_cases q : i < ρ.length
  · rw [if_pos q] at h; cases h; exact ⟨q, rfl⟩
  · rw [if_neg q] at h; cases h
/-- a name is given a thing -/
theorem StOk.put (S : StOk C G σ H ρ) {i : Nat} {s : Sl} (hi : i < ρ.length) (h : SlOk C G H i (some v) s) (ho : ownK s = true → ∀ (j : Nat) (a : Addr), v = .ref a → ¬ Own σ ρ j a) : StOk C G (σ.set i (some v)) H (ρ.set i s) := by
  have hs : i < σ.length := by rw [S.len]; exact hi
  have sub : ∀ {m : Nat} {b : Addr}, m ≠ i → Own (σ.set i (some v)) (ρ.set i s) m b → Own σ ρ m b := fun {m b} hm ⟨x, s', y, z⟩ => by
    rw [List.getElem?_set_ne (fun z => hm z.symm)] at x y
    exact ⟨x, s', y, z⟩
  have self : ∀ {b : Addr}, Own (σ.set i (some v)) (ρ.set i s) i b → v = .ref b ∧ ownK s = true := fun {b} ⟨x, s', y, z⟩ => by
    rw [List.getElem?_set_self hs] at x
    rw [List.getElem?_set_self hi] at y
    cases y
    exact ⟨Option.some.inj (Option.some.inj x), z⟩
  refine ⟨S.gh, S.bh, S.g0, S.fr, S.ga, S.wf, by rw [List.length_set, List.length_set]; exact S.len, fun j s' q => ?_, fun j k b hj hk => ?_⟩
  · by_cases hj : j = i
    · subst hj
      rw [List.getElem?_set_self hi] at q
      cases q
      exact ⟨some v, List.getElem?_set_self hs, h⟩
    · rw [List.getElem?_set_ne (fun z => hj z.symm)] at q ⊢
      exact S.sl j s' q
  · by_cases h1 : j = i
    · by_cases h2 : k = i
      · rw [h1, h2]
      · subst h1
        obtain ⟨e, z⟩ := self hj
        exact absurd (sub h2 hk) (ho z k b e)
    · by_cases h2 : k = i
      · subst h2
        obtain ⟨e, z⟩ := self hk
        exact absurd (sub h1 hj) (ho z j b e)
      · exact S.ds j k b (sub h1 hj) (sub h2 hk)
theorem StOk.putV (S : StOk C G σ H ρ) {i : Nat} (hi : i < ρ.length) (h : Rp G v d) : StOk C G (σ.set i (some v)) H (ρ.set i (.val d)) :=
  S.put hi ⟨v, rfl, h⟩ fun z => nomatch z
/-- an own object is changed in place -/
theorem StOk.mut (S : StOk C G σ H ρ) {i : Nat} {a : Addr} {o : HO} {s s' : Sl} (e : ρ[i]? = some s) (k : ownK s = true) (hv : σ[i]? = some (some (.ref a)))
    (h : (∃ d, s = .own d ∧ ∃ d', s' = .own d' ∧ Sh G (upd H a o) (.ref a) d') ∨ ∃ d, s = .io d ∧ ∃ d', s' = .io d' ∧ Sh G (upd H a o) (.ref a) d') : StOk C G σ (upd H a o) (ρ.set i s') := by
  have hi : i < ρ.length := (List.getElem?_eq_some_iff.mp e).1
  have own0 : Own σ ρ i a := ⟨hv, s, e, k⟩
  obtain ⟨tr, ga, ba⟩ := Own.tracked S own0
  have k' : ownK s' = true := by
    rcases h with ⟨_, _, _, rfl, _⟩ | ⟨_, _, _, rfl, _⟩ <;> rfl
  have nb : ∀ {b : Addr} {u : HO}, G b = some u → b ≠ a := fun {b u} q z => by subst z; rw [ga] at q; cases q
  have nbB : ∀ {b : Addr} {u : HO}, C.B b = some u → b ≠ a := fun {b u} q z => by subst z; rw [ba] at q; cases q
  have sub : ∀ {m : Nat} {b : Addr}, Own σ (ρ.set i s') m b → Own σ ρ m b := fun {m b} ⟨x, s2, y, z⟩ => by
    by_cases hm : m = i
    · subst hm
      exact ⟨x, s, e, k⟩
    · rw [List.getElem?_set_ne (fun z => hm z.symm)] at y
      exact ⟨x, s2, y, z⟩
  refine ⟨fun b u q => ?_, fun b u q => ?_, S.g0, fun b q => ?_, S.ga, S.wf, by rw [List.length_set]; exact S.len, fun j s2 q => ?_, fun j k b hj hk => S.ds j k b (sub hj) (sub hk)⟩
  · rw [upd_ne (nb q)]; exact S.gh b u q
  · rw [upd_ne (nbB q)]; exact S.bh b u q
  · by_cases hb : b = a
    · subst hb; rw [upd_same] at q; cases q
    · rw [upd_ne hb] at q; exact S.fr b q
  · by_cases hj : j = i
    · subst hj
      rw [List.getElem?_set_self hi] at q
      cases q
      obtain ⟨oo, e1, q1⟩ := S.sl j s e
      rw [hv] at e1
      cases e1
      refine ⟨_, hv, ?_⟩
      rcases h with ⟨d, rfl, d', rfl, sh⟩ | ⟨d, rfl, d', rfl, sh⟩
      · obtain ⟨b, e3, _, x, y, z⟩ := q1
        cases e3
        exact ⟨_, rfl, sh, x, y, z⟩
      · obtain ⟨b, e3, _, x, y⟩ := q1
        cases e3
        exact ⟨_, rfl, sh, x, y⟩
    · rw [List.getElem?_set_ne (fun z => hj z.symm)] at q
      obtain ⟨oo, e1, q1⟩ := S.sl j s2 q
      refine ⟨oo, e1, ?_⟩
      have far : ∀ {b : Addr}, oo = some (.ref b) → ownK s2 = true → b ≠ a := fun {b} e2 k2 z => by
        subst z; subst e2
        exact hj (S.ds j i _ ⟨e1, s2, q, k2⟩ own0)
      cases s2 with
      | un => trivial
      | val d' => exact q1
      | own d' =>
        obtain ⟨b, e3, r, x, y, z⟩ := q1
        refine ⟨b, e3, r.at (Same.refl _) fun c ec u hu => ?_, x, y, z⟩
        cases ec
        rw [upd_ne (far e3 rfl)]; exact hu
      | io d' =>
        obtain ⟨b, e3, r, x, y⟩ := q1
        refine ⟨b, e3, r.at (Same.refl _) fun c ec u hu => ?_, x, y⟩
        cases ec
        rw [upd_ne (far e3 rfl)]; exact hu
      | bor d' => exact q1
      | scr ns => exact q1
end
/-! ### statements -/
section
variable {X : Cx} {e a b c : Expr} {es : List Expr} {pos pos' : Pos} {f fa fb : M D} {g ga gb : M Pl} {k : M Rv} {st : Stmt} {sts us : List Stmt} {m m1 m2 : M Fl} {x : Str}
theorem psts_nil : PSts X [] mSkip := ⟨_, pss_nil, fun C G σ H ρ D hK S fl ρ' hf q => by cases hf; exact q σ G H (Same.refl _) S⟩
theorem psts_one (h : PSt X st m) : PSts X [st] m := let ⟨t, h, r⟩ := h; ⟨t, pss_one h, r⟩
theorem psts_cons (h : PSt X st m1) (h2 : PSts X sts m2) : PSts X (st :: sts) (mSeq m1 m2) := by
  obtain ⟨t, h, r⟩ := h
  obtain ⟨u, h2, r2⟩ := h2
  refine ⟨_, pss_cons h h2, fun C G σ H ρ D hK S fl ρ' hf q => ?_⟩
  obtain ⟨f1, ρ1, h1, hf2⟩ := bnd_ok hf
  refine r C G σ H ρ _ hK S f1 ρ1 h1 fun σ1 G1 H1 g1 S1 => ?_
  cases f1 with
  | nx => exact r2 C G1 σ1 H1 ρ1 D hK S1 fl ρ' hf2 fun σ2 G2 H2 g2 S2 => q σ2 G2 H2 (g1.trans g2) S2
  | rt w => cases hf2; exact q σ1 G1 H1 g1 S1
  | bk => cases hf2; exact q σ1 G1 H1 g1 S1
  | ct => cases hf2; exact q σ1 G1 H1 g1 S1
theorem pst_pass : PSt X (.Pass pos) mSkip := ⟨_, ps_pass, fun C G σ H ρ D hK S fl ρ' hf q => by cases hf; exact q σ G H (Same.refl _) S⟩
theorem pst_break : PSt X (.Break pos) mBrk := ⟨_, ps_break, fun C G σ H ρ D hK S fl ρ' hf q => by cases hf; exact q σ G H (Same.refl _) S⟩
theorem pst_continue : PSt X (.Continue pos) mCnt := ⟨_, ps_continue, fun C G σ H ρ D hK S fl ρ' hf q => by cases hf; exact q σ G H (Same.refl _) S⟩
theorem pst_never : PSt X st mNever := ⟨_, ps_never, fun C G σ H ρ D hK S fl ρ' hf q => by cases hf⟩
theorem pst_ret (h : PF X e k) : PSt X (.Return (some e) pos) (mRet k) := by
  obtain ⟨t, h, r⟩ := h
  refine ⟨_, ps_ret h, fun C G σ H ρ D hK S fl ρ' hf q => ?_⟩
  obtain ⟨w, ρ1, h1, hf2⟩ := bnd_ok hf
  cases hf2
  exact r C G σ H ρ _ hK S w _ h1 fun v G1 H1 g1 S1 o => q σ G1 H1 g1 S1 v o
theorem pst_retN : PSt X (.Return none pos) mRetN := ⟨_, ps_retN, fun C G σ H ρ D hK S fl ρ' hf q => by
  cases hf
  exact q σ G H (Same.refl _) S .non .non⟩
theorem pst_drop (h : PV X e f) (hs : swapsWith e none pos.line X.env = pure false := by rfl) : PSt X (.Expr e pos) (mDrop f) := by
  obtain ⟨t, h, r⟩ := h
  refine ⟨_, ps_expr h hs, fun C G σ H ρ D hK S fl ρ' hf q => ?_⟩
  obtain ⟨w, ρ1, h1, hf2⟩ := bnd_ok hf
  cases hf2
  exact r C G σ H ρ _ hK S w _ h1 fun v G1 H1 g1 S1 o => q σ G1 H1 g1 S1
theorem pst_if (hc : PTt X c mc) (ha : PSts X sts m1) (hb : PSts X us m2) : PSt X (.If c sts us pos) (mIf mc m1 m2) := by
  obtain ⟨t, hc, rc⟩ := hc
  obtain ⟨u, ha, ra⟩ := ha
  obtain ⟨w, hb, rb⟩ := hb
  refine ⟨_, ps_if hc ha hb, fun C G σ H ρ D hK S fl ρ' hf q => ?_⟩
  obtain ⟨k, ρ1, h1, hf2⟩ := bnd_ok hf
  refine rc C G σ H ρ _ hK S k ρ1 h1 fun G1 H1 g1 S1 => ?_
  cases k with
  | true => rw [if_pos rfl]; exact ra C G1 σ H1 ρ1 D hK S1 fl ρ' hf2 fun σ2 G2 H2 g2 S2 => q σ2 G2 H2 (g1.trans g2) S2
  | false => rw [if_neg Bool.false_ne_true]; exact rb C G1 σ H1 ρ1 D hK S1 fl ρ' hf2 fun σ2 G2 H2 g2 S2 => q σ2 G2 H2 (g1.trans g2) S2
/-- x = e -/
theorem rd_set {t : TE} {i : Nat} (r : RdF X.K t k) : RdS X.K (tAsg t (gName i)) (mSet i k) := by
  intro C G σ H ρ D hK S fl ρ' hf q
  obtain ⟨w, ρ1, h1, hf2⟩ := bnd_ok hf
  refine r C G σ H ρ _ hK S w ρ1 h1 fun v G1 H1 g1 S1 o => ?_
  show D.nx (σ.set i (some v)) H1
  cases w with
  | fr d =>
    obtain ⟨u, ρ2, h2, hf3⟩ := bnd_ok hf2
    cases hf3
    obtain ⟨hi, rfl⟩ := setS_ok h2
    obtain ⟨a, rfl, sh, x, y, z, no⟩ := o
    exact q _ G1 H1 g1 (S1.put hi ⟨a, rfl, sh, x, y, z⟩ fun _ j b eb ow => by cases eb; exact no j ow)
  | pl p =>
    cases p with
    | val d =>
      obtain ⟨u, ρ2, h2, hf3⟩ := bnd_ok hf2
      cases hf3
      obtain ⟨hi, rfl⟩ := setS_ok h2
      exact q _ G1 H1 g1 (S1.putV hi o)
    | slot j =>
      obtain ⟨d, ρ2, h2, hf3⟩ := bnd_ok hf2
      obtain ⟨u, ρ3, h3, hf4⟩ := bnd_ok hf3
      cases hf4
      obtain ⟨hi, rfl⟩ := setS_ok h3
      obtain ⟨G2, g2, S2, r2⟩ := mGet_ok S1 (show σ[j]? = some (some v) from o) h2
      exact q _ G2 H1 (g1.trans g2) (S2.putV hi r2)
theorem pst_set {i : Nat} (hN : X.N.Nodup) (h : PF X e k) (hi : X.N[i]? = some x := by rfl) (hx : Loc X.env.scope x := by first | exact Or.inl rfl | exact Or.inr rfl) (hs : swapsWith e (some (.Name x pos')) pos.line X.env = pure false := by rfl)
    (hf : X.fn x = true ∨ X.env.scope.names.lookup x = some .local := by first | exact .inl rfl | exact .inr rfl | assumption) : PSt X (.Assign [.Name x pos'] e pos) (mSet i k) := by
  obtain ⟨t, h, r⟩ := h
  exact ⟨_, ps_set hN hi hx h hs hf, rd_set r⟩
/-! ### targets -/
theorem wipe_set {i : Nat} {o : Option V} : ∀ {vs : List Nat} {σ : L2.St}, i ∈ vs → wipe (σ.set i o) vs = wipe σ vs
  | [], _, h => by cases h
  | v :: vs, σ, h => by
    show (wipe (σ.set i o) vs).set v none = (wipe σ vs).set v none
    by_cases hv : i ∈ vs
    · rw [wipe_set hv]
    · have e : i = v := by
        cases h with
        | head => rfl
        | tail _ h => exact absurd h hv
      subst e
      have k : ∀ {ws : List Nat} {τ : L2.St}, i ∉ ws → wipe (τ.set i o) ws = (wipe τ ws).set i o := by
        intro ws
        induction ws with
        | nil => intro τ _; rfl
        | cons w ws ih =>
          intro τ hn
          show (wipe (τ.set i o) ws).set w none = ((wipe τ ws).set w none).set i o
          rw [ih (fun z => hn (List.mem_cons_of_mem _ z)), List.set_comm _ _ (fun z => hn (by rw [z]; exact List.mem_cons_self))]
      rw [k hv, List.set_set]
theorem pgt_name {i : Nat} (hN : X.N.Nodup) (hi : X.N[i]? = some x := by rfl) (hx : Loc X.env.scope x := by first | exact Or.inl rfl | exact Or.inr rfl) (hf : X.fn x = true ∨ X.env.scope.names.lookup x = some .local := by first | exact .inl rfl | exact .inr rfl | assumption) : PGt X (.Name x pos) [i] (tName i) :=
  ⟨_, pg_name hN hi hx hf, fun C G σ H ρ v d Q hK S rr ρ' hm q => by
    obtain ⟨hi, rfl⟩ := setS_ok hm
    exact q _ (S.putV hi rr) fun vs hv => wipe_set (hv i List.mem_cons_self)⟩
theorem pgts_nil : PGts X [] [] tsNil := ⟨_, pgs_nil, fun C G σ H ρ vs ds Q hK S rr ρ' hm q => by
  cases rr with
  | nil => cases hm; exact ⟨rfl, q σ S fun _ _ => rfl⟩
  | cons => cases hm⟩
theorem pgts_cons {t : D → M Unit} {u : List D → M Unit} {ts us : List Nat} (h : PGt X e ts t) (h2 : PGts X es us u) (hs : (assignEach (e :: es) X.env).map (·.2) = assign e X.env :: (assignEach es X.env).map (·.2) := by rfl) : PGts X (e :: es) (ts ++ us) (tsCons t u) := by
  obtain ⟨g, h, r⟩ := h
  obtain ⟨g2, h2, r2⟩ := h2
  refine ⟨_, pgs_cons h h2 hs, fun C G σ H ρ vs ds Q hK S rr ρ' hm q => ?_⟩
  cases rr with
  | nil => cases hm
  | @cons v vs d ds hv hr =>
    obtain ⟨uu, ρ1, h1, hm2⟩ := bnd_ok hm
    exact ⟨v, vs, rfl, r C G σ H ρ v d _ hK S hv ρ1 h1 fun σ1 S1 w1 => r2 C G σ1 H ρ1 vs ds Q hK S1 hr ρ' hm2 fun σ2 S2 w2 => q σ2 S2 fun ws hw => (w2 ws fun i hi => hw i (List.mem_append_right _ hi)).trans (w1 ws fun i hi => hw i (List.mem_append_left _ hi))⟩
end
end PL
namespace PL
open PySem PySem.Spec L2
def isOwn (j : Nat) : M Unit := fun ρ => match ρ[j]? with
  | some (.own _) => .ok () ρ
  | some (.io _) => .ok () ρ
  | _ => .stuck
def setAt (j : Nat) (d k : D) : M Fl := fun ρ => match ρ[j]? with
  | some (.own (.list ds)) => match k with
    | .int n => match ixN ds.length n with
      | some i => .ok .nx (ρ.set j (.own (.list (ds.set i d))))
      | none => .stuck
    | _ => .stuck
  | some (.io (.list ds)) => match k with
    | .int n => match ixN ds.length n with
      | some i => .ok .nx (ρ.set j (.io (.list (ds.set i d))))
      | none => .stuck
    | _ => .stuck
  | _ => .stuck
def mSetIx (j : Nat) (fe fi : M D) : M Fl := bnd fe fun d => bnd (isOwn j) fun _ => bnd fi fun k => setAt j d k
theorem isOwn_ok {C : Ctx} {G H : Hp} {σ : L2.St} {ρ ρ' : Env} {j : Nat} {u : Unit} (S : StOk C G σ H ρ) (h : isOwn j ρ = .ok u ρ') : ∃ a, σ[j]? = some (some (.ref a)) ∧ ρ' = ρ := by
  unfold isOwn at h
  cases q : ρ[j]? with
  | none => rw [q] at h; cases h
  | some s =>
    rw [q] at h
    obtain ⟨o, e1, q1⟩ := S.sl j s q
    cases s with
    | own d => cases h; obtain ⟨a, rfl, _⟩ := q1; exact ⟨a, e1, rfl⟩
    | io d => cases h; obtain ⟨a, rfl, _⟩ := q1; exact ⟨a, e1, rfl⟩
    | _ => cases h
theorem setAt_ok {j : Nat} {d : D} {n : Int} {ρ ρ' : Env} {fl : Fl} (h : setAt j d (.int n) ρ = .ok fl ρ') : ∃ s ds i, ρ[j]? = some s ∧ ((s = .own (.list ds) ∧ ρ' = ρ.set j (.own (.list (ds.set i d)))) ∨ (s = .io (.list ds) ∧ ρ' = ρ.set j (.io (.list (ds.set i d))))) ∧ ixN ds.length n = some i ∧ fl = .nx ∧ True := by
  unfold setAt at h
  cases q : ρ[j]? with
  | none => rw [q] at h; cases h
  | some s =>
    rw [q] at h
    cases s with
    | own d' =>
      cases d' with
      | list ds =>
        simp only at h
        cases r : ixN ds.length n with
        | none => rw [r] at h; cases h
        | some i => rw [r] at h; cases h; exact ⟨_, ds, i, rfl, .inl ⟨rfl, rfl⟩, r, rfl, trivial⟩
      | _ => cases h
    | io d' =>
      cases d' with
      | list ds =>
        simp only at h
        cases r : ixN ds.length n with
        | none => rw [r] at h; cases h
        | some i => rw [r] at h; cases h; exact ⟨_, ds, i, rfl, .inr ⟨rfl, rfl⟩, r, rfl, trivial⟩
      | _ => cases h
    | _ => cases h
theorem setAt_int {j : Nat} {d k : D} {ρ ρ' : Env} {fl : Fl} (h : setAt j d k ρ = .ok fl ρ') (hk : ∀ n, k ≠ .int n := by intro n z; cases z) : False := by
  unfold setAt at h
  cases q : ρ[j]? with
  | none => rw [q] at h; cases h
  | some s =>
    rw [q] at h
    cases s with
    | own d' =>
      cases d' with
      | list ds => cases k with
        | int n => exact hk n rfl
        | _ => cases h
      | _ => cases h
    | io d' =>
      cases d' with
      | list ds => cases k with
        | int n => exact hk n rfl
        | _ => cases h
      | _ => cases h
    | _ => cases h
/-- a method that changes the list at a name -/
def mutAt (j : Nat) (g : List D → List D → Option (List D × D)) (as : List D) : M D := fun ρ => match ρ[j]? with
  | some (.own (.list ds)) => match g ds as with
    | some nr => .ok nr.2 (ρ.set j (.own (.list nr.1)))
    | none => .stuck
  | some (.io (.list ds)) => match g ds as with
    | some nr => .ok nr.2 (ρ.set j (.io (.list nr.1)))
    | none => .stuck
  | _ => .stuck
def isOwnL (j : Nat) : M Unit := fun ρ => match ρ[j]? with
  | some (.own (.list _)) => .ok () ρ
  | some (.io (.list _)) => .ok () ρ
  | _ => .stuck
def mMut (j : Nat) (g : List D → List D → Option (List D × D)) (fs : M (List D)) : M D := bnd (isOwnL j) fun _ => bnd fs fun as => mutAt j g as
theorem isOwnL_ok {C : Ctx} {G H : Hp} {σ : L2.St} {ρ ρ' : Env} {j : Nat} {u : Unit} (S : StOk C G σ H ρ) (h : isOwnL j ρ = .ok u ρ') : ∃ a xs, σ[j]? = some (some (.ref a)) ∧ H a = some (.lst xs) ∧ ρ' = ρ := by
  unfold isOwnL at h
  cases q : ρ[j]? with
  | none => rw [q] at h; cases h
  | some s =>
    rw [q] at h
    obtain ⟨o, e1, q1⟩ := S.sl j s q
    cases s with
    | own d => cases d with
      | list ds => cases h; obtain ⟨a, rfl, sh, _⟩ := q1; cases sh with
        | lst hh r => exact ⟨a, _, e1, hh, rfl⟩
      | _ => cases h
    | io d => cases d with
      | list ds => cases h; obtain ⟨a, rfl, sh, _⟩ := q1; cases sh with
        | lst hh r => exact ⟨a, _, e1, hh, rfl⟩
      | _ => cases h
    | _ => cases h
theorem mutAt_ok {j : Nat} {g : List D → List D → Option (List D × D)} {as : List D} {ρ ρ' : Env} {z : D} (h : mutAt j g as ρ = .ok z ρ') : ∃ s ds new, ρ[j]? = some s ∧ g ds as = some (new, z) ∧ ((s = .own (.list ds) ∧ ρ' = ρ.set j (.own (.list new))) ∨ (s = .io (.list ds) ∧ ρ' = ρ.set j (.io (.list new)))) := by
  unfold mutAt at h
  cases q : ρ[j]? with
  | none => rw [q] at h; cases h
  | some s =>
    rw [q] at h
    cases s with
    | own d' =>
      cases d' with
      | list ds =>
        simp only at h
        cases r : g ds as with
        | none => rw [r] at h; cases h
        | some nr => rw [r] at h; cases h; exact ⟨_, ds, nr.1, rfl, r, .inl ⟨rfl, rfl⟩⟩
      | _ => cases h
    | io d' =>
      cases d' with
      | list ds =>
        simp only at h
        cases r : g ds as with
        | none => rw [r] at h; cases h
        | some nr => rw [r] at h; cases h; exact ⟨_, ds, nr.1, rfl, r, .inr ⟨rfl, rfl⟩⟩
      | _ => cases h
    | _ => cases h
def mAug (i : Nat) (g : D → D → Option D) (fb : M Pl) : M Fl := bnd (mVar i) fun p => bnd fb fun q => bnd (look p) fun d => bnd (look q) fun e => bnd (ofO (g d e)) fun z => bnd (setS i (.val z)) fun _ => ret .nx
/-- while a loop goes over the list at j, it is but borrowed -/
def mLend (j : Nat) (f : M Fl) : M Fl := fun ρ => match ρ[j]? with
  | some (.own d) => match f (ρ.set j (.bor d)) with
    | .ok fl ρ' => match ρ'[j]? with
      | some (.bor d') => match fl with
        | .rt (.pl (.slot i)) => if i = j then .stuck else .ok fl (ρ'.set j (.own d))
        | fl => .ok fl (ρ'.set j (.own d))
      | _ => .stuck
    | .stuck => .stuck
  | _ => f ρ
section
variable {X : Cx} {e a b c tg : Expr} {es : List Expr} {pos pos' tpos : Pos} {f fa fb : M D} {g ga gb : M Pl} {k : M Rv} {st : Stmt} {sts us : List Stmt} {m m1 m2 : M Fl} {x : Str}
theorem pgt_tup {n : Nat} {kk : Nat} {u : List D → M Unit} {ts : List Nat} (hc : X.calm = true) (h : PGts X es ts u) (hn : (assignEach es X.env).length = n := by rfl) (hl : ∀ ds ρ ρ', u ds ρ = .ok () ρ' → ds.length = n)
    (hst : (assignEach es X.env).findIdx? (·.1) = none := by rfl) : PGt X (.Tuple es kk pos) ts (tTupl u) := by
  obtain ⟨g, h, r⟩ := h
  refine ⟨_, pg_tup hc h hn hst, fun C G σ H ρ v d Q hK S rr ρ' hm q => ?_⟩
  cases rr with
  | @tup a xs ds ha hr => exact ⟨a, xs, rfl, Or.inl (Or.inl (S.gh _ _ ha)), by rw [hr.length]; exact hl ds ρ ρ' hm, r C G σ H ρ xs ds Q hK S hr ρ' hm q⟩
  | _ => cases hm
theorem pst_asg {t : D → M Unit} {ts : List Nat} (h : PV X e f) (ht : PGt X tg ts t) (hs : swapsWithSole [tg] e pos.line X.env = pure false := by rfl) (hw : swappedStores [tg] e X.env = pure none := by rfl) (h1 : (assignEach [tg] X.env).map (·.2) = [assign tg X.env] := by rfl) : PSt X (.Assign [tg] e pos) (mAsg t f) := by
  obtain ⟨te, h, r⟩ := h
  obtain ⟨g, hg, rg⟩ := ht
  refine ⟨_, ps_asg h hg hs hw h1, fun C G σ H ρ D hK S fl ρ' hf q => ?_⟩
  obtain ⟨d, ρ1, h1, hf2⟩ := bnd_ok hf
  obtain ⟨uu, ρ2, h2, hf3⟩ := bnd_ok hf2
  cases hf3
  refine r C G σ H ρ _ hK S d ρ1 h1 fun v G1 H1 g1 S1 o => ?_
  exact rg C G1 σ H1 ρ1 v d _ hK S1 o _ h2 fun σ2 S2 _ => q σ2 G1 H1 g1 S2
/-! ### for -/
theorem forGo_rd {wi : TI} {gt : TG} {tb : TS} {fi : M (List D)} {t : D → M Unit} {ts : List Nat} {mb : M Fl} (hi : RdI X.K wi fi) (hg : RdG X.K gt ts t) (hb : RdS X.K tb mb) : RdS X.K (tFor wi gt tb) (mFor fi t mb) := by
  intro C G σ H ρ D hK S fl ρ' hf q
  obtain ⟨ds, ρ1, h1, hf2⟩ := bnd_ok hf
  refine hi C G σ H ρ _ hK S ds ρ1 h1 fun J G1 H1 g1 S1 JJ => ?_
  refine ⟨fun i mm σ2 H2 => i + mm = ds.length ∧ ∃ G2 ρ2, Same G1 G2 ∧ StOk C G2 σ2 H2 ρ2 ∧ forGo t mb (ds.drop i) ρ2 = .ok fl ρ', ⟨ds.length, by omega, G1, ρ1, Same.refl _, S1, by simpa using hf2⟩, fun i mm σ2 H2 ⟨hm, G2, ρ2, g2, S2, h2⟩ => ?_⟩
  by_cases hlt : i < ds.length
  · refine .inr ⟨JJ.go i G2 H2 S2.bh g2 S2.gh hlt, fun σ3 H3 => ∃ G3 ρ3, Same G1 G3 ∧ StOk C G3 σ3 H3 ρ3 ∧ forGo t mb (ds.drop (i + 1)) ρ3 = .ok fl ρ', fun σ3 H3 ⟨G3, ρ3, g3, S3, h3⟩ => ⟨mm - 1, by omega, by omega, G3, ρ3, g3, S3, h3⟩, fun y H3 hy => ?_⟩
    have ed : ds[i]? = some ds[i] := List.getElem?_eq_getElem hlt
    obtain ⟨G3, w, ry⟩ := JJ.yld i G2 H2 y H3 _ S2.bh g2 S2.gh ed hy
    have S3 := S2.grow w
    rw [List.drop_eq_getElem_cons hlt] at h2
    obtain ⟨uu, ρ3, h3, h4⟩ := bnd_ok h2
    obtain ⟨f1, ρ4, h5, h6⟩ := bnd_ok h4
    refine hg C G3 σ2 H3 ρ2 y _ _ hK S3 ry ρ3 h3 fun σ4 S4 _ => ?_
    refine hb C G3 σ4 H3 ρ3 _ hK S4 f1 ρ4 h5 fun σ5 G5 H5 g5 S5 => ?_
    have gg : Same G1 G5 := (g2.trans w.g).trans g5
    cases f1 with
    | nx => exact ⟨G5, ρ4, gg, S5, h6⟩
    | ct => exact ⟨G5, ρ4, gg, S5, h6⟩
    | bk => cases h6; exact q σ5 G5 H5 (g1.trans gg) S5
    | rt r => cases h6; exact q σ5 G5 H5 (g1.trans gg) S5
  · have hi : i = ds.length := by omega
    rw [List.drop_eq_nil_of_le (by omega)] at h2
    cases h2
    refine .inl ⟨?_, q σ2 G2 H2 (g1.trans g2) S2⟩
    rw [hi]
    exact JJ.stop G2 H2 S2.bh g2 S2.gh
theorem pst_for {fi : M (List D)} {t : D → M Unit} {ts : List Nat} (hp : PassesOwn (model X.prog X.w) X.A X.env X.xe) (hc : X.calm = true) (hi : PIt X tg e fi) (hg : PGt X tg ts t) (hb : PSts X sts m)
    (hs : ∀ x, foldedSetIterable e X.env x = pure x := by intro _; rfl) : PSt X (.For tg e sts [] pos) (mFor fi t m) := by
  obtain ⟨wi, hi, ri⟩ := hi
  obtain ⟨gt, hg, rg⟩ := hg
  obtain ⟨tb, hb, rb⟩ := hb
  exact ⟨_, ps_for hp hc hi hg hb hs, forGo_rd ri rg rb⟩
/-! ### while -/
theorem pst_while {mc : M Bool} (n : Env → Nat) (hp : PassesOwn (model X.prog X.w) X.A X.env X.xe) (hc : PTt X c mc) (hb : PSts X sts m) : PSt X (.While c sts [] pos) (mWhile n mc m) := by
  obtain ⟨tc, hc, rc⟩ := hc
  obtain ⟨tb, hb, rb⟩ := hb
  refine ⟨_, ps_while hp hc hb, fun C G σ H ρ D hK S fl ρ' hf q => ?_⟩
  refine ⟨fun mm σ2 H2 => ∃ G2 ρ2, Same G G2 ∧ StOk C G2 σ2 H2 ρ2 ∧ whGo mc m mm ρ2 = .ok fl ρ', ⟨n ρ, G, ρ, Same.refl _, S, hf⟩, fun mm σ2 H2 ⟨G2, ρ2, g2, S2, h2⟩ => ?_⟩
  cases mm with
  | zero => cases h2
  | succ mm =>
    obtain ⟨kk, ρ3, h3, h4⟩ := bnd_ok h2
    refine rc C G2 σ2 H2 ρ2 _ hK S2 kk ρ3 h3 fun G3 H3 g3 S3 => ?_
    cases kk with
    | false =>
      rw [if_neg Bool.false_ne_true]
      cases h4
      exact q σ2 G3 H3 (g2.trans g3) S3
    | true =>
      rw [if_pos rfl]
      refine ⟨fun σ5 H5 => ∃ G5 ρ5, Same G G5 ∧ StOk C G5 σ5 H5 ρ5 ∧ whGo mc m mm ρ5 = .ok fl ρ', fun σ5 H5 z => ⟨mm, by omega, z⟩, ?_⟩
      obtain ⟨f1, ρ4, h5, h6⟩ := bnd_ok h4
      refine rb C G3 σ2 H3 ρ3 _ hK S3 f1 ρ4 h5 fun σ5 G5 H5 g5 S5 => ?_
      have gg : Same G G5 := (g2.trans g3).trans g5
      cases f1 with
      | nx => exact ⟨G5, ρ4, gg, S5, h6⟩
      | ct => exact ⟨G5, ρ4, gg, S5, h6⟩
      | bk => cases h6; exact q σ5 G5 H5 gg S5
      | rt r => cases h6; exact q σ5 G5 H5 gg S5
/-! ### lists changed in place -/
theorem pst_setix {j : Nat} (he : PV X e f) (hi : PV X b fb) (hN : X.N[j]? = some x := by rfl) (hv : Vis X.env.scope x := by first | exact Or.inl rfl | exact Or.inr (Or.inl rfl) | exact Or.inr (Or.inr rfl)) (hd : (x == ("__debug__" : Str)) = false := by decide)
    (hcd : (x == ("__classdict__" : Str)) = false := by decide) (ha : ∀ v, assign (.Subscript (.Name x pos') b tpos) X.env v = (do
      let ov ← holding [v] (eval (.Name x pos') X.env)
      let iv ← holding [v, ov] (eval b X.env)
      standAt tpos
      holding [v, ov, iv] (setItem ov iv v)
      release [v, ov, iv] []) := by intro _; rfl) (hs : swapsWithSole [.Subscript (.Name x pos') b tpos] e pos.line X.env = pure false := by rfl) (hw : swappedStores [.Subscript (.Name x pos') b tpos] e X.env = pure none := by rfl) :
    PSt X (.Assign [.Subscript (.Name x pos') b tpos] e pos) (mSetIx j f fb) := by
  obtain ⟨te, he, re⟩ := he
  obtain ⟨ti, hi, ri⟩ := hi
  refine ⟨_, ps_asg he (pg_sub (pe_var hN hv hd hcd) hi set_list ha) hs hw, fun C G σ H ρ D hK S fl ρ' hf q => ?_⟩
  obtain ⟨d, ρ1, h1, hf2⟩ := bnd_ok hf
  obtain ⟨_, ρ0, h0, hf3⟩ := bnd_ok hf2
  obtain ⟨kd, ρ2, h2, hf4⟩ := bnd_ok hf3
  refine re C G σ H ρ _ hK S d ρ1 h1 fun v G1 H1 g1 S1 o1 => ?_
  obtain ⟨a, ea, rfl⟩ := isOwn_ok S1 h0
  refine ⟨.ref a, ea, ?_⟩
  refine ri C G1 σ H1 _ _ hK S1 kd ρ2 h2 fun v2 G2 H2 g2 S2 o2 => ?_
  cases o2 with
  | int n =>
    obtain ⟨s, ds, i, es, hsd, hix, hfl, hρ⟩ := setAt_ok hf4
    cases hfl
    obtain ⟨o, e1, q1⟩ := S2.sl j s es
    rw [ea] at e1
    cases e1
    have fin : ∀ xs, H2 a = some (.lst xs) → RpA G2 xs ds → rSetL (.ref a) (.int n) v H2 (fun H3 => D.nx σ H3) := fun xs hx hr => by
      refine ⟨a, xs, n, i, rfl, rfl, hx, by rw [hr.length]; exact hix, ?_⟩
      have sh : Sh G2 (upd H2 a (.lst (xs.set i v))) (.ref a) (.list (ds.set i d)) := .lst upd_same (hr.set (o1.mono g2) i)
      rcases hsd with ⟨rfl, rfl⟩ | ⟨rfl, rfl⟩
      · exact q σ G2 _ (g1.trans g2) (S2.mut es rfl ea (.inl ⟨_, rfl, _, rfl, sh⟩))
      · exact q σ G2 _ (g1.trans g2) (S2.mut es rfl ea (.inr ⟨_, rfl, _, rfl, sh⟩))
    rcases hsd with ⟨rfl, _⟩ | ⟨rfl, _⟩
    · obtain ⟨b, eb, sh, _⟩ := q1
      cases eb
      cases sh with
      | lst h r => exact fin _ h r
    · obtain ⟨b, eb, sh, _⟩ := q1
      cases eb
      cases sh with
      | lst h r => exact fin _ h r
  | _ => exact (setAt_int hf4).elim
/-- a method that changes a list -/
def PMut (r : V → List V → Hp → VK → Prop) (g : List D → List D → Option (List D × D)) : Prop := ∀ (G H : Hp) (l : Addr) (vs : List V) (ds : List D) (as : List V) (ads : List D) (new : List D) (z : D) (Q : VK),
  Same G H → H l = some (.lst vs) → RpA G vs ds → RpA G as ads → g ds ads = some (new, z) → (∀ v ws, RpA G ws new → Rp G v z → Q v (upd H l (.lst ws))) → r (.ref l) as H Q
theorem rd_mut {r : V → List V → Hp → VK → Prop} {g' : List D → List D → Option (List D × D)} {t : TA} {fs : M (List D)} {j : Nat} (hp : PMut r g') (ha : RdA X.K t fs) : RdV X.K (tBM X.K "list" r (tVar j) t) (mMut j g' fs) := by
  intro C G σ H ρ Q hK S z ρ' hf q
  obtain ⟨_, ρ0, h0, hf2⟩ := bnd_ok hf
  obtain ⟨ads, ρ1, h1, hf3⟩ := bnd_ok hf2
  obtain ⟨a, xs0, ea, hx0, rfl⟩ := isOwnL_ok S h0
  refine ⟨.ref a, ea, Or.inl ⟨rfl, xs0, Or.inl (Or.inl hx0)⟩, ?_⟩
  refine ha C G σ H _ _ hK S ads ρ1 h1 fun as G1 H1 g1 S1 o1 => ?_
  obtain ⟨s, ds, new, es, hg, hsd⟩ := mutAt_ok hf3
  obtain ⟨o, e1, q1⟩ := S1.sl j s es
  rw [ea] at e1
  cases e1
  have fin : ∀ xs, H1 a = some (.lst xs) → RpA G1 xs ds → r (.ref a) as H1 Q := fun xs hx hr => by
    refine hp G1 H1 a xs ds as ads new z Q S1.gh hx hr o1 hg fun v ws rw1 rz => ?_
    have sh : Sh G1 (upd H1 a (.lst ws)) (.ref a) (.list new) := .lst upd_same rw1
    rcases hsd with ⟨rfl, rfl⟩ | ⟨rfl, rfl⟩
    · exact q v G1 _ g1 (S1.mut es rfl ea (.inl ⟨_, rfl, _, rfl, sh⟩)) rz
    · exact q v G1 _ g1 (S1.mut es rfl ea (.inr ⟨_, rfl, _, rfl, sh⟩)) rz
  rcases hsd with ⟨rfl, _⟩ | ⟨rfl, _⟩
  · obtain ⟨b, eb, sh, _⟩ := q1
    cases eb
    cases sh with
    | lst h r => exact fin _ h r
  · obtain ⟨b, eb, sh, _⟩ := q1
    cases eb
    cases sh with
    | lst h r => exact fin _ h r
/-- x op= e -/
theorem pst_aug {op : Operator} {ti : TIp} {i : Nat} {g' : D → D → Option D} (ho : PIp X op ti) (hp : POpV ti g') (hN : X.N.Nodup) (h : PP X e g) (hi : X.N[i]? = some x := by rfl) (hx : Loc X.env.scope x := by first | exact Or.inl rfl | exact Or.inr rfl)
    (hf : X.fn x = true ∨ X.env.scope.names.lookup x = some .local := by first | exact .inl rfl | exact .inr rfl | assumption) : PSt X (.AugAssign (.Name x pos') op e pos) (mAug i g' g) := by
  obtain ⟨te, h, r⟩ := h
  refine ⟨_, ps_aug hN hi hx h ho hf, fun C G σ H ρ D hK S fl ρ' hf q => ?_⟩
  obtain ⟨p, ρ1, h1, hf2⟩ := bnd_ok hf
  obtain ⟨p2, ρ2, h2, hf3⟩ := bnd_ok hf2
  have hv : ∃ v, σ[i]? = some (some v) ∧ okP G σ v p ∧ ρ1 = ρ := by
    unfold mVar at h1
    cases rr : ρ[i]? with
    | none => rw [rr] at h1; cases h1
    | some s =>
      rw [rr] at h1
      obtain ⟨o, e1, kk⟩ := S.sl i s rr
      cases s with
      | un => cases h1
      | val d' => cases h1; obtain ⟨v, rfl, rx⟩ := kk; exact ⟨v, e1, rx, rfl⟩
      | own d' => cases h1; obtain ⟨a, rfl, _⟩ := kk; exact ⟨_, e1, e1, rfl⟩
      | io d' => cases h1; obtain ⟨a, rfl, _⟩ := kk; exact ⟨_, e1, e1, rfl⟩
      | bor d' => cases h1; obtain ⟨v, rfl, _⟩ := kk; exact ⟨_, e1, e1, rfl⟩
      | scr ns => cases h1; obtain ⟨v, rfl, _⟩ := kk; exact ⟨_, e1, e1, rfl⟩
  obtain ⟨v, ev, o1, rfl⟩ := hv
  refine ⟨v, ev, ?_⟩
  refine r C G σ H _ _ hK S p2 ρ2 h2 fun v2 G2 H2 g2 S2 o2 => ?_
  obtain ⟨d1, ρ3, h3, hf4⟩ := bnd_ok hf3
  obtain ⟨s1, rfl⟩ := look_ok S2 (o1.mono g2) h3
  obtain ⟨d2, ρ4, h4, hf5⟩ := bnd_ok hf4
  obtain ⟨s2, rfl⟩ := look_ok S2 o2 h4
  obtain ⟨z, ρ5, h5, hf6⟩ := bnd_ok hf5
  obtain ⟨ez, rfl⟩ := ofO_ok h5
  obtain ⟨uu, ρ6, h6, hf7⟩ := bnd_ok hf6
  cases hf7
  obtain ⟨hi', rfl⟩ := setS_ok h6
  exact hp G2 H2 v v2 d1 d2 z _ S2.gh s1 s2 ez fun v3 G3 H3 w rz => q _ G3 H3 (g2.trans w.g) ((S2.grow w).putV hi' rz)
end
end PL
namespace PL
open PySem PySem.Spec L2 RT RZ
/-! ### what is gone through -/
def itemsD : D → Option (Bool × List D)
  | .list ds => some (false, ds)
  | .tuple ds => some (true, ds)
  | _ => none
def seqAt (p : Pl) : M (Bool × List D) := fun ρ => match p with
  | .val d => match itemsD d with
    | some ds => .ok ds ρ
    | none => .stuck
  | .slot i => match ρ[i]? with
    | some (.bor d) => match itemsD d with
      | some ds => .ok ds ρ
      | none => .stuck
    | some (.scr ns) => .ok (false, ns.map PyData.int) ρ
    | _ => .stuck
def mIter (f : M Pl) : M (List D) := bnd f fun p => bnd (seqAt p) fun ds => ret ds.2
def mRev (f : M (List D)) : M (List D) := bnd f fun ds => ret ds.reverse
def mEnum (f : M (List D)) : M (List D) := bnd f fun ds => ret (ds.zipIdx.map fun (d, i) => .tuple [.int (i : Int), d])
def mZip (f g : M Pl) : M (List D) := bnd f fun p => bnd g fun q => bnd (seqAt p) fun ds => bnd (seqAt q) fun es => if (ds.1 == es.1) = true then ret ((ds.2.zip es.2).map fun (d, e) => .tuple [d, e]) else fun _ => .stuck
def rngD (lo hi : Int) : List D := (List.range (hi - lo).toNat).map fun (i : Nat) => .int (lo + (i : Int))
def small62 (i : Int) : Bool := decide (-(2 ^ 62) ≤ i) && decide (i < 2 ^ 62)
def mRng1 (f : M D) : M (List D) := bnd f fun d => fun ρ => match d with
  | .int n => if small62 n = true then .ok (rngD 0 n) ρ else .stuck
  | _ => .stuck
def mRng2 (f g : M D) : M (List D) := bnd f fun d => bnd g fun e => fun ρ => match d, e with
  | .int a, .int b => if (small62 a && small62 b) = true then .ok (rngD a b) ρ else .stuck
  | _, _ => .stuck
/-- a list or a tuple that stays through all that the state lets be -/
def SeqS (K : PySem.W.Frag) (B G1 : Hp) (v : V) (ds : Bool × List D) : Prop :=
  ∃ a xs, v = .ref a ∧ RpA G1 xs ds.2 ∧ ((ds.1 = false ∧ ∀ G H, Same B H → Same G1 G → Same G H → SqL K H a xs) ∨ (ds.1 = true ∧ ∀ G H, Same B H → Same G1 G → Same G H → SqT K H a xs))
theorem sqT_seq {K : PySem.W.Frag} {H H' : Hp} {a : Addr} {xs : List V} (e : Same H H') (h : SqT K H a xs) : SqT K H' a xs := by
  rcases h with (h | ⟨o, h⟩) | h
  · exact .inl (.inl (e _ _ h))
  · exact .inl (.inr ⟨o, e _ _ h⟩)
  · exact .inr h
theorem seqAt_ok {C : Ctx} {G H : Hp} {σ : L2.St} {ρ ρ' : Env} {v : V} {p : Pl} {ds : Bool × List D} (S : StOk C G σ H ρ) (o : okP G σ v p) (h : seqAt p ρ = .ok ds ρ') : SeqS C.K C.B G v ds ∧ ρ' = ρ := by
  unfold seqAt at h
  cases p with
  | val d =>
    simp only at h
    cases q : itemsD d with
    | none => rw [q] at h; cases h
    | some es =>
      rw [q] at h
      cases h
      refine ⟨?_, rfl⟩
      have o' : Rp G v d := o
      cases o' with
      | lst ha r => cases q; exact ⟨_, _, rfl, r, .inl ⟨rfl, fun G2 H2 _ g gh => .inl (.inl (gh _ _ (g _ _ ha)))⟩⟩
      | tup ha r => cases q; exact ⟨_, _, rfl, r, .inr ⟨rfl, fun G2 H2 _ g gh => .inl (.inl (gh _ _ (g _ _ ha)))⟩⟩
      | _ => cases q
  | slot i =>
    simp only at h
    have hv : σ[i]? = some (some v) := o
    cases r : ρ[i]? with
    | none => rw [r] at h; cases h
    | some s =>
      rw [r] at h
      cases s with
      | bor d =>
        simp only at h
        cases q : itemsD d with
        | none => rw [q] at h; cases h
        | some es =>
          rw [q] at h
          cases h
          refine ⟨?_, rfl⟩
          obtain ⟨_, z, p1, p2⟩ := S.get r hv
          cases z
          have w := S.wf i v p1
          rw [p2] at w
          have w' : Sh C.G0 C.B v d := w
          cases w' with
          | lst ha rr => cases q; exact ⟨_, _, rfl, rr.mono S.g0, .inl ⟨rfl, fun G2 H2 b g gh => .inl (.inl (b _ _ ha))⟩⟩
          | tup ha rr => cases q; exact ⟨_, _, rfl, rr.mono S.g0, .inr ⟨rfl, fun G2 H2 b g gh => .inl (.inl (b _ _ ha))⟩⟩
          | _ => cases q
      | scr ns =>
        cases h
        refine ⟨?_, rfl⟩
        obtain ⟨_, z, p1, p2⟩ := S.get r hv
        cases z
        have w := S.wf i v p1
        rw [p2] at w
        obtain ⟨a, e, sq⟩ := w
        exact ⟨a, _, e, RpA.ints ns, .inl ⟨rfl, fun G2 H2 b g gh => Same.seq b sq⟩⟩
      | _ => cases h
theorem SeqS.mono {K : PySem.W.Frag} {B G1 G2 : Hp} {v : V} {ds : Bool × List D} (e : Same G1 G2) (h : SeqS K B G1 v ds) : SeqS K B G2 v ds := by
  obtain ⟨a, xs, ev, r, q⟩ := h
  exact ⟨a, xs, ev, r.mono e, q.elim (fun z => .inl ⟨z.1, fun G H b g gh => z.2 G H b (e.trans g) gh⟩) fun z => .inr ⟨z.1, fun G H b g gh => z.2 G H b (e.trans g) gh⟩⟩
section
variable {K : PySem.W.Frag} {B G1 : Hp} {a b : Addr} {xs ys : List V} {ds es : List D}
theorem JOk.list (st : ∀ G H, Same B H → Same G1 G → Same G H → SqL K H a xs) (r : RpA G1 xs ds) : JOk (Itl K a) B G1 ds where
  go := fun i G H b g gh hi => by
    obtain ⟨v, hv, _⟩ := r.get (List.getElem?_eq_getElem hi)
    exact ⟨xs, v, st G H b g gh, hv⟩
  yld := fun i G H x H' d b g gh hd hy => by
    obtain ⟨rfl, f⟩ := hy
    obtain ⟨v, hv, rv⟩ := r.get hd
    have e := f xs (st G _ b g gh)
    rw [hv] at e; cases e
    exact ⟨G, Grow.refl gh, rv.mono g⟩
  stop := fun G H b g gh => ⟨xs, st G H b g gh, by rw [r.length]; exact Nat.le_refl _⟩
theorem JOk.tup (st : ∀ G H, Same B H → Same G1 G → Same G H → SqT K H a xs) (r : RpA G1 xs ds) : JOk (Itt K a) B G1 ds where
  go := fun i G H b g gh hi => by
    obtain ⟨v, hv, _⟩ := r.get (List.getElem?_eq_getElem hi)
    exact ⟨xs, v, st G H b g gh, hv⟩
  yld := fun i G H x H' d b g gh hd hy => by
    obtain ⟨rfl, f⟩ := hy
    obtain ⟨v, hv, rv⟩ := r.get hd
    have e := f xs (st G _ b g gh)
    rw [hv] at e; cases e
    exact ⟨G, Grow.refl gh, rv.mono g⟩
  stop := fun G H b g gh => ⟨xs, st G H b g gh, by rw [r.length]; exact Nat.le_refl _⟩
theorem rev_get {α : Type} {l : List α} {i : Nat} {x : α} (h : l.reverse[i]? = some x) : l[l.length - 1 - i]? = some x := by
  have hi : i < l.reverse.length := (List.getElem?_eq_some_iff.mp h).1
  rw [List.length_reverse] at hi
  rw [List.getElem?_reverse hi] at h
  exact h
theorem JOk.revL (st : ∀ G H, Same B H → Same G1 G → Same G H → SqL K H a xs) (r : RpA G1 xs ds) : JOk (Itv K a xs.length) B G1 ds.reverse where
  go := fun i G H b g gh hi => by
    rw [List.length_reverse] at hi
    have hi' : i < xs.length := by rw [r.length]; exact hi
    exact ⟨hi', xs, xs[xs.length - 1 - i]'(by omega), st G H b g gh, List.getElem?_eq_getElem _⟩
  yld := fun i G H x H' d b g gh hd hy => by
    obtain ⟨rfl, f⟩ := hy
    obtain ⟨v, hv, rv⟩ := r.get (rev_get hd)
    have e := f xs (st G _ b g gh)
    rw [r.length, hv] at e; cases e
    exact ⟨G, Grow.refl gh, rv.mono g⟩
  stop := fun G H b g gh => by
    show xs.length ≤ ds.reverse.length
    rw [List.length_reverse, r.length]; exact Nat.le_refl _
theorem JOk.revT (st : ∀ G H, Same B H → Same G1 G → Same G H → SqT K H a xs) (r : RpA G1 xs ds) : JOk (ItvT K a xs.length) B G1 ds.reverse where
  go := fun i G H b g gh hi => by
    rw [List.length_reverse] at hi
    have hi' : i < xs.length := by rw [r.length]; exact hi
    exact ⟨hi', xs, xs[xs.length - 1 - i]'(by omega), st G H b g gh, List.getElem?_eq_getElem _⟩
  yld := fun i G H x H' d b g gh hd hy => by
    obtain ⟨rfl, f⟩ := hy
    obtain ⟨v, hv, rv⟩ := r.get (rev_get hd)
    have e := f xs (st G _ b g gh)
    rw [r.length, hv] at e; cases e
    exact ⟨G, Grow.refl gh, rv.mono g⟩
  stop := fun G H b g gh => by
    show xs.length ≤ ds.reverse.length
    rw [List.length_reverse, r.length]; exact Nat.le_refl _
theorem JOk.enum (st : ∀ G H, Same B H → Same G1 G → Same G H → SqL K H a xs) (r : RpA G1 xs ds) : JOk (Ite K a) B G1 (ds.zipIdx.map fun (d, i) => PyData.tuple [.int (i : Int), d]) where
  go := fun i G H b g gh hi => by
    simp only [List.length_map, List.length_zipIdx] at hi
    obtain ⟨v, hv, _⟩ := r.get (List.getElem?_eq_getElem hi)
    exact ⟨xs, v, st G H b g gh, hv⟩
  yld := fun i G H x H' d b g gh hd hy => by
    obtain ⟨T, x', rfl, hT, rfl, f⟩ := hy
    rw [List.getElem?_map] at hd
    cases q : ds.zipIdx[i]? with
    | none => rw [q] at hd; cases hd
    | some p =>
      rw [q] at hd
      cases hd
      rw [List.getElem?_zipIdx] at q
      cases q2 : ds[i]? with
      | none => rw [q2] at q; cases q
      | some d0 =>
        rw [q2] at q
        cases q
        obtain ⟨v, hv, rv⟩ := r.get q2
        have e := f xs (st G _ b g gh)
        rw [hv] at e; cases e
        have w := Grow.new (o := .tup [.int ((i : Nat) : Int), x']) gh hT
        refine ⟨_, w, .tup upd_same (.cons ?_ (.one (rv.mono (g.trans w.g))))⟩
        simp only [Nat.zero_add]
        exact .int _
  stop := fun G H b g gh => ⟨xs, st G H b g gh, by simp only [List.length_map, List.length_zipIdx]; rw [r.length]; exact Nat.le_refl _⟩
theorem JOk.zipL (s1 : ∀ G H, Same B H → Same G1 G → Same G H → SqL K H a xs) (r1 : RpA G1 xs ds) (s2 : ∀ G H, Same B H → Same G1 G → Same G H → SqL K H b ys) (r2 : RpA G1 ys es) : JOk (Itz K a b) B G1 ((ds.zip es).map fun (d, e) => PyData.tuple [d, e]) where
  go := fun i G H b g gh hi => by
    simp only [List.length_map, List.length_zip] at hi
    obtain ⟨v, hv, _⟩ := r1.get (List.getElem?_eq_getElem (show i < ds.length by omega))
    obtain ⟨u, hu, _⟩ := r2.get (List.getElem?_eq_getElem (show i < es.length by omega))
    exact ⟨xs, ys, v, u, s1 G H b g gh, s2 G H b g gh, hv, hu⟩
  yld := fun i G H x H' d b g gh hd hy => by
    obtain ⟨T, x', y', rfl, hT, rfl, f1, f2⟩ := hy
    rw [List.getElem?_map] at hd
    cases q : (ds.zip es)[i]? with
    | none => rw [q] at hd; cases hd
    | some p =>
      rw [q] at hd
      cases hd
      obtain ⟨q1, q2⟩ := List.getElem?_zip_eq_some.mp q
      obtain ⟨v, hv, rv⟩ := r1.get q1
      obtain ⟨u, hu, ru⟩ := r2.get q2
      have e1 := f1 xs (s1 G _ b g gh)
      rw [hv] at e1; cases e1
      have e2 := f2 ys (s2 G _ b g gh)
      rw [hu] at e2; cases e2
      have w := Grow.new (o := .tup [x', y']) gh hT
      exact ⟨_, w, .tup upd_same (.cons (rv.mono (g.trans w.g)) (.one (ru.mono (g.trans w.g))))⟩
  stop := fun G H b g gh => ⟨xs, ys, s1 G H b g gh, s2 G H b g gh, by simp only [List.length_map, List.length_zip]; rw [r1.length, r2.length]; omega⟩
theorem JOk.zipT (s1 : ∀ G H, Same B H → Same G1 G → Same G H → SqT K H a xs) (r1 : RpA G1 xs ds) (s2 : ∀ G H, Same B H → Same G1 G → Same G H → SqT K H b ys) (r2 : RpA G1 ys es) : JOk (ItzT K a b) B G1 ((ds.zip es).map fun (d, e) => PyData.tuple [d, e]) where
  go := fun i G H b g gh hi => by
    simp only [List.length_map, List.length_zip] at hi
    obtain ⟨v, hv, _⟩ := r1.get (List.getElem?_eq_getElem (show i < ds.length by omega))
    obtain ⟨u, hu, _⟩ := r2.get (List.getElem?_eq_getElem (show i < es.length by omega))
    exact ⟨xs, ys, v, u, s1 G H b g gh, s2 G H b g gh, hv, hu⟩
  yld := fun i G H x H' d b g gh hd hy => by
    obtain ⟨T, x', y', rfl, hT, rfl, f1, f2⟩ := hy
    rw [List.getElem?_map] at hd
    cases q : (ds.zip es)[i]? with
    | none => rw [q] at hd; cases hd
    | some p =>
      rw [q] at hd
      cases hd
      obtain ⟨q1, q2⟩ := List.getElem?_zip_eq_some.mp q
      obtain ⟨v, hv, rv⟩ := r1.get q1
      obtain ⟨u, hu, ru⟩ := r2.get q2
      have e1 := f1 xs (s1 G _ b g gh)
      rw [hv] at e1; cases e1
      have e2 := f2 ys (s2 G _ b g gh)
      rw [hu] at e2; cases e2
      have w := Grow.new (o := .tup [x', y']) gh hT
      exact ⟨_, w, .tup upd_same (.cons (rv.mono (g.trans w.g)) (.one (ru.mono (g.trans w.g))))⟩
  stop := fun G H b g gh => ⟨xs, ys, s1 G H b g gh, s2 G H b g gh, by simp only [List.length_map, List.length_zip]; rw [r1.length, r2.length]; omega⟩
theorem rngD_len (lo hi : Int) : (rngD lo hi).length = (hi - lo).toNat := by unfold rngD; rw [List.length_map, List.length_range]
theorem rngD_get {lo hi : Int} {i : Nat} {d : D} (h : (rngD lo hi)[i]? = some d) : d = .int (lo + (i : Int)) := by
  unfold rngD at h
  rw [List.getElem?_map] at h
  cases q : (List.range (hi - lo).toNat)[i]? with
  | none => rw [q] at h; cases h
  | some k =>
    rw [q] at h
    cases h
    have := (List.getElem?_eq_some_iff.mp q)
    obtain ⟨h1, h2⟩ := this
    rw [List.getElem_range] at h2
    rw [h2]
theorem JOk.rng {lo hi : Int} : JOk (Itr lo (hi - lo).toNat) B G1 (rngD lo hi) where
  go := fun i G H b g gh h => by rw [rngD_len] at h; exact h
  yld := fun i G H x H' d b g gh hd hy => by
    obtain ⟨rfl, rfl⟩ := hy
    rw [rngD_get hd]
    exact ⟨G, Grow.refl gh, .int _⟩
  stop := fun G H b g gh => by
    show (hi - lo).toNat ≤ (rngD lo hi).length
    rw [rngD_len]; exact Nat.le_refl _
end
section
variable {X : Cx} {e a b c tg : Expr} {es : List Expr} {pos pos' tpos p : Pos} {f fa fb : M D} {g ga gb : M Pl} {k : M Rv} {st : Stmt} {sts us : List Stmt} {m m1 m2 : M Fl} {x : Str}
def iSeq (K : PySem.W.Frag) (tl : TE) : TI := fun σ H R => tl σ H fun x H1 => ∃ a, x = .ref a ∧ ((∃ xs, SqL K H1 a xs ∧ R (Itl K a) H1) ∨ (∃ xs, SqT K H1 a xs ∧ R (Itt K a) H1))
theorem pi_seq {l : Expr} {tl : TE} (hl : PE X l tl) : PI X tg l (iSeq X.K tl) := by
  constructor
  intro pins s σ H R I h
  refine thn (hl.run pins s σ H _ I h) ?_
  rintro v s1 ⟨x, H1, I1, r1, a, rfl, q1⟩
  cases (show v = Value.ref a from r1)
  have hfp : ∀ b ∈ [s1.heap.objs.size], FpOk X pins H1 b := by
    intro b hb
    rw [List.mem_singleton.mp hb]
    exact I1.fpOk (Nat.le_refl _) (I1.hok.fresh (Nat.le_refl _))
  rcases q1 with ⟨xs, hq, q⟩ | ⟨xs, hq, q⟩
  · obtain ⟨its, rv, pp, hz⟩ := I1.list hq
    exact wpAny_pyIter_list pp.isList ⟨_, _, _, _, H1, rfl, I1.kept (t' := s1.toks) fun b o e => Heap.get?_push_of_some _ e, turn_list a _, ⟨_, Heap.get?_push_size _ rfl, rfl, rfl⟩, hfp, q⟩
  · obtain ⟨its, rv, pp, hz⟩ := I1.tuple hq
    exact wpAny_pyIter_tuple (show s1.heap.IsTuple a its.toArray from pp) ⟨_, _, _, _, H1, rfl, I1.kept (t' := s1.toks) fun b o e => Heap.get?_push_of_some _ e, turn_tuple a _, ⟨_, Heap.get?_push_size _ rfl, rfl, rfl⟩, hfp, q⟩
theorem pit_seq (h : PP X e g) : PIt X tg e (mIter g) := by
  obtain ⟨t, h, r⟩ := h
  refine ⟨_, pi_seq h, fun C G σ H ρ R hK S ds ρ' hf q => ?_⟩
  obtain ⟨pl, ρ1, h1, h2⟩ := bnd_ok hf
  obtain ⟨kd, ρ2, h3, h4⟩ := bnd_ok h2
  cases h4
  refine r C G σ H ρ _ hK S pl ρ1 h1 fun v G1 H1 g1 S1 o => ?_
  obtain ⟨⟨a, xs, rfl, rr, z⟩, rfl⟩ := seqAt_ok S1 o h3
  rw [hK] at z
  refine ⟨a, rfl, ?_⟩
  rcases z with ⟨_, z⟩ | ⟨_, z⟩
  · exact .inl ⟨xs, z G1 H1 S1.bh (Same.refl _) S1.gh, q _ G1 H1 g1 S1 (JOk.list z rr)⟩
  · exact .inr ⟨xs, z G1 H1 S1.bh (Same.refl _) S1.gh, q _ G1 H1 g1 S1 (JOk.tup z rr)⟩
theorem pit_rev (hg : Gl X "reversed") (hm : X.mg "reversed" = none) (h : PP X e g) (hs : starEach [e] X.env = (false, eval e X.env) :: starEach [] X.env := by rfl) : PIt X tg (.Call (.Name "reversed" p) [e] [] pos) (mRev (mIter g)) := by
  obtain ⟨t, h, r⟩ := h
  refine ⟨_, pi_revA hg hm h hs, fun C G σ H ρ R hK S ds ρ' hf q => ?_⟩
  obtain ⟨ds0, ρ0, hf0, h0⟩ := bnd_ok hf
  cases h0
  obtain ⟨pl, ρ1, h1, h2⟩ := bnd_ok hf0
  obtain ⟨kd, ρ2, h3, h4⟩ := bnd_ok h2
  cases h4
  refine r C G σ H ρ _ hK S pl ρ1 h1 fun v G1 H1 g1 S1 o => ?_
  obtain ⟨⟨a, xs, rfl, rr, z⟩, rfl⟩ := seqAt_ok S1 o h3
  rw [hK] at z
  refine ⟨a, xs, rfl, ?_⟩
  rcases z with ⟨_, z⟩ | ⟨_, z⟩
  · exact .inl ⟨z G1 H1 S1.bh (Same.refl _) S1.gh, q _ G1 H1 g1 S1 (JOk.revL z rr)⟩
  · exact .inr ⟨z G1 H1 S1.bh (Same.refl _) S1.gh, q _ G1 H1 g1 S1 (JOk.revT z rr)⟩
theorem pit_rng1 (hg : Gl X "range") (hm : X.mg "range" = none) (h : PV X a fa) (hs : starEach [a] X.env = [(false, eval a X.env)] := by rfl) : PIt X tg (.Call (.Name "range" p) [a] [] pos) (mRng1 fa) := by
  obtain ⟨t, h, r⟩ := h
  refine ⟨_, pi_range1 hg hm (pa_cons h pa_nil hs) hs, fun C G σ H ρ R hK S ds ρ' hf q => ?_⟩
  obtain ⟨d, ρ1, h1, hf2⟩ := bnd_ok hf
  refine r C G σ H ρ _ hK S d ρ1 h1 fun v G1 H1 g1 S1 o => ?_
  cases o with
  | int n =>
    by_cases hn : small62 n = true
    · simp only [hn, if_true] at hf2
      cases hf2
      simp only [small62, Bool.and_eq_true, decide_eq_true_eq] at hn
      refine ⟨n, rfl, hn.1, hn.2, ?_⟩
      have := JOk.rng (B := C.B) (G1 := G1) (lo := 0) (hi := n)
      rw [Int.sub_zero] at this
      exact q _ G1 H1 g1 S1 this
    · simp only [hn, if_false] at hf2
      cases hf2
  | _ => cases hf2
theorem pit_rng2 (hg : Gl X "range") (hm : X.mg "range" = none) (h : PV X a fa) (h2 : PV X b fb) (hs : starEach [a, b] X.env = [(false, eval a X.env), (false, eval b X.env)] := by rfl) (hs2 : starEach [b] X.env = [(false, eval b X.env)] := by rfl) (hs3 : starEach [a, b] X.env = (false, eval a X.env) :: starEach [b] X.env := by rfl) :
    PIt X tg (.Call (.Name "range" p) [a, b] [] pos) (mRng2 fa fb) := by
  obtain ⟨t, h, r⟩ := h
  obtain ⟨u, h2, r2⟩ := h2
  refine ⟨_, pi_range2 hg hm (pa_cons h (pa_cons h2 pa_nil hs2) hs3) hs hs2, fun C G σ H ρ R hK S ds ρ' hf q => ?_⟩
  obtain ⟨d, ρ1, h1, hf2⟩ := bnd_ok hf
  obtain ⟨d2, ρ2, h3, hf3⟩ := bnd_ok hf2
  refine r C G σ H ρ _ hK S d ρ1 h1 fun v G1 H1 g1 S1 o => ?_
  refine r2 C G1 σ H1 ρ1 _ hK S1 d2 ρ2 h3 fun v2 G2 H2 g2 S2 o2 => ?_
  cases o with
  | int n =>
    cases o2 with
    | int n2 =>
      by_cases hn : (small62 n && small62 n2) = true
      · simp only [hn, if_true] at hf3
        cases hf3
        simp only [small62, Bool.and_eq_true, decide_eq_true_eq] at hn
        exact ⟨n, n2, rfl, ⟨hn.1.1, hn.1.2, hn.2.1, hn.2.2⟩, q _ G2 H2 (g1.trans g2) S2 JOk.rng⟩
      · simp only [hn, if_false] at hf3
        cases hf3
    | _ => cases hf3
  | _ => cases hf3
theorem pit_zip {elts : List Expr} {kk : Nat} (hg : Gl X "zip") (hm : X.mg "zip" = none) (h : PP X a ga) (h2 : PP X b gb)
    (hs : starEach [a, b] X.env = (false, eval a X.env) :: starEach [b] X.env := by rfl) (hs2 : starEach [b] X.env = (false, eval b X.env) :: starEach [] X.env := by rfl) (hpl : (backTo pos (starEach [b] X.env)).any (·.1) = false := by rfl) :
    PIt X (.Tuple elts kk tpos) (.Call (.Name "zip" p) [a, b] [] pos) (mZip ga gb) := by
  obtain ⟨t, h, r⟩ := h
  obtain ⟨u, h2, r2⟩ := h2
  refine ⟨_, pi_zipA hg hm (pa_cons h (pa_cons h2 pa_nil hs2) hs) hs hpl, fun C G σ H ρ R hK S ds ρ' hf q => ?_⟩
  obtain ⟨p1, ρ1, h3, hf2⟩ := bnd_ok hf
  obtain ⟨p2, ρ2, h4, hf3⟩ := bnd_ok hf2
  obtain ⟨d1, ρ3, h5, hf4⟩ := bnd_ok hf3
  obtain ⟨d2, ρ4, h6, hf5⟩ := bnd_ok hf4
  by_cases hk : (d1.1 == d2.1) = true
  · simp only [hk, if_true] at hf5
    cases hf5
    refine r C G σ H ρ _ hK S p1 ρ1 h3 fun v G1 H1 g1 S1 o => ?_
    refine r2 C G1 σ H1 ρ1 _ hK S1 p2 ρ2 h4 fun v2 G2 H2 g2 S2 o2 => ?_
    obtain ⟨⟨a1, xs, rfl, rr, z⟩, rfl⟩ := seqAt_ok S2 (o.mono g2) h5
    obtain ⟨⟨a2, ys, rfl, rr2, z2⟩, rfl⟩ := seqAt_ok S2 o2 h6
    rw [hK] at z z2
    have hk' : d1.1 = d2.1 := eq_of_beq hk
    refine ⟨a1, a2, xs, ys, rfl, ?_⟩
    rcases z with ⟨k1, z⟩ | ⟨k1, z⟩
    · rcases z2 with ⟨k2, z2⟩ | ⟨k2, z2⟩
      · exact .inl ⟨z G2 H2 S2.bh (Same.refl _) S2.gh, z2 G2 H2 S2.bh (Same.refl _) S2.gh, q _ G2 H2 (g1.trans g2) S2 (JOk.zipL z rr z2 rr2)⟩
      · rw [k1, k2] at hk'; cases hk'
    · rcases z2 with ⟨k2, z2⟩ | ⟨k2, z2⟩
      · rw [k1, k2] at hk'; cases hk'
      · exact .inr ⟨z G2 H2 S2.bh (Same.refl _) S2.gh, z2 G2 H2 S2.bh (Same.refl _) S2.gh, q _ G2 H2 (g1.trans g2) S2 (JOk.zipT z rr z2 rr2)⟩
  · simp only [hk] at hf5
    cases hf5
end
end PL
namespace PL
open PySem PySem.Spec L2 RT RZ
/-! ### one reading for all that a mirror is of -/
def TV (K : PySem.W.Frag) (f : M D) : TE := fun σ H Q => ∃ (C : Ctx) (G : Hp) (ρ : Env) (d : D) (ρ' : Env), C.K = K ∧ StOk C G σ H ρ ∧ f ρ = .ok d ρ' ∧ ∀ (v : V) (G' H' : Hp), Same G G' → StOk C G' σ H' ρ' → Rp G' v d → Q v H'
def TTv (K : PySem.W.Frag) (f : M Bool) : TT := fun σ H Q => ∃ (C : Ctx) (G : Hp) (ρ : Env) (d : Bool) (ρ' : Env), C.K = K ∧ StOk C G σ H ρ ∧ f ρ = .ok d ρ' ∧ ∀ (G' H' : Hp), Same G G' → StOk C G' σ H' ρ' → Q d H'
def TGv (K : PySem.W.Frag) (ts : List Nat) (m : D → M Unit) : TG := fun v σ H Q => ∃ (C : Ctx) (G : Hp) (ρ : Env) (d : D) (ρ' : Env), C.K = K ∧ StOk C G σ H ρ ∧ Rp G v d ∧ m d ρ = .ok () ρ' ∧ ∀ (σ' : L2.St), StOk C G σ' H ρ' → (∀ vs, (∀ i ∈ ts, i ∈ vs) → wipe σ' vs = wipe σ vs) → Q σ' H
theorem pv_uni {X : Cx} {e : Expr} {f : M D} (h : PV X e f) : PE X e (TV X.K f) := by
  obtain ⟨t, h, r⟩ := h
  exact ⟨fun pins s σ H Q I ⟨C, G, ρ, d, ρ', hK, S, hf, q⟩ => h.run pins s σ H Q I (r C G σ H ρ Q hK S d ρ' hf q)⟩
theorem pt_uni {X : Cx} {e : Expr} {f : M Bool} (h : PTt X e f) : PT X e (TTv X.K f) := by
  obtain ⟨t, h, r⟩ := h
  exact ⟨fun pins s σ H Q I ⟨C, G, ρ, d, ρ', hK, S, hf, q⟩ => h.run pins s σ H Q I (r C G σ H ρ Q hK S d ρ' hf q)⟩
theorem pg_uni {X : Cx} {e : Expr} {ts : List Nat} {m : D → M Unit} (h : PGt X e ts m) : PG X e (TGv X.K ts m) := by
  obtain ⟨t, h, r⟩ := h
  exact ⟨fun pins s σ H v u Q I rv ⟨C, G, ρ, d, ρ', hK, S, rr, hm, q⟩ => h.run pins s σ H v u Q I rv (r C G σ H ρ v d Q hK S rr ρ' hm q)⟩
/-! ### comprehensions -/
def wipeE (ρ : Env) : List Nat → Env
  | [] => ρ
  | v :: vs => (wipeE ρ vs).set v .un
def keepS : Sl → Sl
  | .own _ => .un
  | .io _ => .un
  | s => s
def restE (ρ1 : Env) (ρ2 : Env) : List Nat → Env
  | [] => ρ2
  | v :: vs => (restE ρ1 ρ2 vs).set v (keepS (ρ1.getD v .un))
def lcGo (t : D → M Unit) (vs : List Nat) (c : M Bool) (fe : M D) : List D → List D → M (List D)
  | acc, [] => ret acc
  | acc, d :: ds => bnd (t d) fun _ => bnd c fun k => if k = true then bnd fe fun y => if acc.length < 100000 then fun ρ => lcGo t vs c fe (acc ++ [y]) ds (wipeE ρ vs) else fun _ => .stuck
    else fun ρ => lcGo t vs c fe acc ds (wipeE ρ vs)
def mLc (fi : M (List D)) (t : D → M Unit) (vs : List Nat) (c : M Bool) (fe : M D) : M Rv := bnd fi fun ds => fun ρ1 => match lcGo t vs c fe [] ds (wipeE ρ1 vs) with
  | .ok acc ρ2 => .ok (.fr (.list acc)) (restE ρ1 ρ2 vs)
  | .stuck => .stuck
def mYes : M Bool := ret true
section
variable {C : Ctx} {G H : Hp} {σ : L2.St} {ρ ρ' : Env} {v : V} {p : Pl} {d : D}
theorem StOk.putN (S : StOk C G σ H ρ) (i : Nat) : StOk C G (σ.set i none) H (ρ.set i .un) := by
  have sub : ∀ {m : Nat} {b : Addr}, Own (σ.set i none) (ρ.set i .un) m b → Own σ ρ m b := fun {m b} ⟨x, s', y, z⟩ => by
    by_cases hm : m = i
    · subst hm
      have hl : m < (σ.set m none).length := (List.getElem?_eq_some_iff.mp x).1
      rw [List.length_set] at hl
      rw [List.getElem?_set_self hl] at x
      cases x
    · rw [List.getElem?_set_ne (fun z => hm z.symm)] at x y
      exact ⟨x, s', y, z⟩
  refine ⟨S.gh, S.bh, S.g0, S.fr, S.ga, S.wf, by rw [List.length_set, List.length_set]; exact S.len, fun j s' q => ?_, fun j k b hj hk => S.ds j k b (sub hj) (sub hk)⟩
  by_cases hj : j = i
  · subst hj
    have hl : j < (ρ.set j .un).length := (List.getElem?_eq_some_iff.mp q).1
    rw [List.length_set] at hl
    rw [List.getElem?_set_self hl] at q
    cases q
    exact ⟨none, List.getElem?_set_self (by rw [S.len]; exact hl), trivial⟩
  · rw [List.getElem?_set_ne (fun z => hj z.symm)] at q ⊢
    exact S.sl j s' q
theorem StOk.wipe (S : StOk C G σ H ρ) : ∀ vs : List Nat, StOk C G (L2.wipe σ vs) H (wipeE ρ vs)
  | [] => S
  | v :: vs => (StOk.wipe S vs).putN v
theorem wipe_get {i : Nat} : ∀ {vs : List Nat} {σ : L2.St}, i ∉ vs → (L2.wipe σ vs)[i]? = σ[i]?
  | [], _, _ => rfl
  | v :: vs, σ, h => by
    show ((L2.wipe σ vs).set v none)[i]? = σ[i]?
    rw [List.getElem?_set_ne (fun z => h (by rw [z]; exact List.mem_cons_self)), wipe_get fun z => h (List.mem_cons_of_mem _ z)]
theorem wipe_sub {vs : List Nat} {σ : L2.St} : ∀ {ws : List Nat}, (∀ i ∈ ws, i ∈ vs) → L2.wipe (L2.wipe σ ws) vs = L2.wipe σ vs
  | [], _ => rfl
  | w :: ws, h => by
    show L2.wipe ((L2.wipe σ ws).set w none) vs = L2.wipe σ vs
    rw [wipe_set (h w List.mem_cons_self), wipe_sub fun i hi => h i (List.mem_cons_of_mem _ hi)]
theorem wipe_wipe {vs : List Nat} {σ : L2.St} : L2.wipe (L2.wipe σ vs) vs = L2.wipe σ vs := wipe_sub fun _ h => h
theorem restE_len (ρ1 ρ2 : Env) : ∀ vs : List Nat, (restE ρ1 ρ2 vs).length = ρ2.length
  | [] => rfl
  | v :: vs => by unfold restE; rw [List.length_set, restE_len ρ1 ρ2 vs]
theorem restE_out {ρ1 ρ2 : Env} {i : Nat} : ∀ {vs : List Nat}, i ∉ vs → (restE ρ1 ρ2 vs)[i]? = ρ2[i]?
  | [], _ => rfl
  | v :: vs, h => by
    show ((restE ρ1 ρ2 vs).set v _)[i]? = ρ2[i]?
    rw [List.getElem?_set_ne (fun z => h (by rw [z]; exact List.mem_cons_self)), restE_out fun z => h (List.mem_cons_of_mem _ z)]
theorem restE_in {ρ1 ρ2 : Env} {i : Nat} {s : Sl} : ∀ {vs : List Nat}, i ∈ vs → (restE ρ1 ρ2 vs)[i]? = some s → s = keepS (ρ1.getD i .un)
  | v :: vs, h, e => by
    have e' : ((restE ρ1 ρ2 vs).set v (keepS (ρ1.getD v .un)))[i]? = some s := e
    by_cases hv : v = i
    · subst hv
      have hl : v < ((restE ρ1 ρ2 vs).set v (keepS (ρ1.getD v .un))).length := (List.getElem?_eq_some_iff.mp e').1
      rw [List.length_set] at hl
      rw [List.getElem?_set_self hl] at e'
      exact (Option.some.inj e').symm
    · rw [List.getElem?_set_ne hv] at e'
      refine restE_in ?_ e'
      cases h with
      | head => exact absurd rfl hv
      | tail _ h => exact h
theorem keepS_own {s : Sl} : ownK (keepS s) = false := by cases s <;> rfl
theorem StOk.rest {G1 H1 : Hp} {ρ1 ρ2 : Env} (S1 : StOk C G1 σ H1 ρ1) {vs : List Nat} (S : StOk C G (L2.wipe σ vs) H ρ2) (g : Same G1 G) : StOk C G σ H (restE ρ1 ρ2 vs) := by
  have sub : ∀ {m : Nat} {b : Addr}, Own σ (restE ρ1 ρ2 vs) m b → Own (L2.wipe σ vs) ρ2 m b := fun {m b} ⟨x, s', y, z⟩ => by
    by_cases hm : m ∈ vs
    · have := restE_in hm y
      subst this
      rw [keepS_own] at z; cases z
    · rw [restE_out hm] at y
      exact ⟨by rw [wipe_get hm]; exact x, s', y, z⟩
  refine ⟨S.gh, S.bh, S.g0, S.fr, S.ga, S.wf, ?_, fun j s' q => ?_, fun j k b hj hk => S.ds j k b (sub hj) (sub hk)⟩
  · rw [restE_len, ← S.len, wipe_length]
  · by_cases hj : j ∈ vs
    · have hs := restE_in hj q
      have hl : j < (restE ρ1 ρ2 vs).length := (List.getElem?_eq_some_iff.mp q).1
      have hl2 : j < ρ1.length := by rw [restE_len, ← S.len, wipe_length, S1.len] at hl; exact hl
      have e1 : ρ1[j]? = some ρ1[j] := List.getElem?_eq_getElem hl2
      obtain ⟨o, eo, k⟩ := S1.sl j _ e1
      refine ⟨o, eo, ?_⟩
      have e2 : ρ1.getD j .un = ρ1[j] := by rw [List.getD_eq_getElem?_getD, e1]; rfl
      rw [hs, e2]
      revert k
      generalize ρ1[j] = s
      intro k
      cases s with
      | un => trivial
      | own d => trivial
      | io d => trivial
      | val d => obtain ⟨w, e, r⟩ := k; exact ⟨w, e, r.mono g⟩
      | bor d => exact k
      | scr ns => exact k
    · rw [restE_out hj] at q
      obtain ⟨o, e, k⟩ := S.sl j s' q
      exact ⟨o, by rw [wipe_get hj] at e; exact e, k⟩
/-- a list that is being made stands aside -/
def Ctx.with (C : Ctx) (E : Addr) (o : HO) : Ctx := { C with B := upd C.B E o, A := fun a => C.A a ∧ a ≠ E }
theorem same_upd {B H : Hp} {a : Addr} {o : HO} (h : Same B H) : Same (upd B a o) (upd H a o) := fun b u q => by
  by_cases hb : b = a
  · subst hb; rw [upd_same] at q ⊢; exact q
  · rw [upd_ne hb] at q ⊢; exact h b u q
theorem same_new {H : Hp} {a : Addr} {o : HO} (h : H a = none) : Same H (upd H a o) := fun b u q => by
  rw [upd_ne (ne_of_none q h)]; exact q
theorem StOk.enter (S : StOk C G σ H ρ) {E : Addr} (hE : H E = none) (o : HO) : StOk (C.with E o) G σ (upd H E o) ρ := by
  have nE : ∀ {a : Addr}, H a ≠ none → a ≠ E := fun {a} h z => by subst z; exact h hE
  refine ⟨S.gh.trans (same_new hE), same_upd S.bh, S.g0, fun a q => ?_, fun a q => ?_, fun i v q => (S.wf i v q).mono (Same.refl _) (same_new (S.bh.free hE)), S.len, fun i s q => ?_, S.ds⟩
  · by_cases ha : a = E
    · subst ha; rw [upd_same] at q; cases q
    · rw [upd_ne ha] at q; exact ⟨S.fr a q, ha⟩
  · have ha : a ≠ E := fun z => by subst z; rw [S.gh.free hE] at q; exact q rfl
    exact (S.ga a q).imp id fun z => ⟨z, ha⟩
  · obtain ⟨oo, e, k⟩ := S.sl i s q
    refine ⟨oo, e, ?_⟩
    cases s with
    | un => trivial
    | val d' => exact k
    | own d' =>
      obtain ⟨b, e3, r, x, y, z⟩ := k
      have hb := nE r.tracked
      exact ⟨b, e3, r.mono (Same.refl _) (same_new hE), x, by show upd C.B E o b = none; rw [upd_ne hb]; exact y, z, hb⟩
    | io d' =>
      obtain ⟨b, e3, r, x, y, z⟩ := k
      have hb := nE r.tracked
      exact ⟨b, e3, r.mono (Same.refl _) (same_new hE), x, by show upd C.B E o b = none; rw [upd_ne hb]; exact y, z⟩
    | bor d' => exact k
    | scr ns => exact k
theorem StOk.step {E : Addr} {o o' : HO} (S : StOk (C.with E o) G σ H ρ) (hG : G E = none) (hw : ∀ (i : Nat) (v : V), C.P i = some v → BorOk C.K C.G0 C.B v (C.S i)) (hB : C.B E = none) : StOk (C.with E o') G σ (upd H E o') ρ := by
  have hH : H E = some o := S.bh E o upd_same
  refine ⟨fun a u q => ?_, fun a u q => ?_, S.g0, fun a q => ?_, S.ga, fun i v q => (hw i v q).mono (Same.refl _) (same_new hB), S.len, fun i s q => ?_, S.ds⟩
  · rw [upd_ne (ne_of_none q hG)]; exact S.gh a u q
  · have q' : upd C.B E o' a = some u := q
    by_cases ha : a = E
    · subst ha; rw [upd_same] at q' ⊢; exact q'
    · rw [upd_ne ha] at q' ⊢
      exact S.bh a u (by show upd C.B E o a = some u; rw [upd_ne ha]; exact q')
  · by_cases ha : a = E
    · subst ha; rw [upd_same] at q; cases q
    · rw [upd_ne ha] at q; exact S.fr a q
  · obtain ⟨oo, e, k⟩ := S.sl i s q
    refine ⟨oo, e, ?_⟩
    have nb : ∀ {b : Addr}, (C.with E o).B b = none → b ≠ E ∧ C.B b = none := fun {b} y => by
      have y' : upd C.B E o b = none := y
      have hb : b ≠ E := fun z => by subst z; rw [upd_same] at y'; cases y'
      rw [upd_ne hb] at y'
      exact ⟨hb, y'⟩
    cases s with
    | un => trivial
    | val d' => exact k
    | own d' =>
      obtain ⟨b, e3, r, x, y, z⟩ := k
      obtain ⟨hb, y'⟩ := nb y
      refine ⟨b, e3, r.at (Same.refl _) fun c ec u hu => ?_, x, by show upd C.B E o' b = none; rw [upd_ne hb]; exact y', z⟩
      cases ec; rw [upd_ne hb]; exact hu
    | io d' =>
      obtain ⟨b, e3, r, x, y, z⟩ := k
      obtain ⟨hb, y'⟩ := nb y
      refine ⟨b, e3, r.at (Same.refl _) fun c ec u hu => ?_, x, by show upd C.B E o' b = none; rw [upd_ne hb]; exact y', z⟩
      cases ec; rw [upd_ne hb]; exact hu
    | bor d' => exact k
    | scr ns => exact k
theorem StOk.exit {E : Addr} {o : HO} (S : StOk (C.with E o) G σ H ρ) (hw : ∀ (i : Nat) (v : V), C.P i = some v → BorOk C.K C.G0 C.B v (C.S i)) (hB : C.B E = none) : StOk C G σ H ρ := by
  have nb : ∀ {b : Addr}, (C.with E o).B b = none → C.B b = none := fun {b} y => by
    have y' : upd C.B E o b = none := y
    have hb : b ≠ E := fun z => by subst z; rw [upd_same] at y'; cases y'
    rw [upd_ne hb] at y'
    exact y'
  refine ⟨S.gh, (same_new hB).trans S.bh, S.g0, fun a q => (S.fr a q).1, fun a q => (S.ga a q).imp id fun z => z.1, hw, S.len, fun i s q => ?_, S.ds⟩
  obtain ⟨oo, e, k⟩ := S.sl i s q
  refine ⟨oo, e, ?_⟩
  cases s with
  | un => trivial
  | val d' => exact k
  | own d' => obtain ⟨b, e3, r, x, y, z⟩ := k; exact ⟨b, e3, r, x, nb y, z.1⟩
  | io d' => obtain ⟨b, e3, r, x, y, z⟩ := k; exact ⟨b, e3, r, x, nb y, z⟩
  | bor d' => exact k
  | scr ns => exact k
end
section
variable {X : Cx} {e a b c tg elt iter : Expr} {es ifs : List Expr} {pos pos' tpos p : Pos} {f fa fb fe : M D} {g ga gb : M Pl} {k : M Rv} {st : Stmt} {sts us : List Stmt} {m m1 m2 : M Fl} {x : Str} {scope : Scope} {own : List (Str × Nat)}
theorem line_lt {n : Nat} (h : n < 100000) : n < sizeLine := Nat.lt_of_lt_of_le h (by decide)
theorem rd_lc {wi : TI} {fi : M (List D)} {t : D → M Unit} {ts vs : List Nat} {mc : M Bool} (hts : ∀ i ∈ ts, i ∈ vs) (hi : RdI X.K wi fi) : RdF X.K (tLc wi (TGv X.K ts t) (TTv X.K mc) (TV X.K fe) vs) (mLc fi t vs mc fe) := by
  intro C G σ H ρ Q hK S r ρ' hf q
  obtain ⟨ds, ρ1, h1, hf2⟩ := bnd_ok hf
  refine hi C G σ H ρ _ hK S ds ρ1 h1 fun J G1 H1 g1 S1 JJ E hE => ?_
  cases hl : lcGo t vs mc fe [] ds (wipeE ρ1 vs) with
  | stuck => rw [hl] at hf2; cases hf2
  | ok accF ρF =>
    rw [hl] at hf2
    cases hf2
    have hBE : C.B E = none := S1.bh.free hE
    have hGE : ∀ {G2 : Hp} {σ2 : L2.St} {H2 : Hp} {ρ2 : Env} {o : HO}, StOk (C.with E o) G2 σ2 H2 ρ2 → G2 E = none := fun {G2 σ2 H2 ρ2 o} S2 => by
      cases q : G2 E with
      | none => rfl
      | some u =>
        rcases S2.ga E (ne_none_of q) with z | z
        · exact absurd (S1.gh.free hE |> S1.g0.free) z
        · exact absurd rfl z.2
    refine ⟨fun i mm H2 => i + mm = ds.length ∧ ∃ G2 ρ2 accV acc, Same G1 G2 ∧ StOk (C.with E (.lst accV)) G2 (L2.wipe σ vs) H2 ρ2 ∧ RpA G2 accV acc ∧ lcGo t vs mc fe acc (ds.drop i) ρ2 = .ok accF ρF,
      ⟨ds.length, by omega, G1, _, [], [], Same.refl _, (S1.enter hE (.lst [])).wipe vs, .nil, by simpa using hl⟩, fun i mm H2 ⟨hm, G2, ρ2, accV, acc, g2, S2, ra, h2⟩ => ?_⟩
    by_cases hlt : i < ds.length
    · have gh2 := S2.gh
      have bh2 : Same C.B H2 := (same_new hBE).trans S2.bh
      refine .inr ⟨JJ.go i G2 H2 bh2 g2 gh2 hlt, fun H3 => ∃ G3 ρ3 accV3 acc3, Same G1 G3 ∧ StOk (C.with E (.lst accV3)) G3 (L2.wipe σ vs) H3 ρ3 ∧ RpA G3 accV3 acc3 ∧ lcGo t vs mc fe acc3 (ds.drop (i + 1)) ρ3 = .ok accF ρF,
        fun H3 ⟨G3, ρ3, accV3, acc3, z1, z2, z3, z4⟩ => ⟨mm - 1, by omega, by omega, G3, ρ3, accV3, acc3, z1, z2, z3, z4⟩, fun y H3 hy => ?_⟩
      have ed : ds[i]? = some ds[i] := List.getElem?_eq_getElem hlt
      obtain ⟨G3, w, ry⟩ := JJ.yld i G2 H2 y H3 _ bh2 g2 gh2 ed hy
      have S3 := S2.grow w
      rw [List.drop_eq_getElem_cons hlt] at h2
      obtain ⟨uu, ρ3, h3, h4⟩ := bnd_ok h2
      refine ⟨C.with E (.lst accV), G3, _, _, ρ3, hK, S3, ry, h3, fun σ4 S4 w4 => ⟨(w4 vs hts).trans wipe_wipe, ?_⟩⟩
      obtain ⟨kk, ρ5, h5, h6⟩ := bnd_ok h4
      refine ⟨C.with E (.lst accV), G3, _, kk, ρ5, hK, S4, h5, fun G5 H5 g5 S5 => ?_⟩
      have ww : L2.wipe σ4 vs = L2.wipe σ vs := (w4 vs hts).trans wipe_wipe
      cases kk with
      | true =>
        show (if true = true then _ else _); rw [if_pos rfl]
        obtain ⟨yd, ρ6, h7, h8⟩ := bnd_ok h6
        refine ⟨C.with E (.lst accV), G5, _, yd, ρ6, hK, S5, h7, fun v6 G6 H6 g6 S6 r6 => ?_⟩
        have hH6 : H6 E = some (.lst accV) := S6.bh E _ upd_same
        have gg : Same G2 G6 := (w.g.trans g5).trans g6
        by_cases hac : acc.length < 100000
        · rw [if_pos hac] at h8
          refine ⟨accV, hH6, by rw [ra.length]; exact line_lt hac, G6, wipeE ρ6 vs, accV ++ [v6], acc ++ [yd], g2.trans gg, ?_, (ra.mono gg).append (.one r6), h8⟩
          have S7 := S6.step (o' := .lst (accV ++ [v6])) (hGE S6) S1.wf hBE
          rw [← ww]
          exact S7.wipe vs
        · rw [if_neg hac] at h8
          cases h8
      | false =>
        show (if false = true then _ else _); rw [if_neg Bool.false_ne_true]
        rw [if_neg Bool.false_ne_true] at h6
        refine ⟨G5, wipeE ρ5 vs, accV, acc, g2.trans (w.g.trans g5), ?_, ra.mono (w.g.trans g5), h6⟩
        rw [← ww]
        exact S5.wipe vs
    · have hi' : i = ds.length := by omega
      rw [List.drop_eq_nil_of_le (by omega)] at h2
      cases h2
      have gh2 := S2.gh
      have bh2 : Same C.B H2 := (same_new hBE).trans S2.bh
      refine .inl ⟨by rw [hi']; exact JJ.stop G2 H2 bh2 g2 gh2, ?_⟩
      have S3 : StOk C G2 (L2.wipe σ vs) H2 _ := S2.exit S1.wf hBE
      have S4 := S1.rest S3 g2
      refine q _ G2 H2 (g1.trans g2) S4 ⟨E, rfl, .lst (S2.bh E _ upd_same) ra, hGE S2, hBE, S1.fr E hE, fun j hj => ?_⟩
      obtain ⟨z1, s, z2, z3⟩ := hj
      by_cases hjv : j ∈ vs
      · have := restE_in hjv z2
        subst this
        rw [keepS_own] at z3; cases z3
      · rw [restE_out hjv] at z2
        obtain ⟨_, _, z4⟩ := Own.tracked S2 (i := j) (a := E) ⟨by rw [wipe_get hjv]; exact z1, s, z2, z3⟩
        have z5 : upd C.B E (.lst accV) E = none := z4
        rw [upd_same] at z5; cases z5
end
end PL
namespace PL
open PySem PySem.Spec L2 RT RZ
section
variable {X : Cx} {e a b c tg elt iter : Expr} {es ifs : List Expr} {pos pos' tpos p : Pos} {f fa fb fe : M D} {g ga gb : M Pl} {k : M Rv} {st : Stmt} {sts us : List Stmt} {m m1 m2 : M Fl} {x : Str} {scope : Scope} {own : List (Str × Nat)}
theorem pts_yes : PTs X [] (TTv X.K mYes) :=
  ⟨fun pins s σ H Q I ⟨C, G, ρ, d, ρ', hK, S, hf, q⟩ => pts_nil.run pins s σ H Q I (by cases hf; exact q G H (Same.refl _) S)⟩
theorem pf_lc {fi : M (List D)} {t : D → M Unit} {ts : List Nat} (hc : X.calm = true) (hN : X.N.Nodup) (hi : PIt X tg iter fi) (ok : BlkOk X.N X.env.scope scope own)
    (hg : ∀ (s : Shared) (H : Hp) (C : Addr) (cl : List (Str × Addr)) (fp : List Addr), PGt (X.blk s H scope (compEnvC scope cl C X.env) fp) tg ts t)
    (he : ∀ (s : Shared) (H : Hp) (C : Addr) (cl : List (Str × Addr)) (fp : List Addr), PV (X.blk s H scope (compEnvC scope cl C X.env) fp) elt fe) (hs : ∀ x, foldedSetIterable iter X.env x = pure x := by intro _; rfl)
    (hts : ∀ i ∈ ts, i ∈ own.map (·.2) := by decide) :
    PF X (.ListComp elt [⟨tg, iter, [], 0⟩] scope pos) (mLc fi t (own.map (·.2)) mYes fe) := by
  obtain ⟨wi, hi, ri⟩ := hi
  exact ⟨_, pe_lc (g := TGv X.K ts t) (tt := TTv X.K mYes) (te := TV X.K fe) hc hN hi ok (fun s H C cl fp => pg_uni (hg s H C cl fp)) (fun _ _ _ _ _ => pts_yes) (fun s H C cl fp => pv_uni (he s H C cl fp)) hs, rd_lc hts ri⟩
theorem pf_lcIf {fi : M (List D)} {t : D → M Unit} {ts : List Nat} {mc : M Bool} (hc : X.calm = true) (hN : X.N.Nodup) (hi : PIt X tg iter fi) (ok : BlkOk X.N X.env.scope scope own)
    (hg : ∀ (s : Shared) (H : Hp) (C : Addr) (cl : List (Str × Addr)) (fp : List Addr), PGt (X.blk s H scope (compEnvC scope cl C X.env) fp) tg ts t)
    (ht : ∀ (s : Shared) (H : Hp) (C : Addr) (cl : List (Str × Addr)) (fp : List Addr), PTt (X.blk s H scope (compEnvC scope cl C X.env) fp) c mc)
    (he : ∀ (s : Shared) (H : Hp) (C : Addr) (cl : List (Str × Addr)) (fp : List Addr), PV (X.blk s H scope (compEnvC scope cl C X.env) fp) elt fe) (hs : ∀ x, foldedSetIterable iter X.env x = pure x := by intro _; rfl)
    (hts : ∀ i ∈ ts, i ∈ own.map (·.2) := by decide) :
    PF X (.ListComp elt [⟨tg, iter, [c], 0⟩] scope pos) (mLc fi t (own.map (·.2)) mc fe) := by
  obtain ⟨wi, hi, ri⟩ := hi
  exact ⟨_, pe_lc (g := TGv X.K ts t) (tt := TTv X.K mc) (te := TV X.K fe) hc hN hi ok (fun s H C cl fp => pg_uni (hg s H C cl fp)) (fun s H C cl fp => pts_one (pt_uni (ht s H C cl fp))) (fun s H C cl fp => pv_uni (he s H C cl fp)) hs, rd_lc hts ri⟩
/-- y = [..] -/
theorem pst_setLc {i : Nat} {y : Str} {py spos : Pos} {fi : M (List D)} {t : D → M Unit} {ts : List Nat} (hc : X.calm = true) (hN : X.N.Nodup) (hy : X.N[i]? = some y) (hyl : X.env.scope.names.lookup y = some .local)
    (hsw : swapsWith (.ListComp elt [⟨tg, iter, [], 0⟩] scope pos) (some (.Name y py)) spos.line X.env = pure true) (hi : PIt X tg iter fi) (ok : BlkOk X.N X.env.scope scope own)
    (hg : ∀ (s : Shared) (H : Hp) (C : Addr) (cl : List (Str × Addr)) (fp : List Addr), PGt (X.blk s H scope (compEnvC scope cl C X.env) fp) tg ts t)
    (he : ∀ (s : Shared) (H : Hp) (C : Addr) (cl : List (Str × Addr)) (fp : List Addr), PV (X.blk s H scope (compEnvC scope cl C X.env) fp) elt fe) (hs : ∀ x, foldedSetIterable iter X.env x = pure x := by intro _; rfl)
    (hts : ∀ i ∈ ts, i ∈ own.map (·.2) := by decide) :
    PSt X (.Assign [.Name y py] (.ListComp elt [⟨tg, iter, [], 0⟩] scope pos) spos) (mSet i (mLc fi t (own.map (·.2)) mYes fe)) := by
  obtain ⟨wi, hi, ri⟩ := hi
  exact ⟨_, ps_setLc (g := TGv X.K ts t) (tt := TTv X.K mYes) (te := TV X.K fe) hc hN hy hyl hsw hi ok (fun s H C cl fp => pg_uni (hg s H C cl fp)) (fun _ _ _ _ _ => pts_yes) (fun s H C cl fp => pv_uni (he s H C cl fp)) hs, rd_set (rd_lc hts ri)⟩
theorem pst_setLcIf {i : Nat} {y : Str} {py spos : Pos} {fi : M (List D)} {t : D → M Unit} {ts : List Nat} {mc : M Bool} (hc : X.calm = true) (hN : X.N.Nodup) (hy : X.N[i]? = some y) (hyl : X.env.scope.names.lookup y = some .local)
    (hsw : swapsWith (.ListComp elt [⟨tg, iter, [c], 0⟩] scope pos) (some (.Name y py)) spos.line X.env = pure true) (hi : PIt X tg iter fi) (ok : BlkOk X.N X.env.scope scope own)
    (hg : ∀ (s : Shared) (H : Hp) (C : Addr) (cl : List (Str × Addr)) (fp : List Addr), PGt (X.blk s H scope (compEnvC scope cl C X.env) fp) tg ts t)
    (ht : ∀ (s : Shared) (H : Hp) (C : Addr) (cl : List (Str × Addr)) (fp : List Addr), PTt (X.blk s H scope (compEnvC scope cl C X.env) fp) c mc)
    (he : ∀ (s : Shared) (H : Hp) (C : Addr) (cl : List (Str × Addr)) (fp : List Addr), PV (X.blk s H scope (compEnvC scope cl C X.env) fp) elt fe) (hs : ∀ x, foldedSetIterable iter X.env x = pure x := by intro _; rfl)
    (hts : ∀ i ∈ ts, i ∈ own.map (·.2) := by decide) :
    PSt X (.Assign [.Name y py] (.ListComp elt [⟨tg, iter, [c], 0⟩] scope pos) spos) (mSet i (mLc fi t (own.map (·.2)) mc fe)) := by
  obtain ⟨wi, hi, ri⟩ := hi
  exact ⟨_, ps_setLc (g := TGv X.K ts t) (tt := TTv X.K mc) (te := TV X.K fe) hc hN hy hyl hsw hi ok (fun s H C cl fp => pg_uni (hg s H C cl fp)) (fun s H C cl fp => pts_one (pt_uni (ht s H C cl fp))) (fun s H C cl fp => pv_uni (he s H C cl fp)) hs, rd_set (rd_lc hts ri)⟩
end
/-! ### what a def promises -/
def runD (nl : Nat) (body : M Fl) (ss : Env) : Option (Rv × Env) := match body (ss ++ List.replicate nl .un) with
  | .ok (.rt r) ρ => some (r, ρ)
  | .ok .nx ρ => some (.pl (.val .none), ρ)
  | _ => none
def spD (K : PySem.W.Frag) (np nl : Nat) (body : M Fl) : Sp := fun vs H Q _ => ∃ (C : Ctx) (ss : Env) (r : Rv) (ρ' : Env), vs.length = np ∧ C.K = K ∧ StOk C C.G0 (vs.map some) H ss ∧ runD nl body ss = some (r, ρ') ∧
  ∀ (v : V) (G' : Hp) (σ' : L2.St) (H' : Hp), Same C.G0 G' → StOk C G' σ' H' ρ' → okR C G' σ' H' ρ' v r → Q v H'
theorem StOk.more {C : Ctx} {G H : Hp} {σ : L2.St} {ρ : Env} (S : StOk C G σ H ρ) (n : Nat) : StOk C G (σ ++ List.replicate n none) H (ρ ++ List.replicate n .un) := by
  have low : ∀ {i : Nat} {s : Sl}, (ρ ++ List.replicate n Sl.un)[i]? = some s → ownK s = true → i < ρ.length := fun {i s} q z => by
    rcases Nat.lt_or_ge i ρ.length with h | h
    · exact h
    · rw [List.getElem?_append_right h] at q
      have := List.mem_of_getElem? q
      rw [List.mem_replicate] at this
      rw [this.2] at z; cases z
  have sub : ∀ {i : Nat} {a : Addr}, Own (σ ++ List.replicate n none) (ρ ++ List.replicate n .un) i a → Own σ ρ i a := fun {i a} ⟨x, s, y, z⟩ => by
    have h := low y z
    rw [List.getElem?_append_left h] at y
    rw [List.getElem?_append_left (by rw [S.len]; exact h)] at x
    exact ⟨x, s, y, z⟩
  refine ⟨S.gh, S.bh, S.g0, S.fr, S.ga, S.wf, by simp [S.len], fun i s q => ?_, fun i j a hi hj => S.ds i j a (sub hi) (sub hj)⟩
  rcases Nat.lt_or_ge i ρ.length with h | h
  · rw [List.getElem?_append_left h] at q
    rw [List.getElem?_append_left (by rw [S.len]; exact h)]
    exact S.sl i s q
  · rw [List.getElem?_append_right h] at q
    have := List.mem_of_getElem? q
    rw [List.mem_replicate] at this
    have hi : i - ρ.length < n := by
      have := (List.getElem?_eq_some_iff.mp q).1
      rwa [List.length_replicate] at this
    refine ⟨none, ?_, ?_⟩
    · rw [List.getElem?_append_right (by rw [S.len]; exact h), S.len, List.getElem?_replicate, if_pos hi]
    · rw [this.2]; trivial
section
variable {P : Program} {w : World} {K : PySem.W.Frag} {mg : Str → Option Value} {base : Heap} {k : Nat} {N ps : List Str} {x qual : Str} {st : Stmt} {f : Addr} {fd : FuncData} {m : M Fl}
/-- a def by its body -/
theorem fn_pl {np nl : Nat} (F : Fun K x qual st f fd) (S : FnScope N ps (defScope st)) (hn : N.length = np + nl) (hp : ps.length = np)
    (hb : ∀ (cdv : Value) (A : Around) (outer : List PySem.Env) (s : Shared) (H : Hp) (E : XK), Room k (A.deeper (PyProof.Rows.envOfC qual (defScope st) s.heap.objs.size f cdv)) →
      PSts (cxOf CX0 P w K mg base N qual (defScope st) f cdv A outer s H E).nox (defBody st) m) : FnOk P w K mg base CX0 (k + 1) f fd ps (spD K np nl m) := by
  refine F.ok S (fun vs H Q E h => ?_) fun cdv A outer s H vs Q E hr h => ?_
  · obtain ⟨C, ss, r, ρ', hl, _⟩ := h
    rw [hl, hp]
  · obtain ⟨C, ss, r, ρ', hl, hK, S0, hrun, q⟩ := h
    obtain ⟨t, ht, rt⟩ := hb cdv A outer s H E hr
    refine ⟨t, ht, ?_⟩
    have e : L2.start N vs = vs.map some ++ List.replicate nl none := by
      unfold L2.start
      rw [hn, hl, Nat.add_sub_cancel_left]
    rw [e]
    have S1 := S0.more nl
    unfold runD at hrun
    cases hm : m (ss ++ List.replicate nl .un) with
    | stuck => rw [hm] at hrun; cases hrun
    | ok fl ρ1 =>
      rw [hm] at hrun
      cases fl with
      | rt r1 => cases hrun; exact rt C C.G0 _ H _ _ hK S1 _ _ hm fun σ' G' H' g S' v o => q v G' σ' H' g S' o
      | nx => cases hrun; exact rt C C.G0 _ H _ _ hK S1 _ _ hm fun σ' G' H' g S' => q .non G' σ' H' g S' .non
      | bk => cases hrun
      | ct => cases hrun
end
/-! ### calls -/
inductive Md where
  | v | b | io | s
def argS (ρ : Env) : Md → Pl → Option Sl
  | .v, .val d => some (.val d)
  | .b, p => (rsv ρ p).map .bor
  | .io, .slot i => match ρ[i]? with
    | some (.own d) => some (.io d)
    | some (.io d) => some (.io d)
    | _ => none
  | .s, .slot i => match ρ[i]? with
    | some (.scr ns) => some (.scr ns)
    | _ => none
  | _, _ => none
def argSs (ρ : Env) : List Md → List Pl → Option Env
  | [], [] => some []
  | m :: ms, p :: ps => match argS ρ m p, argSs ρ ms ps with
    | some s, some ss => some (s :: ss)
    | _, _ => none
  | _, _ => none
/-- the places that are handed in to be changed -/
def ios : List Md → List Pl → List Nat
  | .io :: ms, .slot i :: ps => i :: ios ms ps
  | _ :: ms, _ :: ps => ios ms ps
  | _, _ => []
/-- the places that are handed in to be looked at -/
def nios : List Md → List Pl → List Nat
  | .io :: ms, _ :: ps => nios ms ps
  | _ :: ms, .slot i :: ps => i :: nios ms ps
  | _ :: ms, _ :: ps => nios ms ps
  | _, _ => []
def apart (ms : List Md) (ps : List Pl) : Bool := decide (ios ms ps).Nodup && (nios ms ps).all fun i => decide (i ∉ ios ms ps)
def putIo (ρ : Env) (i : Nat) (d : D) : Option Env := match ρ[i]? with
  | some (.own _) => some (ρ.set i (.own d))
  | some (.io _) => some (ρ.set i (.io d))
  | _ => none
def back1 (ρ : Env) (m : Md) (p : Pl) (s : Sl) : Option Env := match m with
  | .io => match p with
    | .slot i => match s with
      | .io d => putIo ρ i d
      | _ => none
    | .val _ => none
  | _ => some ρ
def backIo (ρ : Env) : List Md → List Pl → List Sl → Option Env
  | m :: ms, p :: ps, s :: ss => match back1 ρ m p s with
    | some ρ1 => backIo ρ1 ms ps ss
    | none => none
  | [], [], [] => some ρ
  | [], [], _ :: _ => some ρ
  | [], _ :: _, _ => none
  | _ :: _, [], _ => none
  | _ :: _, _ :: _, [] => none
def resR (ρ : Env) : Rv → Option Rv
  | .fr d => some (.fr d)
  | .pl (.val d) => some (.pl (.val d))
  | .pl (.slot k) => match ρ[k]? with
    | some (.val d) => some (.pl (.val d))
    | some (.own d) => some (.fr d)
    | some (.bor d) => if atom d = true then some (.pl (.val d)) else none
    | _ => none
/-- what a call comes to, without what is only local there -/
def evalD (ms : List Md) (nl : Nat) (body : M Fl) (ss : Env) : Option (Rv × Env) := match runD nl body ss with
  | some (r, ρ') => match resR ρ' r with
    | some r' => some (r', ρ'.take ms.length)
    | none => none
  | none => none
def callAt (ms : List Md) (nl : Nat) (body : M Fl) (ps : List Pl) : M Rv := fun ρ => if apart ms ps = true then match argSs ρ ms ps with
    | some ss => match evalD ms nl body ss with
      | some ro => match backIo ρ ms ps ro.2 with
        | some ρ2 => .ok ro.1 ρ2
        | none => .stuck
      | none => .stuck
    | none => .stuck
  else .stuck
def mCall (ms : List Md) (nl : Nat) (body : M Fl) (fs : M (List Pl)) : M Rv := bnd fs fun ps => callAt ms nl body ps
end PL
namespace PL
open PySem PySem.Spec L2 RT RZ
theorem okPs.len {G : Hp} {σ : L2.St} : ∀ {vs : List V} {ps : List Pl}, okPs G σ vs ps → vs.length = ps.length
  | _, _, .nil => rfl
  | _, _, .cons _ r => by simp [okPs.len r]
theorem okPs.get {G : Hp} {σ : L2.St} : ∀ {vs : List V} {ps : List Pl} {i : Nat} {p : Pl}, okPs G σ vs ps → ps[i]? = some p → ∃ v, vs[i]? = some v ∧ okP G σ v p
  | _, _, _, _, .nil, h => by simp at h
  | _, _, 0, _, .cons h r, e => by simp at e; subst e; exact ⟨_, rfl, h⟩
  | _, _, i + 1, _, .cons h r, e => by
    have := okPs.get (i := i) r (by simpa using e)
    simpa using this
theorem argSs_len {ρ : Env} : ∀ {ms : List Md} {ps : List Pl} {ss : Env}, argSs ρ ms ps = some ss → ms.length = ps.length ∧ ss.length = ps.length
  | [], [], _, h => by cases h; exact ⟨rfl, rfl⟩
  | [], _ :: _, _, h => by cases h
  | _ :: _, [], _, h => by cases h
  | m :: ms, p :: ps, ss, h => by
    unfold argSs at h
    cases q1 : argS ρ m p with
    | none => rw [q1] at h; cases h
    | some s =>
      cases q2 : argSs ρ ms ps with
      | none => rw [q1, q2] at h; cases h
      | some ss' =>
        rw [q1, q2] at h
        cases h
        obtain ⟨h1, h2⟩ := argSs_len q2
        exact ⟨by simp [h1], by simp [h2]⟩
theorem argSs_get {ρ : Env} : ∀ {ms : List Md} {ps : List Pl} {ss : Env} {i : Nat} {s : Sl}, argSs ρ ms ps = some ss → ss[i]? = some s → ∃ m p, ms[i]? = some m ∧ ps[i]? = some p ∧ argS ρ m p = some s
  | [], [], _, _, _, h, e => by cases h; simp at e
  | [], _ :: _, _, _, _, h, _ => by cases h
  | _ :: _, [], _, _, _, h, _ => by cases h
  | m :: ms, p :: ps, ss, i, s, h, e => by
    unfold argSs at h
    cases q1 : argS ρ m p with
    | none => rw [q1] at h; cases h
    | some s' =>
      cases q2 : argSs ρ ms ps with
      | none => rw [q1, q2] at h; cases h
      | some ss' =>
        rw [q1, q2] at h
        cases h
        cases i with
        | zero => simp at e; subst e; exact ⟨m, p, rfl, rfl, q1⟩
        | succ i =>
          obtain ⟨m', p', h1, h2, h3⟩ := argSs_get q2 (i := i) (by simpa using e)
          exact ⟨m', p', by simpa using h1, by simpa using h2, h3⟩
theorem ios_mem : ∀ {ms : List Md} {ps : List Pl} {i j : Nat}, ms[i]? = some .io → ps[i]? = some (.slot j) → j ∈ ios ms ps
  | [], _, _, _, h, _ => by simp at h
  | _ :: _, [], _, _, _, h => by simp at h
  | m :: ms, p :: ps, 0, j, h1, h2 => by
    simp at h1 h2; subst h1; subst h2
    exact List.mem_cons_self
  | m :: ms, p :: ps, i + 1, j, h1, h2 => by
    have := ios_mem (ms := ms) (ps := ps) (i := i) (j := j) (by simpa using h1) (by simpa using h2)
    cases m with
    | io => cases p with
      | slot k => exact List.mem_cons_of_mem _ this
      | val d => exact this
    | _ => exact this
theorem nios_mem : ∀ {ms : List Md} {ps : List Pl} {i j : Nat} {m : Md}, ms[i]? = some m → m ≠ .io → ps[i]? = some (.slot j) → j ∈ nios ms ps
  | [], _, _, _, _, h, _, _ => by simp at h
  | _ :: _, [], _, _, _, _, _, h => by simp at h
  | m :: ms, p :: ps, 0, j, m', h1, hm, h2 => by
    simp at h1 h2; subst h1; subst h2
    cases m with
    | io => exact absurd rfl hm
    | _ => exact List.mem_cons_self
  | m :: ms, p :: ps, i + 1, j, m', h1, hm, h2 => by
    have := nios_mem (ms := ms) (ps := ps) (i := i) (j := j) (by simpa using h1) hm (by simpa using h2)
    cases m with
    | io => exact this
    | _ => cases p with
      | slot k => exact List.mem_cons_of_mem _ this
      | val d => exact this
theorem ios_inj : ∀ {ms : List Md} {ps : List Pl} {i i' j : Nat}, (ios ms ps).Nodup → ms[i]? = some .io → ps[i]? = some (.slot j) → ms[i']? = some .io → ps[i']? = some (.slot j) → i = i'
  | [], _, _, _, _, _, h, _, _, _ => by simp at h
  | _ :: _, [], _, _, _, _, _, h, _, _ => by simp at h
  | m :: ms, p :: ps, 0, 0, _, _, _, _, _, _ => rfl
  | m :: ms, p :: ps, 0, i' + 1, j, nd, h1, h2, h3, h4 => by
    simp at h1 h2; subst h1; subst h2
    have := ios_mem (ms := ms) (ps := ps) (i := i') (j := j) (by simpa using h3) (by simpa using h4)
    have nd' : (j :: ios ms ps).Nodup := nd
    exact absurd this (List.nodup_cons.mp nd').1
  | m :: ms, p :: ps, i + 1, 0, j, nd, h1, h2, h3, h4 => by
    simp at h3 h4; subst h3; subst h4
    have := ios_mem (ms := ms) (ps := ps) (i := i) (j := j) (by simpa using h1) (by simpa using h2)
    have nd' : (j :: ios ms ps).Nodup := nd
    exact absurd this (List.nodup_cons.mp nd').1
  | m :: ms, p :: ps, i + 1, i' + 1, j, nd, h1, h2, h3, h4 => by
    have nd' : (ios ms ps).Nodup := by
      cases m with
      | io => cases p with
        | slot k => exact (List.nodup_cons.mp nd).2
        | val d => exact nd
      | _ => exact nd
    exact congrArg _ (ios_inj nd' (by simpa using h1) (by simpa using h2) (by simpa using h3) (by simpa using h4))
theorem putIo_ok {ρ ρ1 : Env} {i : Nat} {d : D} (h : putIo ρ i d = some ρ1) : ∃ s s', ρ[i]? = some s ∧ ρ1 = ρ.set i s' ∧ ((∃ d0, s = .own d0 ∧ s' = .own d) ∨ (∃ d0, s = .io d0 ∧ s' = .io d)) := by
  unfold putIo at h
  cases q : ρ[i]? with
  | none => rw [q] at h; cases h
  | some s =>
    rw [q] at h
    cases s with
    | own d0 => cases h; exact ⟨_, _, rfl, rfl, .inl ⟨d0, rfl, rfl⟩⟩
    | io d0 => cases h; exact ⟨_, _, rfl, rfl, .inr ⟨d0, rfl, rfl⟩⟩
    | _ => cases h
theorem back1_ok {ρ ρ1 : Env} {m : Md} {p : Pl} {s : Sl} (h : back1 ρ m p s = some ρ1) : (m ≠ .io ∧ ρ1 = ρ) ∨ ∃ i d, m = .io ∧ p = .slot i ∧ s = .io d ∧ putIo ρ i d = some ρ1 := by
  unfold back1 at h
  cases m with
  | io => cases p with
    | val d => cases h
    | slot i => cases s with
      | io d => exact .inr ⟨i, d, rfl, rfl, rfl, h⟩
      | _ => cases h
  | v => cases h; exact .inl ⟨(fun z => nomatch z), rfl⟩
  | b => cases h; exact .inl ⟨(fun z => nomatch z), rfl⟩
  | s => cases h; exact .inl ⟨(fun z => nomatch z), rfl⟩
theorem backIo_cons {ρ ρ2 : Env} {m : Md} {ms : List Md} {p : Pl} {ps : List Pl} {ss : List Sl} (h : backIo ρ (m :: ms) (p :: ps) ss = some ρ2) : ∃ s ss' ρ1, ss = s :: ss' ∧ back1 ρ m p s = some ρ1 ∧ backIo ρ1 ms ps ss' = some ρ2 := by
  cases ss with
  | nil => simp [backIo] at h
  | cons s ss' =>
    simp only [backIo] at h
    cases q : back1 ρ m p s with
    | none => rw [q] at h; cases h
    | some ρ1 => rw [q] at h; exact ⟨s, ss', ρ1, rfl, q, h⟩
theorem ios_io {ms : List Md} {ps : List Pl} {i : Nat} : ios (.io :: ms) (.slot i :: ps) = i :: ios ms ps := rfl
theorem ios_no {m : Md} {ms : List Md} {p : Pl} {ps : List Pl} (h : m ≠ .io) : ios (m :: ms) (p :: ps) = ios ms ps := by
  cases m with
  | io => exact absurd rfl h
  | _ => rfl
theorem backIo_out : ∀ {ms : List Md} {ps : List Pl} {ss ρ ρ2 : Env} {j : Nat}, backIo ρ ms ps ss = some ρ2 → j ∉ ios ms ps → ρ2[j]? = ρ[j]? := by
  intro ms
  induction ms with
  | nil =>
    intro ps ss ρ ρ2 j h _
    cases ps with
    | nil => cases ss <;> simp [backIo] at h <;> rw [h]
    | cons p ps => simp [backIo] at h
  | cons m ms ih =>
    intro ps ss ρ ρ2 j h hj
    cases ps with
    | nil => simp [backIo] at h
    | cons p ps =>
      obtain ⟨s, ss', ρ1, rfl, h1, h2⟩ := backIo_cons h
      rcases back1_ok h1 with ⟨hm, rfl⟩ | ⟨i, d, rfl, rfl, rfl, hp⟩
      · rw [ios_no hm] at hj
        exact ih h2 hj
      · rw [ios_io] at hj
        obtain ⟨s, s', _, rfl, _⟩ := putIo_ok hp
        rw [ih h2 fun z => hj (List.mem_cons_of_mem _ z), List.getElem?_set_ne fun z => hj (by rw [z]; exact List.mem_cons_self)]
theorem backIo_len : ∀ {ms : List Md} {ps : List Pl} {ss ρ ρ2 : Env}, backIo ρ ms ps ss = some ρ2 → ρ2.length = ρ.length := by
  intro ms
  induction ms with
  | nil =>
    intro ps ss ρ ρ2 h
    cases ps with
    | nil => cases ss <;> simp [backIo] at h <;> rw [h]
    | cons p ps => simp [backIo] at h
  | cons m ms ih =>
    intro ps ss ρ ρ2 h
    cases ps with
    | nil => simp [backIo] at h
    | cons p ps =>
      obtain ⟨s, ss', ρ1, rfl, h1, h2⟩ := backIo_cons h
      rcases back1_ok h1 with ⟨hm, rfl⟩ | ⟨i, d, rfl, rfl, rfl, hp⟩
      · exact ih h2
      · obtain ⟨s, s', _, rfl, _⟩ := putIo_ok hp
        rw [ih h2, List.length_set]
theorem backIo_in : ∀ {ms : List Md} {ps : List Pl} {ss ρ ρ2 : Env} {j : Nat}, backIo ρ ms ps ss = some ρ2 → (ios ms ps).Nodup → j ∈ ios ms ps →
    ∃ (i : Nat) (d : D) (s s' : Sl), ms[i]? = some Md.io ∧ ps[i]? = some (Pl.slot j) ∧ ss[i]? = some (Sl.io d) ∧ ρ[j]? = some s ∧ ρ2[j]? = some s' ∧ ((∃ d0, s = .own d0 ∧ s' = .own d) ∨ (∃ d0, s = .io d0 ∧ s' = .io d)) := by
  intro ms
  induction ms with
  | nil =>
    intro ps ss ρ ρ2 j h nd hj
    cases ps <;> cases hj
  | cons m ms ih =>
    intro ps ss ρ ρ2 j h nd hj
    cases ps with
    | nil => simp [backIo] at h
    | cons p ps =>
      obtain ⟨s, ss', ρ1, rfl, h1, h2⟩ := backIo_cons h
      rcases back1_ok h1 with ⟨hm, rfl⟩ | ⟨i, d, rfl, rfl, rfl, hp⟩
      · rw [ios_no hm] at hj nd
        obtain ⟨i2, d2, s2, s2', a1, a2, a3, r⟩ := ih h2 nd hj
        exact ⟨i2 + 1, d2, s2, s2', by simpa using a1, by simpa using a2, by simpa using a3, r⟩
      · rw [ios_io] at hj nd
        obtain ⟨n1, n2⟩ := List.nodup_cons.mp nd
        obtain ⟨s, s', e, rfl, k⟩ := putIo_ok hp
        have hi : i < ρ.length := (List.getElem?_eq_some_iff.mp e).1
        by_cases hji : j = i
        · subst hji
          refine ⟨0, d, s, s', rfl, rfl, rfl, e, ?_, k⟩
          rw [backIo_out h2 n1, List.getElem?_set_self hi]
        · have hj' : j ∈ ios ms ps := by
            cases hj with
            | head => exact absurd rfl hji
            | tail _ z => exact z
          obtain ⟨i2, d2, s2, s2', a1, a2, a3, a4, r⟩ := ih h2 n2 hj'
          rw [List.getElem?_set_ne (fun z => hji z.symm)] at a4
          exact ⟨i2 + 1, d2, s2, s2', by simpa using a1, by simpa using a2, by simpa using a3, a4, r⟩
theorem Rp.tracked {G : Hp} {a : Addr} {d : D} (h : Rp G (.ref a) d) : G a ≠ none := by
  cases h with
  | lst h r => exact ne_none_of h
  | tup h r => exact ne_none_of h
  | dct h r => exact ne_none_of h
section
variable {C : Ctx} {G H : Hp} {σ : L2.St} {ρ : Env} {vs : List V} {ps : List Pl} {ms : List Md} {ss : Env}
def IoA (σ : L2.St) (ms : List Md) (ps : List Pl) (a : Addr) : Prop := ∃ j ∈ ios ms ps, σ[j]? = some (some (.ref a))
open Classical in
noncomputable def callC (C : Ctx) (G H : Hp) (σ : L2.St) (vs : List V) (ms : List Md) (ps : List Pl) (ss : Env) : Ctx :=
  { K := C.K, G0 := G, B := fun a => if IoA σ ms ps a then none else H a, A := fun a => H a = none, P := fun i => vs[i]?, S := fun i => ss.getD i .un }
theorem ios_arg : ∀ {ms : List Md} {ps : List Pl} {j : Nat}, j ∈ ios ms ps → ∃ (i : Nat), ms[i]? = some Md.io ∧ ps[i]? = some (Pl.slot j)
  | [], _, _, h => by cases h
  | .io :: ms, .slot i :: ps, j, h => by
    have h' : j ∈ i :: ios ms ps := h
    cases h' with
    | head => exact ⟨0, rfl, rfl⟩
    | tail _ z => obtain ⟨k, h1, h2⟩ := ios_arg z; exact ⟨k + 1, by simpa using h1, by simpa using h2⟩
  | .io :: ms, .val _ :: ps, j, h => by obtain ⟨k, h1, h2⟩ := ios_arg (ms := ms) (ps := ps) h; exact ⟨k + 1, by simpa using h1, by simpa using h2⟩
  | .v :: ms, p :: ps, j, h => by obtain ⟨k, h1, h2⟩ := ios_arg (ms := ms) (ps := ps) h; exact ⟨k + 1, by simpa using h1, by simpa using h2⟩
  | .b :: ms, p :: ps, j, h => by obtain ⟨k, h1, h2⟩ := ios_arg (ms := ms) (ps := ps) h; exact ⟨k + 1, by simpa using h1, by simpa using h2⟩
  | .s :: ms, p :: ps, j, h => by obtain ⟨k, h1, h2⟩ := ios_arg (ms := ms) (ps := ps) h; exact ⟨k + 1, by simpa using h1, by simpa using h2⟩
  | .io :: ms, [], j, h => by cases h
  | .v :: ms, [], j, h => by cases h
  | .b :: ms, [], j, h => by cases h
  | .s :: ms, [], j, h => by cases h
theorem getE {ms : List Md} {ps : List Pl} (ha : argSs ρ ms ps = some ss) {i : Nat} {p : Pl} {m : Md} (hp : ps[i]? = some p) (hm : ms[i]? = some m) : ∃ s, ss[i]? = some s ∧ argS ρ m p = some s := by
  obtain ⟨l1, l2⟩ := argSs_len ha
  have hi : i < ps.length := (List.getElem?_eq_some_iff.mp hp).1
  have e : ss[i]? = some (ss[i]'(by omega)) := List.getElem?_eq_getElem _
  obtain ⟨m', p', h1, h2, h3⟩ := argSs_get ha e
  rw [hp] at h2; cases h2
  rw [hm] at h1; cases h1
  exact ⟨_, e, h3⟩
/-- what is handed in to be changed is somebody's own -/
theorem io_own (ha : argSs ρ ms ps = some ss) {i j : Nat} (hm : ms[i]? = some .io) (hp : ps[i]? = some (.slot j)) : ∃ s d, ρ[j]? = some s ∧ ownK s = true ∧ (s = .own d ∨ s = .io d) ∧ ss[i]? = some (.io d) := by
  obtain ⟨s, e, h⟩ := getE ha hp hm
  unfold argS at h
  simp only at h
  cases q : ρ[j]? with
  | none => rw [q] at h; cases h
  | some s0 =>
    rw [q] at h
    cases s0 with
    | own d => cases h; exact ⟨_, d, rfl, rfl, .inl rfl, e⟩
    | io d => cases h; exact ⟨_, d, rfl, rfl, .inr rfl, e⟩
    | _ => cases h
theorem IoA.own (ha : argSs ρ ms ps = some ss) {a : Addr} (h : IoA σ ms ps a) : ∃ j ∈ ios ms ps, Own σ ρ j a := by
  obtain ⟨j, hj, e⟩ := h
  obtain ⟨i, h1, h2⟩ := ios_arg hj
  obtain ⟨s, d, q, k, _⟩ := io_own ha h1 h2
  exact ⟨j, hj, e, s, q, k⟩
theorem call_start (S : StOk C G σ H ρ) (o : okPs G σ vs ps) (ap : apart ms ps = true) (ha : argSs ρ ms ps = some ss) : StOk (callC C G H σ vs ms ps ss) G (vs.map some) H ss := by
  obtain ⟨l1, l2⟩ := argSs_len ha
  have lv := o.len
  unfold apart at ap
  simp only [Bool.and_eq_true, decide_eq_true_eq, List.all_eq_true] at ap
  obtain ⟨nd, dis⟩ := ap
  have Bio : ∀ {a : Addr}, IoA σ ms ps a → (callC C G H σ vs ms ps ss).B a = none := fun {a} h => if_pos h
  have Bno : ∀ {a : Addr}, ¬ IoA σ ms ps a → (callC C G H σ vs ms ps ss).B a = H a := fun {a} h => if_neg h
  have CB : Same C.B (callC C G H σ vs ms ps ss).B := fun a u q => by
    rw [Bno fun h => ?_]
    · exact S.bh a u q
    · obtain ⟨j, _, ow⟩ := IoA.own ha h
      rw [(Own.tracked S ow).2.2] at q; cases q
  have sg : ∀ {i : Nat} {s : Sl}, ss[i]? = some s → ss.getD i .un = s := fun {i s} e => by rw [List.getD_eq_getElem?_getD, e]; rfl
  -- what is but looked at isn't what is changed
  have far : ∀ {i : Nat} {m : Md} {p : Pl} {v : V} {a : Addr}, ms[i]? = some m → m ≠ .io → ps[i]? = some p → okP G σ v p → v = .ref a → (∃ d, rsv ρ p = some d) → ¬ IoA σ ms ps a := by
    intro i m p v a hm hne hp ho hv hd h
    subst hv
    obtain ⟨j', hj', ow⟩ := IoA.own ha h
    obtain ⟨t1, t2, t3⟩ := Own.tracked S ow
    cases p with
    | val d => exact (Rp.tracked (show Rp G (.ref a) d from ho)) t2
    | slot j =>
      have hσ : σ[j]? = some (some (.ref a)) := ho
      have hjn : j ∉ ios ms ps := by
        have := dis j (nios_mem hm hne hp)
        exact this
      obtain ⟨d, hd⟩ := hd
      simp only [rsv] at hd
      cases q : ρ[j]? with
      | none => rw [q] at hd; cases hd
      | some s =>
        rw [q] at hd
        have k := S.get q hσ
        cases s with
        | un => cases hd
        | scr ns => cases hd
        | val d' => obtain ⟨w, e, r⟩ := k; cases e; exact r.tracked t2
        | own d' => exact hjn (by rw [S.ds j j' a ⟨hσ, _, q, rfl⟩ ow]; exact hj')
        | io d' => exact hjn (by rw [S.ds j j' a ⟨hσ, _, q, rfl⟩ ow]; exact hj')
        | bor d' =>
          obtain ⟨w, e, p1, p2⟩ := k
          cases e
          have w := S.wf j _ p1
          rw [p2] at w
          exact (Sh.tracked (show Sh C.G0 C.B (.ref a) d' from w)) t3
  refine ⟨S.gh, fun a u q => ?_, Same.refl _, fun a q => q, fun a q => .inl q, fun i v q => ?_, by rw [List.length_map, lv, l2], fun i s e => ?_, fun i j a hi hj => ?_⟩
  · by_cases h : IoA σ ms ps a
    · rw [Bio h] at q; cases q
    · rw [Bno h] at q; exact q
  · -- wf
    have q' : vs[i]? = some v := q
    show BorOk C.K G (callC C G H σ vs ms ps ss).B v (ss.getD i .un)
    have hi : i < ps.length := by rw [← lv]; exact (List.getElem?_eq_some_iff.mp q').1
    have e : ss[i]? = some (ss[i]'(by omega)) := List.getElem?_eq_getElem _
    rw [sg e]
    generalize ss[i]'(by omega) = s at e
    obtain ⟨m, p, h1, h2, h3⟩ := argSs_get ha e
    obtain ⟨v', hv', ho⟩ := o.get h2
    rw [q'] at hv'; cases hv'
    cases s with
    | bor d =>
      cases m with
      | b =>
        simp only [argS] at h3
        cases r : rsv ρ p with
        | none => rw [r] at h3; cases h3
        | some d' =>
          rw [r] at h3
          cases h3
          refine (rsv_ok S ho r).at (Same.refl _) fun a ea u hu => ?_
          rw [Bno (far h1 (fun z => nomatch z) h2 ho ea ⟨_, r⟩)]
          exact hu
      | v => cases p <;> cases h3
      | io => cases p with
        | val d' => cases h3
        | slot j => simp only [argS] at h3; split at h3 <;> cases h3
      | s => cases p with
        | val d' => cases h3
        | slot j => simp only [argS] at h3; split at h3 <;> cases h3
    | scr ns =>
      cases m with
      | b =>
        simp only [argS] at h3
        cases r : rsv ρ p with
        | none => rw [r] at h3; cases h3
        | some d' => rw [r] at h3; cases h3
      | v => cases p <;> cases h3
      | io => cases p with
        | val d' => cases h3
        | slot j => simp only [argS] at h3; split at h3 <;> cases h3
      | s => cases p with
        | val d' => cases h3
        | slot j =>
          simp only [argS] at h3
          cases r : ρ[j]? with
          | none => rw [r] at h3; cases h3
          | some s0 =>
            rw [r] at h3
            cases s0 with
            | scr ns' =>
              cases h3
              obtain ⟨w, e, p1, p2⟩ := S.get r (show σ[j]? = some (some v) from ho)
              cases e
              have w := S.wf j _ p1
              rw [p2] at w
              obtain ⟨a, ea, sq⟩ := w
              exact ⟨a, ea, Same.seq CB sq⟩
            | _ => cases h3
    | _ => trivial
  · obtain ⟨m, p, h1, h2, h3⟩ := argSs_get ha e
    obtain ⟨v, hv, ho⟩ := o.get h2
    refine ⟨some v, by rw [List.getElem?_map, hv]; rfl, ?_⟩
    have hP : (callC C G H σ vs ms ps ss).P i = some v := hv
    have hS : (callC C G H σ vs ms ps ss).S i = s := sg e
    cases s with
    | un => trivial
    | val d =>
      cases m with
      | v => cases p with
        | val d' => cases h3; exact ⟨v, rfl, ho⟩
        | slot j => cases h3
      | b => simp only [argS] at h3; cases r : rsv ρ p with
        | none => rw [r] at h3; cases h3
        | some d' => rw [r] at h3; cases h3
      | io => cases p with
        | val d' => cases h3
        | slot j => simp only [argS] at h3; split at h3 <;> cases h3
      | s => cases p with
        | val d' => cases h3
        | slot j => simp only [argS] at h3; split at h3 <;> cases h3
    | own d =>
      cases m with
      | v => cases p <;> cases h3
      | b => simp only [argS] at h3; cases r : rsv ρ p with
        | none => rw [r] at h3; cases h3
        | some d' => rw [r] at h3; cases h3
      | io => cases p with
        | val d' => cases h3
        | slot j => simp only [argS] at h3; split at h3 <;> cases h3
      | s => cases p with
        | val d' => cases h3
        | slot j => simp only [argS] at h3; split at h3 <;> cases h3
    | bor d => exact ⟨v, rfl, hP, hS⟩
    | scr ns => exact ⟨v, rfl, hP, hS⟩
    | io d =>
      cases m with
      | v => cases p <;> cases h3
      | b => simp only [argS] at h3; cases r : rsv ρ p with
        | none => rw [r] at h3; cases h3
        | some d' => rw [r] at h3; cases h3
      | s => cases p with
        | val d' => cases h3
        | slot j => simp only [argS] at h3; split at h3 <;> cases h3
      | io => cases p with
        | val d' => cases h3
        | slot j =>
          obtain ⟨s0, d0, q, kk, sd, e'⟩ := io_own ha h1 h2
          rw [e] at e'; cases e'
          have k := S.get q (show σ[j]? = some (some v) from ho)
          have fin : ∀ {a : Addr}, v = .ref a → Sh G H (.ref a) d → G a = none → SlOk (callC C G H σ vs ms ps ss) G H i (some v) (.io d) := fun {a} ea sh gn => by
            subst ea
            exact ⟨a, rfl, sh, gn, Bio ⟨j, ios_mem h1 h2, ho⟩, hP⟩
          rcases sd with rfl | rfl
          · obtain ⟨a, ea, sh, gn, _⟩ := k
            exact fin (Option.some.inj ea) sh gn
          · obtain ⟨a, ea, sh, gn, _⟩ := k
            exact fin (Option.some.inj ea) sh gn
  · -- two names for one object
    have pick : ∀ {i : Nat}, Own (vs.map some) ss i a → ∃ j, ms[i]? = some .io ∧ ps[i]? = some (.slot j) ∧ Own σ ρ j a := by
      intro i ⟨x, s, y, z⟩
      obtain ⟨m, p, h1, h2, h3⟩ := argSs_get ha y
      obtain ⟨v, hv, ho⟩ := o.get h2
      rw [List.getElem?_map, hv] at x
      cases x
      cases m with
      | v => cases p with
        | val d' => cases h3; cases z
        | slot j => cases h3
      | b => simp only [argS] at h3; cases r : rsv ρ p with
        | none => rw [r] at h3; cases h3
        | some d' => rw [r] at h3; cases h3; cases z
      | s => cases p with
        | val d' => cases h3
        | slot j => simp only [argS] at h3; split at h3 <;> cases h3 <;> cases z
      | io => cases p with
        | val d' => cases h3
        | slot j =>
          obtain ⟨s0, d0, q, kk, _⟩ := io_own ha h1 h2
          exact ⟨j, h1, h2, ho, s0, q, kk⟩
    obtain ⟨j1, a1, a2, a3⟩ := pick hi
    obtain ⟨j2, b1, b2, b3⟩ := pick hj
    have ej := S.ds j1 j2 a a3 b3
    subst ej
    exact ios_inj nd a1 a2 b1 b2
theorem call_end {G' H' : Hp} {σ' : L2.St} {ρ' ρ2 : Env} (S : StOk C G σ H ρ) (o : okPs G σ vs ps) (ap : apart ms ps = true) (ha : argSs ρ ms ps = some ss) (S' : StOk (callC C G H σ vs ms ps ss) G' σ' H' ρ') (g : Same G G') (hb : backIo ρ ms ps ρ' = some ρ2) :
    StOk C G' σ H' ρ2 := by
  unfold apart at ap
  simp only [Bool.and_eq_true, decide_eq_true_eq, List.all_eq_true] at ap
  obtain ⟨nd, dis⟩ := ap
  have Bno : ∀ {a : Addr}, ¬ IoA σ ms ps a → (callC C G H σ vs ms ps ss).B a = H a := fun {a} h => if_neg h
  have CB : Same C.B (callC C G H σ vs ms ps ss).B := fun a u q => by
    rw [Bno fun h => ?_]
    · exact S.bh a u q
    · obtain ⟨j, _, ow⟩ := IoA.own ha h
      rw [(Own.tracked S ow).2.2] at q; cases q
  have trk : ∀ {a : Addr}, H' a = none → H a = none := fun {a} q => S'.fr a q
  have gnew : ∀ {a : Addr}, G' a ≠ none → G a ≠ none ∨ H a = none := fun {a} q => S'.ga a q
  have still : ∀ {a : Addr}, H a ≠ none → G a = none → G' a = none := fun {a} h1 h2 => by
    cases q : G' a with
    | none => rfl
    | some u => exact ((gnew (ne_none_of q)).elim (fun z => (z h2).elim) fun z => (h1 z).elim)
  have kind : ∀ {j : Nat} {s2 : Sl}, ρ2[j]? = some s2 → ownK s2 = true → ∃ s, ρ[j]? = some s ∧ ownK s = true := fun {j s2} q z => by
    by_cases hj : j ∈ ios ms ps
    · obtain ⟨i, d, s, s', h1, h2, h3, h4, h5, h6⟩ := backIo_in hb nd hj
      refine ⟨s, h4, ?_⟩
      rcases h6 with ⟨_, rfl, _⟩ | ⟨_, rfl, _⟩ <;> rfl
    · rw [backIo_out hb hj] at q
      exact ⟨s2, q, z⟩
  refine ⟨S'.gh, CB.trans S'.bh, S.g0.trans g, fun a q => S.fr a (trk q), fun a q => (gnew q).elim (S.ga a) fun z => .inr (S.fr a z), S.wf, by rw [backIo_len hb]; exact S.len, fun j s2 q => ?_, fun i j a ⟨x, s, y, z⟩ ⟨x', s', y', z'⟩ => ?_⟩
  · by_cases hj : j ∈ ios ms ps
    · obtain ⟨i, d, s, s', h1, h2, h3, h4, h5, h6⟩ := backIo_in hb nd hj
      rw [q] at h5; cases h5
      obtain ⟨oo, e1, k1⟩ := S'.sl i _ h3
      obtain ⟨a, rfl, sh, gn, _, hP⟩ := k1
      obtain ⟨v, hv, ho⟩ := o.get h2
      have hP' : vs[i]? = some (.ref a) := hP
      rw [hP'] at hv; cases hv
      have hσ : σ[j]? = some (some (.ref a)) := ho
      have k := S.get h4 hσ
      refine ⟨_, hσ, ?_⟩
      rcases h6 with ⟨d0, rfl, rfl⟩ | ⟨d0, rfl, rfl⟩
      · obtain ⟨b, eb, _, _, y, z⟩ := k
        cases eb
        exact ⟨_, rfl, sh, gn, y, z⟩
      · obtain ⟨b, eb, _, _, y, z⟩ := k
        cases eb
        exact ⟨_, rfl, sh, gn, y, z⟩
    · rw [backIo_out hb hj] at q
      obtain ⟨oo, e1, k⟩ := S.sl j s2 q
      refine ⟨oo, e1, ?_⟩
      have keep : ∀ {a : Addr}, oo = some (.ref a) → ownK s2 = true → ∀ u, H a = some u → H' a = some u := fun {a} ea kk u hu => by
        subst ea
        refine S'.bh a u ?_
        rw [Bno fun h => ?_]
        · exact hu
        · obtain ⟨j', hj', ow⟩ := IoA.own ha h
          exact hj (by rw [S.ds j j' a ⟨e1, s2, q, kk⟩ ow]; exact hj')
      cases s2 with
      | un => trivial
      | val d => obtain ⟨v, e, r⟩ := k; exact ⟨v, e, r.mono g⟩
      | own d =>
        obtain ⟨b, e3, r, x, y, z⟩ := k
        exact ⟨b, e3, r.at g fun c ec u hu => by cases ec; exact keep e3 rfl u hu, still r.tracked x, y, z⟩
      | io d =>
        obtain ⟨b, e3, r, x, y, z⟩ := k
        exact ⟨b, e3, r.at g fun c ec u hu => by cases ec; exact keep e3 rfl u hu, still r.tracked x, y, z⟩
      | bor d => exact k
      | scr ns => exact k
  · obtain ⟨t, t1, t2⟩ := kind y z
    obtain ⟨t', t1', t2'⟩ := kind y' z'
    exact S.ds i j a ⟨x, t, t1, t2⟩ ⟨x', t', t1', t2'⟩
end
theorem backIo_take : ∀ {ms : List Md} {ps : List Pl} {ρ ss : Env}, ms.length = ps.length → backIo ρ ms ps (ss.take ms.length) = backIo ρ ms ps ss
  | [], [], _, ss, _ => by cases ss <;> rfl
  | m :: ms, p :: ps, ρ, [], _ => rfl
  | m :: ms, p :: ps, ρ, s :: ss, h => by
    show backIo ρ (m :: ms) (p :: ps) (s :: ss.take ms.length) = _
    simp only [backIo]
    cases back1 ρ m p s with
    | none => rfl
    | some ρ1 => exact backIo_take (by simpa using h)
theorem evalD_inv {ms : List Md} {nl : Nat} {body : M Fl} {ss : Env} {ro : Rv × Env} (h : evalD ms nl body ss = some ro) : ∃ r ρ', runD nl body ss = some (r, ρ') ∧ resR ρ' r = some ro.1 ∧ ro.2 = ρ'.take ms.length := by
  unfold evalD at h
  cases h1 : runD nl body ss with
  | none => rw [h1] at h; cases h
  | some x =>
    obtain ⟨r, ρ'⟩ := x
    rw [h1] at h
    simp only at h
    cases h2 : resR ρ' r with
    | none => rw [h2] at h; cases h
    | some r2 => rw [h2] at h; cases h; exact ⟨r, ρ', rfl, h2, rfl⟩
section
variable {X : Cx} {e : Expr} {es : List Expr} {pos p : Pos} {x : Str} {k : Nat} {f : Addr} {fd : FuncData} {ps : List Str} {np nl : Nat} {m : M Fl} {ms : List Md} {fs : M (List Pl)}
theorem rd_call {E : XK} {t : TA} (ra : RdPs X.K t fs) (hl : ms.length = np) : RdF X.K (tCall (spD X.K np nl m) [] E t) (mCall ms nl m fs) := by
  intro C G σ H ρ Q hK S r' ρ2 hf q
  obtain ⟨pl, ρ1, h1, hf2⟩ := bnd_ok hf
  refine ra C G σ H ρ _ hK S pl ρ1 h1 fun vs G1 H1 g1 S1 o => ?_
  unfold callAt at hf2
  by_cases ap : apart ms pl = true
  · rw [if_pos ap] at hf2
    cases ha2 : argSs ρ1 ms pl with
    | none => rw [ha2] at hf2; cases hf2
    | some ss =>
      rw [ha2] at hf2
      simp only at hf2
      cases hev : evalD ms nl m ss with
      | none => rw [hev] at hf2; cases hf2
      | some ro =>
        rw [hev] at hf2
        simp only at hf2
        obtain ⟨r, ρ', hrun, hres, hout⟩ := evalD_inv hev
        obtain ⟨r2, outs⟩ := ro
        simp only at hf2 hres hout
        cases hbk0 : backIo ρ1 ms pl outs with
        | none => rw [hbk0] at hf2; cases hf2
        | some ρ3 =>
            rw [hbk0] at hf2
            cases hf2
            have hbk : backIo ρ1 ms pl ρ' = some ρ2 := by
              rw [hout, backIo_take (argSs_len ha2).1] at hbk0
              exact hbk0
            obtain ⟨l1, l2⟩ := argSs_len ha2
            refine ⟨callC C G1 H1 σ vs ms pl ss, ss, r, ρ', by rw [List.append_nil, o.len, ← l1, hl], hK, ?_, hrun, fun v G' σ' H' g S' rok => ?_⟩
            · rw [List.append_nil]
              exact call_start S1 o ap ha2
            · have S2 := call_end S1 o ap ha2 S' g hbk
              refine q v G' H' (g1.trans g) S2 ?_
              have fresh : ∀ {a : Addr} {d : D}, v = .ref a → Sh G' H' (.ref a) d → G' a = none → H1 a = none → okR C G' σ H' ρ2 v (.fr d) := fun {a d} ea sh gn hn => by
                refine ⟨a, ea, sh, gn, S1.bh.free hn, S1.fr a hn, fun j ow => ?_⟩
                obtain ⟨z1, s, z2, z3⟩ := ow
                have ap' := ap
                unfold apart at ap'
                simp only [Bool.and_eq_true, decide_eq_true_eq] at ap'
                have : ∃ s0, ρ1[j]? = some s0 ∧ ownK s0 = true := by
                  by_cases hj : j ∈ ios ms pl
                  · obtain ⟨i, d, s, s', h1, h2, h3, h4, h5, h6⟩ := backIo_in hbk ap'.1 hj
                    refine ⟨s, h4, ?_⟩
                    rcases h6 with ⟨_, rfl, _⟩ | ⟨_, rfl, _⟩ <;> rfl
                  · rw [backIo_out hbk hj] at z2
                    exact ⟨s, z2, z3⟩
                obtain ⟨s0, w1, w2⟩ := this
                exact (Own.tracked S1 ⟨z1, s0, w1, w2⟩).1 hn
              cases r with
              | fr d =>
                cases hres
                obtain ⟨a, ea, sh, gn, _, aa, _⟩ := rok
                exact fresh ea sh gn aa
              | pl p =>
                cases p with
                | val d => cases hres; exact rok
                | slot j =>
                  have hv : σ'[j]? = some (some v) := rok
                  simp only [resR] at hres
                  cases qq : ρ'[j]? with
                  | none => rw [qq] at hres; cases hres
                  | some s =>
                    rw [qq] at hres
                    have kk := S'.get qq hv
                    cases s with
                    | un => cases hres
                    | io d => cases hres
                    | scr ns => cases hres
                    | val d => cases hres; obtain ⟨w, e, rr⟩ := kk; cases e; exact rr
                    | own d =>
                      cases hres
                      obtain ⟨a, e, sh, gn, _, aa⟩ := kk
                      exact fresh (Option.some.inj e) sh gn aa
                    | bor d =>
                      simp only at hres
                      by_cases hat : atom d = true
                      · rw [if_pos hat] at hres
                        cases hres
                        obtain ⟨w, e, p1, p2⟩ := kk
                        cases e
                        exact (S'.bor p1 p2).atom hat G'
                      · rw [if_neg hat] at hres
                        cases hres
  · rw [if_neg ap] at hf2
    cases hf2
theorem pf_call (F : FnOk X.prog X.w X.K X.mg X.base CX0 k f fd ps (spD X.K np nl m)) (hr : Room k X.A) (hg : Gl X x) (hm : X.mg x = some (.ref f)) (hk : PySem.W.keepIn X.K (.ref f) = true) (hb : Binds X.K fd ps []) (ha : PPs X (e :: es) fs) (hl : ms.length = np)
    (hdb : (x == ("__debug__" : Str)) = false := by decide) (he : starEach (e :: es) X.env = (false, eval e X.env) :: starEach es X.env := by rfl) (hpl : (backTo pos (starEach es X.env)).any (·.1) = false := by rfl) :
    PF X (.Call (.Name x p) (e :: es) [] pos) (mCall ms nl m fs) := by
  obtain ⟨t, ha, ra⟩ := ha
  exact ⟨_, pe_call F hr hg hm hk hb .nil (pass0) ha hdb he hpl, rd_call ra hl⟩
end
end PL
namespace PL
open PySem PySem.Spec L2 RT RZ
/-! ### operators -/
theorem opOr {X : Cx} {f : Value → Value → Sem Value} {r r' : R2} (h : OpR X f r) (h' : OpR X f r') : OpR X f (fun x y H Q => r x y H Q ∨ r' x y H Q) := by
  intro pins s σ H x y v u Q I rx ry q
  exact q.elim (fun z => h pins s σ H x y v u Q I rx ry z) fun z => h' pins s σ H x y v u Q I rx ry z
theorem POpV.orL {r r' : R2} {g : D → D → Option D} (h : POpV r g) : POpV (fun x y H Q => r x y H Q ∨ r' x y H Q) g := fun G H x y d e z Q gh s1 s2 hg q => .inl (h G H x y d e z Q gh s1 s2 hg q)
theorem POpV.orR {r r' : R2} {g : D → D → Option D} (h : POpV r' g) : POpV (fun x y H Q => r x y H Q ∨ r' x y H Q) g := fun G H x y d e z Q gh s1 s2 hg q => .inr (h G H x y d e z Q gh s1 s2 hg q)
/-- by what the two are -/
def POpX (r : R2) (g : D → D → Option (Bool × D)) : Prop := ∀ (G H : Hp) (x y : V) (d e z : D) (b : Bool) (Q : VK), Same G H → Sh G H x d → Sh G H y e → g d e = some (b, z) →
  (b = false → ∀ v G' H', Grow G H G' H' → Rp G' v z → Q v H') → (b = true → ∀ p H', H p = none → Grow G H G H' → Sh G H' (.ref p) z → Q (.ref p) H') → r x y H Q
def rvOf (bz : Bool × D) : Rv := if bz.1 = true then .fr bz.2 else .pl (.val bz.2)
def mOpX (g : D → D → Option (Bool × D)) (fa fb : M Pl) : M Rv := bnd (mOp g fa fb) fun bz => ret (rvOf bz)
section
variable {X : Cx} {e a b c tg elt iter : Expr} {es ifs : List Expr} {pos pos' tpos p apos cpos : Pos} {f fa fb fe : M D} {g ga gb : M Pl} {k : M Rv} {x : Str}
theorem rd_opX {r : R2} {g' : D → D → Option (Bool × D)} {ta tb : TE} (hp : POpX r g') (ha : RdP X.K ta ga) (hb : RdP X.K tb gb) : RdF X.K (tOp r ta tb) (mOpX g' ga gb) := by
  intro C G σ H ρ Q hK S d ρ' hf q
  obtain ⟨bz, ρ0, hf0, h0⟩ := bnd_ok hf
  cases h0
  obtain ⟨p, ρ1, h1, hf2⟩ := bnd_ok hf0
  obtain ⟨p2, ρ2, h2, hf3⟩ := bnd_ok hf2
  refine ha C G σ H ρ _ hK S p ρ1 h1 fun v1 G1 H1 g1 S1 o1 => ?_
  refine hb C G1 σ H1 ρ1 _ hK S1 p2 ρ2 h2 fun v2 G2 H2 g2 S2 o2 => ?_
  obtain ⟨d1, ρ3, h3, hf4⟩ := bnd_ok hf3
  obtain ⟨s1, rfl⟩ := look_ok S2 (o1.mono g2) h3
  obtain ⟨d2, ρ4, h4, hf5⟩ := bnd_ok hf4
  obtain ⟨s2, rfl⟩ := look_ok S2 o2 h4
  obtain ⟨e, rfl⟩ := ofO_ok hf5
  obtain ⟨bb, z⟩ := bz
  refine hp G2 H2 v1 v2 d1 d2 z bb Q S2.gh s1 s2 e (fun hb v G' H' w rr => ?_) fun hb p H' hn w ss => ?_
  · subst hb
    exact q v G' H' ((g1.trans g2).trans w.g) (S2.grow w) rr
  · subst hb
    exact q _ G2 H' (g1.trans g2) (S2.grow w) (fresh_ok S2 hn w ss)
theorem pf_opX {op : Operator} {r : R2} {g' : D → D → Option (Bool × D)} (ho : OpR X (binaryOp op) r) (hp : POpX r g') (ha : PP X a ga) (hb : PP X b gb) : PF X (.BinOp a op b pos) (mOpX g' ga gb) := by
  obtain ⟨ta, ha, ra⟩ := ha
  obtain ⟨tb, hb, rb⟩ := hb
  exact ⟨_, pe_op ho ha hb, rd_opX hp ra rb⟩
end
/-- two ints -/
def onInts (c : Int → Int → Bool) (f : Int → Int → D) : D → D → Option D
  | .int i, .int j => if c i j = true then some (f i j) else none
  | _, _ => none
theorem pop_I {Cd : Int → Int → Prop} {c : Int → Int → Bool} {f : Int → Int → V} {fd : Int → Int → D} (hc : ∀ i j, c i j = true → Cd i j) (hr : ∀ i j G, Rp G (f i j) (fd i j)) : POpV (rI Cd f) (onInts c fd) := by
  intro G H x y d e z Q gh s1 s2 hg q
  cases s1 with
  | int i =>
    cases s2 with
    | int j =>
      unfold onInts at hg
      by_cases h : c i j = true
      · simp only [h, if_true] at hg
        cases hg
        exact ⟨i, j, rfl, rfl, hc i j h, q _ G H (Grow.refl gh) (hr i j G)⟩
      · simp only [h] at hg
        cases hg
    | _ => cases hg
  | _ => cases hg
def onInts0 (f : Int → Int → D) : D → D → Option D
  | .int i, .int j => some (f i j)
  | _, _ => none
theorem pop_I0 {f : Int → Int → V} {fd : Int → Int → D} (hr : ∀ i j G, Rp G (f i j) (fd i j)) : POpV (rI0 f) (onInts0 fd) := by
  intro G H x y d e z Q gh s1 s2 hg q
  cases s1 with
  | int i =>
    cases s2 with
    | int j => cases hg; exact ⟨i, j, rfl, rfl, q _ G H (Grow.refl gh) (hr i j G)⟩
    | _ => cases hg
  | _ => cases hg
abbrev gSub' : D → D → Option D := onInts0 fun i j => .int (i - j)
/-- .. of which the first may be a truth value -/
def onIB (f : Int → Int → Bool) : D → D → Option D
  | .int i, .int j => some (.bool (f i j))
  | .bool b, .int j => some (.bool (f (if b then 1 else 0) j))
  | _, _ => none
def rIB (f : Int → Int → Bool) : R2 := fun x y H Q => (∃ i j, x = .int i ∧ y = .int j ∧ Q (.bl (f i j)) H) ∨ (∃ b j, x = .bl b ∧ y = .int j ∧ Q (.bl (f (if b then 1 else 0) j)) H)
theorem pop_IB {f : Int → Int → Bool} : POpV (rIB f) (onIB f) := by
  intro G H x y d e z Q gh s1 s2 hg q
  cases s1 with
  | int i =>
    cases s2 with
    | int j => cases hg; exact .inl ⟨i, j, rfl, rfl, q _ G H (Grow.refl gh) (.bl _)⟩
    | _ => cases hg
  | bl b =>
    cases s2 with
    | int j => cases hg; exact .inr ⟨b, j, rfl, rfl, q _ G H (Grow.refl gh) (.bl _)⟩
    | _ => cases hg
  | _ => cases hg
section
variable {prog : Program} {w : World} {A : Around} {E : Value → Shared → Prop} {s : Shared} {p : Bool} {n : Int} {u : Tok} {Q : Value → Shared → Prop}
theorem sub_int_bool : isSubtype (.type "int") (.type "bool") = pure false := by rw [isSubtype_type]; kernel_rfl
theorem gives_lt_bi (p : Bool) (n : Int) (u : Tok) : Gives (Builtin.«int.__lt__» ⟨[.bool p, .int n u], []⟩) (.val (Value.bool (decide ((if p = true then (1 : Int) else 0) < n)))) :=
  .of_wp fun M A E s Q h => by obtain ⟨hp, g, d, tk, os⟩ := s; wp_walk; exact ⟨_, rfl, h⟩
theorem gives_le_bi (p : Bool) (n : Int) (u : Tok) : Gives (Builtin.«int.__le__» ⟨[.bool p, .int n u], []⟩) (.val (Value.bool (decide ((if p = true then (1 : Int) else 0) ≤ n)))) :=
  .of_wp fun M A E s Q h => by obtain ⟨hp, g, d, tk, os⟩ := s; wp_walk; exact ⟨_, rfl, h⟩
theorem lt_bi (h : Q (.bool (decide ((if p = true then (1 : Int) else 0) < n))) s) : wpAny (model prog w) A (compareOp .Lt (.bool p) (.int n u)) Q E s := by
  show wpAny _ A (richCompare .Lt _ _) Q E s
  exact PyProof.Rows.wpAny_richCompare_left (PyProof.Rows.typeIs_bool' s p) (typeIs_int s n u) (by decide) sub_int_bool F.slot_bool_lt
    (call_gives F.slot_bool_lt (PyProof.Rows.typeIs_bool' s p) F.entry_int_lt (F.args_int_lt_2 _ _) (gives_lt_bi p n u) ⟨nofun, h⟩)
theorem le_bi (h : Q (.bool (decide ((if p = true then (1 : Int) else 0) ≤ n))) s) : wpAny (model prog w) A (compareOp .LtE (.bool p) (.int n u)) Q E s := by
  show wpAny _ A (richCompare .LtE _ _) Q E s
  exact PyProof.Rows.wpAny_richCompare_left (PyProof.Rows.typeIs_bool' s p) (typeIs_int s n u) (by decide) sub_int_bool F.slot_bool_le
    (call_gives F.slot_bool_le (PyProof.Rows.typeIs_bool' s p) F.entry_int_le (F.args_int_le_2 _ _) (gives_le_bi p n u) ⟨nofun, h⟩)
end
theorem op_ltB {X : Cx} : OpR X (compareOp .Lt) (rIB fun i j => decide (i < j)) := by
  intro pins s σ H x y v u Q I rx ry h
  rcases h with ⟨i, j, rfl, rfl, q⟩ | ⟨b, j, rfl, rfl, q⟩
  · exact op_lt pins s σ H _ _ v u Q I rx ry ⟨i, j, rfl, rfl, q⟩
  · cases (show v = Value.bool b from rx)
    obtain ⟨t', rfl⟩ := ry
    exact lt_bi ⟨.bl _, H, I, rfl, q⟩
theorem op_leB {X : Cx} : OpR X (compareOp .LtE) (rIB fun i j => decide (i ≤ j)) := by
  intro pins s σ H x y v u Q I rx ry h
  rcases h with ⟨i, j, rfl, rfl, q⟩ | ⟨b, j, rfl, rfl, q⟩
  · exact op_le pins s σ H _ _ v u Q I rx ry ⟨i, j, rfl, rfl, q⟩
  · cases (show v = Value.bool b from rx)
    obtain ⟨t', rfl⟩ := ry
    exact le_bi ⟨.bl _, H, I, rfl, q⟩
abbrev gLt : D → D → Option D := onIB fun i j => decide (i < j)
abbrev gLe : D → D → Option D := onIB fun i j => decide (i ≤ j)
abbrev gGt : D → D → Option D := onInts0 fun i j => .bool (decide (j < i))
abbrev gGe : D → D → Option D := onInts0 fun i j => .bool (decide (j ≤ i))
def cDivW (_ j : Int) : Bool := decide (0 < j) && decide (j.natAbs.log2 < 9000)
def cMulW (i j : Int) : Bool := decide (i.natAbs.log2 + j.natAbs.log2 < 1000000)
def cMod (_ j : Int) : Bool := decide (0 < j)
abbrev gDiv : D → D → Option D := onInts cDivW fun i j => .int (i / j)
abbrev gMod : D → D → Option D := onInts cMod fun i j => .int (i % j)
section
variable {X : Cx} {e a b c tg elt iter : Expr} {es ifs : List Expr} {pos pos' tpos p apos cpos : Pos} {f fa fb fe : M D} {g ga gb : M Pl} {k : M Rv} {x : Str}
theorem pv_sub (ha : PP X a ga) (hb : PP X b gb) : PV X (.BinOp a .Sub b pos) (mOp gSub' ga gb) := pv_op op_sub (pop_I0 fun i j G => .int _) ha hb
theorem pv_fdiv (ha : PP X a ga) (hb : PP X b gb) : PV X (.BinOp a .FloorDiv b pos) (mOp gDiv ga gb) := pv_op op_fdivW (pop_I (fun i j h => by
  simp only [cDivW, Bool.and_eq_true, decide_eq_true_eq] at h; exact h) fun i j G => .int _) ha hb
theorem pv_mod (ha : PP X a ga) (hb : PP X b gb) : PV X (.BinOp a .Mod b pos) (mOp gMod ga gb) := pv_op op_mod (pop_I (fun i j h => of_decide_eq_true h) fun i j G => .int _) ha hb
theorem pt_lt (ha : PP X a ga) (hb : PP X b gb) : PTt X (.Compare a [.Lt] [b] pos) (mB (mOp gLt ga gb)) := pt_cmp' op_ltB pop_IB ha hb (nomark _)
theorem pt_le (ha : PP X a ga) (hb : PP X b gb) : PTt X (.Compare a [.LtE] [b] pos) (mB (mOp gLe ga gb)) := pt_cmp' op_leB pop_IB ha hb (nomark _)
theorem pt_gt (ha : PP X a ga) (hb : PP X b gb) : PTt X (.Compare a [.Gt] [b] pos) (mB (mOp gGt ga gb)) := pt_cmp' op_gt (pop_I0 fun i j G => .bl _) ha hb (nomark _)
theorem pt_ge (ha : PP X a ga) (hb : PP X b gb) : PTt X (.Compare a [.GtE] [b] pos) (mB (mOp gGe ga gb)) := pt_cmp' op_ge (pop_I0 fun i j G => .bl _) ha hb (nomark _)
theorem pv_lt (ha : PP X a ga) (hb : PP X b gb) : PV X (.Compare a [.Lt] [b] pos) (mOp gLt ga gb) := pv_cmp op_ltB pop_IB ha hb (nomark _)
theorem pv_le (ha : PP X a ga) (hb : PP X b gb) : PV X (.Compare a [.LtE] [b] pos) (mOp gLe ga gb) := pv_cmp op_leB pop_IB ha hb (nomark _)
theorem pv_gt (ha : PP X a ga) (hb : PP X b gb) : PV X (.Compare a [.Gt] [b] pos) (mOp gGt ga gb) := pv_cmp op_gt (pop_I0 fun i j G => .bl _) ha hb (nomark _)
theorem pv_ge (ha : PP X a ga) (hb : PP X b gb) : PV X (.Compare a [.GtE] [b] pos) (mOp gGe ga gb) := pv_cmp op_ge (pop_I0 fun i j G => .bl _) ha hb (nomark _)
/-! ### + and * by what the two are -/
def gAdd : D → D → Option (Bool × D)
  | .int i, .int j => some (false, .int (i + j))
  | .list xs, .list ys => if xs.length + ys.length ≤ 100000 then some (true, .list (xs ++ ys)) else none
  | .tuple xs, .tuple ys => if xs.length + ys.length ≤ 100000 ∧ xs ≠ [] ∧ ys ≠ [] then some (false, .tuple (xs ++ ys)) else none
  | .str x, .str y => if x.length + y.length ≤ 100000 then some (false, .str (x ++ y)) else none
  | _, _ => none
def rAddA (K : PySem.W.Frag) : R2 := fun x y H Q => rI0 (fun i j => .int (i + j)) x y H Q ∨ (rCat x y H Q ∨ (rCatT K x y H Q ∨ (∃ i j, x = .str i ∧ y = .str j ∧ i.length + j.length ≤ sizeLine ∧ Q (.str (i ++ j)) H)))
theorem op_addA : OpR X (binaryOp .Add) (rAddA X.K) := opOr op_add (opOr op_cat (opOr op_catT op_add_str))
theorem pop_addA {K : PySem.W.Frag} : POpX (rAddA K) gAdd := by
  intro G H x y d e z bb Q gh s1 s2 hg q qf
  cases s1 with
  | int i => cases s2 with
    | int j => cases hg; exact .inl ⟨i, j, rfl, rfl, q rfl _ G H (Grow.refl gh) (.int _)⟩
    | _ => cases hg
  | str i => cases s2 with
    | str j =>
      simp only [gAdd] at hg
      by_cases h : i.length + j.length ≤ 100000
      · rw [if_pos h] at hg; cases hg
        exact .inr (.inr (.inr ⟨i, j, rfl, rfl, line_of h, q rfl _ G H (Grow.refl gh) (.str _)⟩))
      · rw [if_neg h] at hg; cases hg
    | _ => cases hg
  | @lst a1 xs ds h1 r1 => cases s2 with
    | @lst a2 ys es h2 r2 =>
      simp only [gAdd] at hg
      by_cases h : ds.length + es.length ≤ 100000
      · rw [if_pos h] at hg; cases hg
        refine .inr (.inl ⟨a1, a2, xs, ys, rfl, rfl, h1, h2, by rw [r1.length, r2.length]; exact line_of h, fun p hp => ?_⟩)
        exact qf rfl p _ hp (Grow.newF gh hp) (.lst upd_same (r1.append r2))
      · rw [if_neg h] at hg; cases hg
    | _ => cases hg
  | @tup a1 xs ds h1 r1 => cases s2 with
    | @tup a2 ys es h2 r2 =>
      simp only [gAdd] at hg
      by_cases h : ds.length + es.length ≤ 100000 ∧ ds ≠ [] ∧ es ≠ []
      · rw [if_pos h] at hg; cases hg
        have n1 : xs ≠ [] := fun z => h.2.1 (by have := r1.length; rw [z] at this; exact List.length_eq_zero_iff.mp this.symm)
        have n2 : ys ≠ [] := fun z => h.2.2 (by have := r2.length; rw [z] at this; exact List.length_eq_zero_iff.mp this.symm)
        refine .inr (.inr (.inl ⟨a1, a2, xs, ys, rfl, rfl, .inl (.inl h1), .inl (.inl h2), n1, by rw [r1.length, r2.length]; exact line_of h.1, fun z => absurd z n2, fun _ p hp => ?_⟩))
        have w : Grow G H _ _ := Grow.new (o := .tup (xs ++ ys)) gh hp
        exact q rfl _ _ _ w (.tup upd_same ((r1.append r2).mono w.g))
      · rw [if_neg h] at hg; cases hg
    | _ => cases hg
  | _ => cases hg
theorem pf_add (ha : PP X a ga) (hb : PP X b gb) : PF X (.BinOp a .Add b pos) (mOpX gAdd ga gb) := pf_opX op_addA pop_addA ha hb
def gMul : D → D → Option (Bool × D)
  | .int i, .int j => if cMulW i j = true then some (false, .int (i * j)) else none
  | .list xs, .int n => if xs.length * n.toNat ≤ 100000 ∧ -(2 ^ 63) ≤ n ∧ n < 2 ^ 63 then some (true, .list (List.replicate n.toNat xs).flatten) else none
  | _, _ => none
def rMulA : R2 := fun x y H Q => rI CMulW (fun i j => .int (i * j)) x y H Q ∨ rRep x y H Q
theorem op_mulA : OpR X (binaryOp .Mult) rMulA := opOr op_mulW op_rep
theorem RpA.rep {G : Hp} {xs : List V} {ds : List D} (r : RpA G xs ds) : ∀ n : Nat, RpA G (List.replicate n xs).flatten (List.replicate n ds).flatten
  | 0 => .nil
  | n + 1 => by
    rw [List.replicate_succ, List.replicate_succ, List.flatten_cons, List.flatten_cons]
    exact r.append (RpA.rep r n)
theorem pop_mulA : POpX rMulA gMul := by
  intro G H x y d e z bb Q gh s1 s2 hg q qf
  cases s1 with
  | int i => cases s2 with
    | int j =>
      simp only [gMul] at hg
      by_cases h : cMulW i j = true
      · rw [if_pos h] at hg; cases hg
        exact .inl ⟨i, j, rfl, rfl, by simp only [cMulW, decide_eq_true_eq] at h; exact h, q rfl _ G H (Grow.refl gh) (.int _)⟩
      · rw [if_neg h] at hg; cases hg
    | _ => cases hg
  | @lst a1 xs ds h1 r1 => cases s2 with
    | int n =>
      simp only [gMul] at hg
      by_cases h : ds.length * n.toNat ≤ 100000 ∧ -(2 ^ 63) ≤ n ∧ n < 2 ^ 63
      · rw [if_pos h] at hg; cases hg
        refine .inr ⟨a1, n, xs, rfl, rfl, h1, h.2.1, h.2.2, by rw [r1.length]; exact line_of h.1, fun p hp => ?_⟩
        exact qf rfl p _ hp (Grow.newF gh hp) (.lst upd_same (r1.rep n.toNat))
      · rw [if_neg h] at hg; cases hg
    | _ => cases hg
  | _ => cases hg
theorem pf_mul (ha : PP X a ga) (hb : PP X b gb) : PF X (.BinOp a .Mult b pos) (mOpX gMul ga gb) := pf_opX op_mulA pop_mulA ha hb
def mNegU (f : M D) : M D := bnd f fun d => fun ρ => match d with
  | .int i => .ok (.int (-i)) ρ
  | _ => .stuck
theorem pv_neg (ha : PV X a fa) : PV X (.UnaryOp .USub a pos) (mNegU fa) := by
  obtain ⟨t, ha, r⟩ := ha
  refine ⟨_, pe_un un_neg ha, fun C G σ H ρ Q hK S d ρ' hf q => ?_⟩
  obtain ⟨d1, ρ1, h1, hf2⟩ := bnd_ok hf
  refine r C G σ H ρ _ hK S d1 ρ1 h1 fun v G1 H1 g1 S1 o => ?_
  cases o with
  | int i => cases hf2; exact ⟨i, rfl, q _ G1 H1 g1 S1 (.int _)⟩
  | _ => cases hf2
end
end PL
namespace PL
open PySem PySem.Spec L2 RT RZ
/-! ### powers of any ints -/
def cPowW (i j : Int) : Bool := decide (0 ≤ j) && decide (j ≤ 64) && decide (i.natAbs.log2 < 10000)
abbrev gPow : D → D → Option D := onInts cPowW fun i j => .int (i ^ j.toNat)
def CPowW (i j : Int) : Prop := cPowW i j = true
theorem op_powW {X : Cx} : OpR X (binaryOp .Pow) (rI CPowW fun i j => .int (i ^ j.toNat)) := opI fun i j t u s Q E hc q => by
  have h : 0 ≤ j ∧ j ≤ 64 ∧ i.natAbs.log2 < 10000 := by
    simp only [CPowW, cPowW, Bool.and_eq_true, decide_eq_true_eq] at hc
    exact ⟨hc.1.1, hc.1.2, hc.2⟩
  refine PyProof.Rows.pow_int h.1 ?_ q
  have hb : Builtin.Int.intBits i ≤ 10000 := by
    unfold Builtin.Int.intBits
    split
    · omega
    · omega
  have h1 : (Builtin.Int.intBits i : Int) * j ≤ 10000 * j := Int.mul_le_mul_of_nonneg_right (by omega) h.1
  have := h.2.1
  omega
section
variable {X : Cx} {e a b c tg elt iter : Expr} {es ifs : List Expr} {pos pos' tpos p p1 p2 apos cpos : Pos} {f fa fb fe : M D} {g ga gb : M Pl} {k : M Rv} {x : Str}
theorem pv_pow (ha : PP X a ga) (hb : PP X b gb) : PV X (.BinOp a .Pow b pos) (mOp gPow ga gb) := pv_op op_powW (pop_I (fun i j h => h) fun i j G => .int _) ha hb
/-! ### == and != of data -/
mutual
theorem Rp.dp {K : PySem.W.Frag} {G H : Hp} (gh : Same G H) : ∀ {v : V} {d : D}, Rp G v d → d.canLay0 = true → Dp K H v d
  | _, _, .non, _ => .non
  | _, _, .bl b, _ => .bl b
  | _, _, .int i, _ => .int i
  | _, _, .str x, _ => .str x
  | _, _, .lst h r, c => .lst (.inl (.inl (gh _ _ h))) (RpA.dp gh r c)
  | _, _, .tup h r, c => .tup (.inl (.inl (gh _ _ h))) (RpA.dp gh r c)
  | _, _, .dct h r, c => by cases c
theorem RpA.dp {K : PySem.W.Frag} {G H : Hp} (gh : Same G H) : ∀ {vs : List V} {ds : List D}, RpA G vs ds → PyData.canLayAll0 ds = true → DpAll K H vs ds
  | _, _, .nil, _ => .nil
  | _, _, .cons h r, c => by
    have c' : (_ && _) = true := c
    rw [Bool.and_eq_true] at c'
    exact .cons (Rp.dp gh h c'.1) (RpA.dp gh r c'.2)
end
theorem Sh.dp {K : PySem.W.Frag} {G H : Hp} (gh : Same G H) {v : V} {d : D} (h : Sh G H v d) (c : d.canLay0 = true) : Dp K H v d := by
  cases h with
  | non => exact .non
  | bl b => exact .bl b
  | int i => exact .int i
  | str x => exact .str x
  | lst h r => exact .lst (.inl (.inl h)) (r.dp gh c)
  | tup h r => exact .tup (.inl (.inl h)) (r.dp gh c)
  | dct h r => cases c
def gEq (d e : D) : Option D := match d, e with
  | .str a, .str b => some (.bool (a.cps.toList == b.cps.toList))
  | d, e => if (SeqAt.shaped d && SeqAt.shaped e) = true then some (.bool (PyData.eqv d e)) else none
def gNe (d e : D) : Option D := match d, e with
  | .str a, .str b => some (.bool (a.cps.toList != b.cps.toList))
  | d, e => if (SeqAt.shaped d && SeqAt.shaped e) = true then some (.bool (!PyData.eqv d e)) else none
def rEqS (K : PySem.W.Frag) : R2 := fun x y H Q => (∃ a b, x = .str a ∧ y = .str b ∧ Q (.bl (a.cps.toList == b.cps.toList)) H) ∨ rEqD K x y H Q
def rNeS (K : PySem.W.Frag) : R2 := fun x y H Q => (∃ a b, x = .str a ∧ y = .str b ∧ Q (.bl (a.cps.toList != b.cps.toList)) H) ∨ rNeD K x y H Q
theorem op_eqS {X : Cx} (hu : X.A.units + 64 < cLine) : OpR X (compareOp .Eq) (rEqS X.K) := by
  intro pins s σ H x y v u Q I rx ry h
  rcases h with ⟨a, b, rfl, rfl, q⟩ | h
  · obtain ⟨t, rfl⟩ := rx
    obtain ⟨t', rfl⟩ := ry
    exact PySem.P.eq_str ⟨.bl _, H, I, rfl, q⟩
  · exact op_eqD hu pins s σ H x y v u Q I rx ry h
theorem op_neS {X : Cx} (hu : X.A.units + 64 < cLine) : OpR X (compareOp .NotEq) (rNeS X.K) := by
  intro pins s σ H x y v u Q I rx ry h
  rcases h with ⟨a, b, rfl, rfl, q⟩ | h
  · obtain ⟨t, rfl⟩ := rx
    obtain ⟨t', rfl⟩ := ry
    exact PySem.P.ne_str ⟨.bl _, H, I, rfl, q⟩
  · exact op_neD hu pins s σ H x y v u Q I rx ry h
theorem pop_eq {K : PySem.W.Frag} : POpV (rEqS K) gEq := by
  intro G H x y d e z Q gh s1 s2 hg q
  unfold gEq at hg
  split at hg
  · cases hg
    cases s1; cases s2
    exact .inl ⟨_, _, rfl, rfl, q _ G H (Grow.refl gh) (.bl _)⟩
  · by_cases h : (SeqAt.shaped d && SeqAt.shaped e) = true
    · rw [if_pos h] at hg; cases hg
      rw [Bool.and_eq_true] at h
      exact .inr ⟨d, e, s1.dp gh (SeqAt.canLay_of_shaped h.1), s2.dp gh (SeqAt.canLay_of_shaped h.2), h.1, h.2, q _ G H (Grow.refl gh) (.bl _)⟩
    · rw [if_neg h] at hg; cases hg
theorem pop_ne {K : PySem.W.Frag} : POpV (rNeS K) gNe := by
  intro G H x y d e z Q gh s1 s2 hg q
  unfold gNe at hg
  split at hg
  · cases hg
    cases s1; cases s2
    exact .inl ⟨_, _, rfl, rfl, q _ G H (Grow.refl gh) (.bl _)⟩
  · by_cases h : (SeqAt.shaped d && SeqAt.shaped e) = true
    · rw [if_pos h] at hg; cases hg
      rw [Bool.and_eq_true] at h
      exact .inr ⟨d, e, s1.dp gh (SeqAt.canLay_of_shaped h.1), s2.dp gh (SeqAt.canLay_of_shaped h.2), h.1, h.2, q _ G H (Grow.refl gh) (.bl _)⟩
    · rw [if_neg h] at hg; cases hg
theorem pt_eq (hu : X.A.units + 64 < cLine) (ha : PP X a ga) (hb : PP X b gb) : PTt X (.Compare a [.Eq] [b] pos) (mB (mOp gEq ga gb)) := pt_cmp' (op_eqS hu) pop_eq ha hb (nomark _)
theorem pt_ne (hu : X.A.units + 64 < cLine) (ha : PP X a ga) (hb : PP X b gb) : PTt X (.Compare a [.NotEq] [b] pos) (mB (mOp gNe ga gb)) := pt_cmp' (op_neS hu) pop_ne ha hb (nomark _)
theorem pv_eq (hu : X.A.units + 64 < cLine) (ha : PP X a ga) (hb : PP X b gb) : PV X (.Compare a [.Eq] [b] pos) (mOp gEq ga gb) := pv_cmp (op_eqS hu) pop_eq ha hb (nomark _)
theorem pv_ne (hu : X.A.units + 64 < cLine) (ha : PP X a ga) (hb : PP X b gb) : PV X (.Compare a [.NotEq] [b] pos) (mOp gNe ga gb) := pv_cmp (op_neS hu) pop_ne ha hb (nomark _)
/-! ### is, is not -/
def isNone : D → Bool
  | .none => true
  | _ => false
def gIs (d e : D) : Option D := match e with
  | .none => some (.bool (isNone d))
  | .bool b => match d with
    | .bool a => some (.bool (decide (a = b)))
    | _ => some (.bool false)
  | _ => none
def gNot (d e : D) : Option D := match e with
  | .none => some (.bool (!isNone d))
  | .bool b => match d with
    | .bool a => some (.bool (!decide (a = b)))
    | _ => some (.bool true)
  | _ => none
/-- is of a bool: of what is no bool -/
def noBl : V → Prop
  | .non => True
  | .int _ => True
  | .str _ => True
  | .ref _ => True
  | _ => False
def rIsO : R2 := fun x y H Q => ∃ b : Bool, y = .bl b ∧ noBl x ∧ Q (.bl false) H
def rNotO : R2 := fun x y H Q => ∃ b : Bool, y = .bl b ∧ noBl x ∧ Q (.bl true) H
theorem op_isO : OpR X (compareOp .Is) rIsO := by
  intro pins s σ H x y v u Q I rx ry h
  obtain ⟨b, rfl, hx, q⟩ := h
  cases (show u = Value.bool b from ry)
  have fin : EP X pins σ Q (.bool false) s := ⟨.bl false, H, I, rfl, q⟩
  cases x with
  | non => cases (show v = Value.none from rx); exact wpAny_is_other rfl (fun z => nomatch z) fin
  | int i => obtain ⟨t, rfl⟩ := (show ∃ t, v = Value.int i t from rx); exact wpAny_is_other rfl (fun z => nomatch z) fin
  | str i => obtain ⟨t, rfl⟩ := (show ∃ t, v = Value.str i t from rx); exact wpAny_is_other rfl (fun z => nomatch z) fin
  | ref a => cases (show v = Value.ref a from rx); exact wpAny_is_other rfl (fun z => nomatch z) fin
  | _ => exact hx.elim
theorem op_notO : OpR X (compareOp .IsNot) rNotO := by
  intro pins s σ H x y v u Q I rx ry h
  obtain ⟨b, rfl, hx, q⟩ := h
  cases (show u = Value.bool b from ry)
  have fin : EP X pins σ Q (.bool true) s := ⟨.bl true, H, I, rfl, q⟩
  cases x with
  | non => cases (show v = Value.none from rx); exact wpAny_isNot_other rfl (fun z => nomatch z) fin
  | int i => obtain ⟨t, rfl⟩ := (show ∃ t, v = Value.int i t from rx); exact wpAny_isNot_other rfl (fun z => nomatch z) fin
  | str i => obtain ⟨t, rfl⟩ := (show ∃ t, v = Value.str i t from rx); exact wpAny_isNot_other rfl (fun z => nomatch z) fin
  | ref a => cases (show v = Value.ref a from rx); exact wpAny_isNot_other rfl (fun z => nomatch z) fin
  | _ => exact hx.elim
theorem isNone_ok {G H : Hp} {v : V} {d : D} (h : Sh G H v d) : decide (v = V.non) = isNone d := by
  cases h <;> first | rfl | exact decide_eq_false fun z => nomatch z
def rIsA : R2 := fun x y H Q => (y = .non ∧ Q (.bl (decide (x = .non))) H) ∨ (rIsB x y H Q ∨ rIsO x y H Q)
def rNotA : R2 := fun x y H Q => (y = .non ∧ Q (.bl (!decide (x = .non))) H) ∨ (rNotB x y H Q ∨ rNotO x y H Q)
theorem pop_is : POpV rIsA gIs := by
  intro G H x y d e z Q gh s1 s2 hg q
  cases s2 with
  | non => cases hg; exact .inl ⟨rfl, q _ G H (Grow.refl gh) (by rw [isNone_ok s1]; exact .bl _)⟩
  | bl b => cases s1 with
    | bl a => cases hg; exact .inr (.inl ⟨a, b, rfl, rfl, q _ G H (Grow.refl gh) (.bl _)⟩)
    | _ => cases hg; exact .inr (.inr ⟨b, rfl, trivial, q _ G H (Grow.refl gh) (.bl _)⟩)
  | _ => cases hg
theorem pop_not : POpV rNotA gNot := by
  intro G H x y d e z Q gh s1 s2 hg q
  cases s2 with
  | non => cases hg; exact .inl ⟨rfl, q _ G H (Grow.refl gh) (by rw [isNone_ok s1]; exact .bl _)⟩
  | bl b => cases s1 with
    | bl a => cases hg; exact .inr (.inl ⟨a, b, rfl, rfl, q _ G H (Grow.refl gh) (.bl _)⟩)
    | _ => cases hg; exact .inr (.inr ⟨b, rfl, trivial, q _ G H (Grow.refl gh) (.bl _)⟩)
  | _ => cases hg
theorem pt_is (ha : PP X a ga) (hb : PP X b gb) : PTt X (.Compare a [.Is] [b] pos) (mB (mOp gIs ga gb)) := pt_cmp' (opOr op_isN (opOr op_isBl op_isO)) pop_is ha hb (nomark _)
theorem pt_isnot (ha : PP X a ga) (hb : PP X b gb) : PTt X (.Compare a [.IsNot] [b] pos) (mB (mOp gNot ga gb)) := pt_cmp' (opOr op_notN (opOr op_notBl op_notO)) pop_not ha hb (nomark _)
theorem pv_is (ha : PP X a ga) (hb : PP X b gb) : PV X (.Compare a [.Is] [b] pos) (mOp gIs ga gb) := pv_cmp (opOr op_isN (opOr op_isBl op_isO)) pop_is ha hb (nomark _)
theorem pv_isnot (ha : PP X a ga) (hb : PP X b gb) : PV X (.Compare a [.IsNot] [b] pos) (mOp gNot ga gb) := pv_cmp (opOr op_notN (opOr op_notBl op_notO)) pop_not ha hb (nomark _)
/-! ### subscripts -/
def gIx : D → D → Option D
  | .list ds, .int i => atI ds i
  | .tuple ds, .int i => atI ds i
  | .str s, .int i => if s.length ≤ 100000 then (atI s.cps.toList i).map fun c => .str ⟨#[c]⟩ else none
  | _, _ => none
theorem atI_rp {G : Hp} {vs : List V} {ds : List D} {i : Int} {d : D} (r : RpA G vs ds) (h : atI ds i = some d) : ∃ v, atI vs i = some v ∧ Rp G v d := by
  unfold atI at h ⊢
  rw [r.length]
  cases q : ixN ds.length i with
  | none => rw [q] at h; cases h
  | some j => rw [q] at h; exact r.get h
theorem pop_ix {K : PySem.W.Frag} : POpV (rIx K) gIx := by
  intro G H x y d e z Q gh s1 s2 hg q
  cases s2 with
  | int i =>
    cases s1 with
    | @lst a xs ds h r =>
      obtain ⟨v, hv, rv⟩ := atI_rp r (show atI ds i = some z from hg)
      exact .inl ⟨a, xs, i, v, rfl, rfl, .inl (.inl h), hv, q v G H (Grow.refl gh) rv⟩
    | @tup a xs ds h r =>
      obtain ⟨v, hv, rv⟩ := atI_rp r (show atI ds i = some z from hg)
      exact .inr (.inl ⟨a, xs, i, v, rfl, rfl, .inl (.inl h), hv, q v G H (Grow.refl gh) rv⟩)
    | str s =>
      simp only [gIx] at hg
      by_cases hl : s.length ≤ 100000
      · rw [if_pos hl] at hg
        cases r : atI s.cps.toList i with
        | none => rw [r] at hg; cases hg
        | some c =>
          rw [r] at hg
          cases hg
          exact .inr (.inr ⟨s, i, c, rfl, rfl, line_of hl, r, q _ G H (Grow.refl gh) (.str _)⟩)
      · rw [if_neg hl] at hg; cases hg
    | _ => cases hg
  | non => cases s1 <;> cases hg
  | bl b => cases s1 <;> cases hg
  | str b => cases s1 <;> cases hg
  | lst h r => cases s1 <;> cases hg
  | tup h r => cases s1 <;> cases hg
  | dct h r => cases s1 <;> cases hg
theorem pv_ix (ha : PP X a ga) (hb : PP X b gb) (hs : PlainIx b := by intro _ _; rfl) : PV X (.Subscript a b pos) (mOp gIx ga gb) := by
  obtain ⟨ta, ha, ra⟩ := ha
  obtain ⟨tb, hb, rb⟩ := hb
  exact ⟨_, pe_ix ix_seq ha hb hs, rd_op pop_ix ra rb⟩
/-! ### slices -/
def cutD (xs : List D) (lo hi : Option Int) : List D := (xs.drop (HT.sIx xs.length 0 lo)).take (HT.sIx xs.length xs.length hi - HT.sIx xs.length 0 lo)
theorem cut_rp {G : Hp} {vs : List V} {ds : List D} {lo hi : Option Int} (r : RpA G vs ds) : RpA G (cutV vs lo hi) (cutD ds lo hi) := by
  unfold cutV cutD
  rw [r.length]
  exact (r.drop _).take _
/-- a list's slice is a list of one's own; a tuple's that isn't the whole one is a new tuple -/
def sliceD (d : D) (lo hi : Option Int) : Option (Bool × D) := match d with
  | .list ds => some (true, .list (cutD ds lo hi))
  | .tuple ds => if HT.sIx ds.length 0 lo = 0 ∧ HT.sIx ds.length ds.length hi = ds.length then none else some (false, .tuple (cutD ds lo hi))
  | _ => none
def asIx : Option D → Option (Option Int)
  | none => some none
  | some (.int i) => some (some i)
  | _ => none
def mOpt : Option (M D) → M (Option Int)
  | none => ret none
  | some f => bnd f fun d => fun ρ => match d with
    | .int i => .ok (some i) ρ
    | _ => .stuck
def mSlice (g : M Pl) (lo hi : Option (M D)) : M Rv := bnd g fun p => bnd (mOpt lo) fun l => bnd (mOpt hi) fun h => bnd (look p) fun d => bnd (ofO (sliceD d l h)) fun bz => ret (rvOf bz)
def slOr (r r' : V → Option Int → Option Int → Hp → VK → Prop) : V → Option Int → Option Int → Hp → VK → Prop := fun x l h H Q => r x l h H Q ∨ r' x l h H Q
theorem slR_or {r r' : V → Option Int → Option Int → Hp → VK → Prop} (h : SlR X r) (h' : SlR X r') : SlR X (slOr r r') := by
  intro pins s σ H x v vl vu l u sa Q I rx rs pl pu q
  rcases q with q | q
  · exact h pins s σ H x v vl vu l u sa Q I rx rs pl pu q
  · exact h' pins s σ H x v vl vu l u sa Q I rx rs pl pu q
def RdO (K : PySem.W.Frag) (t : TO) (f : M (Option Int)) : Prop := ∀ (C : Ctx) (G : Hp) (σ : L2.St) (H : Hp) (ρ : Env) (Q : Option Int → Hp → Prop), C.K = K → StOk C G σ H ρ → ∀ (d : Option Int) (ρ' : Env), f ρ = .ok d ρ' →
  (∀ (G' H' : Hp), Same G G' → StOk C G' σ H' ρ' → Q d H') → t σ H Q
def POt (X : Cx) (o : Option Expr) (f : M (Option Int)) : Prop := ∃ t, PO X o t ∧ RdO X.K t f
theorem pot_none : POt X none (mOpt none) := ⟨_, po_none, fun C G σ H ρ Q hK S d ρ' hf q => by cases hf; exact q G H (Same.refl _) S⟩
theorem pot_some (h : PV X e f) : POt X (some e) (mOpt (some f)) := by
  obtain ⟨t, h, r⟩ := h
  refine ⟨_, po_some h, fun C G σ H ρ Q hK S d ρ' hf q => ?_⟩
  obtain ⟨d1, ρ1, h1, hf2⟩ := bnd_ok hf
  refine r C G σ H ρ _ hK S d1 ρ1 h1 fun v G1 H1 g1 S1 o => ?_
  cases o with
  | int i => cases hf2; exact ⟨i, rfl, q G1 H1 g1 S1⟩
  | _ => cases hf2
theorem pf_slice {lo hi : Option Expr} {fl fh : Option (M D)} (h : PP X e g) (hl : POt X lo (mOpt fl)) (hh : POt X hi (mOpt fh)) : PF X (.Subscript e (.Slice lo hi none p2) pos) (mSlice g fl fh) := by
  obtain ⟨t, h, r⟩ := h
  obtain ⟨tl, hl, rl⟩ := hl
  obtain ⟨th, hh, rh⟩ := hh
  refine ⟨_, pe_slice (slR_or sl_list sl_tup) h hl hh, fun C G σ H ρ Q hK S d ρ' hf q => ?_⟩
  obtain ⟨pl, ρ1, h1, hf2⟩ := bnd_ok hf
  obtain ⟨l, ρ2, h2, hf3⟩ := bnd_ok hf2
  obtain ⟨u, ρ3, h3, hf4⟩ := bnd_ok hf3
  obtain ⟨dd, ρ4, h4, hf5⟩ := bnd_ok hf4
  obtain ⟨bz, ρ5, h5, hf6⟩ := bnd_ok hf5
  cases hf6
  refine r C G σ H ρ _ hK S pl ρ1 h1 fun v G1 H1 g1 S1 o1 => ?_
  refine rl C G1 σ H1 ρ1 _ hK S1 l ρ2 h2 fun G2 H2 g2 S2 => ?_
  refine rh C G2 σ H2 ρ2 _ hK S2 u ρ3 h3 fun G3 H3 g3 S3 => ?_
  obtain ⟨s, rfl⟩ := look_ok S3 ((o1.mono g2).mono g3) h4
  obtain ⟨es, rfl⟩ := ofO_ok h5
  have gg := (g1.trans g2).trans g3
  cases s with
  | @lst a xs ds ha ra =>
    cases es
    refine .inl ⟨a, xs, rfl, .inl (.inl ha), fun p hp => ?_⟩
    have w := Grow.newF (o := .lst (cutV xs l u)) S3.gh hp
    exact q _ G3 _ gg (S3.grow w) (fresh_ok S3 hp w (.lst upd_same (cut_rp ra)))
  | @tup a xs ds ha ra =>
    simp only [sliceD] at es
    by_cases hw : HT.sIx ds.length 0 l = 0 ∧ HT.sIx ds.length ds.length u = ds.length
    · rw [if_pos hw] at es; cases es
    · rw [if_neg hw] at es; cases es
      refine .inr ⟨a, xs, rfl, .inl (.inl ha), by rw [ra.length]; exact hw, fun p hp => ?_⟩
      have w := Grow.new (o := .tup (cutV xs l u)) S3.gh hp
      exact q _ _ _ (gg.trans w.g) (S3.grow w) (.tup upd_same ((cut_rp ra).mono w.g))
  | _ => cases es
end
end PL
namespace PL
open PySem PySem.Spec L2 RT RZ
section
variable {X : Cx} {e a b c tg elt iter : Expr} {es ifs : List Expr} {pos pos' tpos p p1 p2 apos cpos : Pos} {f fa fb fe : M D} {g ga gb : M Pl} {gs : M (List Pl)} {k : M Rv} {x : Str}
/-! ### calls of built-ins -/
theorem pv_b {id : String} {r : List V → Hp → VK → Prop} {g' : List D → Option D} (hc : CallR X (.builtin id) r) (hp : PClV r g') (hg : Gl X x) (hm : X.mg x = none) (hv : bootBuiltins x = some (.builtin id)) (ha : PPs X (e :: es) gs) (hn : x ≠ "__name__" := by decide) (hdb : (x == ("__debug__" : Str)) = false := by decide)
    (he : starEach (e :: es) X.env = (false, eval e X.env) :: starEach es X.env := by rfl) (hpl : (backTo pos (starEach es X.env)).any (·.1) = false := by rfl) : PV X (.Call (.Name x p) (e :: es) [] pos) (mN g' gs) := by
  obtain ⟨t, ha, ra⟩ := ha
  exact ⟨_, pe_callB hc hg hm hv ha hn hdb he hpl, rd_cl hp ra⟩
theorem pv_bT {id : String} {r : List V → Hp → VK → Prop} {g' : List D → Option D} (hc : CallR X (.type id) r) (hp : PClV r g') (hg : Gl X x) (hm : X.mg x = none) (hv : bootBuiltins x = some (.type id)) (ha : PPs X (e :: es) gs) (hn : x ≠ "__name__" := by decide) (hdb : (x == ("__debug__" : Str)) = false := by decide)
    (he : starEach (e :: es) X.env = (false, eval e X.env) :: starEach es X.env := by rfl) (hpl : (backTo pos (starEach es X.env)).any (·.1) = false := by rfl) : PV X (.Call (.Name x p) (e :: es) [] pos) (mN g' gs) := by
  obtain ⟨t, ha, ra⟩ := ha
  exact ⟨_, pe_callTy hc hg hm hv ha hn hdb he hpl, rd_cl hp ra⟩
theorem pf_b {id : String} {r : List V → Hp → VK → Prop} {g' : List D → Option D} (hc : CallR X (.builtin id) r) (hp : PClF r g') (hg : Gl X x) (hm : X.mg x = none) (hv : bootBuiltins x = some (.builtin id)) (ha : PPs X (e :: es) gs) (hn : x ≠ "__name__" := by decide) (hdb : (x == ("__debug__" : Str)) = false := by decide)
    (he : starEach (e :: es) X.env = (false, eval e X.env) :: starEach es X.env := by rfl) (hpl : (backTo pos (starEach es X.env)).any (·.1) = false := by rfl) : PF X (.Call (.Name x p) (e :: es) [] pos) (mFr (mN g' gs)) := by
  obtain ⟨t, ha, ra⟩ := ha
  exact ⟨_, pe_callB hc hg hm hv ha hn hdb he hpl, rd_clF hp ra⟩
theorem pf_bT {id : String} {r : List V → Hp → VK → Prop} {g' : List D → Option D} (hc : CallR X (.type id) r) (hp : PClF r g') (hg : Gl X x) (hm : X.mg x = none) (hv : bootBuiltins x = some (.type id)) (ha : PPs X (e :: es) gs) (hn : x ≠ "__name__" := by decide) (hdb : (x == ("__debug__" : Str)) = false := by decide)
    (he : starEach (e :: es) X.env = (false, eval e X.env) :: starEach es X.env := by rfl) (hpl : (backTo pos (starEach es X.env)).any (·.1) = false := by rfl) : PF X (.Call (.Name x p) (e :: es) [] pos) (mFr (mN g' gs)) := by
  obtain ⟨t, ha, ra⟩ := ha
  exact ⟨_, pe_callTy hc hg hm hv ha hn hdb he hpl, rd_clF hp ra⟩
/-! what each gives -/
def gLen : List D → Option D
  | [.list ds] => some (.int ds.length)
  | [.tuple ds] => some (.int ds.length)
  | [.str s] => if s.length ≤ 100000 then some (.int s.length) else none
  | _ => none
def rLenA (K : PySem.W.Frag) : List V → Hp → VK → Prop := fun xs H Q => ∃ x n, xs = [x] ∧ LenV K x H n ∧ Q (.int n) H
theorem pcl_len {K : PySem.W.Frag} : PClV (rLenA K) gLen := by
  intro G H vs ds z Q gh s hg q
  cases s with
  | nil => cases hg
  | cons h r => cases r with
    | cons _ _ => cases h <;> cases hg
    | nil =>
      cases h with
      | @lst a xs ds h r => cases hg; exact ⟨_, _, rfl, .inl ⟨xs, .inl (.inl h), r.length.symm⟩, q _ G H (Grow.refl gh) (.int _)⟩
      | @tup a xs ds h r => cases hg; exact ⟨_, _, rfl, .inr ⟨xs, .inl (.inl h), r.length.symm⟩, q _ G H (Grow.refl gh) (.int _)⟩
      | str s =>
        simp only [gLen] at hg
        by_cases hl : s.length ≤ 100000
        · rw [if_pos hl] at hg; cases hg
          exact ⟨_, _, rfl, ⟨line_of hl, rfl⟩, q _ G H (Grow.refl gh) (.int _)⟩
        · rw [if_neg hl] at hg; cases hg
      | _ => cases hg
theorem pv_len (hg : Gl X "len") (hm : X.mg "len" = none) (ha : PPs X (e :: es) gs) (he : starEach (e :: es) X.env = (false, eval e X.env) :: starEach es X.env := by rfl) (hpl : (backTo pos (starEach es X.env)).any (·.1) = false := by rfl) :
    PV X (.Call (.Name "len" p) (e :: es) [] pos) (mN gLen gs) := pv_b call_len pcl_len hg hm PySem.boot_len ha (he := he) (hpl := hpl)
def gAbs : List D → Option D
  | [.int i] => some (.int (if i < 0 then -i else i))
  | _ => none
theorem pv_abs (hg : Gl X "abs") (hm : X.mg "abs" = none) (ha : PPs X (e :: es) gs) (he : starEach (e :: es) X.env = (false, eval e X.env) :: starEach es X.env := by rfl) (hpl : (backTo pos (starEach es X.env)).any (·.1) = false := by rfl) :
    PV X (.Call (.Name "abs" p) (e :: es) [] pos) (mN gAbs gs) := pv_b call_abs (fun G H vs ds z Q gh s hg q => by
  cases s with
  | nil => cases hg
  | cons h r => cases r with
    | cons _ _ => cases h <;> cases hg
    | nil => cases h with
      | int i => cases hg; exact ⟨i, rfl, q _ G H (Grow.refl gh) (.int _)⟩
      | _ => cases hg) hg hm PyProof.Rows.boot_abs ha (he := he) (hpl := hpl)
def gMax2 : List D → Option D
  | [.int i, .int j] => some (.int (if j > i then j else i))
  | _ => none
def gMin2 : List D → Option D
  | [.int i, .int j] => some (.int (if j < i then j else i))
  | _ => none
theorem pv_max2 (hc : X.calm = true) (hg : Gl X "max") (hm : X.mg "max" = none) (ha : PPs X (e :: es) gs) (he : starEach (e :: es) X.env = (false, eval e X.env) :: starEach es X.env := by rfl) (hpl : (backTo pos (starEach es X.env)).any (·.1) = false := by rfl) :
    PV X (.Call (.Name "max" p) (e :: es) [] pos) (mN gMax2 gs) := pv_b (call_max2 hc) (fun G H vs ds z Q gh s hg q => by
  cases s with
  | nil => cases hg
  | cons h r => cases r with
    | nil => cases h <;> cases hg
    | cons h2 r2 => cases r2 with
      | cons _ _ => cases h <;> cases h2 <;> cases hg
      | nil => cases h with
        | int i => cases h2 with
          | int j => cases hg; exact ⟨i, j, rfl, q _ G H (Grow.refl gh) (.int _)⟩
          | _ => cases hg
        | _ => cases hg) hg hm (by decide +kernel) ha (he := he) (hpl := hpl)
theorem pv_min2 (hc : X.calm = true) (hg : Gl X "min") (hm : X.mg "min" = none) (ha : PPs X (e :: es) gs) (he : starEach (e :: es) X.env = (false, eval e X.env) :: starEach es X.env := by rfl) (hpl : (backTo pos (starEach es X.env)).any (·.1) = false := by rfl) :
    PV X (.Call (.Name "min" p) (e :: es) [] pos) (mN gMin2 gs) := pv_b (call_min2 hc) (fun G H vs ds z Q gh s hg q => by
  cases s with
  | nil => cases hg
  | cons h r => cases r with
    | nil => cases h <;> cases hg
    | cons h2 r2 => cases r2 with
      | cons _ _ => cases h <;> cases h2 <;> cases hg
      | nil => cases h with
        | int i => cases h2 with
          | int j => cases hg; exact ⟨i, j, rfl, q _ G H (Grow.refl gh) (.int _)⟩
          | _ => cases hg
        | _ => cases hg) hg hm (by decide +kernel) ha (he := he) (hpl := hpl)
def gInt1 : List D → Option D
  | [.int i] => some (.int i)
  | [.bool b] => some (.int (if b then 1 else 0))
  | _ => none
theorem pv_int1 (hg : Gl X "int") (hm : X.mg "int" = none) (ha : PPs X (e :: es) gs) (he : starEach (e :: es) X.env = (false, eval e X.env) :: starEach es X.env := by rfl) (hpl : (backTo pos (starEach es X.env)).any (·.1) = false := by rfl) :
    PV X (.Call (.Name "int" p) (e :: es) [] pos) (mN gInt1 gs) := pv_bT call_int1 (fun G H vs ds z Q gh s hg q => by
  cases s with
  | nil => cases hg
  | cons h r => cases r with
    | cons _ _ => cases h <;> cases hg
    | nil => cases h with
      | int i => cases hg; exact .inl ⟨i, rfl, q _ G H (Grow.refl gh) (.int _)⟩
      | bl b => cases hg; exact .inr ⟨b, rfl, q _ G H (Grow.refl gh) (.int _)⟩
      | _ => cases hg) hg hm PyProof.Rows.boot_int ha (he := he) (hpl := hpl)
def bools : List D → Option (List Bool)
  | [] => some []
  | .bool b :: ds => (bools ds).map (b :: ·)
  | _ => none
theorem bools_ok {G : Hp} : ∀ {ds : List D} {bs : List Bool} {vs : List V}, bools ds = some bs → RpA G vs ds → vs = bs.map V.bl
  | [], bs, _, h, .nil => by cases h; rfl
  | d :: ds, bs, _, h, .cons r rs => by
    cases r with
    | bl b =>
      simp only [bools] at h
      cases q : bools ds with
      | none => rw [q] at h; cases h
      | some cs => rw [q] at h; cases h; rw [bools_ok q rs]; rfl
    | _ => cases h
def nums : List D → Option (List Int)
  | [] => some []
  | .int b :: ds => (nums ds).map (b :: ·)
  | _ => none
theorem nums_ok {G : Hp} : ∀ {ds : List D} {bs : List Int} {vs : List V}, nums ds = some bs → RpA G vs ds → vs = bs.map V.int
  | [], bs, _, h, .nil => by cases h; rfl
  | d :: ds, bs, _, h, .cons r rs => by
    cases r with
    | int b =>
      simp only [nums] at h
      cases q : nums ds with
      | none => rw [q] at h; cases h
      | some cs => rw [q] at h; cases h; rw [nums_ok q rs]; rfl
    | _ => cases h
def gAll : List D → Option D
  | [.list ds] => (bools ds).map fun bs => .bool (bs.all id)
  | _ => none
def gAny : List D → Option D
  | [.list ds] => (bools ds).map fun bs => .bool (bs.any id)
  | _ => none
def gSum : List D → Option D
  | [.list ds] => (nums ds).map fun bs => .int bs.sum
  | _ => none
theorem pcl_list1 {r : List V → Hp → VK → Prop} {α : Type} {dec : List D → Option (List α)} {inj : α → V} {out : List α → D} {gg : List D → Option D} (hg1 : ∀ ds, gg [.list ds] = (dec ds).map out) (hg2 : ∀ l, (∀ ds, l ≠ [PyData.list ds]) → gg l = none)
    (hdec : ∀ {G : Hp} {ds : List D} {bs : List α} {vs : List V}, dec ds = some bs → RpA G vs ds → vs = bs.map inj)
    (hr : ∀ (H : Hp) (a : Addr) (bs : List α) (Q : VK) (G : Hp), H a = some (.lst (bs.map inj)) → Same G H → (∀ v G' H', Grow G H G' H' → Rp G' v (out bs) → Q v H') → r [.ref a] H Q) : PClV r gg := by
  intro G H vs ds z Q gh s hg q
  cases s with
  | nil => rw [hg2 _ (by intro ds h; simp at h)] at hg; cases hg
  | cons h rr => cases rr with
    | cons _ _ => rw [hg2 _ (by intro ds h; simp at h)] at hg; cases hg
    | nil => cases h with
      | @lst a xs ds h r =>
        rw [hg1] at hg
        cases qd : dec ds with
        | none => rw [qd] at hg; cases hg
        | some bs =>
          rw [qd] at hg
          cases hg
          have := hdec qd r
          subst this
          exact hr H a bs Q G h gh q
      | _ => rw [hg2 _ (by intro ds h; simp at h)] at hg; cases hg
theorem pv_all (hc : X.calm = true) (hg : Gl X "all") (hm : X.mg "all" = none) (ha : PPs X (e :: es) gs) (he : starEach (e :: es) X.env = (false, eval e X.env) :: starEach es X.env := by rfl) (hpl : (backTo pos (starEach es X.env)).any (·.1) = false := by rfl) :
    PV X (.Call (.Name "all" p) (e :: es) [] pos) (mN gAll gs) := pv_b (cr_all hc) (pcl_list1 (dec := bools) (inj := V.bl) (out := fun bs => .bool (bs.all id)) (fun _ => rfl) (fun l h => by
      cases l with
      | nil => rfl
      | cons d ds => cases d <;> cases ds <;> first | rfl | exact absurd rfl (h _)) bools_ok fun H a bs Q G h gh q => ⟨a, bs, rfl, .inl (.inl h), q _ G H (Grow.refl gh) (.bl _)⟩) hg hm (by decide +kernel) ha (he := he) (hpl := hpl)
theorem pv_any (hc : X.calm = true) (hg : Gl X "any") (hm : X.mg "any" = none) (ha : PPs X (e :: es) gs) (he : starEach (e :: es) X.env = (false, eval e X.env) :: starEach es X.env := by rfl) (hpl : (backTo pos (starEach es X.env)).any (·.1) = false := by rfl) :
    PV X (.Call (.Name "any" p) (e :: es) [] pos) (mN gAny gs) := pv_b (cr_any hc) (pcl_list1 (dec := bools) (inj := V.bl) (out := fun bs => .bool (bs.any id)) (fun _ => rfl) (fun l h => by
      cases l with
      | nil => rfl
      | cons d ds => cases d <;> cases ds <;> first | rfl | exact absurd rfl (h _)) bools_ok fun H a bs Q G h gh q => ⟨a, bs, rfl, .inl (.inl h), q _ G H (Grow.refl gh) (.bl _)⟩) hg hm (by decide +kernel) ha (he := he) (hpl := hpl)
theorem pv_sum (hc : X.calm = true) (hg : Gl X "sum") (hm : X.mg "sum" = none) (ha : PPs X (e :: es) gs) (he : starEach (e :: es) X.env = (false, eval e X.env) :: starEach es X.env := by rfl) (hpl : (backTo pos (starEach es X.env)).any (·.1) = false := by rfl) :
    PV X (.Call (.Name "sum" p) (e :: es) [] pos) (mN gSum gs) := pv_b (cr_sum hc) (pcl_list1 (dec := nums) (inj := V.int) (out := fun bs => .int bs.sum) (fun _ => rfl) (fun l h => by
      cases l with
      | nil => rfl
      | cons d ds => cases d <;> cases ds <;> first | rfl | exact absurd rfl (h _)) nums_ok fun H a bs Q G h gh q => ⟨a, bs, rfl, .inl (.inl h), q _ G H (Grow.refl gh) (.int _)⟩) hg hm (by decide +kernel) ha (he := he) (hpl := hpl)
def gList : List D → Option D
  | [.list ds] => some (.list ds)
  | [.tuple ds] => some (.list ds)
  | _ => none
theorem pf_list (hg : Gl X "list") (hm : X.mg "list" = none) (ha : PPs X (e :: es) gs) (he : starEach (e :: es) X.env = (false, eval e X.env) :: starEach es X.env := by rfl) (hpl : (backTo pos (starEach es X.env)).any (·.1) = false := by rfl) :
    PF X (.Call (.Name "list" p) (e :: es) [] pos) (mFr (mN gList gs)) := pf_bT call_list_of (fun G H vs ds z Q gh s hg q => by
  cases s with
  | nil => cases hg
  | cons h r => cases r with
    | cons _ _ => cases h <;> cases hg
    | nil => cases h with
      | @lst a xs ds h r => cases hg; exact ⟨a, xs, rfl, .inl (.inl (.inl h)), fun l hl => q l _ hl (Grow.newF gh hl) (.lst upd_same r)⟩
      | @tup a xs ds h r => cases hg; exact ⟨a, xs, rfl, .inr (.inl (.inl h)), fun l hl => q l _ hl (Grow.newF gh hl) (.lst upd_same r)⟩
      | _ => cases hg) hg hm PyProof.Rows.boot_list ha (he := he) (hpl := hpl)
def gTuple : List D → Option D
  | [.list ds] => some (.tuple ds)
  | _ => none
theorem pv_tuple (hg : Gl X "tuple") (hm : X.mg "tuple" = none) (ha : PPs X (e :: es) gs) (he : starEach (e :: es) X.env = (false, eval e X.env) :: starEach es X.env := by rfl) (hpl : (backTo pos (starEach es X.env)).any (·.1) = false := by rfl) :
    PV X (.Call (.Name "tuple" p) (e :: es) [] pos) (mN gTuple gs) := pv_bT call_tuple_of (fun G H vs ds z Q gh s hg q => by
  cases s with
  | nil => cases hg
  | cons h r => cases r with
    | cons _ _ => cases h <;> cases hg
    | nil => cases h with
      | @lst a xs ds h r => cases hg; exact ⟨a, xs, rfl, .inl ⟨.inl (.inl h), fun l hl => (Grow.new (o := .tup xs) gh hl |> fun w => q _ _ _ w (.tup upd_same (r.mono w.g)))⟩⟩
      | _ => cases hg) hg hm PyProof.Rows.boot_tuple ha (he := he) (hpl := hpl)
/-! ### the script -/
def mLenS (i : Nat) : M D := fun ρ => match ρ[i]? with
  | some (.scr ns) => .ok (.int ns.length) ρ
  | _ => .stuck
def mIxS (i : Nat) (fb : M D) : M D := fun ρ => match ρ[i]? with
  | some (.scr ns) => match fb ρ with
    | .ok (.int n) ρ' => match atI ns n with
      | some v => .ok (.int v) ρ'
      | none => .stuck
    | _ => .stuck
  | _ => .stuck
theorem scr_at {C : Ctx} {G H : Hp} {σ : L2.St} {ρ : Env} {i : Nat} {ns : List Int} (S : StOk C G σ H ρ) (e : ρ[i]? = some (.scr ns)) : ∃ a, σ[i]? = some (some (.ref a)) ∧ SqL C.K C.B a (ns.map V.int) := by
  obtain ⟨o, e1, v, rfl, p1, p2⟩ := S.sl i _ e
  have w := S.wf i v p1
  rw [p2] at w
  obtain ⟨a, rfl, q⟩ := w
  exact ⟨a, e1, q⟩
theorem pv_lenS (i : Nat) (hg : Gl X "len") (hm : X.mg "len" = none) (hN : X.N[i]? = some x := by rfl) (hv : Vis X.env.scope x := by first | exact Or.inl rfl | exact Or.inr (Or.inl rfl) | exact Or.inr (Or.inr rfl)) (hd : (x == ("__debug__" : Str)) = false := by decide)
    (hcd : (x == ("__classdict__" : Str)) = false := by decide) (he : starEach [.Name x p1] X.env = (false, eval (.Name x p1) X.env) :: starEach [] X.env := by rfl) (hpl : (backTo pos (starEach [] X.env)).any (·.1) = false := by rfl) :
    PV X (.Call (.Name "len" p) [.Name x p1] [] pos) (mLenS i) := by
  refine ⟨_, pe_callB call_len hg hm PySem.boot_len (pa_cons (pe_var hN hv hd hcd) pa_nil he) (he := he) (hpl := hpl), fun C G σ H ρ Q hK S d ρ' hf q => ?_⟩
  unfold mLenS at hf
  cases r : ρ[i]? with
  | none => rw [r] at hf; cases hf
  | some s =>
    rw [r] at hf
    cases s with
    | scr ns =>
      cases hf
      obtain ⟨a, e1, sq⟩ := scr_at S r
      rw [hK] at sq
      exact ⟨_, e1, _, _, rfl, .inl ⟨_, Same.seq S.bh sq, by rw [List.length_map]⟩, q _ G H (Same.refl _) S (.int _)⟩
    | _ => cases hf
theorem pv_ixS (i : Nat) (hb : PV X b fb) (hs : PlainIx b := by intro _ _; rfl) (hN : X.N[i]? = some x := by rfl) (hv : Vis X.env.scope x := by first | exact Or.inl rfl | exact Or.inr (Or.inl rfl) | exact Or.inr (Or.inr rfl)) (hd : (x == ("__debug__" : Str)) = false := by decide)
    (hcd : (x == ("__classdict__" : Str)) = false := by decide) : PV X (.Subscript (.Name x p1) b pos) (mIxS i fb) := by
  obtain ⟨tb, hb, rb⟩ := hb
  refine ⟨_, pe_ix ix_list (pe_var hN hv hd hcd) hb hs, fun C G σ H ρ Q hK S d ρ' hf q => ?_⟩
  unfold mIxS at hf
  cases r : ρ[i]? with
  | none => rw [r] at hf; cases hf
  | some s =>
    rw [r] at hf
    cases s with
    | scr ns =>
      simp only at hf
      obtain ⟨a, e1, sq⟩ := scr_at S r
      rw [hK] at sq
      refine ⟨_, e1, ?_⟩
      cases r2 : fb ρ with
      | stuck => rw [r2] at hf; cases hf
      | ok d1 ρ1 =>
        rw [r2] at hf
        cases d1 with
        | int n =>
          simp only at hf
          refine rb C G σ H ρ _ hK S _ ρ1 r2 fun v G1 H1 g1 S1 o => ?_
          cases o
          cases r3 : atI ns n with
          | none => rw [r3] at hf; cases hf
          | some w =>
            rw [r3] at hf
            cases hf
            refine ⟨a, _, n, .int w, rfl, rfl, Same.seq S1.bh sq, ?_, q _ G1 H1 g1 S1 (.int _)⟩
            unfold atI at r3 ⊢
            rw [List.length_map]
            cases r4 : ixN ns.length n with
            | none => rw [r4] at r3; cases r3
            | some j =>
              rw [r4] at r3
              have r3' : ns[j]? = some w := r3
              show (ns.map V.int)[j]? = _
              rw [List.getElem?_map, r3']
              rfl
        | _ => cases hf
    | _ => cases hf
/-! ### isinstance -/
def tyD : D → String
  | .none => "NoneType"
  | .bool _ => "bool"
  | .int _ => "int"
  | .str _ => "str"
  | .list _ => "list"
  | .tuple _ => "tuple"
  | .dict _ => "dict"
theorem Sh.ty {K : PySem.W.Frag} {G H : Hp} {v : V} {d : D} (h : Sh G H v d) : TyX K H v (.type (tyD d)) := by
  cases h with
  | non => exact .base .non
  | bl b => exact .base (.bl b)
  | int i => exact .base (.int i)
  | str s => exact .base (.str s)
  | lst h r => exact .base (.lst h)
  | tup h r => exact .base (.tup h)
  | dct h r => exact .base (.dK h)
/-- the types' own answer, by names -/
def isTy (t : String) : String → Bool
  | "int" => t == "int" || t == "bool"
  | T => t == T
def goodTy (T : String) : Bool := T == "int" || T == "bool" || T == "str" || T == "list" || T == "tuple" || T == "dict"
theorem kit_isTy {K : PySem.W.Frag} {d : D} {T : String} (h : goodTy T = true) : PySem.W.kitOne K (.type (tyD d)) (.type T) = some (isTy (tyD d) T) := by
  simp only [goodTy, Bool.or_eq_true, beq_iff_eq] at h
  have k : kitB (tyD d) T = some (isTy (tyD d) T) := by
    rcases h with ((((h | h) | h) | h) | h) | h <;> subst h <;> cases d <;> simp only [tyD] <;> decide +kernel
  exact kit_ty k
def gIsi (Ts : List String) (d : D) : Option D := some (.bool (Ts.any fun T => isTy (tyD d) T))
theorem pv_isi {T : String} (hg : Gl X "isinstance") (hm : X.mg "isinstance" = none) (ha : PP X e g) (hT : PE X b (tC (.ty T))) (hgood : goodTy T = true) (he : starEach [e, b] X.env = (false, eval e X.env) :: starEach [b] X.env := by rfl) (he2 : starEach [b] X.env = (false, eval b X.env) :: starEach [] X.env := by rfl)
    (hpl : (backTo pos (starEach [b] X.env)).any (·.1) = false := by rfl) : PV X (.Call (.Name "isinstance" p) [e, b] [] pos) (mUn (gIsi [T]) g) := by
  obtain ⟨t, ha, r⟩ := ha
  refine ⟨_, pe_callB call_isi hg hm PyProof.Rows.boot_isinstance (pa_cons ha (pa_cons hT pa_nil he2) he) (he := he) (hpl := hpl), fun C G σ H ρ Q hK S d ρ' hf q => ?_⟩
  obtain ⟨pl, ρ1, h1, hf2⟩ := bnd_ok hf
  refine r C G σ H ρ _ hK S pl ρ1 h1 fun v G1 H1 g1 S1 o => ?_
  obtain ⟨dd, ρ2, h2, hf3⟩ := bnd_ok hf2
  obtain ⟨s, rfl⟩ := look_ok S1 o h2
  cases hf3
  refine ⟨v, .ty T, _, _, _, rfl, .ty T, s.ty, kit_isTy hgood, ?_⟩
  have : isTy (tyD dd) T = [T].any fun T => isTy (tyD dd) T := by simp
  rw [this]
  exact q _ G1 H1 g1 S1 (.bl _)
theorem kit_any {K : PySem.W.Frag} {d : D} : ∀ {Ts : List String}, Ts.all goodTy = true → PySem.W.kitAny K (.type (tyD d)) (Ts.map Value.type) = some (Ts.any fun T => isTy (tyD d) T)
  | [], _ => kitAny_nil
  | T :: Ts, h => by
    have h' : (goodTy T && Ts.all goodTy) = true := h
    rw [Bool.and_eq_true] at h'
    refine kitAny_cons (kit_isTy h'.1) (fun hb => ?_) fun hb => ?_
    · rw [kit_any h'.2, List.any_cons, hb, Bool.false_or]
    · rw [List.any_cons, hb, Bool.true_or]
theorem tys_paired : ∀ (Ts : List String), Paired ClsV (Ts.map V.ty) (Ts.map Value.type)
  | [] => .nil
  | T :: Ts => .cons (.ty T) (tys_paired Ts)
def tTys (Ts : List String) : TA := fun _ H Q => Q (Ts.map V.ty) H
theorem pa_tyN : PA X [] (tTys []) := ⟨fun pos pins s σ H Q I h => pa_nil.run pos pins s σ H Q I h⟩
theorem pa_tyC {T : String} {Ts : List String} (h : PE X e (tC (.ty T))) (hr : PA X es (tTys Ts)) (hs : starEach (e :: es) X.env = (false, eval e X.env) :: starEach es X.env := by rfl) : PA X (e :: es) (tTys (T :: Ts)) :=
  ⟨fun pos pins s σ H Q I q => (pa_cons h hr hs).run pos pins s σ H Q I q⟩
theorem pv_isiT {Ts : List String} {x1} (hg : Gl X "isinstance") (hm : X.mg "isinstance" = none) (ha : PP X e g) (hT : PA X es (tTys Ts)) (hgood : Ts.all goodTy = true) (hlen : Ts.length ≤ 1000) (he : starEach [e, .Tuple es x1 tpos] X.env = (false, eval e X.env) :: starEach [.Tuple es x1 tpos] X.env := by rfl) (he2 : starEach [.Tuple es x1 tpos] X.env = (false, eval (.Tuple es x1 tpos) X.env) :: starEach [] X.env := by rfl)
    (hpl : (backTo pos (starEach [.Tuple es x1 tpos] X.env)).any (·.1) = false := by rfl) : PV X (.Call (.Name "isinstance" p) [e, .Tuple es x1 tpos] [] pos) (mUn (gIsi Ts) g) := by
  obtain ⟨t, ha, r⟩ := ha
  refine ⟨_, pe_callB call_isiT hg hm PyProof.Rows.boot_isinstance (pa_cons ha (pa_cons (pe_tup hT) pa_nil he2) he) (he := he) (hpl := hpl), fun C G σ H ρ Q hK S d ρ' hf q => ?_⟩
  obtain ⟨pl, ρ1, h1, hf2⟩ := bnd_ok hf
  refine r C G σ H ρ _ hK S pl ρ1 h1 fun v G1 H1 g1 S1 o => ?_
  obtain ⟨dd, ρ2, h2, hf3⟩ := bnd_ok hf2
  refine ⟨by rw [List.length_map]; exact Nat.le_trans hlen (by decide), fun tp htp => ?_⟩
  have w := Grow.newF (o := .tup (Ts.map V.ty)) S1.gh htp
  have S2 := S1.grow w
  obtain ⟨s, rfl⟩ := look_ok S2 o h2
  cases hf3
  exact ⟨v, tp, Ts.map V.ty, _, _, _, rfl, upd_same, tys_paired Ts, s.ty, kit_any hgood, q _ G1 _ g1 S2 (.bl _)⟩
theorem pe_ty {T : Str} {u : String} (hg : Gl X T) (hm : X.mg T = none) (hv : bootBuiltins T = some (.type u)) (hn : T ≠ "__name__" := by decide) (hd : (T == ("__debug__" : Str)) = false := by decide) : PE X (.Name T pos) (tC (.ty u)) := pe_bltn hg hm hv rfl hn hd
/-! ### methods that change a list -/
theorem pv_mut {j : Nat} {name : Str} {id : String} {r : V → List V → Hp → VK → Prop} {g' : List D → List D → Option (List D × D)} {fs : M (List D)} (slot : Slot "list" name id) (hty : typeOf (.builtin id) = pure (.type "method_descriptor")) (hm : MtR X id r) (hp : PMut r g') (ha : PVs X (e :: es) fs) (hN : X.N[j]? = some x := by rfl)
    (hv : Vis X.env.scope x := by first | exact Or.inl rfl | exact Or.inr (Or.inl rfl) | exact Or.inr (Or.inr rfl)) (hd : (x == ("__debug__" : Str)) = false := by decide) (hcd : (x == ("__classdict__" : Str)) = false := by decide)
    (hbase : attributeBase (.Name x p1) name X.env (eval (.Name x p1) X.env) = eval (.Name x p1) X.env := by rfl)
    (hfew : ((backTo cpos (starEach (e :: es) X.env)).all (fun x => !x.1) && (backToKw cpos (keywordEach [] X.env)).all (fun x => x.1.isSome)
      && decide ((e :: es).length + ([] : List Keyword).length + (if ([] : List Keyword).isEmpty then 0 else 1) < 30)) = true := by rfl)
    (hline : (apos.endLine == cpos.line) = true := by rfl) (hs : starEach (e :: es) X.env = (false, eval e X.env) :: starEach es X.env := by rfl) (hplain : (backTo cpos (starEach es X.env)).any (·.1) = false := by rfl) :
    PV X (.Call (.Attribute (.Name x p1) name apos) (e :: es) [] cpos) (mMut j g' fs) := by
  obtain ⟨t, ha, ra⟩ := ha
  exact ⟨_, pe_bm PySem.F.plainAttrs_list slot hty hm (pe_var hN hv hd hcd) ha hbase hfew hline hs hplain, rd_mut hp ra⟩
theorem pv_mut0 {j : Nat} {name : Str} {id : String} {r : V → List V → Hp → VK → Prop} {g' : List D → List D → Option (List D × D)} (slot : Slot "list" name id) (hty : typeOf (.builtin id) = pure (.type "method_descriptor")) (hm : MtR X id r) (hp : PMut r g') (hN : X.N[j]? = some x := by rfl)
    (hv : Vis X.env.scope x := by first | exact Or.inl rfl | exact Or.inr (Or.inl rfl) | exact Or.inr (Or.inr rfl)) (hd : (x == ("__debug__" : Str)) = false := by decide) (hcd : (x == ("__classdict__" : Str)) = false := by decide)
    (hbase : attributeBase (.Name x p1) name X.env (eval (.Name x p1) X.env) = eval (.Name x p1) X.env := by rfl) (hline : (apos.endLine == cpos.line) = true := by rfl) :
    PV X (.Call (.Attribute (.Name x p1) name apos) [] [] cpos) (mMut j g' mNil) := by
  refine ⟨_, pe_bm0 PySem.F.plainAttrs_list slot hty hm (pe_var hN hv hd hcd) hbase hline, fun C G σ H ρ Q hK S d ρ' hf q => ?_⟩
  have key := rd_mut (X := X) (j := j) (t := tNil) (fs := mNil) hp (fun C G σ H ρ Q hK S d ρ' hf q => by cases hf; exact q [] G H (Same.refl _) S .nil) C G σ H ρ Q hK S d ρ' hf q
  obtain ⟨v, e1, z⟩ := key
  exact ⟨v, e1, z⟩
def gAppend (ds as : List D) : Option (List D × D) := match as with
  | [d] => if ds.length < 100000 then some (ds ++ [d], .none) else none
  | _ => none
theorem pmut_append : PMut rAppend gAppend := by
  intro G H l vs ds as ads new z Q gh hl r ra hg q
  cases ra with
  | nil => cases hg
  | cons h rr => cases rr with
    | cons _ _ => cases hg
    | nil =>
      simp only [gAppend] at hg
      split at hg
      · rename_i hlt
        cases hg
        exact ⟨l, vs, _, rfl, rfl, hl, by rw [r.length]; exact line_lt hlt, q _ _ (r.append (.one h)) .non⟩
      · cases hg
def gInsert (ds as : List D) : Option (List D × D) := match as with
  | [.int i, d] => if ds.length < 100000 ∧ 0 ≤ i ∧ i < 2 ^ 63 then some (ds.take i.toNat ++ [d] ++ ds.drop i.toNat, .none) else none
  | _ => none
theorem pmut_insert : PMut (fun x vs H Q => ∃ (l : Addr) (xs : List V) (i : Int) (y : V), x = .ref l ∧ vs = [.int i, y] ∧ H l = some (.lst xs) ∧ xs.length < sizeLine ∧ 0 ≤ i ∧ i < 2 ^ 63 ∧
    Q .non (upd H l (.lst (xs.take i.toNat ++ [y] ++ xs.drop i.toNat)))) gInsert := by
  intro G H l vs ds as ads new z Q gh hl r ra hg q
  cases ra with
  | nil => cases hg
  | cons h rr => cases rr with
    | nil => cases h <;> cases hg
    | cons h2 r2 => cases r2 with
      | cons _ _ => cases h <;> cases hg
      | nil => cases h with
        | int i =>
          simp only [gInsert] at hg
          split at hg
          · rename_i hlt
            cases hg
            exact ⟨l, vs, i, _, rfl, rfl, hl, by rw [r.length]; exact line_lt hlt.1, hlt.2.1, hlt.2.2, q _ _ (((r.take _).append (.one h2)).append (r.drop _)) .non⟩
          · cases hg
        | _ => cases hg
def gReverse (ds as : List D) : Option (List D × D) := match as with
  | [] => some (ds.reverse, .none)
  | _ => none
theorem pmut_reverse : PMut rReverse gReverse := by
  intro G H l vs ds as ads new z Q gh hl r ra hg q
  cases ra with
  | cons _ _ => cases hg
  | nil => cases hg; exact ⟨l, vs, rfl, rfl, hl, q _ _ r.reverse .non⟩
def gClear (ds as : List D) : Option (List D × D) := match as with
  | [] => some ([], .none)
  | _ => none
theorem pmut_clear : PMut rClear gClear := by
  intro G H l vs ds as ads new z Q gh hl r ra hg q
  cases ra with
  | cons _ _ => cases hg
  | nil => cases hg; exact ⟨l, vs, rfl, rfl, hl, q _ _ .nil .non⟩
def gPop (ds as : List D) : Option (List D × D) := match as with
  | [] => match ds[ds.length - 1]? with
    | some y => some (ds.dropLast, y)
    | none => none
  | _ => none
theorem RpA.dropLast {G : Hp} : ∀ {vs : List V} {ds : List D}, RpA G vs ds → RpA G vs.dropLast ds.dropLast
  | _, _, .nil => .nil
  | _, _, .cons h .nil => .nil
  | _, _, .cons h (.cons h2 r) => .cons h (RpA.dropLast (.cons h2 r))
theorem pmut_pop : PMut rPop gPop := by
  intro G H l vs ds as ads new z Q gh hl r ra hg q
  cases ra with
  | cons _ _ => cases hg
  | nil =>
    simp only [gPop] at hg
    cases e : ds[ds.length - 1]? with
    | none => rw [e] at hg; cases hg
    | some y =>
      rw [e] at hg
      cases hg
      obtain ⟨v, hv, rv⟩ := r.get e
      exact ⟨l, vs, v, rfl, rfl, hl, by rw [r.length]; exact hv, q _ _ r.dropLast rv⟩
end
end PL
namespace PL
open PySem PySem.Spec L2 RT RZ
/-! ### a def that is called where no repr is under way -/
structure FnG (P : Program) (w : World) (K : PySem.W.Frag) (mg : Str → Option Value) (base : Heap) (k : Nat) (f : Addr) (fd : FuncData) (ps : List Str) (sp : Sp) : Prop where
  len : ∀ (vs : List V) (H : Hp) (Q : VK) (E : XK), sp vs H Q E → vs.length = ps.length
  go : ∀ (A : Around), A.guards = some [] → ∀ (outer : List PySem.Env) (s : Shared) (H : Hp) (args : Args) (us : List Value) (vs : List V) (Q : VK) (E : XK), Room k A → Env0 P w K mg base A outer s H →
    BindsTo s fd args (ps.zip us) → Vals vs us → sp vs H Q E → codeAny (model P w) A (.call (.ref f) args) (CR L2.CX0 outer P w H s Q E) s
section
variable {P : Program} {w : World} {K : PySem.W.Frag} {mg : Str → Option Value} {base : Heap} {k : Nat} {N ps : List Str} {x qual : Str} {st : Stmt} {f : Addr} {fd : FuncData} {m : M Fl}
theorem FnG.mono {sp : Sp} {j : Nat} (F : FnG P w K mg base j f fd ps sp) (h : j ≤ k) : FnG P w K mg base k f fd ps sp :=
  ⟨F.len, fun A hG outer s H args us vs Q E hr => F.go A hG outer s H args us vs Q E (hr.mono h)⟩
theorem fnG_of {sp : Sp} (F : Fun K x qual st f fd) (S : FnScope N ps (defScope st)) (len : ∀ (vs : List V) (H : Hp) (Q : VK) (E : XK), sp vs H Q E → vs.length = ps.length)
    (body : ∀ (cdv : Value) (A : Around), A.guards = some [] → ∀ (outer : List PySem.Env) (s : Shared) (H : Hp) (vs : List V) (Q : VK) (E : XK), Room k (A.deeper (PyProof.Rows.envOfC qual (defScope st) s.heap.objs.size f cdv)) → sp vs H Q E →
      ∃ t, PSs (cxOf L2.CX0 P w K mg base N qual (defScope st) f cdv A outer s H E).nox (defBody st) t ∧ t { nx := fun _ H' => Q .non H', rt := Q } (L2.start N vs) H) : FnG P w K mg base (k + 1) f fd ps sp := by
  obtain ⟨oc, od, kV, doc, pm, an, cdv, ct, osl, rfl, lk, hcd⟩ := F.ex
  constructor
  · exact len
  intro A hG outer s H args us vs Q E hr e0 hb r hsp
  have hl := len _ _ _ _ hsp
  have KX : K.In s.heap := e0.mod.kin.keeps fun b o e => (e0.bs b o e).1
  have lim : s.heap.NoLimit := e0.mod.nolimit.keeps fun b o e => (e0.bs b o e).1
  have kinds : ∀ y ∈ ps.zip us, (defScope st).names.lookup y.1 = some .local ∨ ((defScope st).names.lookup y.1 = some .cell ∧ ((cellsFrom (s.heap.objs.size + 1) (defScope st).names []).lookup y.1).isSome = true) := by
    rintro ⟨n, v⟩ hy
    rcases S.par n (List.of_mem_zip hy).1 with q | q
    · exact Or.inl q
    · exact Or.inr ⟨q, PySem.W.cellsFrom_some _ _ _ (.inl q)⟩
  refine codeAny_call_function hr.depth (KX _ _ lk) rfl S.co S.gen rfl (PySem.W.codeRec_of KX hcd) (hb _ _ _ _ ?_)
  refine PySem.wpAny_newFunctionEnv_cells S.kind kinds ?_
  intro env he s1 x1
  subst he
  refine ⟨lim.keeps x1.toInCall.keep, codeAny_func ?_⟩
  obtain ⟨t, ht, hq⟩ := body cdv A hG outer s H vs Q E (hr.deeper _) hsp
  have I : Inv (cxOf L2.CX0 P w K mg base N qual (defScope st) f cdv A outer s H E) [] (L2.start N vs) H s1 := inv_start S hr.hd e0 hl r x1
  have run := ht.nox.run [] s1 (L2.start N vs) H _ I hq
  refine wpAny_mono run ?_ fun e s' hs => hs
  intro fl s' hs
  cases fl with
  | brk => obtain ⟨_, _, _, q⟩ := hs; exact q.elim
  | cont => obtain ⟨_, _, _, q⟩ := hs; exact q.elim
  | next => obtain ⟨σ', H', J, q⟩ := hs; exact ⟨V.non, H', J.os, J.bare, J.base, J.hok, rfl, q⟩
  | ret u => obtain ⟨v, σ', H', J, rv, q⟩ := hs; exact ⟨v, H', J.os, J.bare, J.base, J.hok, rv, q⟩
theorem fnG_pl {np nl : Nat} (F : Fun K x qual st f fd) (S : FnScope N ps (defScope st)) (hn : N.length = np + nl) (hp : ps.length = np)
    (hb : ∀ (cdv : Value) (A : Around) (outer : List PySem.Env) (s : Shared) (H : Hp) (E : XK), A.guards = some [] → Room k (A.deeper (PyProof.Rows.envOfC qual (defScope st) s.heap.objs.size f cdv)) →
      PSts (cxOf L2.CX0 P w K mg base N qual (defScope st) f cdv A outer s H E).nox (defBody st) m) : FnG P w K mg base (k + 1) f fd ps (spD K np nl m) := by
  refine fnG_of F S (fun vs H Q E h => ?_) fun cdv A hG outer s H vs Q E hr h => ?_
  · obtain ⟨C, ss, r, ρ', hl, _⟩ := h
    rw [hl, hp]
  · obtain ⟨C, ss, r, ρ', hl, hK, S0, hrun, q⟩ := h
    obtain ⟨t, ht, rt⟩ := hb cdv A outer s H E hG hr
    refine ⟨t, ht, ?_⟩
    have e : L2.start N vs = vs.map some ++ List.replicate nl none := by
      unfold L2.start
      rw [hn, hl, Nat.add_sub_cancel_left]
    rw [e]
    have S1 := S0.more nl
    unfold runD at hrun
    cases hm : m (ss ++ List.replicate nl .un) with
    | stuck => rw [hm] at hrun; cases hrun
    | ok fl ρ1 =>
      rw [hm] at hrun
      cases fl with
      | rt r1 => cases hrun; exact rt C C.G0 _ H _ _ hK S1 _ _ hm fun σ' G' H' g S' v o => q v G' σ' H' g S' o
      | nx => cases hrun; exact rt C C.G0 _ H _ _ hK S1 _ _ hm fun σ' G' H' g S' => q .non G' σ' H' g S' .non
      | bk => cases hrun
      | ct => cases hrun
end
section
variable {X : Cx} {e : Expr} {es : List Expr} {pos p : Pos} {x : Str} {k : Nat} {f : Addr} {fd : FuncData} {ps : List Str} {np nl : Nat} {m : M Fl} {ms : List Md} {fs : M (List Pl)} {sp : Sp} {t : TA}
theorem pe_callG (F : FnG X.prog X.w X.K X.mg X.base k f fd ps sp) (hG : X.A.guards = some []) (hr : Room k X.A) (hg : Gl X x) (hm : X.mg x = some (.ref f)) (hk : PySem.W.keepIn X.K (.ref f) = true) (hb : Binds X.K fd ps []) (ha : PA X (e :: es) t)
    (hdb : (x == ("__debug__" : Str)) = false := by decide) (he : starEach (e :: es) X.env = (false, eval e X.env) :: starEach es X.env := by rfl) (hpl : (backTo pos (starEach es X.env)).any (·.1) = false := by rfl) :
    PE X (.Call (.Name x p) (e :: es) [] pos) (tCall sp [] L2.E0 t) := by
  constructor
  intro pins s σ H Q I h
  refine PySem.wpAny_Call_Name_kw (ld_glob I hg hm ?_ hdb)
  refine PySem.W.callWith_K (h₀ := X.base) I.ok.mod.kin hk (thn (ha.run pos pins s σ H _ I h) ?_) he hpl
  rintro us s1 ⟨vs, H1, I1, r, q⟩
  refine ⟨I1.kIn, ?_⟩
  rw [List.append_nil] at q
  have hl : us.length = ps.length := by rw [← r.length]; exact F.len _ _ _ _ q
  have hb' := hb s1 us I1.kIn (by rw [List.append_nil]; exact hl)
  rw [List.append_nil] at hb'
  refine wpAny_call (codeAny_mono (F.go X.A hG X.stack s1 H1 ⟨us, []⟩ us vs Q _ hr I1.env0 hb' r q) ?_)
  intro r s' hq
  cases r with
  | error e => exact False.elim hq
  | ok fl =>
    cases fl with
    | ret u => exact I1.after hq
    | next => exact False.elim hq
    | brk => exact False.elim hq
    | cont => exact False.elim hq
theorem pf_callG (F : FnG X.prog X.w X.K X.mg X.base k f fd ps (spD X.K np nl m)) (hG : X.A.guards = some []) (hr : Room k X.A) (hg : Gl X x) (hm : X.mg x = some (.ref f)) (hk : PySem.W.keepIn X.K (.ref f) = true) (hb : Binds X.K fd ps []) (ha : PPs X (e :: es) fs) (hl : ms.length = np)
    (hdb : (x == ("__debug__" : Str)) = false := by decide) (he : starEach (e :: es) X.env = (false, eval e X.env) :: starEach es X.env := by rfl) (hpl : (backTo pos (starEach es X.env)).any (·.1) = false := by rfl) :
    PF X (.Call (.Name x p) (e :: es) [] pos) (mCall ms nl m fs) := by
  obtain ⟨t, ha, ra⟩ := ha
  exact ⟨_, pe_callG F hG hr hg hm hk hb ha hdb he hpl, rd_call ra hl⟩
end
/-! ### repr of data -/
/-- a number, a truth value, None, a text -/
def plain1 : D → Bool
  | .none => true
  | .bool _ => true
  | .int _ => true
  | .str _ => true
  | _ => false
/-- .. or a tuple of such -/
def plain2 : D → Bool
  | .tuple ds => ds.all plain1
  | d => plain1 d
/-- a dict of such -/
def flatD : D → Bool
  | .dict ks => ks.all fun kv => plain2 kv.2
  | _ => false
theorem plain1_reads {G : Hp} {h : Heap} {v : V} {d : D} {u : Value} (c : plain1 d = true) (r : Rp G v d) (rv : RelV v u) : Reads h u d [] := by
  cases r with
  | non => cases (show u = Value.none from rv); exact .none
  | bl b => cases (show u = Value.bool b from rv); exact .bool b
  | int i => obtain ⟨t, rfl⟩ := (show ∃ t, u = Value.int i t from rv); exact .int i t
  | str z => obtain ⟨t, rfl⟩ := (show ∃ t, u = Value.str z t from rv); exact .str z t
  | _ => cases c
theorem plain1_all {G : Hp} {h : Heap} : ∀ {vs : List V} {ds : List D} {us : List Value}, RpA G vs ds → ds.all plain1 = true → Vals vs us → ReadsAll h us ds []
  | _, _, _, .nil, _, .nil => .nil
  | _, _, _, .cons r rs, c, .cons x xs => by
    rw [List.all_cons, Bool.and_eq_true] at c
    exact ReadsAll.cons (as := []) (bs := []) (plain1_reads c.1 r x) (plain1_all rs c.2 xs)
theorem plain2_reads {X : Cx} {pins : List (Addr × Obj)} {σ : L2.St} {G H : Hp} {s : Shared} (I : L2.Inv X pins σ H s) (gh : Same G H) {v : V} {d : D} {u : Value} (c : plain2 d = true) (r : Rp G v d) (rv : RelV v u) : Reads s.heap u d [] := by
  cases r with
  | @tup a xs ds hG hr =>
    cases (show u = Value.ref a from rv)
    obtain ⟨its, rv2, ⟨o, ho, hc, n, hd⟩, _⟩ := I.tuple (.inl (.inl (gh _ _ hG)))
    exact Reads.tuple ho hc hd (plain1_all hr c rv2)
  | non => exact plain1_reads (G := G) c .non rv
  | bl b => exact plain1_reads (G := G) c (.bl b) rv
  | int i => exact plain1_reads (G := G) c (.int i) rv
  | str z => exact plain1_reads (G := G) c (.str z) rv
  | lst _ _ => cases c
  | dct _ _ => cases c
theorem flat_all {X : Cx} {pins : List (Addr × Obj)} {σ : L2.St} {G H : Hp} {s : Shared} (I : L2.Inv X pins σ H s) (gh : Same G H) : ∀ {es : List (Key × V)} {ks : List (D × D)} {vs : List (Key × Value)} {dl : List DictEntry}, RpK G es ks → (ks.all fun kv => plain2 kv.2) = true →
    KV es vs → Pairs (mixKind X.prog X.w) dl vs → ReadsAll s.heap (dl.map (·.key)) (ks.map (·.1)) [] ∧ ReadsAll s.heap (dl.map (·.val)) (ks.map (·.2)) []
  | _, _, _, _, .nil, _, .nil, .nil => ⟨.nil, .nil⟩
  | _, _, _, _, .cons r rs, c, .cons x xs, .cons p1 p2 ps => by
    rw [List.all_cons, Bool.and_eq_true] at c
    obtain ⟨q1, q2⟩ := flat_all I gh rs c.2 xs ps
    obtain ⟨x1, x2⟩ := x
    subst x1
    refine ⟨ReadsAll.cons (as := []) (bs := []) ?_ q1, ReadsAll.cons (as := []) (bs := []) ?_ q2⟩
    · rcases keyIs_shape p1 with ⟨i, t, e1, e2⟩ | ⟨z, t, e1, e2⟩
      · dsimp only; rw [e1, e2]; exact .int i t
      · dsimp only; rw [e1, e2]; exact .str z t
    · dsimp only; rw [p2]; exact plain2_reads I gh c.1 r x2
/-- a list or a tuple of such, and of what holds no dict -/
def mixD : D → Bool
  | .list ds => ds.all fun d => d.canLay0 || flatD d
  | .tuple ds => ds.all fun d => d.canLay0 || flatD d
  | _ => false
theorem flat_reads {X : Cx} {pins : List (Addr × Obj)} {σ : L2.St} {G H : Hp} {s : Shared} (I : L2.Inv X pins σ H s) (gh : Same G H) {v : V} {d : D} {u : Value} (c : flatD d = true) (sh : Sh G H v d) (ru : RelV v u) :
    ∃ as, Reads s.heap u d as ∧ (d.hasDict = true → sysModules ∉ as) := by
  cases sh with
  | @dct a es ks hH rK =>
    cases (show u = Value.ref a from ru)
    obtain ⟨z, lo, vs, kv, o, dl, ep, h1, ⟨h2, _, _⟩, h3, _, hp, _⟩ := dk_rd I.hok (.inl hH)
    obtain ⟨q1, q2⟩ := flat_all I gh rK c kv hp
    refine ⟨_, Reads.dict (as := []) (bs := []) h1 h2 h3 q1 q2, fun _ hmem => ?_⟩
    have e : sysModules = a := List.mem_singleton.mp hmem
    rw [e] at lo
    simp at lo
  | _ => cases c
theorem item_reads {X : Cx} {pins : List (Addr × Obj)} {σ : L2.St} {G H : Hp} {s : Shared} (I : L2.Inv X pins σ H s) (gh : Same G H) {v : V} {d : D} {u : Value} (c : (d.canLay0 || flatD d) = true) (r : Rp G v d) (ru : RelV v u) :
    ∃ as, Reads s.heap u d as ∧ (d.hasDict = true → sysModules ∉ as) := by
  rw [Bool.or_eq_true] at c
  rcases c with c | c
  · obtain ⟨as, rd⟩ := Dp.reads I d v u (r.dp gh c) ru
    exact ⟨as, rd, fun z => by rw [PyData.hasDict_of_canLay _ c] at z; cases z⟩
  · exact flat_reads I gh c (r.sh gh) ru
theorem mix_all {X : Cx} {pins : List (Addr × Obj)} {σ : L2.St} {G H : Hp} {s : Shared} (I : L2.Inv X pins σ H s) (gh : Same G H) : ∀ {xs : List V} {ds : List D} {us : List Value}, RpA G xs ds → (ds.all fun d => d.canLay0 || flatD d) = true → Vals xs us → PyData.showableAll ds = true →
    (∀ t ∈ PyData.shownAll ds, t.length ≤ sizeLine) → ∃ as bs, ReadsAll s.heap us ds as ∧ ReadAtMost s.heap (PyData.depthAll ds) bs ∧ ReprAllK X.prog X.w bs s.heap (PyData.depthAll ds) us (PyData.shownAll ds)
  | _, _, _, .nil, _, .nil, _, _ => ⟨[], [], .nil, (fun _ y => nomatch y), by rw [PyData.shownAll]; exact .nil⟩
  | _, _, _, .cons (d := d) (ds := ds) r rs, c, .cons x xs, sw, sz => by
    rw [List.all_cons, Bool.and_eq_true] at c
    rw [PyData.showableAll, Bool.and_eq_true] at sw
    rw [PyData.shownAll] at sz
    obtain ⟨a1, rd1, n1⟩ := item_reads I gh c.1 r x
    obtain ⟨b1, l1, k1⟩ := ReprK.of_reads (prog := X.prog) (w := X.w) rd1 sw.1 n1 (sz _ List.mem_cons_self)
    obtain ⟨a2, b2, rd2, l2, k2⟩ := mix_all I gh rs c.2 xs sw.2 fun t ht => sz t (List.mem_cons_of_mem _ ht)
    have e1 : d.depth ≤ PyData.depthAll (d :: ds) := by rw [PyData.depthAll]; omega
    have e2 : PyData.depthAll ds ≤ PyData.depthAll (d :: ds) := by rw [PyData.depthAll]; omega
    refine ⟨a1 ++ a2, b1 ++ b2, .cons rd1 rd2, (l1.mono e1).append (l2.mono e2), ?_⟩
    rw [PyData.shownAll]
    exact .cons ((k1.more fun b hb => List.mem_append_left b2 hb).level_le e1) (k2.more_le (fun b hb => List.mem_append_right b1 hb) e2)
theorem mix_shows {X : Cx} {pins : List (Addr × Obj)} {σ : L2.St} {G H : Hp} {s : Shared} (I : L2.Inv X pins σ H s) (gh : Same G H) {v : V} {d : D} {u : Value} (c : mixD d = true) (sh : Sh G H v d) (ru : RelV v u) (sw : d.showable = true) (sz : d.shown.length ≤ sizeLine) :
    ∃ a T idr, u = .ref a ∧ ShowsBy X.prog X.w s.heap a d T idr := by
  cases sh with
  | @lst a xs ds hH rA =>
    cases (show u = Value.ref a from ru)
    obtain ⟨its, rv, ⟨o, n, ho, hc, _, hd⟩, _⟩ := I.list (.inl (.inl hH))
    rw [PyData.shown] at sz
    rw [PyData.showable] at sw
    obtain ⟨as, bs, rd, lv, kk⟩ := mix_all I gh rA c rv sw fun t ht => Nat.le_trans (listText_mem_le ht) sz
    have out : a ∉ bs := not_mem_of_deeper (.list ho hc hd rd) (by rw [PyData.depth]; omega) lv
    refine ⟨a, "list", "list.__repr__", rfl, F.slot_list_repr.toG, F.slot_list_str, F.slot_list_format, fun s2 k0 => ⟨o, k0 _ _ ho, hc⟩, fun A E s2 Q g0 g1 k0 fin => ?_⟩
    rw [PyData.depth] at g1
    rw [PyData.shown] at fin
    cases its with
    | nil =>
      cases rd
      rw [PyData.shownAll, listText_nil] at fin
      exact call_list_repr_empty ⟨o, k0 _ _ ho, hc⟩ (k0 _ _ ho) hd (fin s2.heap _ _ fun _ _ y => y)
    | cons y ys => exact call_list_reprK ho hc hd out (by simpa using kk.length_eq) (fun i z e => kk.item i z (by simpa using e)) g0 (fun b _ => Clear.nil b) g1 k0 fin sz
  | @tup a xs ds hH rA =>
    cases (show u = Value.ref a from ru)
    obtain ⟨its, rv, ⟨o, ho, hc, n, hd⟩, _⟩ := I.tuple (.inl (.inl hH))
    rw [PyData.shown] at sz
    rw [PyData.showable] at sw
    obtain ⟨as, bs, rd, lv, kk⟩ := mix_all I gh rA c rv sw fun t ht => Nat.le_trans (tupleText_mem_le ht) sz
    have out : a ∉ bs := not_mem_of_deeper (.tuple ho hc hd rd) (by rw [PyData.depth]; omega) lv
    refine ⟨a, "tuple", "tuple.__repr__", rfl, F.slot_tuple_repr, F.slot_tuple_str, F.slot_tuple_format, fun s2 k0 => ⟨o, k0 _ _ ho, hc⟩, fun A E s2 Q g0 g1 k0 fin => ?_⟩
    rw [PyData.depth] at g1
    rw [PyData.shown] at fin
    exact call_tuple_reprK ho hc hd out kk g0 (fun b _ => Clear.nil b) g1 k0 fin sz
  | _ => cases c
def okRepr (d : D) : Bool := (d.canLay0 || (flatD d || mixD d)) && d.showable && decide (d.depth ≤ 64) && decide (d.shown.length ≤ sizeLine)
def gRepr : List D → Option D
  | [d] => if okRepr d = true then some (.str d.shown) else none
  | _ => none
def rRepr (K : PySem.W.Frag) : List V → Hp → VK → Prop := fun xs H Q => ∃ x d, xs = [x] ∧ (Dp K H x d ∧ d.canLay0 = true ∨ (flatD d || mixD d) = true ∧ ∃ G, Same G H ∧ Sh G H x d) ∧ okRepr d = true ∧ Q (.str d.shown) H
theorem call_repr {X : Cx} (hG : X.A.guards = some []) (hu : X.A.units + 66 < cLine) : CallR X (.builtin "repr") (rRepr X.K) := by
  intro pins s σ H xs us Q I r h
  obtain ⟨x, d, rfl, hd, ok, q⟩ := h
  obtain ⟨u, rfl, ru⟩ := vals1 r
  simp only [okRepr, Bool.and_eq_true, decide_eq_true_eq] at ok
  obtain ⟨⟨⟨_, c2⟩, c3⟩, c4⟩ := ok
  have fin : ∀ (h' : Heap) (t : Tok) (tk : Nat), (∀ b o, s.heap.get? b = some o → h'.get? b = some o) → EP X pins σ Q (.str d.shown t) { s with heap := h', toks := tk } := fun h' t tk kk => ⟨.str d.shown, H, I.kept (t' := tk) kk, ⟨t, rfl⟩, q⟩
  rcases hd with ⟨hd, c1⟩ | ⟨c1, G, gh, sh⟩
  · obtain ⟨as, rd⟩ := Dp.reads I d x u hd ru
    cases hd with
    | non => cases (show u = Value.none from ru); exact PySem.P.repr_of_none (fin s.heap _ _ fun _ _ e => e)
    | bl b => cases (show u = Value.bool b from ru); exact PySem.P.repr_of_bool (fin s.heap _ _ fun _ _ e => e)
    | int i =>
      obtain ⟨t, rfl⟩ := (show ∃ t, u = Value.int i t from ru)
      exact PySem.P.repr_of_int (of_decide_eq_true c2) (fin s.heap _ _ fun _ _ e => e)
    | str z =>
      obtain ⟨t, rfl⟩ := (show ∃ t, u = Value.str z t from ru)
      exact PySem.P.repr_of_str (fin s.heap _ _ fun _ _ e => e) c4
    | lst hs ha =>
      cases ru
      exact PySem.repr_of_reads' rd c2 (fun z => by rw [PyData.hasDict_of_canLay _ c1] at z; cases z) hG (by omega) (fun b o e => e) (fun h' t tk kk => fin h' t tk kk) c4
    | tup hs ha =>
      cases ru
      exact PySem.repr_of_reads' rd c2 (fun z => by rw [PyData.hasDict_of_canLay _ c1] at z; cases z) hG (by omega) (fun b o e => e) (fun h' t tk kk => fin h' t tk kk) c4
  · rw [Bool.or_eq_true] at c1
    rcases c1 with c1 | c1
    · obtain ⟨as, rd, hn⟩ := flat_reads I gh c1 sh ru
      cases sh with
      | dct _ _ =>
        cases (show u = Value.ref _ from ru)
        exact PySem.repr_of_reads' rd c2 hn hG (by omega) (fun b o e => e) (fun h' t tk kk => fin h' t tk kk) c4
      | _ => cases c1
    · obtain ⟨a, T, idr, rfl, S⟩ := mix_shows I gh c1 sh ru c2 c4
      exact call_repr_slot (by omega) (S.typeIs s fun _ _ e => e) S.slotRepr (S.call X.A.in1 _ s _ hG (by show X.A.units + 1 + d.depth < cLine; omega) (fun _ _ e => e) fun h' t tk kk => ⟨_, _, rfl, fin h' t tk kk⟩)
theorem pcl_repr {K : PySem.W.Frag} : PClV (rRepr K) gRepr := by
  intro G H vs ds z Q gh s hg q
  cases s with
  | nil => cases hg
  | cons h r => cases r with
    | cons _ _ => cases hg
    | @nil =>
      simp only [gRepr] at hg
      split at hg
      · rename_i ok
        cases hg
        have ok' := ok
        simp only [okRepr, Bool.and_eq_true, Bool.or_eq_true] at ok'
        refine ⟨_, _, rfl, ?_, ok, q _ G H (Grow.refl gh) (.str _)⟩
        rcases ok'.1.1.1 with c | c
        · exact .inl ⟨h.dp gh c, c⟩
        · exact .inr ⟨by rw [Bool.or_eq_true]; exact c, G, gh, h⟩
      · cases hg
section
variable {X : Cx} {e : Expr} {es : List Expr} {pos p : Pos} {gs : M (List Pl)}
theorem pv_repr (hG : X.A.guards = some []) (hu : X.A.units + 66 < cLine) (hg : Gl X "repr") (hm : X.mg "repr" = none) (ha : PPs X (e :: es) gs) (he : starEach (e :: es) X.env = (false, eval e X.env) :: starEach es X.env := by rfl) (hpl : (backTo pos (starEach es X.env)).any (·.1) = false := by rfl) :
    PV X (.Call (.Name "repr" p) (e :: es) [] pos) (mN gRepr gs) := pv_b (call_repr hG hu) pcl_repr hg hm PyProof.Rows.boot_repr ha (he := he) (hpl := hpl)
end
end PL
namespace PL
open PySem PySem.Spec L2 RT RZ
open PyProof.Rows (AllBare)
/-! ### the end of a law -/
theorem law_callG {P : Program} {w : World} {K : PySem.W.Frag} {mg mb : Str → Option Value} {k : Nat} {fa a : Addr} {fd : FuncData} {x : Str} {sp : Sp} {s1 : Shared} {vs : List Value} {ns : List Int}
    (KX : K.In s1.heap) (hns : s1.heap.Ns mainGlobals mg) (hb : s1.heap.Ns builtinsNs mb) (hbb : ∀ x : Str, x ≠ "__name__" → mb x = bootBuiltins x) (hlim : s1.heap.NoLimit) (hg : s1.gens = #[])
    (ha : s1.heap.get? a = some { cls := .type "list", data := .seq vs.toArray }) (hi : PyProof.Rows.IntsAre vs ns) (hl : ns.length ≤ sizeLine) (hr : Room k callerA)
    (F : ∀ base : Heap, K.In base → base.Ns mainGlobals mg → FnG P w K mg base k fa fd [x] sp) (hbind : ∀ (s : Shared) (u : Value), BindsTo s fd ⟨[u], []⟩ [(x, u)])
    (hsp : ∀ H : Hp, Only H → SqL K H a (ns.map V.int) → sp [.ref a] H (fun v _ => v = .bl true) fun _ _ _ => False) :
    codeAny (model P w) callerA (.call (.ref fa) ⟨[.ref a], []⟩) (fun r s' => r = .ok (.ret (.bool true)) ∧ OldK s1.heap s'.heap ∧ s'.os = s1.os ∧ AllBare s'.gens) s1 := by
  have lenV := hi.length
  have main : ∀ H : Hp, Only H → SqL K H a (ns.map V.int) → HOk P w H s1.heap → (∀ b, H b ≠ none → b = a) → (H a ≠ none → K.lookup a = none) →
      codeAny (model P w) callerA (.call (.ref fa) ⟨[.ref a], []⟩) (fun r s' => r = .ok (.ret (.bool true)) ∧ OldK s1.heap s'.heap ∧ s'.os = s1.os ∧ AllBare s'.gens) s1 := by
    intro H hO hS hok only hK
    have nodict : ∀ {b : Addr} {o : Obj} {es : Array DictEntry} {ep : Nat}, s1.heap.get? b = some o → o.data = .dict es ep → H b = none := by
      intro b o es ep e d
      refine Classical.byContradiction fun hne => ?_
      have e' := only b hne
      subst e'
      rw [ha] at e
      cases e
      cases (show Data.seq vs.toArray _ = Data.dict es ep from d)
    have nsB : ∀ {b : Addr} {m : Str → Option Value}, s1.heap.Ns b m → (hidT s1.heap H).Ns b m := by
      rintro b m ⟨o, es, ep, e, d, r⟩
      exact ⟨o, es, ep, hidT_get e (nodict e d), d, r⟩
    have kB : K.In (hidT s1.heap H) := by
      intro b o e
      refine hidT_get (KX b o e) (Classical.byContradiction fun hne => ?_)
      have e' := only b hne
      subst e'
      rw [hK hne] at e
      cases e
    obtain ⟨mc, l1, l2⟩ := hlim
    have e0 : Env0 P w K mg (hidT s1.heap H) callerA [] s1 H :=
      { frames := rfl, mod := ⟨kB, nsB hns, ⟨mb, nsB hb, hbb⟩, ⟨mc, nsB l1, l2⟩⟩, bs := fun b o e => of_hidT e, bsz := Nat.le_of_eq (hidT_size _ _), funs := trivial, frf := (fun b hb => nomatch hb), hok := hok, bare := .of_eq hg }
    have run := (F _ kB (nsB hns)).go callerA rfl [] s1 H ⟨[.ref a], []⟩ [.ref a] [.ref a] _ _ hr e0 (hbind s1 (.ref a)) (.cons rfl .nil) (hsp H hO hS)
    refine codeAny_mono run ?_
    intro r s' h
    cases r with
    | error e => exact False.elim h
    | ok fl =>
      cases fl with
      | next => exact False.elim h
      | brk => exact False.elim h
      | cont => exact False.elim h
      | ret u =>
        obtain ⟨v, H', os, bare, un, hok', r', q⟩ := h
        cases (show v = V.bl true from q)
        cases (show u = Value.bool true from r')
        refine ⟨rfl, OldK.of_keep fun b o e => ?_, os, bare⟩
        cases q2 : H b with
        | none => exact un.keep b o e q2 (fun z => nomatch z) (fun z => nomatch z)
        | some u =>
          rcases hO b with z | ⟨ob, xs, z⟩
          · rw [q2] at z; cases z
          · have z2 := un.frzs b ob _ z
            have e1 := (hok b _ z).1
            have e2 := (hok' b _ z2).1
            rw [e] at e1
            cases e1
            exact e2
  cases hk : K.lookup a with
  | some o =>
    have e := KX a o hk
    rw [ha] at e
    cases e
    refine main (fun _ => none) (fun _ => .inl rfl) (.inr ⟨_, vs.toArray, _, hk, rfl, rfl, rfl, ?_, ?_⟩) (fun b u z => nomatch (show (none : Option HO) = some u from z)) (fun b z => absurd rfl z) (fun z => absurd rfl z)
    · rw [List.size_toArray, lenV]; exact hl
    · simpa using vals_ints hi
  | none =>
    refine main (fun b => if b = a then some (.frz { cls := .type "list", data := .seq vs.toArray } (.lst (ns.map V.int))) else none) ?_ (.inl (.inr ⟨_, if_pos rfl⟩)) ?_ ?_ (fun _ => hk)
    · intro b
      by_cases hb : b = a
      · exact .inr ⟨_, _, if_pos hb⟩
      · exact .inl (if_neg hb)
    · intro b u z
      by_cases hb : b = a
      · simp only [if_pos hb] at z
        cases z
        subst hb
        exact ⟨ha, by rw [List.length_map]; exact hl, vs, _, vals_ints hi, ha⟩
      · simp only [if_neg hb] at z
        cases z
    · intro b z
      by_cases hb : b = a
      · exact hb
      · exact absurd (if_neg hb) z
theorem walk_ofG {l : PySem.W.OpenLaw} {n k : Nat} {q : Program} {loose : List Str} {XP : (Str → Option Value) → Heap → Prop} {YP : World → Heap → Prop} {d : DefRec} {K : Params → PySem.W.Frag} {sp : World → Sp} {x : Str}
    (hn : l.most = some n) (hn2 : n ≤ sizeLine) (hdf : d.params.defaults = []) (hr : Room k callerA)
    (hY : ∀ (w : World) (h : Heap), YP w h → (K w.params).In h)
    (F : ∀ (w : World) (mg : Str → Option Value) (fa : Addr) (h : Heap), (K w.params).In h → h.Ns mainGlobals mg → mg d.name = some (.ref fa) →
      ∃ fd : FuncData, (∀ (s : Shared) (u : Value), BindsTo s fd ⟨[u], []⟩ [(x, u)]) ∧
        ∀ base : Heap, (K w.params).In base → base.Ns mainGlobals mg → FnG l.prog w (K w.params) mg base k fa fd [x] (sp w))
    (hsp : ∀ (w : World) (H : Hp) (a : Addr) (ns : List Int), ns.length ≤ n → Only H → SqL (K w.params) H a (ns.map V.int) → sp w [.ref a] H (fun v _ => v = .bl true) fun _ _ _ => False) :
    PySem.W.WalkO q loose XP YP l.row.toRowW d [] (fun f vs => PySem.call f vs) := by
  refine Att.attach_call hn hdf ?_
  intro w s0 s1 mg mb fa o pm cd doc a vs ns G Y ho hd hcd hmg hobj hints hlen hg
  have KX := hY w _ Y
  obtain ⟨fd, hb, hF⟩ := F w mg fa _ KX G.T.g hmg
  exact law_callG KX G.T.g G.T.b G.T.builtins G.T.nolimit hg hobj hints (Nat.le_trans hlen hn2) hr hF hb fun H hO hS => hsp w H a ns hlen hO hS
/-- the law's run over plain data -/
theorem law_true {K : PySem.W.Frag} {nl : Nat} {m : M Fl} {H : Hp} {a : Addr} {ns : List Int} {ρ : Env} (hS : SqL K H a (ns.map V.int)) (hm : m (.scr ns :: List.replicate nl .un) = .ok (.rt (.pl (.val (.bool true)))) ρ) :
    spD K 1 nl m [.ref a] H (fun v _ => v = .bl true) fun _ _ _ => False := by
  refine ⟨{ K := K, G0 := fun _ => none, B := H, A := fun a => H a = none, P := fun i => if i = 0 then some (.ref a) else none, S := fun _ => .scr ns }, [.scr ns], .pl (.val (.bool true)), ρ, rfl, rfl, ?_, ?_, fun v G' σ' H' g S o => ?_⟩
  · refine ⟨(fun b u z => nomatch z), Same.refl _, Same.refl _, fun b z => z, fun b z => absurd rfl z, fun i v z => ?_, rfl, fun i s e => ?_, fun i j b hi hj => ?_⟩
    · by_cases hi : i = 0
      · have z' : some (V.ref a) = some v := by rw [← z]; exact (if_pos hi).symm
        cases z'
        exact ⟨a, rfl, hS⟩
      · have z' : none = some v := by rw [← z]; exact (if_neg hi).symm
        cases z'
    · cases i with
      | zero => cases e; exact ⟨_, rfl, _, rfl, rfl, rfl⟩
      | succ i => cases e
    · obtain ⟨_, s, e, z⟩ := hi
      cases i with
      | zero => cases e; cases z
      | succ i => cases e
  · unfold runD
    show (match m (.scr ns :: List.replicate nl .un) with
      | .ok (.rt r) ρ => some (r, ρ)
      | .ok .nx ρ => some (.pl (.val .none), ρ)
      | _ => none) = _
    rw [hm]
  · have o' : Rp G' v (.bool true) := o
    cases o'
    rfl
end PL
namespace PL
open PySem PySem.Spec L2 RT RZ
/-! ### truth -/
def truD : D → Option Bool
  | .none => some false
  | .bool b => some b
  | .int i => some (i != 0)
  | .str s => if s.length ≤ 100000 then some ((s.length : Int) != 0) else none
  | .list ds => some (!ds.isEmpty)
  | .tuple ds => some (!ds.isEmpty)
  | .dict _ => none
def mTr (f : M Pl) : M Bool := mUn truD f
theorem isE {G : Hp} {xs : List V} {ds : List D} (r : RpA G xs ds) : (!ds.isEmpty) = !xs.isEmpty := by cases r <;> rfl
theorem tru_ok' {K : PySem.W.Frag} {G H : Hp} {v : V} {d : D} {k : Bool} (h : Sh G H v d) (e : truD d = some k) : TruV K v H k := by
  cases h with
  | non => cases e; rfl
  | bl b => cases e; rfl
  | int i => cases e; rfl
  | str s =>
    simp only [truD] at e
    split at e
    · rename_i hl; cases e; exact ⟨line_of hl, rfl⟩
    · cases e
  | lst h r => cases e; exact .inl ⟨_, .inl (.inl h), isE r⟩
  | tup h r => cases e; exact .inr (.inl ⟨_, .inl (.inl h), isE r⟩)
  | dct h r => cases e
section
variable {X : Cx} {e a b c tg elt iter : Expr} {es ifs : List Expr} {pos pos' tpos p p1 p2 p3 apos cpos : Pos} {f fa fb fe : M D} {g ga gb : M Pl} {gs : M (List Pl)} {k : M Rv} {x : Str}
theorem ptt_truth (h : PP X e g) (he : ∀ whole, isTrue e X.env whole = (do let v ← whole; standAt e.pos; holding [v] (truthy v)) := by intro _; rfl) : PTt X e (mTr g) := by
  obtain ⟨t, h, r⟩ := h
  refine ⟨_, pt_truth h he, fun C G σ H ρ Q hK S k ρ' hf q => ?_⟩
  obtain ⟨pl, ρ1, h1, hf2⟩ := bnd_ok hf
  obtain ⟨d, ρ2, h2, hf3⟩ := bnd_ok hf2
  refine r C G σ H ρ _ hK S pl ρ1 h1 fun v G1 H1 g1 S1 o => ?_
  obtain ⟨s, rfl⟩ := look_ok S1 o h2
  obtain ⟨ek, rfl⟩ := ofO_ok hf3
  exact ⟨k, tru_ok' s ek, q G1 H1 g1 S1⟩
/-! ### xs[::-1] -/
def gRevs : D → Option D
  | .list ds => some (.list ds.reverse)
  | _ => none
theorem pf_revs {kk : Nat} (h : PP X e g) : PF X (.Subscript e (.Slice none none (some (.UnaryOp .USub (.Constant (.int 1) kk p1) p2)) p3) pos) (mFr (mUn gRevs g)) := by
  obtain ⟨t, h, r⟩ := h
  refine ⟨_, pe_revL h, fun C G σ H ρ Q hK S d ρ' hf q => ?_⟩
  obtain ⟨d0, ρ0, hf0, h0⟩ := bnd_ok hf
  cases h0
  obtain ⟨pl, ρ1, h1, hf2⟩ := bnd_ok hf0
  obtain ⟨d1, ρ2, h2, hf3⟩ := bnd_ok hf2
  refine r C G σ H ρ _ hK S pl ρ1 h1 fun v G1 H1 g1 S1 o => ?_
  obtain ⟨s, rfl⟩ := look_ok S1 o h2
  obtain ⟨ek, rfl⟩ := ofO_ok hf3
  cases s with
  | @lst a xs ds ha ra =>
    cases ek
    refine ⟨a, xs, rfl, .inl (.inl ha), fun p hp => ?_⟩
    have w := Grow.newF (o := .lst xs.reverse) S1.gh hp
    exact q _ G1 _ g1 (S1.grow w) (fresh_ok S1 hp w (.lst upd_same ra.reverse))
  | _ => cases ek
/-! ### methods of lists that change nothing -/
def isL : D → Option D
  | .list ds => some (.list ds)
  | _ => none
def mMeth (g' : D → List D → Option D) (fo : M Pl) (fs : M (List Pl)) : M D := bnd fo fun p => bnd (look p) fun d0 => bnd (ofO (isL d0)) fun _ => bnd fs fun ps => bnd (look p) fun d => bnd (lookAll ps) fun ds => ofO (g' d ds)
def PMeth (r : V → List V → Hp → VK → Prop) (g : D → List D → Option D) : Prop := ∀ (G H : Hp) (v : V) (d : D) (vs : List V) (ds : List D) (z : D) (Q : VK), Same G H → Sh G H v d → ShA G H vs ds → g d ds = some z → (∀ v G' H', Grow G H G' H' → Rp G' v z → Q v H') → r v vs H Q
theorem pv_meth {name : Str} {id : String} {r : V → List V → Hp → VK → Prop} {g' : D → List D → Option D} (slot : Slot "list" name id) (hty : typeOf (.builtin id) = pure (.type "method_descriptor")) (hm : MtR X id r) (hp : PMeth r g') (ho : PP X a ga) (ha : PPs X (e :: es) gs)
    (hbase : attributeBase a name X.env (eval a X.env) = eval a X.env := by rfl)
    (hfew : ((backTo cpos (starEach (e :: es) X.env)).all (fun x => !x.1) && (backToKw cpos (keywordEach [] X.env)).all (fun x => x.1.isSome)
      && decide ((e :: es).length + ([] : List Keyword).length + (if ([] : List Keyword).isEmpty then 0 else 1) < 30)) = true := by rfl)
    (hline : (apos.endLine == cpos.line) = true := by rfl) (hs : starEach (e :: es) X.env = (false, eval e X.env) :: starEach es X.env := by rfl) (hplain : (backTo cpos (starEach es X.env)).any (·.1) = false := by rfl) :
    PV X (.Call (.Attribute a name apos) (e :: es) [] cpos) (mMeth g' ga gs) := by
  obtain ⟨to, ho, ro⟩ := ho
  obtain ⟨ta, ha, ra⟩ := ha
  refine ⟨_, pe_bm PySem.F.plainAttrs_list slot hty hm ho ha hbase hfew hline hs hplain, fun C G σ H ρ Q hK S z ρ' hf q => ?_⟩
  obtain ⟨pl, ρ1, h1, hf2⟩ := bnd_ok hf
  obtain ⟨d0, ρ2, h2, hf3⟩ := bnd_ok hf2
  obtain ⟨d1, ρ3, h3, hf4⟩ := bnd_ok hf3
  obtain ⟨ps, ρ4, h4, hf5⟩ := bnd_ok hf4
  obtain ⟨d, ρ5, h5, hf6⟩ := bnd_ok hf5
  obtain ⟨ds, ρ6, h6, hf7⟩ := bnd_ok hf6
  refine ro C G σ H ρ _ hK S pl ρ1 h1 fun v G1 H1 g1 S1 o1 => ?_
  obtain ⟨s0, rfl⟩ := look_ok S1 o1 h2
  obtain ⟨e3, rfl⟩ := ofO_ok h3
  refine ⟨?_, ?_⟩
  · cases s0 with
    | lst ha2 _ => exact Or.inl ⟨rfl, _, Or.inl (Or.inl ha2)⟩
    | _ => cases e3
  · refine ra C G1 σ H1 _ _ hK S1 ps ρ4 h4 fun vs G2 H2 g2 S2 o2 => ?_
    obtain ⟨s1, rfl⟩ := look_ok S2 (o1.mono g2) h5
    obtain ⟨s2, rfl⟩ := lookAll_ok S2 o2 h6
    obtain ⟨e7, rfl⟩ := ofO_ok hf7
    exact hp G2 H2 v d vs ds z Q S2.gh s1 s2 e7 fun v G' H' w rr => q v G' H' ((g1.trans g2).trans w.g) (S2.grow w) rr
def rCountD (K : PySem.W.Frag) : V → List V → Hp → VK → Prop := fun x xs H Q => ∃ (a : Addr) (y : V) (d : PyData) (ds : List PyData), x = V.ref a ∧ xs = [y] ∧ Dp K H (V.ref a) (.list ds) ∧ Dp K H y d ∧
  SeqAt.shaped (.list ds) = true ∧ SeqAt.shaped d = true ∧ Q (.int ((ds.countP fun z => PyData.eqv z d : Nat) : Int)) H
theorem room_shaped {A : Around} {ds : List PyData} {d : PyData} (h : SeqAt.shaped d = true) (hu : A.units + 65 < cLine) : A.units + 1 + min (PyData.depthAll ds) d.depth < cLine := by
  have h1 := SeqAt.depth_of_shaped h
  have h2 : min (PyData.depthAll ds) d.depth ≤ d.depth := Nat.min_le_right _ _
  omega
theorem mt_countD (hu : X.A.units + 65 < cLine) : MtR X "list.count" (rCountD X.K) := by
  intro pins s σ H x xs v us Q I rx rxs h
  obtain ⟨a, y, d, ds, rfl, rfl, hl, hy, sl, sd, q⟩ := h
  cases rx
  obtain ⟨uy, rfl, ry⟩ := vals1 rxs
  obtain ⟨bs, r1⟩ := Dp.reads I d y uy hy ry
  have hxs : PyData.canLayAll0 ds = true := SeqAt.canLay_of_shaped sl
  cases hl with
  | lst hs ha =>
    obtain ⟨its, rv, ⟨⟨cls, dd, data, sls⟩, n, ho, hc, hdn, hdt⟩, hlen⟩ := I.list hs
    simp only at hc hdt
    subst hc hdt
    obtain ⟨as, h4⟩ := Dp.readsAll I ds _ its ha rv
    have hmap : its.map (SeqAt.readOf s.heap) = ds := SeqAt.readsAll_map ds its as hxs h4
    refine call_meets PySem.F.slot_list_count ⟨_, ho, rfl⟩ PySem.F.entry_list_count (PySem.F.args_list_count_2 _ _)
      (SeqAt.list_countAt a its.toArray n dd sls uy (fun u => PyData.eqv (SeqAt.readOf s.heap u) d)) ⟨ho, SeqAt.items_eqAt (vs := its.toArray) (show ReadsAll s.heap its.toArray.toList ds as from h4) r1 hxs (SeqAt.canLay_of_shaped sd) (room_shaped sd hu), ?_⟩
    have ec : its.toArray.toList.countP (fun u => PyData.eqv (SeqAt.readOf s.heap u) d) = ds.countP fun z => PyData.eqv z d := by
      rw [← hmap, List.countP_map]; rfl
    refine ⟨.int ((ds.countP fun z => PyData.eqv z d : Nat) : Int), H, I.tok _, ⟨s.toks, ?_⟩, q⟩
    rw [ec]
def gCount (d : D) (as : List D) : Option D := match d, as with
  | .list ds, [z] => if (SeqAt.shaped (.list ds) && SeqAt.shaped z) = true then some (.int ((ds.countP fun w => PyData.eqv w z : Nat) : Int)) else none
  | _, _ => none
theorem pmeth_count {K : PySem.W.Frag} : PMeth (rCountD K) gCount := by
  intro G H v d vs ds z Q gh s sa hg q
  cases s with
  | @lst a xs es h r =>
    cases sa with
    | nil => cases hg
    | cons h2 r2 => cases r2 with
      | cons _ _ => cases hg
      | nil =>
        simp only [gCount] at hg
        split at hg
        · rename_i ok
          cases hg
          rw [Bool.and_eq_true] at ok
          exact ⟨a, _, _, es, rfl, rfl, Sh.dp gh (.lst h r) (SeqAt.canLay_of_shaped ok.1), h2.dp gh (SeqAt.canLay_of_shaped ok.2), ok.1, ok.2, q _ G H (Grow.refl gh) (.int _)⟩
        · cases hg
  | _ => cases hg
theorem pv_count (hu : X.A.units + 65 < cLine) (ho : PP X a ga) (ha : PPs X (e :: es) gs) (hbase : attributeBase a "count" X.env (eval a X.env) = eval a X.env := by rfl)
    (hfew : ((backTo cpos (starEach (e :: es) X.env)).all (fun x => !x.1) && (backToKw cpos (keywordEach [] X.env)).all (fun x => x.1.isSome)
      && decide ((e :: es).length + ([] : List Keyword).length + (if ([] : List Keyword).isEmpty then 0 else 1) < 30)) = true := by rfl)
    (hline : (apos.endLine == cpos.line) = true := by rfl) (hs : starEach (e :: es) X.env = (false, eval e X.env) :: starEach es X.env := by rfl) (hplain : (backTo cpos (starEach es X.env)).any (·.1) = false := by rfl) :
    PV X (.Call (.Attribute a "count" apos) (e :: es) [] cpos) (mMeth gCount ga gs) := pv_meth PySem.F.slot_list_count PySem.F.type_list_count (mt_countD hu) pmeth_count ho ha hbase hfew hline hs hplain
end
theorem tsNil_len : ∀ (ds : List D) (ρ ρ' : Env), tsNil ds ρ = .ok () ρ' → ds.length = 0
  | [], _, _, _ => rfl
  | _ :: _, _, _, h => nomatch h
theorem tsCons_len {t : D → M Unit} {u : List D → M Unit} {n : Nat} (hu : ∀ (ds : List D) (ρ ρ' : Env), u ds ρ = .ok () ρ' → ds.length = n) : ∀ (ds : List D) (ρ ρ' : Env), tsCons t u ds ρ = .ok () ρ' → ds.length = n + 1
  | [], _, _, h => nomatch h
  | d :: ds, ρ, ρ', h => by
    obtain ⟨_, ρ1, _, h2⟩ := bnd_ok h
    rw [List.length_cons, hu ds ρ1 ρ' h2]
abbrev gAddI : D → D → Option D := onInts0 fun i j => .int (i + j)
theorem pop_ip {f : Int → Int → Int} : POpV (ipI f) (onInts0 fun i j => .int (f i j)) := by
  intro G H x y d e z Q gh s1 s2 hg q
  cases s1 with
  | int i =>
    cases s2 with
    | int j => cases hg; exact ⟨i, j, rfl, rfl, q _ G H (Grow.refl gh) (.int _)⟩
    | _ => cases hg
  | _ => cases hg
theorem _root_.L2.Room.u65 {k : Nat} {A : Around} (r : Room k A) : A.units + 65 < cLine := by have := r.un; omega
theorem _root_.L2.Room.u66 {k : Nat} {A : Around} (r : Room k A) : A.units + 66 < cLine := by have := r.un; omega
end PL
namespace PL
open PySem PySem.Spec L2 RT RZ
/-! ### running the mirror -/
theorem bnd_eq {α β : Type} {f : M α} {g : α → M β} {ρ ρ1 : Env} {a : α} (h : f ρ = .ok a ρ1) : bnd f g ρ = g a ρ1 := by unfold bnd; rw [h]
theorem mSeq_nx {a b : M Fl} {ρ ρ1 : Env} (h : a ρ = .ok .nx ρ1) : mSeq a b ρ = b ρ1 := by unfold mSeq; rw [bnd_eq h]
theorem mSeq_rt {a b : M Fl} {ρ ρ1 : Env} {r : Rv} (h : a ρ = .ok (.rt r) ρ1) : mSeq a b ρ = .ok (.rt r) ρ1 := by unfold mSeq; rw [bnd_eq h]; rfl
theorem mFor_ok {f : M (List D)} {t : D → M Unit} {b : M Fl} {ρ ρ1 : Env} {ds : List D} (h : f ρ = .ok ds ρ1) : mFor f t b ρ = forGo t b ds ρ1 := by unfold mFor; rw [bnd_eq h]
/-- a loop by its invariant -/
theorem forGo_inv {t : D → M Unit} {b : M Fl} (I : List D → Env → Prop) : ∀ (ds done : List D) (ρ : Env), I done ρ →
    (∀ (pre : List D) (d : D) (ρ : Env), d ∈ ds → pre.length < done.length + ds.length → I pre ρ → ∃ ρ1 ρ2 fl, t d ρ = .ok () ρ1 ∧ b ρ1 = .ok fl ρ2 ∧ (fl = .nx ∨ fl = .ct) ∧ I (pre ++ [d]) ρ2) →
    (∀ pre ρ, I pre ρ → done.length ≤ pre.length → True) → ∃ ρ', forGo t b ds ρ = .ok .nx ρ' ∧ I (done ++ ds) ρ'
  | [], done, ρ, h0, _, _ => ⟨ρ, rfl, by rw [List.append_nil]; exact h0⟩
  | d :: ds, done, ρ, h0, hs, ht => by
    obtain ⟨ρ1, ρ2, fl, e1, e2, hf, h1⟩ := hs done d ρ List.mem_cons_self (by rw [List.length_cons]; omega) h0
    obtain ⟨ρ', e3, h3⟩ := forGo_inv I ds (done ++ [d]) ρ2 h1 (fun pre d' ρ hd hl hi => hs pre d' ρ (List.mem_cons_of_mem _ hd) (by rw [List.length_append, List.length_cons, List.length_nil] at hl; rw [List.length_cons]; omega) hi) fun _ _ _ _ => trivial
    refine ⟨ρ', ?_, by rw [List.append_assoc] at h3; exact h3⟩
    show bnd (t d) (fun _ => bnd b fun fl => match fl with
      | .nx => forGo t b ds
      | .ct => forGo t b ds
      | .bk => ret .nx
      | .rt r => ret (.rt r)) ρ = _
    rw [bnd_eq e1, bnd_eq e2]
    rcases hf with rfl | rfl <;> exact e3
theorem forGo_by {t : D → M Unit} {b : M Fl} (I : List D → Env → Prop) {ds : List D} {ρ : Env} (h0 : I [] ρ)
    (hs : ∀ (pre : List D) (d : D) (ρ : Env), d ∈ ds → pre.length < ds.length → I pre ρ → ∃ ρ1 ρ2 fl, t d ρ = .ok () ρ1 ∧ b ρ1 = .ok fl ρ2 ∧ (fl = .nx ∨ fl = .ct) ∧ I (pre ++ [d]) ρ2) : ∃ ρ', forGo t b ds ρ = .ok .nx ρ' ∧ I ds ρ' := by
  have := forGo_inv I ds [] ρ h0 (fun pre d ρ hd hl => hs pre d ρ hd (by simpa using hl)) fun _ _ _ _ => trivial
  simpa using this
/-- a comprehension whose items are a function of what is gone through, the names as they were -/
theorem lcGo_map {t : D → M Unit} {vs : List Nat} {c : M Bool} {fe : M D} {φ : D → D} {ρ0 : Env} : ∀ (ds acc : List D),
    (∀ d ∈ ds, ∃ ρ1 ρ2 ρ3, t d ρ0 = .ok () ρ1 ∧ c ρ1 = .ok true ρ2 ∧ fe ρ2 = .ok (φ d) ρ3 ∧ wipeE ρ3 vs = ρ0) → acc.length + ds.length ≤ 100000 → lcGo t vs c fe acc ds ρ0 = .ok (acc ++ ds.map φ) ρ0
  | [], acc, _, _ => by rw [List.map_nil, List.append_nil]; rfl
  | d :: ds, acc, h, hl => by
    obtain ⟨ρ1, ρ2, ρ3, e1, e2, e3, e4⟩ := h d List.mem_cons_self
    rw [List.length_cons] at hl
    show bnd (t d) (fun _ => bnd c fun k => if k = true then bnd fe fun y => if acc.length < 100000 then fun ρ => lcGo t vs c fe (acc ++ [y]) ds (wipeE ρ vs) else fun _ => .stuck
      else fun ρ => lcGo t vs c fe acc ds (wipeE ρ vs)) ρ0 = _
    rw [bnd_eq e1, bnd_eq e2, if_pos rfl, bnd_eq e3, if_pos (by omega), e4, lcGo_map ds (acc ++ [φ d]) (fun d' hd => h d' (List.mem_cons_of_mem _ hd)) (by rw [List.length_append, List.length_cons, List.length_nil]; omega), List.map_cons, List.append_assoc]
    rfl
/-- a comprehension by an invariant of what is made -/
theorem lcGo_inv {t : D → M Unit} {vs : List Nat} {c : M Bool} {fe : M D} (I : List D → Env → Prop) : ∀ (ds acc : List D) (ρ : Env), I acc ρ →
    (∀ (pre : List D) (d : D) (ρ : Env), d ∈ ds → pre.length < acc.length + ds.length → I pre ρ → ∃ ρ1 ρ2 ρ3 y, t d ρ = .ok () ρ1 ∧ c ρ1 = .ok true ρ2 ∧ fe ρ2 = .ok y ρ3 ∧ I (pre ++ [y]) (wipeE ρ3 vs)) →
    acc.length + ds.length ≤ 100000 → ∃ out ρ', lcGo t vs c fe acc ds ρ = .ok out ρ' ∧ I out ρ' ∧ out.length = acc.length + ds.length
  | [], acc, ρ, h0, _, _ => ⟨acc, ρ, rfl, h0, rfl⟩
  | d :: ds, acc, ρ, h0, hs, hl => by
    obtain ⟨ρ1, ρ2, ρ3, y, e1, e2, e3, h1⟩ := hs acc d ρ List.mem_cons_self (by rw [List.length_cons]; omega) h0
    rw [List.length_cons] at hl
    obtain ⟨out, ρ', e4, h4, h5⟩ := lcGo_inv I ds (acc ++ [y]) (wipeE ρ3 vs) h1 (fun pre d' ρ hd hl' hi => hs pre d' ρ (List.mem_cons_of_mem _ hd) (by rw [List.length_append, List.length_cons, List.length_nil] at hl'; rw [List.length_cons]; omega) hi)
      (by rw [List.length_append, List.length_cons, List.length_nil]; omega)
    refine ⟨out, ρ', ?_, h4, by rw [h5, List.length_append, List.length_cons, List.length_nil, List.length_cons]; omega⟩
    show bnd (t d) (fun _ => bnd c fun k => if k = true then bnd fe fun y => if acc.length < 100000 then fun ρ => lcGo t vs c fe (acc ++ [y]) ds (wipeE ρ vs) else fun _ => .stuck
      else fun ρ => lcGo t vs c fe acc ds (wipeE ρ vs)) ρ = _
    rw [bnd_eq e1, bnd_eq e2, if_pos rfl, bnd_eq e3, if_pos (by omega)]
    exact e4
theorem mLc_ok {fi : M (List D)} {t : D → M Unit} {vs : List Nat} {c : M Bool} {fe : M D} {ρ ρ1 ρ2 : Env} {ds out : List D} (h1 : fi ρ = .ok ds ρ1) (h2 : lcGo t vs c fe [] ds (wipeE ρ1 vs) = .ok out ρ2) : mLc fi t vs c fe ρ = .ok (.fr (.list out)) (restE ρ1 ρ2 vs) := by
  unfold mLc
  rw [bnd_eq h1]
  simp only [h2]
theorem evalD_of {ms : List Md} {nl : Nat} {body : M Fl} {ss ρ' : Env} {r r' : Rv} (h1 : runD nl body ss = some (r, ρ')) (h2 : resR ρ' r = some r') : evalD ms nl body ss = some (r', ρ'.take ms.length) := by
  unfold evalD
  rw [h1]
  simp only [h2]
theorem shaped_int (i : Int) : SeqAt.shaped (.int i) = true := rfl
theorem shaped_bool (b : Bool) : SeqAt.shaped (.bool b) = true := rfl
theorem shaped_none : SeqAt.shaped .none = true := rfl
end PL
namespace L2
open PySem PySem.Spec PyProof.Rows HT
section
variable {prog : Program} {w : World} {A : Around} {E : Value → Shared → Prop} {s : Shared}
theorem getItem_tuple_whole {t sl : Addr} {items : Array Value} {vl vu : Value} {lo hi : Option Int} {Q : Value → Shared → Prop} (ht : IsTup s.heap t items) (hs : s.heap.IsSliceOf sl vl vu .none) (pl : IsPart vl lo) (pu : IsPart vu hi)
    (hw : sIx items.size 0 lo = 0 ∧ sIx items.size items.size hi = items.size) (h : Q (.ref t) s) : wpAny (model prog w) A (getItem (.ref t) (.ref sl)) Q E s := by
  obtain ⟨os, hos, hcs, hds⟩ := id hs
  have hTs : s.TypeIs (.ref sl) "slice" := ⟨os, hos, hcs⟩
  unfold getItem
  try with_reducible refine wpAny_holding ?_
  first | refine wpAny_bind (wpAny_pure ?_) | skip
  refine wpAny_bind (wpAny_sequenceKey ht.typeIs (by decide) ?_)
  refine wpAny_bind (wpAny_callSpecial?_slot (name := Str.ofString "__getitem__") ht.typeIs PyProof.Rows.slot_tuple_getitem
    (wpAny_call_entry PyProof.Rows.slot_tuple_getitem ht.typeIs entry_tuple_getitem ?_ (args_tuple_getitem _ _)))
  show wpAny _ _ (Builtin.Tuple.tupleItemsOf (.ref t) >>= _) _ _ s
  refine wpAny_bind (tupleItemsOf_ ht ?_)
  refine wpAny_bind (wpAny_typeOf hTs ?_)
  rw [if_pos (by decide)]
  refine wpAny_bind (sliceApplied_gen hs pl pu ?_)
  have hno : ((((sIx items.size 0 lo : Nat) : Int) == 0 && (1 : Int) == 1 && (sIx items.size items.size hi - sIx items.size 0 lo) == items.size) = true) := by
    rw [hw.1, hw.2]; simp
  show wpAny _ _ (if (((sIx items.size 0 lo : Nat) : Int) == 0 && (1 : Int) == 1 && (sIx items.size items.size hi - sIx items.size 0 lo) == items.size) = true then _ else _) _ _ s
  rw [if_pos hno]
  unfold Builtin.Tuple.tupleIsExact
  refine wpAny_bind (wpAny_bind (wpAny_typeOf ht.typeIs (wpAny_pure ?_)))
  rw [if_pos (by decide)]
  exact wpAny_bind (wpAny_rule (wpAny_pure ⟨_, rfl, wpAny_pure h⟩))
end
/-- the whole of a tuple is the tuple itself -/
def rSlTW (K : PySem.W.Frag) : V → Option Int → Option Int → Hp → VK → Prop := fun x lo hi H Q => ∃ a xs, x = .ref a ∧ SqT K H a xs ∧
  (HT.sIx xs.length 0 lo = 0 ∧ HT.sIx xs.length xs.length hi = xs.length) ∧ Q x H
theorem sl_tupW {X : Cx} : SlR X (rSlTW X.K) := by
  intro pins s σ H x v vl vu lo hi sl Q I rx hs pl pu h
  obtain ⟨a, xs, rfl, hx, hw, q⟩ := h
  cases rx
  obtain ⟨its, r, ht, hz⟩ := I.tuple hx
  have hlen : its.toArray.size = xs.length := by rw [List.size_toArray]; exact r.length.symm
  refine ⟨"tuple", _, PyProof.Rows.slot_tuple_getitem.lookup, ht.typeIs, ?_⟩
  exact getItem_tuple_whole ht hs pl pu (by rw [hlen]; exact hw) ⟨.ref a, H, I, rfl, q⟩
end L2
namespace PL
open PySem PySem.Spec L2
/-- a slice as a thing that is looked at: of a whole tuple the tuple itself -/
def sliceW (d : D) (lo hi : Option Int) : Option (Bool × D) := match d with
  | .list ds => some (false, .list (cutD ds lo hi))
  | .tuple ds => if HT.sIx ds.length 0 lo = 0 ∧ HT.sIx ds.length ds.length hi = ds.length then some (true, .tuple ds) else some (false, .tuple (cutD ds lo hi))
  | _ => none
def mSliceP (g : M Pl) (lo hi : Option (M D)) : M Pl := bnd g fun p => bnd (mOpt lo) fun l => bnd (mOpt hi) fun h => bnd (look p) fun d => bnd (ofO (sliceW d l h)) fun bz => ret (if bz.1 = true then p else .val bz.2)
theorem sliceW_t {d z : D} {lo hi : Option Int} (h : sliceW d lo hi = some (true, z)) : d = z := by
  unfold sliceW at h
  cases d with
  | tuple ds => simp only at h; split at h <;> cases h; rfl
  | list ds => cases h
  | _ => cases h
section
variable {X : Cx} {e : Expr} {pos p2 : Pos} {g : M Pl}
theorem pp_slice {lo hi : Option Expr} {fl fh : Option (M D)} (h : PP X e g) (hl : POt X lo (mOpt fl)) (hh : POt X hi (mOpt fh)) : PP X (.Subscript e (.Slice lo hi none p2) pos) (mSliceP g fl fh) := by
  obtain ⟨t, h, r⟩ := h
  obtain ⟨tl, hl, rl⟩ := hl
  obtain ⟨th, hh, rh⟩ := hh
  refine ⟨_, pe_slice (slR_or sl_list (slR_or sl_tup sl_tupW)) h hl hh, fun C G σ H ρ Q hK S d ρ' hf q => ?_⟩
  obtain ⟨pl, ρ1, h1, hf2⟩ := bnd_ok hf
  obtain ⟨l, ρ2, h2, hf3⟩ := bnd_ok hf2
  obtain ⟨u, ρ3, h3, hf4⟩ := bnd_ok hf3
  obtain ⟨dd, ρ4, h4, hf5⟩ := bnd_ok hf4
  obtain ⟨bz, ρ5, h5, hf6⟩ := bnd_ok hf5
  cases hf6
  refine r C G σ H ρ _ hK S pl ρ1 h1 fun v G1 H1 g1 S1 o1 => ?_
  refine rl C G1 σ H1 ρ1 _ hK S1 l ρ2 h2 fun G2 H2 g2 S2 => ?_
  refine rh C G2 σ H2 ρ2 _ hK S2 u ρ3 h3 fun G3 H3 g3 S3 => ?_
  have o3 := (o1.mono g2).mono g3
  obtain ⟨s, rfl⟩ := look_ok S3 o3 h4
  obtain ⟨es, rfl⟩ := ofO_ok h5
  have gg := (g1.trans g2).trans g3
  cases s with
  | @lst a xs ds ha ra =>
    cases es
    refine .inl ⟨a, xs, rfl, .inl (.inl ha), fun p hp => ?_⟩
    have w := Grow.newF (o := .lst (cutV xs l u)) S3.gh hp
    obtain ⟨_, ep, sh, gn, bn, aa, no⟩ := fresh_ok S3 hp w (.lst upd_same (cut_rp ra))
    cases ep
    obtain ⟨G4, g4, S4, r4⟩ := (S3.grow w).freezeF sh gn aa no
    exact q _ G4 _ (gg.trans g4) S4 r4
  | @tup a xs ds ha ra =>
    simp only [sliceW] at es
    by_cases hw : HT.sIx ds.length 0 l = 0 ∧ HT.sIx ds.length ds.length u = ds.length
    · rw [if_pos hw] at es; cases es
      refine .inr (.inr ⟨a, xs, rfl, .inl (.inl ha), by rw [ra.length]; exact hw, ?_⟩)
      exact q _ G3 _ gg S3 o3
    · rw [if_neg hw] at es; cases es
      refine .inr (.inl ⟨a, xs, rfl, .inl (.inl ha), by rw [ra.length]; exact hw, fun p hp => ?_⟩)
      have w := Grow.new (o := .tup (cutV xs l u)) S3.gh hp
      exact q _ _ _ (gg.trans w.g) (S3.grow w) (.tup upd_same ((cut_rp ra).mono w.g))
  | _ => cases es
end
end PL
namespace PL
open PySem PySem.Spec L2 RT RZ
/-! ### more of lists: pop(i), extend, max, min -/
def gPopAt (ds as : List D) : Option (List D × D) := match as with
  | [.int i] => match ixN ds.length i with
    | some k => match ds[k]? with
      | some y => if -(2 ^ 63) ≤ i ∧ i < 2 ^ 63 then some (ds.eraseIdx k, y) else none
      | none => none
    | none => none
  | _ => none
theorem RpA.eraseIdx {G : Hp} : ∀ {vs : List V} {ds : List D} (n : Nat), RpA G vs ds → RpA G (vs.eraseIdx n) (ds.eraseIdx n)
  | _, _, _, .nil => .nil
  | _, _, 0, .cons _ r => r
  | _, _, n + 1, .cons h r => .cons h (RpA.eraseIdx n r)
theorem pmut_popAt : PMut rPopAt gPopAt := by
  intro G H l vs ds as ads new z Q gh hl r ra hg q
  cases ra with
  | nil => cases hg
  | cons h rr => cases rr with
    | cons _ _ => cases h <;> cases hg
    | nil => cases h with
      | int i =>
        simp only [gPopAt] at hg
        cases e : ixN ds.length i with
        | none => rw [e] at hg; cases hg
        | some k =>
          rw [e] at hg
          simp only at hg
          cases e2 : ds[k]? with
          | none => rw [e2] at hg; cases hg
          | some y =>
            rw [e2] at hg
            simp only at hg
            split at hg
            · rename_i hi
              cases hg
              obtain ⟨v, hv, rv⟩ := r.get e2
              exact ⟨l, vs, i, k, v, rfl, rfl, hl, hi.1, hi.2, by rw [r.length]; exact (ixN_seq e).1, hv, q _ _ (r.eraseIdx k) rv⟩
            · cases hg
      | _ => cases hg
def gExtend (ds as : List D) : Option (List D × D) := match as with
  | [.list es] => if ds.length + es.length ≤ 100000 then some (ds ++ es, .none) else none
  | _ => none
theorem pmut_extend : PMut rExtend gExtend := by
  intro G H l vs ds as ads new z Q gh hl r ra hg q
  cases ra with
  | nil => cases hg
  | cons h rr => cases rr with
    | cons _ _ => cases h <;> cases hg
    | nil => cases h with
      | @lst b xs es hb rb =>
        simp only [gExtend] at hg
        split at hg
        · rename_i hlt
          cases hg
          exact ⟨l, b, vs, xs, rfl, rfl, hl, gh _ _ hb, by rw [r.length, rb.length]; exact line_of hlt, q _ _ (r.append rb) .non⟩
        · cases hg
      | _ => cases hg
def maxI : List Int → Int
  | [] => 0
  | [n] => n
  | n :: m :: ns => if maxI (m :: ns) ≤ n then n else maxI (m :: ns)
def minI : List Int → Int
  | [] => 0
  | [n] => n
  | n :: m :: ns => if n ≤ minI (m :: ns) then n else minI (m :: ns)
theorem maxI_mem : ∀ (ns : List Int), ns ≠ [] → maxI ns ∈ ns
  | [], h => absurd rfl h
  | [n], _ => List.mem_cons_self
  | n :: m :: ns, _ => by
    have := maxI_mem (m :: ns) (by simp)
    simp only [maxI]
    split
    · exact List.mem_cons_self
    · exact List.mem_cons_of_mem _ this
theorem maxI_le : ∀ (ns : List Int) (x : Int), x ∈ ns → x ≤ maxI ns
  | [], _, h => nomatch h
  | [n], x, h => by rw [List.mem_singleton] at h; subst h; exact Int.le_refl _
  | n :: m :: ns, x, h => by
    simp only [maxI]
    rcases List.mem_cons.mp h with rfl | h
    · split <;> omega
    · have := maxI_le (m :: ns) x h
      split <;> omega
theorem minI_mem : ∀ (ns : List Int), ns ≠ [] → minI ns ∈ ns
  | [], h => absurd rfl h
  | [n], _ => List.mem_cons_self
  | n :: m :: ns, _ => by
    have := minI_mem (m :: ns) (by simp)
    simp only [minI]
    split
    · exact List.mem_cons_self
    · exact List.mem_cons_of_mem _ this
theorem minI_le : ∀ (ns : List Int) (x : Int), x ∈ ns → minI ns ≤ x
  | [], _, h => nomatch h
  | [n], x, h => by rw [List.mem_singleton] at h; subst h; exact Int.le_refl _
  | n :: m :: ns, x, h => by
    simp only [minI]
    rcases List.mem_cons.mp h with rfl | h
    · split <;> omega
    · have := minI_le (m :: ns) x h
      split <;> omega
def numsNe (ds : List D) : Option (List Int) := match nums ds with
  | some (n :: ns) => some (n :: ns)
  | _ => none
def gMaxL : List D → Option D
  | [.list ds] => (numsNe ds).map fun ns => .int (maxI ns)
  | _ => none
def gMinL : List D → Option D
  | [.list ds] => (numsNe ds).map fun ns => .int (minI ns)
  | _ => none
theorem numsNe_ok {ds : List D} {ns : List Int} (h : numsNe ds = some ns) : nums ds = some ns ∧ ns ≠ [] := by
  unfold numsNe at h
  split at h
  · cases h; exact ⟨by assumption, by simp⟩
  · cases h
section
variable {X : Cx} {e a b : Expr} {es : List Expr} {pos p : Pos} {gs : M (List Pl)} {fs : M (List D)} {fa fb : M D}
theorem pv_maxL (hc : X.calm = true) (hg : Gl X "max") (hm : X.mg "max" = none) (ha : PPs X (e :: es) gs) (he : starEach (e :: es) X.env = (false, eval e X.env) :: starEach es X.env := by rfl) (hpl : (backTo pos (starEach es X.env)).any (·.1) = false := by rfl) :
    PV X (.Call (.Name "max" p) (e :: es) [] pos) (mN gMaxL gs) := pv_b (cr_max hc) (fun G H vs ds z Q gh s hg q => by
  cases s with
  | nil => cases hg
  | cons h r => cases r with
    | cons _ _ => cases h <;> cases hg
    | nil => cases h with
      | @lst a xs ds h r =>
        simp only [gMaxL] at hg
        cases qd : numsNe ds with
        | none => rw [qd] at hg; cases hg
        | some ns =>
          rw [qd] at hg
          cases hg
          obtain ⟨q1, q2⟩ := numsNe_ok qd
          have := nums_ok q1 r
          subst this
          refine ⟨a, ns, rfl, .inl (.inl h), List.length_pos_iff.mpr q2, fun m hm hle => ?_⟩
          have : m = maxI ns := Int.le_antisymm (maxI_le ns m hm) (hle _ (maxI_mem ns q2))
          subst this
          exact q _ G H (Grow.refl gh) (.int _)
      | _ => cases hg) hg hm (by decide +kernel) ha (he := he) (hpl := hpl)
theorem pv_minL (hc : X.calm = true) (hg : Gl X "min") (hm : X.mg "min" = none) (ha : PPs X (e :: es) gs) (he : starEach (e :: es) X.env = (false, eval e X.env) :: starEach es X.env := by rfl) (hpl : (backTo pos (starEach es X.env)).any (·.1) = false := by rfl) :
    PV X (.Call (.Name "min" p) (e :: es) [] pos) (mN gMinL gs) := pv_b (cr_min hc) (fun G H vs ds z Q gh s hg q => by
  cases s with
  | nil => cases hg
  | cons h r => cases r with
    | cons _ _ => cases h <;> cases hg
    | nil => cases h with
      | @lst a xs ds h r =>
        simp only [gMinL] at hg
        cases qd : numsNe ds with
        | none => rw [qd] at hg; cases hg
        | some ns =>
          rw [qd] at hg
          cases hg
          obtain ⟨q1, q2⟩ := numsNe_ok qd
          have := nums_ok q1 r
          subst this
          refine ⟨a, ns, rfl, .inl (.inl h), List.length_pos_iff.mpr q2, fun m hm hle => ?_⟩
          have : m = minI ns := Int.le_antisymm (hle _ (minI_mem ns q2)) (minI_le ns m hm)
          subst this
          exact q _ G H (Grow.refl gh) (.int _)
      | _ => cases hg) hg hm (by decide +kernel) ha (he := he) (hpl := hpl)
/-- {} -/
def mDict0 : M D := ret (.dict [])
theorem pv_dict0 : PV X (.Dict [] [] pos) mDict0 := ⟨_, pe_dnewK, fun C G σ H ρ Q hK S d ρ' hf q => by
  cases hf
  intro p hp
  have w : Grow G H (upd G p (.dK [])) (upd H p (.dK [])) := Grow.new S.gh hp
  exact q _ _ _ w.g (S.grow w) (.dct upd_same .nil)⟩
/-- {k: v}, the key a number -/
def mDict1 (fk fv : M D) : M D := bnd fk fun dk => bnd fv fun dv => match dk with
  | .int i => ret (.dict [(.int i, dv)])
  | _ => fun _ => .stuck
theorem pf_dict1 {k v : Expr} {fk fv : M D} (hk : PV X k fk) (hv : PV X v fv) : PF X (.Dict [some k] [v] pos) (mFr (mDict1 fk fv)) := by
  obtain ⟨tk, hk, rk⟩ := hk
  obtain ⟨tv, hv, rv⟩ := hv
  refine ⟨_, pe_disp (L2.pps_cons hk hv L2.pps_nil) rfl rfl (by simp) (by simp), fun C G σ H ρ Q hK S d ρ' hf q => ?_⟩
  obtain ⟨d', ρ0, hf0, h0⟩ := bnd_ok hf
  cases h0
  obtain ⟨dk, ρ1, h1, hf1⟩ := bnd_ok hf0
  obtain ⟨dv, ρ2, h2, hf2⟩ := bnd_ok hf1
  intro p hp
  have hBp : C.B p = none := S.bh.free hp
  have S1 : StOk (C.with p (.dK [])) G σ (upd H p (.dK [])) ρ := S.enter hp (.dK [])
  refine rk (C.with p (.dK [])) G σ _ ρ _ hK S1 dk ρ1 h1 fun x G1 H1 g1 S2 o1 => ?_
  refine rv (C.with p (.dK [])) G1 σ H1 ρ1 _ hK S2 dv ρ2 h2 fun y G2 H2 g2 S3 o2 => ?_
  cases o1 with
  | int i =>
    cases hf2
    have hH2 : H2 p = some (.dK []) := S3.bh p _ upd_same
    have hG2 : G2 p = none := by
      cases z : G2 p with
      | none => rfl
      | some u =>
        rcases S3.ga p (ne_none_of z) with w | w
        · exact absurd (S.gh.free hp |> S.g0.free) w
        · exact absurd rfl w.2
    refine ⟨hH2, [(.inl i, y)], rfl, by simp, ?_⟩
    have S4 : StOk (C.with p (.dK (mergeK [] [(.inl i, y)]))) G2 σ (upd H2 p (.dK (mergeK [] [(.inl i, y)]))) _ := S3.step (o' := .dK (mergeK [] [(.inl i, y)])) hG2 S.wf hBp
    have S5 := S4.exit S.wf hBp
    refine q _ G2 _ (g1.trans g2) S5 ⟨p, rfl, .dct upd_same (.cons o2 .nil), hG2, hBp, S.fr p hp, fun j hj => ?_⟩
    obtain ⟨_, _, z4⟩ := Own.tracked S4 hj
    have z5 : upd C.B p (.dK (mergeK [] [(.inl i, y)])) p = none := z4
    rw [upd_same] at z5
    cases z5
  | _ => cases hf2
/-- a, b = x, y -/
def mPar (i j : Nat) (fs : M (List D)) : M Fl := bnd fs fun ds => match ds with
  | [d, e] => bnd (setS i (.val d)) fun _ => bnd (setS j (.val e)) fun _ => ret .nx
  | _ => fun _ => .stuck
theorem pst_par {i j : Nat} {x y : Str} {px py pt : Pos} {kt k2 pt2} (hc : X.calm = true) (hN : X.N.Nodup) (ha : PVs X [a, b] fs) (hi : X.N[i]? = some x := by rfl) (hj : X.N[j]? = some y := by rfl) (hij : i ≠ j := by decide)
    (hx : X.env.scope.names.lookup x = some .local := by rfl) (hy : X.env.scope.names.lookup y = some .local := by rfl)
    (hw : swappedStores [.Tuple [.Name x px, .Name y py] kt pt] (.Tuple [a, b] k2 pt2) X.env = pure (some [x, y]) := by rfl)
    (hs : swapsWithSole [.Tuple [.Name x px, .Name y py] kt pt] (.Tuple [a, b] k2 pt2) pos.line X.env = pure false := by rfl) :
    PSt X (.Assign [.Tuple [.Name x px, .Name y py] kt pt] (.Tuple [a, b] k2 pt2) pos) (mPar i j fs) := by
  obtain ⟨t, ha, ra⟩ := ha
  refine ⟨_, ps_par hc hN hi hj hij hx hy ha hw hs, fun C G σ H ρ D hK S fl ρ' hf q => ?_⟩
  obtain ⟨ds, ρ1, h1, hf2⟩ := bnd_ok hf
  refine ra C G σ H ρ _ hK S ds ρ1 h1 fun vs G1 H1 g1 S1 o => ?_
  cases o with
  | nil => cases hf2
  | cons o1 r1 => cases r1 with
    | nil => cases hf2
    | cons o2 r2 => cases r2 with
      | cons _ _ => cases hf2
      | nil =>
        obtain ⟨u1, ρ2, h2, hf3⟩ := bnd_ok hf2
        obtain ⟨u2, ρ3, h3, hf4⟩ := bnd_ok hf3
        cases hf4
        obtain ⟨l1, rfl⟩ := setS_ok h2
        obtain ⟨l2, rfl⟩ := setS_ok h3
        exact ⟨_, _, rfl, q _ G1 H1 g1 ((S1.putV l1 o1).putV l2 o2)⟩
end
end PL
namespace L2
open PySem PySem.Spec PyProof.Rows
/-! ### sorted(d), d a dict whose keys are ints, any number of them -/
theorem intsAt : ∀ {us : List Value} {ks : List Int}, us.length = ks.length → (∀ (j : Nat) (v : Value), us[j]? = some v → ∃ (x : Int) (t : Tok), ks[j]? = some x ∧ v = Value.int x t) → IntsAre us ks
  | [], [], _, _ => .nil
  | u :: us, k :: ks, hl, h => by
    obtain ⟨x, t, e1, rfl⟩ := h 0 u rfl
    cases (show k = x from Option.some.inj e1)
    refine .cons _ _ (intsAt (by simpa using hl) fun j v e => ?_)
    obtain ⟨x, t, a, b⟩ := h (j + 1) v (by simpa using e)
    exact ⟨x, t, by simpa using a, b⟩
  | [], _ :: _, hl, _ => by simp at hl
  | _ :: _, [], hl, _ => by simp at hl
def rSortedDI : List V → Hp → VK → Prop := fun xs H Q => ∃ (a : Addr) (kvs : List (Key × V)) (ks : List Int), xs = [.ref a] ∧ H a = some (.dK kvs) ∧ kvs.map (·.1) = ks.map Sum.inl ∧
    ∀ (ns : List Int) (p : Addr), ns.Perm ks → ns.Pairwise (· ≤ ·) → H p = none → Q (.ref p) (upd H p (.lst (ns.map V.int)))
theorem cr_sortedDI {X : Cx} (hcalm : X.calm = true) : CallR X (.builtin "sorted") rSortedDI := by
  intro pins s σ H xs us Q I r q
  obtain ⟨a, kvs, ks, rfl, hd, hks, q⟩ := q
  obtain ⟨u, rfl, rx⟩ := vals1 r
  cases rx
  obtain ⟨z, lo, vs, rel, dd⟩ := dk_rd I.hok (.inl hd)
  obtain ⟨ep, hat⟩ := dd.dictAt
  have hkeys : vs.map (·.1) = ks.map Sum.inl := rel.keys.symm.trans hks
  have hl : vs.length = ks.length := by simpa using congrArg List.length hkeys
  have hz : vs.length ≤ sizeLine := by rw [← rel.length]; exact z
  refine Calls.call_function_entry kind_sorted plain_sorted entry_sorted (args_sorted1 _) ?_
  unfold Builtin.«sorted»
  refine wpAny_bind (m := checkCount "sorted" 1 1 _) (wpAny_pure ?_)
  refine wpAny_bind (PySem.W.kdu_collect (A := X.A.in1) (PySem.W.kdl_dict (knd := mixKind X.prog X.w) (kvs := vs) (ep := ep) lo) (I.ok.hd hcalm) hat hz fun h' tk acc hk hacc => ?_)
  have hal : acc.toList.length = ks.length := by rw [Array.length_toList, hacc.1, hl]
  have hS : IntsAre acc.toList ks := intsAt hal fun j v e => by
    obtain ⟨k, x, e1, e2⟩ := hacc.2 j v (by rw [← Array.getElem?_toList]; exact e)
    have e3 : (vs.map (·.1))[j]? = some k := by simp [e1]
    rw [hkeys] at e3
    obtain ⟨y, e4, rfl⟩ : ∃ y, ks[j]? = some y ∧ Sum.inl y = k := by simpa using e3
    rcases keyIs_shape (k := Sum.inl y) (v := v) e2 with ⟨i, t, ek, ev⟩ | ⟨zz, t, ek, ev⟩
    · cases ek; exact ⟨_, t, e4, ev⟩
    · cases ek
  have I1 : Inv X pins σ H { s with heap := h', toks := tk } := I.kept hk
  refine wpAny_bind (wpAny_newList ?_ (by rw [hal, ← hl]; exact hz))
  have hoL : (h'.push (seqObj "list" acc.toList.toArray 0)).get? h'.objs.size = some (seqObj "list" acc.toList.toArray 0) := Heap.get?_push_size _ rfl
  show wpAny _ _ _ _ _ { s with heap := h'.push (seqObj "list" acc.toList.toArray 0), toks := tk }
  refine wpAny_bind (wpAny_holding (wpAny_call_entry slot_list_sort ⟨_, hoL, rfl⟩ entry_list_sort
    (SrtO.list_sort_ord SrtO.swo_int (s := { s with heap := h'.push (seqObj "list" acc.toList.toArray 0), toks := tk }) hoL (by rw [hal, ← hl]; exact hz) (fun h2 => SrtO.ints_sortable hS h2) fun out h1 h2 => ⟨_, rfl, ?_⟩)
    (args_list_sort _)))
  obtain ⟨k1, k2, k3⟩ := SrtO.ints_out hS h1 h2
  obtain ⟨e', he'⟩ := sortedHeap_at (vs := acc.toList) (out := out.toArray) hoL
  have hlen : ((out.map SrtO.iv).map V.int).length ≤ sizeLine := by
    rw [List.length_map, k2.length_eq, ← hl]; exact hz
  refine wpAny_pure ⟨_, rfl, .ref h'.objs.size, upd H h'.objs.size (.lst ((out.map SrtO.iv).map V.int)), I1.laid (t' := tk) (fun b u e => ?_) (Nat.le_refl _)
    (show ObjOk X.prog X.w _ _ _ (.lst ((out.map SrtO.iv).map V.int)) from ⟨hlen, out, e', vals_of_ints k1, he'⟩), rfl, q _ _ k2 k3 (I1.hok.fresh (Nat.le_refl _))⟩
  have hb : b < h'.objs.size := Heap.lt_size e
  rw [sortedHeap_old (Nat.ne_of_lt hb) (by rw [size_push']; exact Nat.lt_succ_of_lt hb)]
  exact Heap.get?_push_of_some _ e
end L2
/-! PL21: calls with keywords, keyword-only parameters that lack, ranges with a step -/
namespace PL
open PySem PySem.Spec L2 PyProof.Rows RT RZ
/-! ### reading the written arguments and the keywords -/
def RdP2 (K : PySem.W.Frag) (t tk : TA) (n m : Nat) (f : M (List Pl)) : Prop := ∀ (C : Ctx) (G : Hp) (σ : L2.St) (H : Hp) (ρ : Env) (Q : List V → List V → Hp → Prop), C.K = K → StOk C G σ H ρ → ∀ (ds : List Pl) (ρ' : Env), f ρ = .ok ds ρ' →
  (∀ (vs zs : List V) (G' H' : Hp), vs.length = n → zs.length = m → Same G G' → StOk C G' σ H' ρ' → okPs G' σ (vs ++ zs) ds → Q vs zs H') → t σ H fun vs H1 => tk σ H1 fun zs H2 => Q vs zs H2
def PKs (X : Cx) (kws : List Keyword) (m : Nat) (f : M (List Pl)) : Prop := ∃ tk, PK X kws tk ∧ RdP2 X.K tNil tk 0 m f
def PPk (X : Cx) (es : List Expr) (kws : List Keyword) (n m : Nat) (f : M (List Pl)) : Prop := ∃ t tk, PA X es t ∧ PK X kws tk ∧ RdP2 X.K t tk n m f
section
variable {X : Cx} {e : Expr} {es : List Expr} {kws : List Keyword} {n m : Nat} {g : M Pl} {fs : M (List Pl)} {nm : Option Str} {kpos : Pos}
theorem pks_nil : PKs X [] 0 mNil := ⟨_, pk_nil, fun C G σ H ρ Q hK S d ρ' hf q => by cases hf; exact q [] [] G H rfl rfl (Same.refl _) S .nil⟩
theorem pks_cons (h : PP X e g) (hr : PKs X kws m fs) : PKs X (⟨nm, e, kpos⟩ :: kws) (m + 1) (mCons g fs) := by
  obtain ⟨t, h, r⟩ := h
  obtain ⟨u, hr, rr⟩ := hr
  refine ⟨_, pk_cons h hr, fun C G σ H ρ Q hK S ds ρ' hf q => ?_⟩
  obtain ⟨d, ρ1, h1, hf⟩ := bnd_ok hf
  obtain ⟨ds', ρ2, h2, hf⟩ := bnd_ok hf
  cases hf
  refine r C G σ H ρ _ hK S d ρ1 h1 fun v G1 H1 g1 S1 o1 => ?_
  refine rr C G1 σ H1 ρ1 (fun _ zs H2 => Q [] (v :: zs) H2) hK S1 ds' _ h2 fun vs zs G2 H2 l1 l2 g2 S2 o2 => ?_
  cases vs with
  | nil => exact q [] (v :: zs) G2 H2 rfl (congrArg Nat.succ l2) (g1.trans g2) S2 (.cons (o1.mono g2) o2)
  | cons _ _ => cases l1
theorem ppk_nil (hk : PKs X kws m fs) : PPk X [] kws 0 m fs := by
  obtain ⟨tk, h, r⟩ := hk
  exact ⟨_, _, pa_nil, h, r⟩
theorem ppk_cons (h : PP X e g) (hr : PPk X es kws n m fs) (hs : starEach (e :: es) X.env = (false, eval e X.env) :: starEach es X.env := by rfl) : PPk X (e :: es) kws (n + 1) m (mCons g fs) := by
  obtain ⟨t, h, r⟩ := h
  obtain ⟨u, uk, hr, hk, rr⟩ := hr
  refine ⟨_, _, pa_cons h hr hs, hk, fun C G σ H ρ Q hK S ds ρ' hf q => ?_⟩
  obtain ⟨d, ρ1, h1, hf⟩ := bnd_ok hf
  obtain ⟨ds', ρ2, h2, hf⟩ := bnd_ok hf
  cases hf
  refine r C G σ H ρ _ hK S d ρ1 h1 fun v G1 H1 g1 S1 o1 => ?_
  refine rr C G1 σ H1 ρ1 (fun vs zs H2 => Q (v :: vs) zs H2) hK S1 ds' _ h2 fun vs zs G2 H2 l1 l2 g2 S2 o2 => ?_
  exact q (v :: vs) zs G2 H2 (congrArg Nat.succ l1) l2 (g1.trans g2) S2 (.cons (o1.mono g2) o2)
end
def tBoth (n m : Nat) (t tk : TA) : TA := fun σ H Q => t σ H fun vs H1 => tk σ H1 fun zs H2 => vs.length = n ∧ zs.length = m ∧ Q (vs ++ zs) H2
theorem rd_both {K : PySem.W.Frag} {t tk : TA} {n m : Nat} {f : M (List Pl)} (r : RdP2 K t tk n m f) : RdPs K (tBoth n m t tk) f := fun C G σ H ρ Q hK S ds ρ' hf q =>
  r C G σ H ρ (fun vs zs H2 => vs.length = n ∧ zs.length = m ∧ Q (vs ++ zs) H2) hK S ds ρ' hf fun vs zs G' H' l1 l2 g S' o => ⟨l1, l2, q _ G' H' g S' o⟩
/-- how the values are bound: the written ones, then the keywords' -/
def KBz (K : PySem.W.Frag) (fd : FuncData) (ps : List Str) (n : Nat) (ks : List Str) : Prop := ∀ (s : Shared) (us ws : List Value), K.In s.heap → us.length = n → ws.length = ks.length → BindsTo s fd ⟨us, ks.zip ws⟩ (ps.zip (us ++ ws))
theorem fun_kbz {K : PySem.W.Frag} {x qual : Str} {st : Stmt} {f : Addr} {fd : FuncData} {ps ks : List Str} {n : Nat} (F : Fun K x qual st f fd)
    (h : ∀ (kV doc pm : Value) (an : Option Addr) (cdv ct : Value) (us ws : List Value), us.length = n → ws.length = ks.length → bindArgs (PySem.W.fnOf x qual (defArgs st) (defBody st) (defScope st) .none kV doc pm an cdv ct) ⟨us, ks.zip ws⟩ = pure (ps.zip (us ++ ws))) : KBz K fd ps n ks := by
  obtain ⟨oc, od, kV, doc, pm, an, cdv, ct, osl, rfl, lk, hcd⟩ := F.ex
  exact fun s us ws _ l1 l2 => .of_eq (h kV doc pm an cdv ct us ws l1 l2)
section
variable {X : Cx} {e : Expr} {es : List Expr} {pos p : Pos} {x : Str} {k : Nat} {f : Addr} {fd : FuncData} {ps ks : List Str} {np nl n m : Nat} {mm : M Fl} {ms : List Md} {fs : M (List Pl)} {sp : Sp} {t tk : TA} {kws : List Keyword}
theorem pe_callGK (F : FnG X.prog X.w X.K X.mg X.base k f fd ps sp) (hG : X.A.guards = some []) (hr : Room k X.A) (hg : Gl X x) (hm : X.mg x = some (.ref f)) (hk : PySem.W.keepIn X.K (.ref f) = true) (hb : KBz X.K fd ps n ks) (ha : PA X (e :: es) t) (hkw : PK X kws tk) (hm2 : ks.length = m)
    (hall : (backToKw pos (keywordEach kws X.env)).all (·.1.isSome) = true := by rfl) (hks : (backToKw pos (keywordEach kws X.env)).filterMap (·.1) = ks := by rfl)
    (hdb : (x == ("__debug__" : Str)) = false := by decide) (he : starEach (e :: es) X.env = (false, eval e X.env) :: starEach es X.env := by rfl)
    (hpl : ((backTo pos (starEach (e :: es) X.env)).any (·.1) || (backToKw pos (keywordEach kws X.env)).any (·.1.isNone)) = false := by rfl) :
    PE X (.Call (.Name x p) (e :: es) kws pos) (tCall sp [] L2.E0 (tBoth n m t tk)) := by
  constructor
  intro pins s σ H Q I h
  refine PySem.wpAny_Call_Name_kw (ld_glob I hg hm ?_ hdb)
  refine PySem.W.callWith_KW (h₀ := X.base) I.ok.mod.kin hk hall (thn (ha.run pos pins s σ H _ I h) fun us s1 ⟨vs, H1, I1, r, q⟩ => ?_) hpl he
  refine thn (hkw.run pos pins s1 σ H1 _ I1 q) fun ws s2 ⟨zs, H2, I2, rz, l1, l2, q2⟩ => ⟨I2.kIn, ?_⟩
  rw [hks]
  have q2 : sp ((vs ++ zs) ++ []) H2 Q L2.E0 := q2
  rw [List.append_nil] at q2
  refine wpAny_call (codeAny_mono (F.go X.A hG X.stack s2 H2 ⟨us, ks.zip ws⟩ (us ++ ws) (vs ++ zs) Q _ hr I2.env0 (hb s2 us ws I2.kIn (r.length.symm.trans l1) (rz.length.symm.trans (l2.trans hm2.symm))) (r.append rz) q2) ?_)
  intro r s' hq
  cases r with
  | error e => exact False.elim hq
  | ok fl =>
    cases fl with
    | ret u => exact I2.after hq
    | next => exact False.elim hq
    | brk => exact False.elim hq
    | cont => exact False.elim hq
theorem pf_callGK (F : FnG X.prog X.w X.K X.mg X.base k f fd ps (spD X.K np nl mm)) (hG : X.A.guards = some []) (hr : Room k X.A) (hg : Gl X x) (hm : X.mg x = some (.ref f)) (hk : PySem.W.keepIn X.K (.ref f) = true) (hb : KBz X.K fd ps n ks) (ha : PPk X (e :: es) kws n m fs) (hl : ms.length = np) (hm2 : ks.length = m := by rfl)
    (hall : (backToKw pos (keywordEach kws X.env)).all (·.1.isSome) = true := by rfl) (hks : (backToKw pos (keywordEach kws X.env)).filterMap (·.1) = ks := by rfl)
    (hdb : (x == ("__debug__" : Str)) = false := by decide) (he : starEach (e :: es) X.env = (false, eval e X.env) :: starEach es X.env := by rfl)
    (hpl : ((backTo pos (starEach (e :: es) X.env)).any (·.1) || (backToKw pos (keywordEach kws X.env)).any (·.1.isNone)) = false := by rfl) :
    PF X (.Call (.Name x p) (e :: es) kws pos) (mCall ms nl mm fs) := by
  obtain ⟨t, tk, ha, hkw, ra⟩ := ha
  exact ⟨_, pe_callGK F hG hr hg hm hk hb ha hkw hm2 hall hks hdb he hpl, rd_call (rd_both ra) hl⟩
end
/-! ### a keyword-only parameter lacks: its default None -/
def tSn (t : TA) : TA := fun σ H Q => t σ H fun vs H1 => Q (vs ++ [.non]) H1
def PPd (X : Cx) (es : List Expr) (f : M (List Pl)) : Prop := ∃ t, PA X es t ∧ RdPs X.K (tSn t) f
section
variable {X : Cx} {e : Expr} {es : List Expr} {g : M Pl} {fs : M (List Pl)}
theorem ppd_nil : PPd X [] (mCons (mPl (mC .none)) mNil) := ⟨_, pa_nil, fun C G σ H ρ Q hK S d ρ' hf q => by
  cases hf
  exact q [.non] G H (Same.refl _) S (.cons (show Rp G .non .none from .non) .nil)⟩
theorem ppd_cons (h : PP X e g) (hr : PPd X es fs) (hs : starEach (e :: es) X.env = (false, eval e X.env) :: starEach es X.env := by rfl) : PPd X (e :: es) (mCons g fs) := by
  obtain ⟨t, h, r⟩ := h
  obtain ⟨u, hr, rr⟩ := hr
  refine ⟨_, pa_cons h hr hs, fun C G σ H ρ Q hK S ds ρ' hf q => ?_⟩
  obtain ⟨d, ρ1, h1, hf⟩ := bnd_ok hf
  obtain ⟨ds', ρ2, h2, hf⟩ := bnd_ok hf
  cases hf
  refine r C G σ H ρ _ hK S d ρ1 h1 fun v G1 H1 g1 S1 o1 => ?_
  exact rr C G1 σ H1 ρ1 (fun vs H2 => Q (v :: vs) H2) hK S1 ds' _ h2 fun vs G2 H2 g2 S2 o2 => q _ G2 H2 (g1.trans g2) S2 (.cons (o1.mono g2) o2)
end
section
variable {X : Cx} {e : Expr} {es : List Expr} {pos p : Pos} {x : Str} {k : Nat} {f : Addr} {fd : FuncData} {ps : List Str} {np nl : Nat} {mm : M Fl} {ms : List Md} {fs : M (List Pl)} {sp : Sp} {t : TA} {ds : List Value}
def BindsN (K : PySem.W.Frag) (fd : FuncData) (ps : List Str) : Prop := ∃ ds : List Value, Vals [V.non] ds ∧ Binds K fd ps ds
theorem pe_callGd (F : FnG X.prog X.w X.K X.mg X.base k f fd ps sp) (hG : X.A.guards = some []) (hr : Room k X.A) (hg : Gl X x) (hm : X.mg x = some (.ref f)) (hk : PySem.W.keepIn X.K (.ref f) = true) (hb : BindsN X.K fd ps) (ha : PA X (e :: es) t)
    (hdb : (x == ("__debug__" : Str)) = false := by decide) (he : starEach (e :: es) X.env = (false, eval e X.env) :: starEach es X.env := by rfl) (hpl : (backTo pos (starEach es X.env)).any (·.1) = false := by rfl) :
    PE X (.Call (.Name x p) (e :: es) [] pos) (tCall sp [] L2.E0 (tSn t)) := by
  obtain ⟨ds, hd, hb⟩ := hb
  constructor
  intro pins s σ H Q I h
  refine PySem.wpAny_Call_Name_kw (ld_glob I hg hm ?_ hdb)
  refine PySem.W.callWith_K (h₀ := X.base) I.ok.mod.kin hk (thn (ha.run pos pins s σ H _ I h) ?_) he hpl
  rintro us s1 ⟨vs, H1, I1, r, q⟩
  refine ⟨I1.kIn, ?_⟩
  have q : sp ((vs ++ [.non]) ++ []) H1 Q L2.E0 := q
  rw [List.append_nil] at q
  have r2 : Vals (vs ++ [.non]) (us ++ ds) := r.append hd
  have hl : (us ++ ds).length = ps.length := by rw [← r2.length]; exact F.len _ _ _ _ q
  refine wpAny_call (codeAny_mono (F.go X.A hG X.stack s1 H1 ⟨us, []⟩ (us ++ ds) _ Q _ hr I1.env0 (hb s1 us I1.kIn hl) r2 q) ?_)
  intro r s' hq
  cases r with
  | error e => exact False.elim hq
  | ok fl =>
    cases fl with
    | ret u => exact I1.after hq
    | next => exact False.elim hq
    | brk => exact False.elim hq
    | cont => exact False.elim hq
theorem pf_callGd (F : FnG X.prog X.w X.K X.mg X.base k f fd ps (spD X.K np nl mm)) (hG : X.A.guards = some []) (hr : Room k X.A) (hg : Gl X x) (hm : X.mg x = some (.ref f)) (hk : PySem.W.keepIn X.K (.ref f) = true) (hb : BindsN X.K fd ps) (ha : PPd X (e :: es) fs) (hl : ms.length = np)
    (hdb : (x == ("__debug__" : Str)) = false := by decide) (he : starEach (e :: es) X.env = (false, eval e X.env) :: starEach es X.env := by rfl) (hpl : (backTo pos (starEach es X.env)).any (·.1) = false := by rfl) :
    PF X (.Call (.Name x p) (e :: es) [] pos) (mCall ms nl mm fs) := by
  obtain ⟨t, ha, ra⟩ := ha
  exact ⟨_, pe_callGd F hG hr hg hm hk hb ha hdb he hpl, rd_call ra hl⟩
end
/-- one keyword-only parameter y with the default None -/
theorem bindsN_of {K : PySem.W.Frag} {x qual y : Str} {st : Stmt} {f : Addr} {oc : Value} {od an : Option Addr} {osl : Array (Option Value)} {doc pm cdv ct : Value} {D : Addr} {ps : List Str} {n : Nat}
    (l : K.lookup f = some ⟨oc, od, .func (PySem.W.fnOf x qual (defArgs st) (defBody st) (defScope st) .none (.ref D) doc pm an cdv ct), osl⟩) (c : PySem.W.codeIn K cdv qual = true) (k : PySem.W.keepIn K (.ref f) = true)
    (hD : PySem.W.nsIn K D y = some (some .none)) (hn : n + 1 = ps.length)
    (h : ∀ (D : Addr) (doc pm : Value) (an : Option Addr) (cdv ct : Value) (us ks : List Value), us.length = n → ks.length = 1 →
      KwChain D ([y].zip ks) (bindArgs (PySem.W.fnOf x qual (defArgs st) (defBody st) (defScope st) .none (.ref D) doc pm an cdv ct) ⟨us, []⟩) (ps.zip (us ++ ks))) :
    BindsN K (PySem.W.fnOf x qual (defArgs st) (defBody st) (defScope st) .none (.ref D) doc pm an cdv ct) ps := by
  have F : FunD K x qual (defArgs st) (defBody st) (defScope st) [] [(y, .non)] f (PySem.W.fnOf x qual (defArgs st) (defBody st) (defScope st) .none (.ref D) doc pm an cdv ct) :=
    ⟨⟨oc, od, .none, .ref D, doc, pm, an, cdv, ct, osl, rfl, l, c, .inl ⟨rfl, rfl⟩, .inr ⟨D, rfl, fun q hq => by
      cases List.mem_singleton.mp hq
      exact ⟨.none, hD, rfl⟩⟩⟩, k⟩
  exact F.binds0 n (by simp) (by simpa using hn) fun D doc pm an cdv ct us ks l1 l2 => h D doc pm an cdv ct us ks l1 (by simpa using l2)
/-! ### for x in range(a, b, -1) -/
def rngdD (hi lo : Int) : List D := (List.range (hi - lo).toNat).map fun (i : Nat) => .int (hi - (i : Int))
theorem rngdD_len (hi lo : Int) : (rngdD hi lo).length = (hi - lo).toNat := by unfold rngdD; rw [List.length_map, List.length_range]
theorem rngdD_get {hi lo : Int} {i : Nat} {d : D} (h : (rngdD hi lo)[i]? = some d) : d = .int (hi - (i : Int)) := by
  unfold rngdD at h
  rw [List.getElem?_map] at h
  cases q : (List.range (hi - lo).toNat)[i]? with
  | none => rw [q] at h; cases h
  | some k =>
    rw [q] at h
    cases h
    obtain ⟨h1, h2⟩ := List.getElem?_eq_some_iff.mp q
    rw [List.getElem_range] at h2
    rw [h2]
theorem JOk.rngd {B G1} {hi lo : Int} : JOk (Itc hi (-1) (hi - lo).toNat) B G1 (rngdD hi lo) where
  go := fun i G H b g gh h => by rw [rngdD_len] at h; exact h
  yld := fun i G H x H' d b g gh hd hy => by
    obtain ⟨rfl, rfl⟩ := hy
    rw [rngdD_get hd]
    have e : hi + (i : Int) * (-1) = hi - (i : Int) := by omega
    rw [e]
    exact ⟨G, Grow.refl gh, .int _⟩
  stop := fun G H b g gh => by
    show (hi - lo).toNat ≤ (rngdD hi lo).length
    rw [rngdD_len]; exact Nat.le_refl _
def mRngD (f g : M D) : M (List D) := bnd f fun d => bnd g fun e => fun ρ => match d, e with
  | .int a, .int b => if (small62 a && small62 b) = true then .ok (rngdD a b) ρ else .stuck
  | _, _ => .stuck
section
variable {X : Cx} {a b c tg : Expr} {fa fb : M D} {p pos : Pos}
theorem pit_rngd (hg : Gl X "range") (hm : X.mg "range" = none) (h : PV X a fa) (h2 : PV X b fb) (h3 : PV X c (mC (.int (-1)))) (hs : starEach [a, b, c] X.env = (false, eval a X.env) :: starEach [b, c] X.env := by rfl) (hs2 : starEach [b, c] X.env = (false, eval b X.env) :: starEach [c] X.env := by rfl) (hs3 : starEach [c] X.env = (false, eval c X.env) :: starEach [] X.env := by rfl)
    (hpl : (backTo pos (starEach [b, c] X.env)).any (·.1) = false := by rfl) :
    PIt X tg (.Call (.Name "range" p) [a, b, c] [] pos) (mRngD fa fb) := by
  obtain ⟨t, h, r⟩ := h
  obtain ⟨u, h2, r2⟩ := h2
  obtain ⟨v3, h3, r3⟩ := h3
  refine ⟨_, pi_range3 hg hm (pa_cons h (pa_cons h2 (pa_cons h3 pa_nil hs3) hs2) hs) hs hpl, fun C G σ H ρ R hK S ds ρ' hf q => ?_⟩
  obtain ⟨d, ρ1, h1, hf2⟩ := bnd_ok hf
  obtain ⟨d2, ρ2, h3, hf3⟩ := bnd_ok hf2
  refine r C G σ H ρ _ hK S d ρ1 h1 fun v G1 H1 g1 S1 o => ?_
  refine r2 C G1 σ H1 ρ1 _ hK S1 d2 ρ2 h3 fun v2 G2 H2 g2 S2 o2 => ?_
  refine r3 C G2 σ H2 ρ2 _ hK S2 _ ρ2 rfl fun v3 G3 H3 g3 S3 o3 => ?_
  cases o with
  | int n =>
    cases o2 with
    | int n2 =>
      cases o3
      by_cases hn : (small62 n && small62 n2) = true
      · simp only [hn, if_true] at hf3
        cases hf3
        simp only [small62, Bool.and_eq_true, decide_eq_true_eq] at hn
        exact ⟨n, n2, -1, _, rfl, RgC.neg hn.1.1 hn.1.2 hn.2.1 hn.2.2, q _ G3 H3 ((g1.trans g2).trans g3) S3 JOk.rngd⟩
      · simp only [hn, if_false] at hf3
        cases hf3
    | _ => cases hf3
  | _ => cases hf3
end
/-! ### list(range(n)) -/
def mLRg (f : M D) : M D := bnd f fun d => fun ρ => match d with
  | .int n => if (decide (-100000 ≤ n) && decide (n ≤ 100000)) = true then .ok (.list (rngD 0 n)) ρ else .stuck
  | _ => .stuck
theorem rgV_rel {G : Hp} (n : Int) : RpA G (rgV 0 n) (rngD 0 n) := by
  unfold rgV rngD
  generalize (n - 0).toNat = m
  have : ∀ l : List Nat, RpA G (l.map fun i => V.int (0 + (i : Nat))) (l.map fun (i : Nat) => PyData.int (0 + (i : Int))) := by
    intro l
    induction l with
    | nil => exact .nil
    | cons x l ih => exact .cons (.int _) ih
  exact this _
section
variable {X : Cx} {a : Expr} {fa : M D} {p p2 pos pos2 : Pos}
theorem pf_listRg (hc : X.calm = true) (hg2 : Gl X "list") (hm2 : X.mg "list" = none) (hg : Gl X "range") (hm : X.mg "range" = none) (h : PV X a fa) (na : starEach [a] X.env = (false, eval a X.env) :: starEach [] X.env := by rfl)
    (na2 : starEach [.Call (.Name "range" p) [a] [] pos] X.env = (false, eval (.Call (.Name "range" p) [a] [] pos) X.env) :: starEach [] X.env := by rfl) :
    PF X (.Call (.Name "list" p2) [.Call (.Name "range" p) [a] [] pos] [] pos2) (mFr (mLRg fa)) := by
  obtain ⟨t, h, r⟩ := h
  refine ⟨_, pe_listRg hc hg2 hm2 (prg_1 hg hm h na) na2, fun C G σ H ρ Q hK S d ρ' hf q => ?_⟩
  obtain ⟨d', ρ0, hf0, h0⟩ := bnd_ok hf
  cases h0
  obtain ⟨d, ρ1, h1, hf2⟩ := bnd_ok hf0
  refine r C G σ H ρ _ hK S d ρ1 h1 fun v G1 H1 g1 S1 o => ?_
  cases o with
  | int n =>
    by_cases hn : (decide (-100000 ≤ n) && decide (n ≤ 100000)) = true
    · simp only [hn, if_true] at hf2
      cases hf2
      simp only [Bool.and_eq_true, decide_eq_true_eq] at hn
      refine ⟨n, rfl, ⟨by omega, by omega, by omega, by omega, by omega⟩, fun q0 hq0 => ?_⟩
      have w : Grow G1 H1 G1 (upd H1 q0 (.lst (rgV 0 n))) := Grow.newF S1.gh hq0
      exact q _ _ _ g1 (S1.grow w) (fresh_ok S1 hq0 w (.lst upd_same (rgV_rel n)))
    · simp only [hn, if_false] at hf2
      cases hf2
  | _ => cases hf2
end
end PL
namespace PL
open PySem PySem.Spec L2 RT RZ
def rBnd {α β : Type} (x : R α) (g : α → M β) : R β := match x with
  | .stuck => .stuck
  | .ok a ρ' => g a ρ'
def rFz : R Rv → R D
  | .stuck => .stuck
  | .ok (.fr d) ρ' => .ok d ρ'
  | .ok (.pl (.val d)) ρ' => .ok d ρ'
  | .ok (.pl (.slot i)) ρ' => mGet i ρ'
def rPl : R D → R Pl
  | .stuck => .stuck
  | .ok d ρ' => .ok (.val d) ρ'
def rRv : R Pl → R Rv
  | .stuck => .stuck
  | .ok d ρ' => .ok (.pl d) ρ'
def rFr : R D → R Rv
  | .stuck => .stuck
  | .ok d ρ' => .ok (.fr d) ρ'
def rSet (i : Nat) : R Rv → R Fl
  | .stuck => .stuck
  | .ok (.fr d) ρ' => bnd (setS i (.own d)) (fun _ => PL.ret .nx) ρ'
  | .ok (.pl (.val d)) ρ' => bnd (setS i (.val d)) (fun _ => PL.ret .nx) ρ'
  | .ok (.pl (.slot j)) ρ' => bnd (mGet j) (fun d => bnd (setS i (.val d)) fun _ => PL.ret .nx) ρ'
def rSeq (x : R Fl) (g : M Fl) : R Fl := match x with
  | .stuck => .stuck
  | .ok .nx ρ' => g ρ'
  | .ok (.rt r) ρ' => .ok (.rt r) ρ'
  | .ok .bk ρ' => .ok .bk ρ'
  | .ok .ct ρ' => .ok .ct ρ'
def rRet : R Rv → R Fl
  | .stuck => .stuck
  | .ok r ρ' => .ok (.rt r) ρ'
def rDrop {α : Type} : R α → R Fl
  | .stuck => .stuck
  | .ok _ ρ' => .ok .nx ρ'
def rBack (r : Rv) : Option PL.Env → R Rv
  | some ρ2 => .ok r ρ2
  | none => .stuck
def rCall (ρ : PL.Env) (ms : List Md) (ps : List Pl) : Option (Rv × List Sl) → R Rv
  | some ro => rBack ro.1 (backIo ρ ms ps ro.2)
  | none => .stuck
def rArgs (ρ : PL.Env) (ms : List Md) (nl : Nat) (body : M Fl) (ps : List Pl) : Option (List Sl) → R Rv
  | some ss => rCall ρ ms ps (evalD ms nl body ss)
  | none => .stuck
section
variable {α β : Type} (ρ ρ' : Env) (i j : Nat) (d e : D) (ds es : List D) (x y : Int) (b : Bool)
@[simp] theorem q_bnd (f : M α) (g : α → M β) : bnd f g ρ = rBnd (f ρ) g := rfl
@[simp] theorem r_bnd (a : α) (g : α → M β) : rBnd (.ok a ρ) g = g a ρ := rfl
@[simp] theorem r_bnd_s (g : α → M β) : rBnd (.stuck : R α) g = .stuck := rfl
@[simp] theorem q_ret (a : α) : PL.ret a ρ = .ok a ρ := rfl
@[simp] theorem q_ofO_some (a : α) : ofO (some a) ρ = .ok a ρ := rfl
@[simp] theorem q_ofO_none : (ofO (none : Option α)) ρ = .stuck := rfl
@[simp] theorem q_mVar : mVar i ρ = match ρ[i]? with
  | some .un => .stuck
  | none => .stuck
  | some (.val d) => .ok (.val d) ρ
  | some _ => .ok (.slot i) ρ := rfl
@[simp] theorem q_mC : mC d ρ = .ok d ρ := rfl
@[simp] theorem q_mGet : mGet i ρ = match ρ[i]? with
  | some (.val d) => .ok d ρ
  | some (.own d) => .ok d (ρ.set i (.val d))
  | some (.bor d) => if atom d = true then .ok d ρ else .stuck
  | _ => .stuck := rfl
@[simp] theorem q_mFz (f : M Rv) : mFz f ρ = rFz (f ρ) := by
  unfold mFz bnd
  cases f ρ with
  | stuck => rfl
  | ok r ρ' => cases r with
    | fr d => rfl
    | pl p => cases p <;> rfl
@[simp] theorem r_fz_f : rFz (.ok (.fr d) ρ) = .ok d ρ := rfl
@[simp] theorem r_fz_v : rFz (.ok (.pl (.val d)) ρ) = .ok d ρ := rfl
@[simp] theorem r_fz_s : rFz (.ok (.pl (.slot i)) ρ) = mGet i ρ := rfl
@[simp] theorem r_fz_x : rFz .stuck = .stuck := rfl
@[simp] theorem q_mPl (f : M D) : mPl f ρ = rPl (f ρ) := by unfold mPl bnd; cases f ρ <;> rfl
@[simp] theorem r_rPl (d : D) : rPl (.ok d ρ) = .ok (.val d) ρ := rfl
@[simp] theorem r_rPl_s : rPl .stuck = .stuck := rfl
@[simp] theorem q_mRv (f : M Pl) : mRv f ρ = rRv (f ρ) := by unfold mRv bnd; cases f ρ <;> rfl
@[simp] theorem r_rRv (d : Pl) : rRv (.ok d ρ) = .ok (.pl d) ρ := rfl
@[simp] theorem r_rRv_s : rRv .stuck = .stuck := rfl
@[simp] theorem q_rsv_val : rsv ρ (.val d) = some d := rfl
@[simp] theorem q_rsv_slot : rsv ρ (.slot i) = match ρ[i]? with
    | some (.val d) => some d
    | some (.own d) => some d
    | some (.io d) => some d
    | some (.bor d) => some d
    | _ => none := rfl
@[simp] theorem q_look (p : Pl) : look p ρ = match rsv ρ p with
  | some d => .ok d ρ
  | none => .stuck := rfl
@[simp] theorem q_lookAll_nil : lookAll [] ρ = .ok [] ρ := rfl
@[simp] theorem q_lookAll_cons (p : Pl) (ps : List Pl) : lookAll (p :: ps) ρ = bnd (look p) (fun d => bnd (lookAll ps) fun ds => PL.ret (d :: ds)) ρ := rfl
@[simp] theorem q_mOp (g : D → D → Option α) (fa fb : M Pl) : mOp g fa fb ρ = bnd fa (fun p => bnd fb fun q => bnd (look p) fun d => bnd (look q) fun e => ofO (g d e)) ρ := rfl
@[simp] theorem q_mUn (g : D → Option α) (fa : M Pl) : mUn g fa ρ = bnd fa (fun p => bnd (look p) fun d => ofO (g d)) ρ := rfl
@[simp] theorem q_mNil : (mNil : M (List α)) ρ = .ok [] ρ := rfl
@[simp] theorem q_mCons (fa : M α) (fr : M (List α)) : mCons fa fr ρ = bnd fa (fun p => bnd fr fun q => PL.ret (p :: q)) ρ := rfl
@[simp] theorem q_mN (g : List D → Option α) (fs : M (List Pl)) : mN g fs ρ = bnd fs (fun ps => bnd (lookAll ps) fun ds => ofO (g ds)) ρ := rfl
@[simp] theorem q_mFr (f : M D) : mFr f ρ = rFr (f ρ) := by unfold mFr bnd; cases f ρ <;> rfl
@[simp] theorem r_rFr (d : D) : rFr (.ok d ρ) = .ok (.fr d) ρ := rfl
@[simp] theorem r_rFr_s : rFr .stuck = .stuck := rfl
@[simp] theorem q_mTup (f : M (List D)) : mTup f ρ = bnd f (fun ds => if ds.length ≤ 100000 then PL.ret (.tuple ds) else fun _ => .stuck) ρ := Eq.trans rfl rfl
@[simp] theorem q_mLst (f : M (List D)) : mLst f ρ = bnd f (fun ds => if ds.length ≤ 100000 then PL.ret (.fr (.list ds)) else fun _ => .stuck) ρ := Eq.trans rfl rfl
@[simp] theorem q_mB (f : M D) : mB f ρ = bnd f (fun d => ofO (asBool d)) ρ := rfl
@[simp] theorem q_mIf (c : M Bool) (f g : M α) : mIf c f g ρ = bnd c (fun k => if k = true then f else g) ρ := rfl
@[simp] theorem q_mNot (c : M Bool) : mNot c ρ = bnd c (fun k => PL.ret (!k)) ρ := rfl
@[simp] theorem q_mAnd (f g : M Bool) : mAnd f g ρ = bnd f (fun k => if k = true then g else PL.ret false) ρ := rfl
@[simp] theorem q_mOr (f g : M Bool) : mOr f g ρ = bnd f (fun k => if k = true then PL.ret true else g) ρ := rfl
@[simp] theorem q_mAndV (f g : M D) : mAndV f g ρ = bnd (mB f) (fun k => if k = true then g else PL.ret (.bool false)) ρ := rfl
@[simp] theorem q_mOrV (f g : M D) : mOrV f g ρ = bnd (mB f) (fun k => if k = true then PL.ret (.bool true) else g) ρ := rfl
@[simp] theorem q_mNotV (f : M D) : mNotV f ρ = bnd (mB f) (fun k => PL.ret (.bool (!k))) ρ := rfl
@[simp] theorem q_setS (s : Sl) : setS i s ρ = if i < ρ.length then .ok () (ρ.set i s) else .stuck := rfl
@[simp] theorem q_mSet (f : M Rv) : mSet i f ρ = rSet i (f ρ) := by
  unfold mSet
  rw [q_bnd]
  cases f ρ with
  | stuck => rfl
  | ok r ρ' => cases r with
    | fr d => rfl
    | pl p => cases p <;> rfl
@[simp] theorem r_set_f : rSet i (.ok (.fr d) ρ) = bnd (setS i (.own d)) (fun _ => PL.ret .nx) ρ := rfl
@[simp] theorem r_set_v : rSet i (.ok (.pl (.val d)) ρ) = bnd (setS i (.val d)) (fun _ => PL.ret .nx) ρ := rfl
@[simp] theorem r_set_s : rSet i (.ok (.pl (.slot j)) ρ) = bnd (mGet j) (fun d => bnd (setS i (.val d)) fun _ => PL.ret .nx) ρ := rfl
@[simp] theorem r_set_x : rSet i .stuck = .stuck := rfl
@[simp] theorem q_mSeq (f g : M Fl) : mSeq f g ρ = rSeq (f ρ) g := by
  unfold mSeq
  rw [q_bnd]
  cases f ρ with
  | stuck => rfl
  | ok r ρ' => cases r <;> rfl
@[simp] theorem r_seq_n (g : M Fl) : rSeq (.ok .nx ρ) g = g ρ := rfl
@[simp] theorem r_seq_r (r : Rv) (g : M Fl) : rSeq (.ok (.rt r) ρ) g = .ok (.rt r) ρ := rfl
@[simp] theorem r_seq_b (g : M Fl) : rSeq (.ok .bk ρ) g = .ok .bk ρ := rfl
@[simp] theorem r_seq_c (g : M Fl) : rSeq (.ok .ct ρ) g = .ok .ct ρ := rfl
@[simp] theorem r_seq_x (g : M Fl) : rSeq .stuck g = .stuck := rfl
@[simp] theorem q_mSkip : mSkip ρ = .ok .nx ρ := rfl
@[simp] theorem q_mRet (f : M Rv) : mRet f ρ = rRet (f ρ) := by unfold mRet bnd; cases f ρ <;> rfl
@[simp] theorem r_ret (r : Rv) : rRet (.ok r ρ) = .ok (.rt r) ρ := rfl
@[simp] theorem r_ret_x : rRet .stuck = .stuck := rfl
@[simp] theorem q_mRetN : mRetN ρ = .ok (.rt (.pl (.val .none))) ρ := rfl
@[simp] theorem q_mDrop (f : M α) : mDrop f ρ = rDrop (f ρ) := by unfold mDrop bnd; cases f ρ <;> rfl
@[simp] theorem r_drop (a : α) : rDrop (.ok a ρ) = .ok .nx ρ := rfl
@[simp] theorem r_drop_x : rDrop (.stuck : R α) = .stuck := rfl
@[simp] theorem q_mNever : (mNever : M α) ρ = .stuck := rfl
@[simp] theorem q_tName : tName i d = setS i (.val d) := rfl
@[simp] theorem q_tsNil : tsNil [] = PL.ret () := rfl
@[simp] theorem q_tsCons (t : D → M Unit) (u : List D → M Unit) : tsCons t u (d :: ds) = bnd (t d) fun _ => u ds := rfl
@[simp] theorem q_tTupl (u : List D → M Unit) : tTupl u (.tuple ds) = u ds := rfl
@[simp] theorem q_mAsg (t : D → M Unit) (f : M D) : mAsg t f ρ = bnd f (fun d => bnd (t d) fun _ => PL.ret .nx) ρ := rfl
@[simp] theorem q_mTr (f : M Pl) : mTr f ρ = mUn truD f ρ := rfl
@[simp] theorem q_mOpX (g : D → D → Option (Bool × D)) (fa fb : M Pl) : mOpX g fa fb ρ = bnd (mOp g fa fb) (fun bz => PL.ret (rvOf bz)) ρ := rfl
@[simp] theorem q_rvOf_t : rvOf (true, d) = .fr d := rfl
@[simp] theorem q_rvOf_f : rvOf (false, d) = .pl (.val d) := rfl
@[simp] theorem q_mCall (ms : List Md) (nl : Nat) (body : M Fl) (fs : M (List Pl)) : mCall ms nl body fs ρ = bnd fs (fun ps => callAt ms nl body ps) ρ := rfl
@[simp] theorem q_callAt (ms : List Md) (nl : Nat) (body : M Fl) (ps : List Pl) : callAt ms nl body ps ρ = if apart ms ps = true then rArgs ρ ms nl body ps (argSs ρ ms ps) else .stuck := by
  unfold callAt
  split
  · cases argSs ρ ms ps with
    | none => rfl
    | some ss =>
      show _ = rCall ρ ms ps (evalD ms nl body ss)
      simp only
      cases evalD ms nl body ss with
      | none => rfl
      | some ro => simp only [rCall]; cases backIo ρ ms ps ro.2 <;> rfl
  · rfl
@[simp] theorem r_args (ms : List Md) (nl : Nat) (body : M Fl) (ps : List Pl) (ss : List Sl) : rArgs ρ ms nl body ps (some ss) = rCall ρ ms ps (evalD ms nl body ss) := rfl
@[simp] theorem r_args_x (ms : List Md) (nl : Nat) (body : M Fl) (ps : List Pl) : rArgs ρ ms nl body ps none = .stuck := rfl
@[simp] theorem r_call (ms : List Md) (ps : List Pl) (r : Rv) (e : List Sl) : rCall ρ ms ps (some (r, e)) = rBack r (backIo ρ ms ps e) := rfl
@[simp] theorem r_call_x (ms : List Md) (ps : List Pl) : rCall ρ ms ps none = .stuck := rfl
@[simp] theorem r_back (r : Rv) : rBack r (some ρ) = .ok r ρ := rfl
@[simp] theorem r_back_x (r : Rv) : rBack r none = .stuck := rfl
@[simp] theorem q_apart (ms : List Md) (ps : List Pl) : apart ms ps = (decide (ios ms ps).Nodup && (nios ms ps).all fun i => decide (i ∉ ios ms ps)) := rfl
@[simp] theorem q_ios_nil : ios [] ([] : List Pl) = [] := rfl
@[simp] theorem q_ios_io (ms : List Md) (ps : List Pl) : ios (.io :: ms) (.slot i :: ps) = i :: ios ms ps := rfl
@[simp] theorem q_ios_iov (ms : List Md) (ps : List Pl) : ios (.io :: ms) (.val d :: ps) = ios ms ps := rfl
@[simp] theorem q_ios_v (ms : List Md) (p : Pl) (ps : List Pl) : ios (.v :: ms) (p :: ps) = ios ms ps := rfl
@[simp] theorem q_ios_b (ms : List Md) (p : Pl) (ps : List Pl) : ios (.b :: ms) (p :: ps) = ios ms ps := rfl
@[simp] theorem q_ios_s (ms : List Md) (p : Pl) (ps : List Pl) : ios (.s :: ms) (p :: ps) = ios ms ps := rfl
@[simp] theorem q_nios_nil : nios [] ([] : List Pl) = [] := rfl
@[simp] theorem q_nios_io (ms : List Md) (p : Pl) (ps : List Pl) : nios (.io :: ms) (p :: ps) = nios ms ps := rfl
@[simp] theorem q_nios_v (ms : List Md) (ps : List Pl) : nios (.v :: ms) (.val d :: ps) = nios ms ps := rfl
@[simp] theorem q_nios_b (ms : List Md) (ps : List Pl) : nios (.b :: ms) (.val d :: ps) = nios ms ps := rfl
@[simp] theorem q_nios_s (ms : List Md) (ps : List Pl) : nios (.s :: ms) (.val d :: ps) = nios ms ps := rfl
@[simp] theorem q_nios_vs (ms : List Md) (ps : List Pl) : nios (.v :: ms) (.slot i :: ps) = i :: nios ms ps := rfl
@[simp] theorem q_nios_bs (ms : List Md) (ps : List Pl) : nios (.b :: ms) (.slot i :: ps) = i :: nios ms ps := rfl
@[simp] theorem q_nios_ss (ms : List Md) (ps : List Pl) : nios (.s :: ms) (.slot i :: ps) = i :: nios ms ps := rfl
@[simp] theorem q_argS_v : argS ρ .v (.val d) = some (.val d) := rfl
@[simp] theorem q_argS_b (p : Pl) : argS ρ .b p = (rsv ρ p).map .bor := by cases p <;> rfl
@[simp] theorem q_argS_io : argS ρ .io (.slot i) = match ρ[i]? with
    | some (.own d) => some (.io d)
    | some (.io d) => some (.io d)
    | _ => none := rfl
@[simp] theorem q_argS_s : argS ρ .s (.slot i) = match ρ[i]? with
    | some (.scr ns) => some (.scr ns)
    | _ => none := rfl
@[simp] theorem q_argSs_nil : argSs ρ [] [] = some [] := rfl
@[simp] theorem q_argSs_cons (m : Md) (ms : List Md) (p : Pl) (ps : List Pl) : argSs ρ (m :: ms) (p :: ps) = match argS ρ m p, argSs ρ ms ps with
    | some s, some ss => some (s :: ss)
    | _, _ => none := rfl
@[simp] theorem q_back_nil (ss : List Sl) : backIo ρ [] [] ss = some ρ := by cases ss <;> rfl
@[simp] theorem q_back_io (ms : List Md) (ps : List Pl) (ss : List Sl) : backIo ρ (.io :: ms) (.slot i :: ps) (.io d :: ss) = match putIo ρ i d with
    | some ρ1 => backIo ρ1 ms ps ss
    | none => none := rfl
@[simp] theorem q_back_v (ms : List Md) (p : Pl) (ps : List Pl) (s : Sl) (ss : List Sl) : backIo ρ (.v :: ms) (p :: ps) (s :: ss) = backIo ρ ms ps ss := rfl
@[simp] theorem q_back_b (ms : List Md) (p : Pl) (ps : List Pl) (s : Sl) (ss : List Sl) : backIo ρ (.b :: ms) (p :: ps) (s :: ss) = backIo ρ ms ps ss := rfl
@[simp] theorem q_back_s (ms : List Md) (p : Pl) (ps : List Pl) (s : Sl) (ss : List Sl) : backIo ρ (.s :: ms) (p :: ps) (s :: ss) = backIo ρ ms ps ss := rfl
@[simp] theorem q_putIo : putIo ρ i d = match ρ[i]? with
  | some (.own _) => some (ρ.set i (.own d))
  | some (.io _) => some (ρ.set i (.io d))
  | _ => none := rfl
@[simp] theorem q_mIter (f : M Pl) : mIter f ρ = bnd f (fun p => bnd (seqAt p) fun ds => PL.ret ds.2) ρ := rfl
@[simp] theorem q_mRev (f : M (List D)) : mRev f ρ = bnd f (fun ds => PL.ret ds.reverse) ρ := rfl
def rngOf : R D → R (List D)
  | .ok (.int n) ρ => if small62 n = true then .ok (rngD 0 n) ρ else .stuck
  | _ => .stuck
@[simp] theorem q_mRng1 (f : M D) : mRng1 f ρ = rngOf (f ρ) := by
  unfold mRng1
  rw [q_bnd]
  cases f ρ with
  | stuck => rfl
  | ok d ρ' => cases d <;> rfl
def rng2B (a : Int) : R D → R (List D)
  | .ok (.int b) ρ => if (small62 a && small62 b) = true then .ok (rngD a b) ρ else .stuck
  | _ => .stuck
def rng2Of (g : M D) : R D → R (List D)
  | .ok (.int a) ρ => rng2B a (g ρ)
  | _ => .stuck
@[simp] theorem q_mFor (f : M (List D)) (t : D → M Unit) (b : M Fl) : mFor f t b ρ = bnd f (fun ds => forGo t b ds) ρ := rfl
@[simp] theorem q_mMut (g : List D → List D → Option (List D × D)) (fs : M (List D)) : mMut j g fs ρ = bnd (isOwnL j) (fun _ => bnd fs fun as => mutAt j g as) ρ := rfl
@[simp] theorem q_mSetIx (fe fi : M D) : mSetIx j fe fi ρ = bnd fe (fun d => bnd (isOwn j) fun _ => bnd fi fun k => setAt j d k) ρ := rfl
@[simp] theorem q_mLenS : mLenS i ρ = match ρ[i]? with
  | some (.scr ns) => .ok (.int ns.length) ρ
  | _ => .stuck := rfl
@[simp] theorem q_mYes : mYes ρ = .ok true ρ := rfl
@[simp] theorem q_resR_fr : resR ρ (.fr d) = some (.fr d) := rfl
@[simp] theorem q_resR_v : resR ρ (.pl (.val d)) = some (.pl (.val d)) := rfl
@[simp] theorem q_resR_s : resR ρ (.pl (.slot i)) = match ρ[i]? with
    | some (.val d) => some (.pl (.val d))
    | some (.own d) => some (.fr d)
    | some (.bor d) => if atom d = true then some (.pl (.val d)) else none
    | _ => none := rfl
@[simp] theorem q_mMeth (g' : D → List D → Option D) (fo : M Pl) (fs : M (List Pl)) : mMeth g' fo fs ρ = bnd fo (fun p => bnd (look p) fun d0 => bnd (ofO (isL d0)) fun _ => bnd fs fun ps => bnd (look p) fun d => bnd (lookAll ps) fun ds => ofO (g' d ds)) ρ := rfl
@[simp] theorem q_wipe_nil : wipeE ρ [] = ρ := rfl
@[simp] theorem q_wipe_cons (v : Nat) (vs : List Nat) : wipeE ρ (v :: vs) = (wipeE ρ vs).set v .un := rfl
@[simp] theorem q_rest_nil : restE ρ ρ' [] = ρ' := rfl
@[simp] theorem q_rest_cons (v : Nat) (vs : List Nat) : restE ρ ρ' (v :: vs) = (restE ρ ρ' vs).set v (keepS (ρ.getD v .un)) := rfl
@[simp] theorem q_keep_un : keepS .un = .un := rfl
@[simp] theorem q_keep_val : keepS (.val d) = .val d := rfl
@[simp] theorem q_keep_bor : keepS (.bor d) = .bor d := rfl
@[simp] theorem q_keep_own : keepS (.own d) = .un := rfl
theorem q_mLc (fi : M (List D)) (t : D → M Unit) (vs : List Nat) (c : M Bool) (fe : M D) : mLc fi t vs c fe ρ = bnd fi (fun ds => fun ρ1 => match lcGo t vs c fe [] ds (wipeE ρ1 vs) with
  | .ok acc ρ2 => .ok (.fr (.list acc)) (restE ρ1 ρ2 vs)
  | .stuck => .stuck) ρ := rfl
theorem mSet_lc {j : Nat} {fi : M (List D)} {t : D → M Unit} {vs : List Nat} {c : M Bool} {fe : M D} {ρ ρ1 ρ2 ρ3 : Env} {ds out : List D} (h1 : fi ρ = .ok ds ρ1) (h2 : lcGo t vs c fe [] ds (wipeE ρ1 vs) = .ok out ρ2)
    (h3 : restE ρ1 ρ2 vs = ρ3) (h4 : j < ρ3.length) : mSet j (mLc fi t vs c fe) ρ = .ok .nx (ρ3.set j (.own (.list out))) := by
  rw [q_mSet, mLc_ok h1 h2, h3]
  simp [h4]
theorem runD_rt {nl : Nat} {m : M Fl} {ss ρ' : Env} {r : Rv} (h : m (ss ++ List.replicate nl .un) = .ok (.rt r) ρ') : runD nl m ss = some (r, ρ') := by
  unfold runD; rw [h]
theorem runD_nx {nl : Nat} {m : M Fl} {ss ρ' : Env} (h : m (ss ++ List.replicate nl .un) = .ok .nx ρ') : runD nl m ss = some (.pl (.val .none), ρ') := by
  unfold runD; rw [h]
theorem ev_rt {ms : List Md} {nl : Nat} {m : M Fl} {ss ρ' : Env} {r r' : Rv} (h : m (ss ++ List.replicate nl .un) = .ok (.rt r) ρ') (h2 : resR ρ' r = some r') : evalD ms nl m ss = some (r', ρ'.take ms.length) := evalD_of (runD_rt h) h2
theorem ev_nx {ms : List Md} {nl : Nat} {m : M Fl} {ss ρ' : Env} (h : m (ss ++ List.replicate nl .un) = .ok .nx ρ') : evalD ms nl m ss = some (.pl (.val .none), ρ'.take ms.length) := evalD_of (runD_nx h) rfl
@[simp] theorem q_asBool : asBool (.bool b) = some b := rfl
end
/-! ### the p-level: what a mirror does, without names -/
theorem ob {α β : Type} {o : Option α} {f : α → Option β} {r : β} (h : o.bind f = some r) : ∃ a, o = some a ∧ f a = some r := Option.bind_eq_some_iff.mp h
def bind1 {α γ : Type} (o : Option α) (f : α → Option γ) : Option γ := match o with
  | some x => f x
  | none => none
theorem ob1 {α γ : Type} {o : Option α} {f : α → Option γ} {r : γ} (h : bind1 o f = some r) : ∃ x, o = some x ∧ f x = some r := by
  cases o with
  | none => cases h
  | some t => exact ⟨t, rfl, h⟩
def bind2 {α1 α2 γ : Type} (o : Option (α1 × α2)) (f : α1 → α2 → Option γ) : Option γ := match o with
  | some (x1, x2) => f x1 x2
  | none => none
theorem bind2_some {α1 α2 γ : Type} (f : α1 → α2 → Option γ) (x1 : α1) (x2 : α2) : bind2 (some (x1, x2)) f = f x1 x2 := rfl
theorem ob2 {α1 α2 γ : Type} {o : Option (α1 × α2)} {f : α1 → α2 → Option γ} {r : γ} (h : bind2 o f = some r) : ∃ x1 x2, o = some (x1, x2) ∧ f x1 x2 = some r := by
  cases o with
  | none => cases h
  | some t => obtain ⟨x1, x2⟩ := t; exact ⟨x1, x2, rfl, h⟩
def bind3 {α1 α2 α3 γ : Type} (o : Option (α1 × α2 × α3)) (f : α1 → α2 → α3 → Option γ) : Option γ := match o with
  | some (x1, x2, x3) => f x1 x2 x3
  | none => none
theorem bind3_some {α1 α2 α3 γ : Type} (f : α1 → α2 → α3 → Option γ) (x1 : α1) (x2 : α2) (x3 : α3) : bind3 (some (x1, x2, x3)) f = f x1 x2 x3 := rfl
theorem ob3 {α1 α2 α3 γ : Type} {o : Option (α1 × α2 × α3)} {f : α1 → α2 → α3 → Option γ} {r : γ} (h : bind3 o f = some r) : ∃ x1 x2 x3, o = some (x1, x2, x3) ∧ f x1 x2 x3 = some r := by
  cases o with
  | none => cases h
  | some t => obtain ⟨x1, x2, x3⟩ := t; exact ⟨x1, x2, x3, rfl, h⟩
def bind4 {α1 α2 α3 α4 γ : Type} (o : Option (α1 × α2 × α3 × α4)) (f : α1 → α2 → α3 → α4 → Option γ) : Option γ := match o with
  | some (x1, x2, x3, x4) => f x1 x2 x3 x4
  | none => none
theorem bind4_some {α1 α2 α3 α4 γ : Type} (f : α1 → α2 → α3 → α4 → Option γ) (x1 : α1) (x2 : α2) (x3 : α3) (x4 : α4) : bind4 (some (x1, x2, x3, x4)) f = f x1 x2 x3 x4 := rfl
theorem ob4 {α1 α2 α3 α4 γ : Type} {o : Option (α1 × α2 × α3 × α4)} {f : α1 → α2 → α3 → α4 → Option γ} {r : γ} (h : bind4 o f = some r) : ∃ x1 x2 x3 x4, o = some (x1, x2, x3, x4) ∧ f x1 x2 x3 x4 = some r := by
  cases o with
  | none => cases h
  | some t => obtain ⟨x1, x2, x3, x4⟩ := t; exact ⟨x1, x2, x3, x4, rfl, h⟩
def bind5 {α1 α2 α3 α4 α5 γ : Type} (o : Option (α1 × α2 × α3 × α4 × α5)) (f : α1 → α2 → α3 → α4 → α5 → Option γ) : Option γ := match o with
  | some (x1, x2, x3, x4, x5) => f x1 x2 x3 x4 x5
  | none => none
theorem bind5_some {α1 α2 α3 α4 α5 γ : Type} (f : α1 → α2 → α3 → α4 → α5 → Option γ) (x1 : α1) (x2 : α2) (x3 : α3) (x4 : α4) (x5 : α5) : bind5 (some (x1, x2, x3, x4, x5)) f = f x1 x2 x3 x4 x5 := rfl
theorem ob5 {α1 α2 α3 α4 α5 γ : Type} {o : Option (α1 × α2 × α3 × α4 × α5)} {f : α1 → α2 → α3 → α4 → α5 → Option γ} {r : γ} (h : bind5 o f = some r) : ∃ x1 x2 x3 x4 x5, o = some (x1, x2, x3, x4, x5) ∧ f x1 x2 x3 x4 x5 = some r := by
  cases o with
  | none => cases h
  | some t => obtain ⟨x1, x2, x3, x4, x5⟩ := t; exact ⟨x1, x2, x3, x4, x5, rfl, h⟩
def bind6 {α1 α2 α3 α4 α5 α6 γ : Type} (o : Option (α1 × α2 × α3 × α4 × α5 × α6)) (f : α1 → α2 → α3 → α4 → α5 → α6 → Option γ) : Option γ := match o with
  | some (x1, x2, x3, x4, x5, x6) => f x1 x2 x3 x4 x5 x6
  | none => none
theorem bind6_some {α1 α2 α3 α4 α5 α6 γ : Type} (f : α1 → α2 → α3 → α4 → α5 → α6 → Option γ) (x1 : α1) (x2 : α2) (x3 : α3) (x4 : α4) (x5 : α5) (x6 : α6) : bind6 (some (x1, x2, x3, x4, x5, x6)) f = f x1 x2 x3 x4 x5 x6 := rfl
theorem ob6 {α1 α2 α3 α4 α5 α6 γ : Type} {o : Option (α1 × α2 × α3 × α4 × α5 × α6)} {f : α1 → α2 → α3 → α4 → α5 → α6 → Option γ} {r : γ} (h : bind6 o f = some r) : ∃ x1 x2 x3 x4 x5 x6, o = some (x1, x2, x3, x4, x5, x6) ∧ f x1 x2 x3 x4 x5 x6 = some r := by
  cases o with
  | none => cases h
  | some t => obtain ⟨x1, x2, x3, x4, x5, x6⟩ := t; exact ⟨x1, x2, x3, x4, x5, x6, rfl, h⟩
def bind7 {α1 α2 α3 α4 α5 α6 α7 γ : Type} (o : Option (α1 × α2 × α3 × α4 × α5 × α6 × α7)) (f : α1 → α2 → α3 → α4 → α5 → α6 → α7 → Option γ) : Option γ := match o with
  | some (x1, x2, x3, x4, x5, x6, x7) => f x1 x2 x3 x4 x5 x6 x7
  | none => none
theorem bind7_some {α1 α2 α3 α4 α5 α6 α7 γ : Type} (f : α1 → α2 → α3 → α4 → α5 → α6 → α7 → Option γ) (x1 : α1) (x2 : α2) (x3 : α3) (x4 : α4) (x5 : α5) (x6 : α6) (x7 : α7) : bind7 (some (x1, x2, x3, x4, x5, x6, x7)) f = f x1 x2 x3 x4 x5 x6 x7 := rfl
theorem ob7 {α1 α2 α3 α4 α5 α6 α7 γ : Type} {o : Option (α1 × α2 × α3 × α4 × α5 × α6 × α7)} {f : α1 → α2 → α3 → α4 → α5 → α6 → α7 → Option γ} {r : γ} (h : bind7 o f = some r) : ∃ x1 x2 x3 x4 x5 x6 x7, o = some (x1, x2, x3, x4, x5, x6, x7) ∧ f x1 x2 x3 x4 x5 x6 x7 = some r := by
  cases o with
  | none => cases h
  | some t => obtain ⟨x1, x2, x3, x4, x5, x6, x7⟩ := t; exact ⟨x1, x2, x3, x4, x5, x6, x7, rfl, h⟩
def bind8 {α1 α2 α3 α4 α5 α6 α7 α8 γ : Type} (o : Option (α1 × α2 × α3 × α4 × α5 × α6 × α7 × α8)) (f : α1 → α2 → α3 → α4 → α5 → α6 → α7 → α8 → Option γ) : Option γ := match o with
  | some (x1, x2, x3, x4, x5, x6, x7, x8) => f x1 x2 x3 x4 x5 x6 x7 x8
  | none => none
theorem bind8_some {α1 α2 α3 α4 α5 α6 α7 α8 γ : Type} (f : α1 → α2 → α3 → α4 → α5 → α6 → α7 → α8 → Option γ) (x1 : α1) (x2 : α2) (x3 : α3) (x4 : α4) (x5 : α5) (x6 : α6) (x7 : α7) (x8 : α8) : bind8 (some (x1, x2, x3, x4, x5, x6, x7, x8)) f = f x1 x2 x3 x4 x5 x6 x7 x8 := rfl
theorem ob8 {α1 α2 α3 α4 α5 α6 α7 α8 γ : Type} {o : Option (α1 × α2 × α3 × α4 × α5 × α6 × α7 × α8)} {f : α1 → α2 → α3 → α4 → α5 → α6 → α7 → α8 → Option γ} {r : γ} (h : bind8 o f = some r) : ∃ x1 x2 x3 x4 x5 x6 x7 x8, o = some (x1, x2, x3, x4, x5, x6, x7, x8) ∧ f x1 x2 x3 x4 x5 x6 x7 x8 = some r := by
  cases o with
  | none => cases h
  | some t => obtain ⟨x1, x2, x3, x4, x5, x6, x7, x8⟩ := t; exact ⟨x1, x2, x3, x4, x5, x6, x7, x8, rfl, h⟩
def bind9 {α1 α2 α3 α4 α5 α6 α7 α8 α9 γ : Type} (o : Option (α1 × α2 × α3 × α4 × α5 × α6 × α7 × α8 × α9)) (f : α1 → α2 → α3 → α4 → α5 → α6 → α7 → α8 → α9 → Option γ) : Option γ := match o with
  | some (x1, x2, x3, x4, x5, x6, x7, x8, x9) => f x1 x2 x3 x4 x5 x6 x7 x8 x9
  | none => none
theorem bind9_some {α1 α2 α3 α4 α5 α6 α7 α8 α9 γ : Type} (f : α1 → α2 → α3 → α4 → α5 → α6 → α7 → α8 → α9 → Option γ) (x1 : α1) (x2 : α2) (x3 : α3) (x4 : α4) (x5 : α5) (x6 : α6) (x7 : α7) (x8 : α8) (x9 : α9) : bind9 (some (x1, x2, x3, x4, x5, x6, x7, x8, x9)) f = f x1 x2 x3 x4 x5 x6 x7 x8 x9 := rfl
theorem ob9 {α1 α2 α3 α4 α5 α6 α7 α8 α9 γ : Type} {o : Option (α1 × α2 × α3 × α4 × α5 × α6 × α7 × α8 × α9)} {f : α1 → α2 → α3 → α4 → α5 → α6 → α7 → α8 → α9 → Option γ} {r : γ} (h : bind9 o f = some r) : ∃ x1 x2 x3 x4 x5 x6 x7 x8 x9, o = some (x1, x2, x3, x4, x5, x6, x7, x8, x9) ∧ f x1 x2 x3 x4 x5 x6 x7 x8 x9 = some r := by
  cases o with
  | none => cases h
  | some t => obtain ⟨x1, x2, x3, x4, x5, x6, x7, x8, x9⟩ := t; exact ⟨x1, x2, x3, x4, x5, x6, x7, x8, x9, rfl, h⟩
def bind10 {α1 α2 α3 α4 α5 α6 α7 α8 α9 α10 γ : Type} (o : Option (α1 × α2 × α3 × α4 × α5 × α6 × α7 × α8 × α9 × α10)) (f : α1 → α2 → α3 → α4 → α5 → α6 → α7 → α8 → α9 → α10 → Option γ) : Option γ := match o with
  | some (x1, x2, x3, x4, x5, x6, x7, x8, x9, x10) => f x1 x2 x3 x4 x5 x6 x7 x8 x9 x10
  | none => none
theorem bind10_some {α1 α2 α3 α4 α5 α6 α7 α8 α9 α10 γ : Type} (f : α1 → α2 → α3 → α4 → α5 → α6 → α7 → α8 → α9 → α10 → Option γ) (x1 : α1) (x2 : α2) (x3 : α3) (x4 : α4) (x5 : α5) (x6 : α6) (x7 : α7) (x8 : α8) (x9 : α9) (x10 : α10) : bind10 (some (x1, x2, x3, x4, x5, x6, x7, x8, x9, x10)) f = f x1 x2 x3 x4 x5 x6 x7 x8 x9 x10 := rfl
theorem ob10 {α1 α2 α3 α4 α5 α6 α7 α8 α9 α10 γ : Type} {o : Option (α1 × α2 × α3 × α4 × α5 × α6 × α7 × α8 × α9 × α10)} {f : α1 → α2 → α3 → α4 → α5 → α6 → α7 → α8 → α9 → α10 → Option γ} {r : γ} (h : bind10 o f = some r) : ∃ x1 x2 x3 x4 x5 x6 x7 x8 x9 x10, o = some (x1, x2, x3, x4, x5, x6, x7, x8, x9, x10) ∧ f x1 x2 x3 x4 x5 x6 x7 x8 x9 x10 = some r := by
  cases o with
  | none => cases h
  | some t => obtain ⟨x1, x2, x3, x4, x5, x6, x7, x8, x9, x10⟩ := t; exact ⟨x1, x2, x3, x4, x5, x6, x7, x8, x9, x10, rfl, h⟩
theorem sinj2 {α1 α2 : Type} {a1 b1 : α1} {a2 b2 : α2} (h : some (a1, a2) = some (b1, b2)) : a1 = b1 ∧ a2 = b2 := by
  cases h
  exact ⟨rfl, rfl⟩
theorem sinj3 {α1 α2 α3 : Type} {a1 b1 : α1} {a2 b2 : α2} {a3 b3 : α3} (h : some (a1, a2, a3) = some (b1, b2, b3)) : a1 = b1 ∧ a2 = b2 ∧ a3 = b3 := by
  cases h
  exact ⟨rfl, rfl, rfl⟩
theorem sinj4 {α1 α2 α3 α4 : Type} {a1 b1 : α1} {a2 b2 : α2} {a3 b3 : α3} {a4 b4 : α4} (h : some (a1, a2, a3, a4) = some (b1, b2, b3, b4)) : a1 = b1 ∧ a2 = b2 ∧ a3 = b3 ∧ a4 = b4 := by
  cases h
  exact ⟨rfl, rfl, rfl, rfl⟩
theorem sinj5 {α1 α2 α3 α4 α5 : Type} {a1 b1 : α1} {a2 b2 : α2} {a3 b3 : α3} {a4 b4 : α4} {a5 b5 : α5} (h : some (a1, a2, a3, a4, a5) = some (b1, b2, b3, b4, b5)) : a1 = b1 ∧ a2 = b2 ∧ a3 = b3 ∧ a4 = b4 ∧ a5 = b5 := by
  cases h
  exact ⟨rfl, rfl, rfl, rfl, rfl⟩
theorem sinj6 {α1 α2 α3 α4 α5 α6 : Type} {a1 b1 : α1} {a2 b2 : α2} {a3 b3 : α3} {a4 b4 : α4} {a5 b5 : α5} {a6 b6 : α6} (h : some (a1, a2, a3, a4, a5, a6) = some (b1, b2, b3, b4, b5, b6)) : a1 = b1 ∧ a2 = b2 ∧ a3 = b3 ∧ a4 = b4 ∧ a5 = b5 ∧ a6 = b6 := by
  cases h
  exact ⟨rfl, rfl, rfl, rfl, rfl, rfl⟩
theorem sinj7 {α1 α2 α3 α4 α5 α6 α7 : Type} {a1 b1 : α1} {a2 b2 : α2} {a3 b3 : α3} {a4 b4 : α4} {a5 b5 : α5} {a6 b6 : α6} {a7 b7 : α7} (h : some (a1, a2, a3, a4, a5, a6, a7) = some (b1, b2, b3, b4, b5, b6, b7)) : a1 = b1 ∧ a2 = b2 ∧ a3 = b3 ∧ a4 = b4 ∧ a5 = b5 ∧ a6 = b6 ∧ a7 = b7 := by
  cases h
  exact ⟨rfl, rfl, rfl, rfl, rfl, rfl, rfl⟩
theorem sinj8 {α1 α2 α3 α4 α5 α6 α7 α8 : Type} {a1 b1 : α1} {a2 b2 : α2} {a3 b3 : α3} {a4 b4 : α4} {a5 b5 : α5} {a6 b6 : α6} {a7 b7 : α7} {a8 b8 : α8} (h : some (a1, a2, a3, a4, a5, a6, a7, a8) = some (b1, b2, b3, b4, b5, b6, b7, b8)) : a1 = b1 ∧ a2 = b2 ∧ a3 = b3 ∧ a4 = b4 ∧ a5 = b5 ∧ a6 = b6 ∧ a7 = b7 ∧ a8 = b8 := by
  cases h
  exact ⟨rfl, rfl, rfl, rfl, rfl, rfl, rfl, rfl⟩
theorem sinj9 {α1 α2 α3 α4 α5 α6 α7 α8 α9 : Type} {a1 b1 : α1} {a2 b2 : α2} {a3 b3 : α3} {a4 b4 : α4} {a5 b5 : α5} {a6 b6 : α6} {a7 b7 : α7} {a8 b8 : α8} {a9 b9 : α9} (h : some (a1, a2, a3, a4, a5, a6, a7, a8, a9) = some (b1, b2, b3, b4, b5, b6, b7, b8, b9)) : a1 = b1 ∧ a2 = b2 ∧ a3 = b3 ∧ a4 = b4 ∧ a5 = b5 ∧ a6 = b6 ∧ a7 = b7 ∧ a8 = b8 ∧ a9 = b9 := by
  cases h
  exact ⟨rfl, rfl, rfl, rfl, rfl, rfl, rfl, rfl, rfl⟩
theorem sinj10 {α1 α2 α3 α4 α5 α6 α7 α8 α9 α10 : Type} {a1 b1 : α1} {a2 b2 : α2} {a3 b3 : α3} {a4 b4 : α4} {a5 b5 : α5} {a6 b6 : α6} {a7 b7 : α7} {a8 b8 : α8} {a9 b9 : α9} {a10 b10 : α10} (h : some (a1, a2, a3, a4, a5, a6, a7, a8, a9, a10) = some (b1, b2, b3, b4, b5, b6, b7, b8, b9, b10)) : a1 = b1 ∧ a2 = b2 ∧ a3 = b3 ∧ a4 = b4 ∧ a5 = b5 ∧ a6 = b6 ∧ a7 = b7 ∧ a8 = b8 ∧ a9 = b9 ∧ a10 = b10 := by
  cases h
  exact ⟨rfl, rfl, rfl, rfl, rfl, rfl, rfl, rfl, rfl, rfl⟩
def isLst : D → Bool
  | .list _ => true
  | _ => false
def tup2 : D → Option (D × D)
  | .tuple [a, b] => some (a, b)
  | _ => none
def tup3 : D → Option (D × D × D)
  | .tuple [a, b, c] => some (a, b, c)
  | _ => none
theorem tup2_eq {d a b : D} (h : tup2 d = some (a, b)) : d = .tuple [a, b] := by
  unfold tup2 at h
  split at h
  · cases h; rfl
  · cases h
theorem tup3_eq {d a b c : D} (h : tup3 d = some (a, b, c)) : d = .tuple [a, b, c] := by
  unfold tup3 at h
  split at h
  · cases h; rfl
  · cases h
theorem tT2 {d a b : D} (h : tup2 d = some (a, b)) (u : List D → M Unit) : tTupl u d = u [a, b] := by rw [tup2_eq h]; rfl
theorem tT3 {d a b c : D} (h : tup3 d = some (a, b, c)) (u : List D → M Unit) : tTupl u d = u [a, b, c] := by rw [tup3_eq h]; rfl
def ixP : D → Option Int
  | .int i => some i
  | _ => none
def atP (d : D) : Option Unit := if atom d = true then some () else none
theorem atP_eq {d : D} {u : Unit} (h : atP d = some u) : atom d = true := by
  unfold atP at h
  split at h
  · assumption
  · cases h
def negP : D → Option D
  | .int i => some (.int (-i))
  | _ => none
def rng1P : D → Option (List D)
  | .int n => if small62 n = true then some (rngD 0 n) else none
  | _ => none
def rng2P : D → D → Option (List D)
  | .int a, .int b => if (small62 a && small62 b) = true then some (rngD a b) else none
  | _, _ => none
def rngdP : D → D → Option (List D)
  | .int a, .int b => if (small62 a && small62 b) = true then some (rngdD a b) else none
  | _, _ => none
def dict1P : D → D → Option D
  | .int i, d => some (.dict [(.int i, d)])
  | _, _ => none
def dict1R (d : D) : R D → R D
  | .ok e ρ => ofO (dict1P d e) ρ
  | .stuck => .stuck
def lrgP : D → Option D
  | .int n => if (decide (-100000 ≤ n) && decide (n ≤ 100000)) = true then some (.list (rngD 0 n)) else none
  | _ => none
def zipP (d e : D) : Option (List D) := match itemsD d, itemsD e with
  | some x, some y => if (x.1 == y.1) = true then some ((x.2.zip y.2).map fun (d, e) => .tuple [d, e]) else none
  | _, _ => none
def addV (a b : D) : Option D := match gAdd a b with
  | some (false, z) => some z
  | _ => none
def addF (a b : D) : Option D := match gAdd a b with
  | some (true, z) => some z
  | _ => none
def mulV (a b : D) : Option D := match gMul a b with
  | some (false, z) => some z
  | _ => none
def mulF (a b : D) : Option D := match gMul a b with
  | some (true, z) => some z
  | _ => none
def slV (d : D) (l h : Option Int) : Option D := match sliceD d l h with
  | some (false, z) => some z
  | _ => none
def slF (d : D) (l h : Option Int) : Option D := match sliceD d l h with
  | some (true, z) => some z
  | _ => none
theorem sliceW_w {d z : D} {b : Bool} {lo hi : Option Int} (h : sliceW d lo hi = some (b, z)) (hb : b = true) : d = z := by
  subst hb; exact sliceW_t h
def slW (d : D) (l h : Option Int) : Option D := match sliceW d l h with
  | some (false, z) => some z
  | _ => none
theorem slW_eq {d z : D} {l k : Option Int} (h : slW d l k = some z) : sliceW d l k = some (false, z) := by
  unfold slW at h; split at h
  · cases h; assumption
  · cases h
theorem addV_eq {a b z : D} (h : addV a b = some z) : gAdd a b = some (false, z) := by
  unfold addV at h; split at h
  · cases h; assumption
  · cases h
theorem addF_eq {a b z : D} (h : addF a b = some z) : gAdd a b = some (true, z) := by
  unfold addF at h; split at h
  · cases h; assumption
  · cases h
theorem mulV_eq {a b z : D} (h : mulV a b = some z) : gMul a b = some (false, z) := by
  unfold mulV at h; split at h
  · cases h; assumption
  · cases h
theorem mulF_eq {a b z : D} (h : mulF a b = some z) : gMul a b = some (true, z) := by
  unfold mulF at h; split at h
  · cases h; assumption
  · cases h
theorem slV_eq {d z : D} {l k : Option Int} (h : slV d l k = some z) : sliceD d l k = some (false, z) := by
  unfold slV at h; split at h
  · cases h; assumption
  · cases h
theorem slF_eq {d z : D} {l k : Option Int} (h : slF d l k = some z) : sliceD d l k = some (true, z) := by
  unfold slF at h; split at h
  · cases h; assumption
  · cases h
def mutP (g : List D → List D → Option (List D × D)) (d : D) (as : List D) : Option (D × D) := match d with
  | .list ds => (g ds as).map fun nr => (.list nr.1, nr.2)
  | _ => none
theorem mutP_lst {g : List D → List D → Option (List D × D)} {d : D} {as : List D} {r : D × D} (h : mutP g d as = some r) : isLst d = true := by
  cases d <;> first | rfl | cases h
def setP (e k x : D) : Option D := match e, k with
  | .list ds, .int n => (ixN ds.length n).map fun i => .list (ds.set i x)
  | _, _ => none
def ixSP (ns : List Int) : D → Option D
  | .int n => (atI ns n).map .int
  | _ => none
def ovS (b : Bool) (z : D) : Sl := if b = true then .own z else .val z
@[simp] theorem ovS_t (z : D) : ovS true z = .own z := rfl
@[simp] theorem ovS_f (z : D) : ovS false z = .val z := rfl
section
variable {α β : Type} (ρ ρ' : Env) (i j : Nat) (d e : D) (ds es : List D) (x y : Int) (b : Bool)
theorem ofO_none' {α : Type} (ρ : Env) : (fun (_ : Env) => (R.stuck : R α)) ρ = .stuck := rfl
@[simp] theorem s_seq_v : seqAt (.val d) ρ = ofO (itemsD d) ρ := by
  unfold seqAt; dsimp only; cases itemsD d <;> rfl
@[simp] theorem s_seq_s : seqAt (.slot i) ρ = match ρ[i]? with
    | some (.bor d) => ofO (itemsD d) ρ
    | some (.scr ns) => .ok (false, ns.map PyData.int) ρ
    | _ => .stuck := by
  unfold seqAt
  simp only
  cases ρ[i]? with
  | none => rfl
  | some s => cases s <;> simp only
              rename_i d; cases itemsD d <;> rfl
@[simp] theorem s_isOwnL : isOwnL j ρ = match ρ[j]? with
    | some (.own d) => if isLst d = true then .ok () ρ else .stuck
    | some (.io d) => if isLst d = true then .ok () ρ else .stuck
    | _ => .stuck := by
  unfold isOwnL
  cases ρ[j]? with
  | none => rfl
  | some s => cases s <;> first | rfl | (rename_i d; cases d <;> rfl)
@[simp] theorem s_isOwn : isOwn j ρ = match ρ[j]? with
  | some (.own _) => .ok () ρ
  | some (.io _) => .ok () ρ
  | _ => .stuck := rfl
def rMut (f : D → Env) : Option (D × D) → R D
  | some (d, z) => .ok z (f d)
  | none => .stuck
@[simp] theorem rMut_some (f : D → Env) (z : D) : rMut f (some (d, z)) = .ok z (f d) := rfl
@[simp] theorem s_mutAt (g : List D → List D → Option (List D × D)) (as : List D) : mutAt j g as ρ = match ρ[j]? with
  | some (.own d) => rMut (fun d => ρ.set j (.own d)) (mutP g d as)
  | some (.io d) => rMut (fun d => ρ.set j (.io d)) (mutP g d as)
  | _ => .stuck := by
  unfold mutAt
  cases ρ[j]? with
  | none => rfl
  | some s =>
    cases s with
    | own d => cases d with
      | list ds => simp only [mutP]; cases g ds as <;> rfl
      | _ => rfl
    | io d => cases d with
      | list ds => simp only [mutP]; cases g ds as <;> rfl
      | _ => rfl
    | _ => rfl
def rSetAt (f : D → Env) : Option D → R Fl
  | some d => .ok .nx (f d)
  | none => .stuck
@[simp] theorem rSetAt_some (f : D → Env) : rSetAt f (some d) = .ok .nx (f d) := rfl
@[simp] theorem s_setAt (k : D) : setAt j d k ρ = match ρ[j]? with
  | some (.own e) => rSetAt (fun d => ρ.set j (.own d)) (setP e k d)
  | some (.io e) => rSetAt (fun d => ρ.set j (.io d)) (setP e k d)
  | _ => .stuck := by
  unfold setAt
  cases ρ[j]? with
  | none => rfl
  | some s =>
    cases s with
    | own e => cases e with
      | list ds => cases k with
        | int n => simp only [setP]; cases ixN ds.length n <;> rfl
        | _ => rfl
      | _ => rfl
    | io e => cases e with
      | list ds => cases k with
        | int n => simp only [setP]; cases ixN ds.length n <;> rfl
        | _ => rfl
      | _ => rfl
    | _ => rfl
@[simp] theorem s_neg (f : M D) : mNegU f ρ = bnd f (fun d => ofO (negP d)) ρ := by
  unfold mNegU bnd
  cases f ρ with
  | stuck => rfl
  | ok d ρ' => cases d <;> rfl
@[simp] theorem s_rngOf : rngOf (.ok d ρ) = ofO (rng1P d) ρ := by
  cases d with
  | int n => simp only [rngOf, rng1P]; split <;> rfl
  | _ => rfl
def rng2R (d : D) : R D → R (List D)
  | .ok e ρ => ofO (rng2P d e) ρ
  | .stuck => .stuck
@[simp] theorem s_rng2R : rng2R d (.ok e ρ) = ofO (rng2P d e) ρ := rfl
@[simp] theorem s_rng2 (f g : M D) : mRng2 f g ρ = bnd f (fun d => fun ρ => rng2R d (g ρ)) ρ := by
  unfold mRng2
  rw [q_bnd, q_bnd]
  cases f ρ with
  | stuck => rfl
  | ok d ρ' =>
    show bnd g _ ρ' = rng2R d (g ρ')
    rw [q_bnd]
    cases g ρ' with
    | stuck => rfl
    | ok e ρ'' =>
      cases d <;> first | rfl | (cases e <;> first | rfl | (simp only [r_bnd, rng2R, rng2P]; split <;> rfl))
def rngdR (d : D) : R D → R (List D)
  | .ok e ρ => ofO (rngdP d e) ρ
  | .stuck => .stuck
@[simp] theorem s_rngdR : rngdR d (.ok e ρ) = ofO (rngdP d e) ρ := rfl
@[simp] theorem s_rngd (f g : M D) : mRngD f g ρ = bnd f (fun d => fun ρ => rngdR d (g ρ)) ρ := by
  unfold mRngD
  rw [q_bnd, q_bnd]
  cases f ρ with
  | stuck => rfl
  | ok d ρ' =>
    show bnd g _ ρ' = rngdR d (g ρ')
    rw [q_bnd]
    cases g ρ' with
    | stuck => rfl
    | ok e ρ'' =>
      cases d <;> first | rfl | (cases e <;> first | rfl | (simp only [r_bnd, rngdR, rngdP]; split <;> rfl))
@[simp] theorem s_dict1R : dict1R d (.ok e ρ) = ofO (dict1P d e) ρ := rfl
@[simp] theorem s_dict1 (f g : M D) : mDict1 f g ρ = bnd f (fun d => fun ρ => dict1R d (g ρ)) ρ := by
  unfold mDict1
  rw [q_bnd, q_bnd]
  cases f ρ with
  | stuck => rfl
  | ok d ρ' =>
    show bnd g _ ρ' = dict1R d (g ρ')
    rw [q_bnd]
    cases g ρ' with
    | stuck => rfl
    | ok e ρ'' => cases d <;> rfl
@[simp] theorem s_lrg (f : M D) : mLRg f ρ = bnd f (fun d => ofO (lrgP d)) ρ := by
  unfold mLRg
  rw [q_bnd, q_bnd]
  cases f ρ with
  | stuck => rfl
  | ok d ρ' => cases d <;> first | rfl | (simp only [r_bnd, lrgP]; split <;> rfl)
@[simp] theorem s_ixS (fb : M D) (ns : List Int) (h : ρ[i]? = some (.scr ns)) : mIxS i fb ρ = bnd fb (fun d => ofO (ixSP ns d)) ρ := by
  unfold mIxS bnd
  rw [h]
  cases fb ρ with
  | stuck => rfl
  | ok d ρ' => cases d with
    | int n => simp only [ixSP]; cases atI ns n <;> rfl
    | _ => rfl
@[simp] theorem s_opt_none : mOpt none ρ = .ok none ρ := rfl
def rOptR (o : Option Int) (ρ : Env) : R (Option Int) := match o with
  | some i => .ok (some i) ρ
  | none => .stuck
@[simp] theorem rOptR_some (x : Int) : rOptR (some x) ρ = .ok (some x) ρ := rfl
@[simp] theorem s_opt (f : M D) : mOpt (some f) ρ = bnd f (fun d => fun ρ => rOptR (ixP d) ρ) ρ := by
  show bnd f _ ρ = bnd f _ ρ
  rw [q_bnd, q_bnd]
  cases f ρ with
  | stuck => rfl
  | ok d ρ' => cases d <;> rfl
@[simp] theorem s_slice (g : M Pl) (lo hi : Option (M D)) : mSlice g lo hi ρ = bnd g (fun p => bnd (mOpt lo) fun l => bnd (mOpt hi) fun h => bnd (look p) fun d => bnd (ofO (sliceD d l h)) fun bz => PL.ret (rvOf bz)) ρ := rfl
@[simp] theorem s_sliceP (g : M Pl) (lo hi : Option (M D)) : mSliceP g lo hi ρ = bnd g (fun p => bnd (mOpt lo) fun l => bnd (mOpt hi) fun h => bnd (look p) fun d => bnd (ofO (sliceW d l h)) fun bz => PL.ret (if bz.1 = true then p else .val bz.2)) ρ := rfl
@[simp] theorem r_fz_rv (bz : Bool × D) : rFz (.ok (rvOf bz) ρ) = .ok bz.2 ρ := by
  obtain ⟨b, z⟩ := bz; cases b <;> rfl
@[simp] theorem r_set_rv (bz : Bool × D) : rSet i (.ok (rvOf bz) ρ) = if i < ρ.length then .ok .nx (ρ.set i (ovS bz.1 bz.2)) else .stuck := by
  obtain ⟨b, z⟩ := bz
  cases b
  · show bnd (setS i (.val z)) (fun _ => PL.ret Fl.nx) ρ = _
    rw [q_bnd, q_setS]
    split <;> rfl
  · show bnd (setS i (.own z)) (fun _ => PL.ret Fl.nx) ρ = _
    rw [q_bnd, q_setS]
    split <;> rfl
@[simp] theorem r_resR_rv (bz : Bool × D) : resR ρ (rvOf bz) = some (rvOf bz) := by
  obtain ⟨b, z⟩ := bz; cases b <;> rfl
@[simp] theorem s_mDict0 : mDict0 ρ = .ok (.dict []) ρ := rfl
@[simp] theorem s_mPar (fs : M (List D)) : mPar i j fs ρ = bnd fs (fun ds => match ds with
  | [d, e] => bnd (setS i (.val d)) fun _ => bnd (setS j (.val e)) fun _ => PL.ret .nx
  | _ => fun _ => .stuck) ρ := rfl
@[simp] theorem s_mAug (g : D → D → Option D) (fb : M Pl) : mAug i g fb ρ = bnd (mVar i) (fun p => bnd fb fun q => bnd (look p) fun d => bnd (look q) fun e => bnd (ofO (g d e)) fun z => bnd (setS i (.val z)) fun _ => PL.ret .nx) ρ := rfl
end
theorem zipP_ok {f g : M Pl} {ρ ρ1 ρ2 : Env} {p q : Pl} {d e : D} {zs : List D} (h1 : f ρ = .ok p ρ1) (h2 : g ρ1 = .ok q ρ2) (h3 : seqAt p ρ2 = ofO (itemsD d) ρ2) (h4 : seqAt q ρ2 = ofO (itemsD e) ρ2) (h : zipP d e = some zs) : mZip f g ρ = .ok zs ρ2 := by
  unfold zipP at h
  unfold mZip
  rw [bnd_eq h1, bnd_eq h2]
  cases hx : itemsD d with
  | none => rw [hx] at h; cases h
  | some x =>
    cases hy : itemsD e with
    | none => rw [hx, hy] at h; cases h
    | some y =>
      rw [hx, hy] at h
      simp only at h
      rw [hx] at h3
      rw [hy] at h4
      rw [bnd_eq (show seqAt p ρ2 = .ok x ρ2 from h3), bnd_eq (show seqAt q ρ2 = .ok y ρ2 from h4)]
      split at h
      · rename_i hh; cases h; simp only [hh, if_true]; rfl
      · cases h
def sortI (ns : List Int) : List Int := ns.mergeSort fun a b => decide (a ≤ b)
theorem sortI_perm (ns : List Int) : (sortI ns).Perm ns := List.mergeSort_perm _ _
theorem sortI_le (ns : List Int) : (sortI ns).Pairwise (· ≤ ·) := by
  have := List.pairwise_mergeSort (le := fun a b : Int => decide (a ≤ b)) (by intro a b c; simp; omega) (by intro a b; simp; omega) ns
  exact this.imp (by intro a b h; simpa using h)
theorem sortI_one {ns ns' : List Int} (h : ns'.Perm ns) (hs : ns'.Pairwise (· ≤ ·)) : ns' = sortI ns :=
  List.Perm.eq_of_pairwise (le := (· ≤ ·)) (fun a b _ _ h1 h2 => by omega) hs (sortI_le ns) (h.trans (sortI_perm ns).symm)
theorem sortI_id {ns : List Int} (hs : ns.Pairwise (· ≤ ·)) : sortI ns = ns := (sortI_one (.refl ns) hs).symm
def gSorted : List D → Option D
  | [.list ds] => (nums ds).map fun ns => .list ((sortI ns).map .int)
  | _ => none
section
variable {X : Cx} {e : Expr} {es : List Expr} {pos p : Pos} {gs : M (List Pl)}
theorem pf_sorted (hg : Gl X "sorted") (hm : X.mg "sorted" = none) (ha : PPs X (e :: es) gs) (he : starEach (e :: es) X.env = (false, eval e X.env) :: starEach es X.env := by rfl) (hpl : (backTo pos (starEach es X.env)).any (·.1) = false := by rfl) :
    PF X (.Call (.Name "sorted" p) (e :: es) [] pos) (mFr (mN gSorted gs)) := pf_b cr_sortedI (fun G H vs ds z Q gh s hg q => by
  cases s with
  | nil => cases hg
  | cons h r => cases r with
    | cons _ _ => cases h <;> cases hg
    | nil => cases h with
      | @lst a xs ds h r =>
        simp only [gSorted] at hg
        cases qd : nums ds with
        | none => rw [qd] at hg; cases hg
        | some ns =>
          rw [qd] at hg
          cases hg
          have := nums_ok qd r
          subst this
          refine ⟨a, ns, rfl, .inl (.inl h), fun ns' l hp hs hl => ?_⟩
          rw [sortI_one hp hs]
          exact q l _ hl (Grow.newF gh hl) (.lst upd_same (RpA.ints _))
      | _ => cases hg) hg hm (by decide +kernel) ha (he := he) (hpl := hpl)
end
/-! ### runs -/
def Run (m : M Fl) (ρ : Env) (Q : Fl → Env → Prop) : Prop := ∃ fl ρ', m ρ = .ok fl ρ' ∧ Q fl ρ'
section
variable {m m1 m2 a b k : M Fl} {ρ ρ1 ρ2 : Env} {Q : Fl → Env → Prop} {c : M Bool}
theorem run_end {fl : Fl} (h : m ρ = .ok fl ρ1) (q : Q fl ρ1) : Run m ρ Q := ⟨fl, ρ1, h, q⟩
theorem run_seq (h : m1 ρ = .ok .nx ρ1) (r : Run m2 ρ1 Q) : Run (mSeq m1 m2) ρ Q := by
  obtain ⟨fl, ρ', e, q⟩ := r
  exact ⟨fl, ρ', (mSeq_nx h).trans e, q⟩
theorem run_seq_ret {f : M Rv} {r : Rv} (h : f ρ = .ok r ρ1) (q : Q (.rt r) ρ1) : Run (mSeq (mRet f) m2) ρ Q :=
  ⟨.rt r, ρ1, mSeq_rt (by rw [q_mRet, h]; rfl), q⟩
theorem run_ret {f : M Rv} {r : Rv} (h : f ρ = .ok r ρ1) (q : Q (.rt r) ρ1) : Run (mRet f) ρ Q :=
  ⟨.rt r, ρ1, by rw [q_mRet, h]; rfl, q⟩
theorem run_seq_assoc (h : Run (mSeq a (mSeq b k)) ρ Q) : Run (mSeq (mSeq a b) k) ρ Q := by
  obtain ⟨fl, ρ', e, q⟩ := h
  refine ⟨fl, ρ', ?_, q⟩
  rw [← e]
  simp only [q_mSeq]
  cases a ρ with
  | stuck => rfl
  | ok x ρ1 => cases x <;> simp only [r_seq_n, r_seq_r, r_seq_b, r_seq_c, q_mSeq]
theorem run_seq_skip (h : Run k ρ Q) : Run (mSeq mSkip k) ρ Q := h
theorem run_if_t (h : c ρ = .ok true ρ1) (r : Run a ρ1 Q) : Run (mIf c a b) ρ Q := by
  obtain ⟨fl, ρ', e, q⟩ := r
  exact ⟨fl, ρ', by rw [q_mIf, q_bnd, h]; exact e, q⟩
theorem run_if_f (h : c ρ = .ok false ρ1) (r : Run b ρ1 Q) : Run (mIf c a b) ρ Q := by
  obtain ⟨fl, ρ', e, q⟩ := r
  exact ⟨fl, ρ', by rw [q_mIf, q_bnd, h]; exact e, q⟩
theorem run_seq_if_t (h : c ρ = .ok true ρ1) (r : Run (mSeq a k) ρ1 Q) : Run (mSeq (mIf c a b) k) ρ Q := by
  obtain ⟨fl, ρ', e, q⟩ := r
  exact ⟨fl, ρ', by rw [← e, q_mSeq, q_mIf, q_bnd, h, q_mSeq]; rfl, q⟩
theorem run_seq_if_f (h : c ρ = .ok false ρ1) (r : Run (mSeq b k) ρ1 Q) : Run (mSeq (mIf c a b) k) ρ Q := by
  obtain ⟨fl, ρ', e, q⟩ := r
  exact ⟨fl, ρ', by rw [← e, q_mSeq, q_mIf, q_bnd, h, q_mSeq]; rfl, q⟩
theorem run_seq_brk (q : Q .bk ρ) : Run (mSeq mBrk k) ρ Q := ⟨.bk, ρ, rfl, q⟩
theorem run_seq_cnt (q : Q .ct ρ) : Run (mSeq mCnt k) ρ Q := ⟨.ct, ρ, rfl, q⟩
theorem run_nx (r : Run m ρ fun fl ρ' => fl = .nx ∧ ρ' = ρ1) : m ρ = .ok .nx ρ1 := by
  obtain ⟨fl, ρ', e, rfl, rfl⟩ := r
  exact e
theorem run_nxI {P : Env → Prop} (r : Run m ρ fun fl ρ' => fl = .nx ∧ P ρ') : ∃ ρ', m ρ = .ok .nx ρ' ∧ P ρ' := by
  obtain ⟨fl, ρ', e, rfl, q⟩ := r
  exact ⟨ρ', e, q⟩
end
/-- what a def hands back -/
def flR : Fl → Env → Option Rv
  | .rt r, ρ => resR ρ r
  | .nx, _ => some (.pl (.val .none))
  | _, _ => none
theorem run_evalD {ms : List Md} {nl : Nat} {m : M Fl} {ss io : List Sl} {r : Rv} (h : Run m (ss ++ List.replicate nl .un) fun fl ρ' => flR fl ρ' = some r ∧ ρ'.take ms.length = io) : evalD ms nl m ss = some (r, io) := by
  obtain ⟨fl, ρ', e, h1, rfl⟩ := h
  cases fl with
  | nx => cases h1; exact ev_nx e
  | rt q => exact ev_rt e h1
  | bk => cases h1
  | ct => cases h1
/-! ### loops -/
inductive Ct (S T : Type) where
  | nx (s : S) | bk (s : S) | rt (t : T)
def forP {S T : Type} (f : D → S → Option (Ct S T)) : List D → S → Option (Ct S T)
  | [], s => some (.nx s)
  | x :: xs, s => (f x s).bind fun o => match o with
    | .nx s' => forP f xs s'
    | .bk s' => some (.nx s')
    | .rt t => some (.rt t)
def foldP {S : Type} (f : D → S → Option S) : List D → S → Option S
  | [], s => some s
  | x :: xs, s => (f x s).bind fun s' => foldP f xs s'
def isRt : Fl → Prop
  | .rt _ => True
  | _ => False
/-- where a body ends -/
abbrev ctQ {S T : Type} (I : S → Env → Prop) (Post : T → Fl → Env → Prop) (o : Ct S T) (fl : Fl) (ρ' : Env) : Prop := match o with
  | .nx s' => (fl = .nx ∨ fl = .ct) ∧ I s' ρ'
  | .bk s' => fl = .bk ∧ I s' ρ'
  | .rt r => isRt fl ∧ Post r fl ρ'
abbrev ctE {S T : Type} (I : S → Env → Prop) (Post : T → Fl → Env → Prop) (o : Ct S T) (fl : Fl) (ρ' : Env) : Prop := match o with
  | .nx s' => fl = .nx ∧ I s' ρ'
  | .bk _ => False
  | .rt r => isRt fl ∧ Post r fl ρ'
theorem forGo_cons_ok {t : D → M Unit} {b : M Fl} {d : D} {ds : List D} {ρ ρ1 : Env} (h : t d ρ = .ok () ρ1) : forGo t b (d :: ds) ρ = bnd b (fun fl => match fl with
    | .nx => forGo t b ds
    | .ct => forGo t b ds
    | .bk => PL.ret .nx
    | .rt r => PL.ret (.rt r)) ρ1 := by
  show bnd (t d) _ ρ = _
  rw [bnd_eq h]
  all_goals rfl
theorem forP_run {S T : Type} {t : D → M Unit} {b : M Fl} {f : D → S → Option (Ct S T)} (I : S → Env → Prop) (Post : T → Fl → Env → Prop)
    (hb : ∀ x s ρ o, I s ρ → f x s = some o → ∃ ρ1, t x ρ = .ok () ρ1 ∧ Run b ρ1 (ctQ I Post o)) :
    ∀ (xs : List D) (s : S) (ρ : Env) (o : Ct S T), I s ρ → forP f xs s = some o → Run (forGo t b xs) ρ (ctE I Post o)
  | [], s, ρ, o, hi, h => by cases h; exact ⟨.nx, ρ, rfl, rfl, hi⟩
  | x :: xs, s, ρ, o, hi, h => by
    obtain ⟨o1, h1, h2⟩ := ob h
    obtain ⟨ρ1, e1, fl, ρ2, e2, q⟩ := hb x s ρ o1 hi h1
    cases o1 with
    | nx s' =>
      obtain ⟨hf, hi'⟩ := q
      obtain ⟨fl', ρ3, e3, q3⟩ := forP_run I Post hb xs s' ρ2 o hi' h2
      refine ⟨fl', ρ3, ?_, q3⟩
      rw [forGo_cons_ok e1, bnd_eq e2]
      rcases hf with rfl | rfl <;> exact e3
    | bk s' =>
      obtain ⟨rfl, hi'⟩ := q
      cases h2
      exact ⟨.nx, ρ2, by rw [forGo_cons_ok e1, bnd_eq e2]; rfl, rfl, hi'⟩
    | rt r =>
      obtain ⟨hf, hq⟩ := q
      cases h2
      cases fl with
      | rt r' => exact ⟨.rt r', ρ2, by rw [forGo_cons_ok e1, bnd_eq e2]; rfl, trivial, hq⟩
      | _ => exact hf.elim
theorem foldP_run {S : Type} {t : D → M Unit} {b : M Fl} {f : D → S → Option S} (I : S → Env → Prop)
    (hb : ∀ x s ρ s', I s ρ → f x s = some s' → ∃ ρ1, t x ρ = .ok () ρ1 ∧ Run b ρ1 fun fl ρ' => (fl = .nx ∨ fl = .ct) ∧ I s' ρ') :
    ∀ (xs : List D) (s : S) (ρ : Env) (s' : S), I s ρ → foldP f xs s = some s' → ∃ ρ', forGo t b xs ρ = .ok .nx ρ' ∧ I s' ρ'
  | [], s, ρ, s', hi, h => by cases h; exact ⟨ρ, rfl, hi⟩
  | x :: xs, s, ρ, s', hi, h => by
    obtain ⟨s1, h1, h2⟩ := ob h
    obtain ⟨ρ1, e1, fl, ρ2, e2, hf, hi'⟩ := hb x s ρ s1 hi h1
    obtain ⟨ρ3, e3, q3⟩ := foldP_run I hb xs s1 ρ2 s' hi' h2
    refine ⟨ρ3, ?_, q3⟩
    rw [forGo_cons_ok e1, bnd_eq e2]
    rcases hf with rfl | rfl <;> exact e3
theorem run_for_nx {fi : M (List D)} {t : D → M Unit} {b : M Fl} {ρ ρ1 : Env} {xs : List D} {P : Env → Prop} (h : fi ρ = .ok xs ρ1) (r : ∃ ρ', forGo t b xs ρ1 = .ok .nx ρ' ∧ P ρ') : ∃ ρ', mFor fi t b ρ = .ok .nx ρ' ∧ P ρ' := by
  obtain ⟨ρ', e, p⟩ := r
  exact ⟨ρ', (mFor_ok h).trans e, p⟩
theorem run_for {fi : M (List D)} {t : D → M Unit} {b : M Fl} {ρ ρ1 : Env} {xs : List D} {Q : Fl → Env → Prop} (h : fi ρ = .ok xs ρ1) (r : Run (forGo t b xs) ρ1 Q) : Run (mFor fi t b) ρ Q := by
  obtain ⟨fl, ρ', e, p⟩ := r
  exact ⟨fl, ρ', (mFor_ok h).trans e, p⟩
/-- behind a loop that may hand back -/
theorem run_seq_ct {S T : Type} {m k : M Fl} {ρ : Env} {I : S → Env → Prop} {Post : T → Fl → Env → Prop} {o : Ct S T} {Q : Fl → Env → Prop} (r : Run m ρ (ctE I Post o))
    (hr : ∀ t fl ρ', o = .rt t → isRt fl → Post t fl ρ' → Q fl ρ') (hn : ∀ s ρ', o = .nx s → I s ρ' → Run k ρ' Q) : Run (mSeq m k) ρ Q := by
  obtain ⟨fl, ρ', e, q⟩ := r
  cases o with
  | nx s =>
    obtain ⟨rfl, hi⟩ := q
    exact run_seq e (hn s ρ' rfl hi)
  | bk s => exact q.elim
  | rt t =>
    obtain ⟨hf, hq⟩ := q
    cases fl with
    | rt r => exact ⟨.rt r, ρ', mSeq_rt e, hr t _ ρ' rfl hf hq⟩
    | _ => exact hf.elim
theorem run_ct {S T : Type} {m : M Fl} {ρ : Env} {I : S → Env → Prop} {Post : T → Fl → Env → Prop} {o : Ct S T} {Q : Fl → Env → Prop} (r : Run m ρ (ctE I Post o))
    (hr : ∀ t fl ρ', o = .rt t → isRt fl → Post t fl ρ' → Q fl ρ') (hn : ∀ s ρ', o = .nx s → I s ρ' → Q .nx ρ') : Run m ρ Q := by
  obtain ⟨fl, ρ', e, q⟩ := r
  cases o with
  | nx s => obtain ⟨rfl, hi⟩ := q; exact ⟨.nx, ρ', e, hn s ρ' rfl hi⟩
  | bk s => exact q.elim
  | rt t => obtain ⟨hf, hq⟩ := q; exact ⟨fl, ρ', e, hr t fl ρ' rfl hf hq⟩
def ctB0 { T γ : Type} (o : Option (Ct (Unit) T)) (g : T → Option γ) (f : Unit → Option γ) : Option γ := match o with
  | some (.nx ()) => f ()
  | some (.rt t) => g t
  | _ => none
theorem ctB0_nx { T γ : Type} (g : T → Option γ) (f : Unit → Option γ) : ctB0 (some (.nx ())) g f = f () := rfl
theorem ctB0_rt { T γ : Type} (g : T → Option γ) (f : Unit → Option γ) (t : T) : ctB0 (some (.rt t)) g f = g t := rfl
theorem obct0 { T γ : Type} {o : Option (Ct (Unit) T)} {g : T → Option γ} {f : Unit → Option γ} {r : γ} (h : ctB0 o g f = some r) :
    ∃ c, o = some c ∧ ((∃ t, c = .rt t ∧ g t = some r) ∨ (c = .nx () ∧ f () = some r)) := by
  cases o with
  | none => cases h
  | some c => cases c with
    | nx s => exact ⟨_, rfl, .inr ⟨rfl, h⟩⟩
    | bk s => cases h
    | rt t => exact ⟨_, rfl, .inl ⟨t, rfl, h⟩⟩
def ctB1 {α1 T γ : Type} (o : Option (Ct (α1) T)) (g : T → Option γ) (f : α1 → Option γ) : Option γ := match o with
  | some (.nx x1) => f x1
  | some (.rt t) => g t
  | _ => none
theorem ctB1_nx {α1 T γ : Type} (g : T → Option γ) (f : α1 → Option γ) (x1 : α1) : ctB1 (some (.nx x1)) g f = f x1 := rfl
theorem ctB1_rt {α1 T γ : Type} (g : T → Option γ) (f : α1 → Option γ) (t : T) : ctB1 (some (.rt t)) g f = g t := rfl
theorem obct1 {α1 T γ : Type} {o : Option (Ct (α1) T)} {g : T → Option γ} {f : α1 → Option γ} {r : γ} (h : ctB1 o g f = some r) :
    ∃ c, o = some c ∧ ((∃ t, c = .rt t ∧ g t = some r) ∨ (∃ x1, c = .nx x1 ∧ f x1 = some r)) := by
  cases o with
  | none => cases h
  | some c => cases c with
    | nx s => exact ⟨_, rfl, .inr ⟨_, rfl, h⟩⟩
    | bk s => cases h
    | rt t => exact ⟨_, rfl, .inl ⟨t, rfl, h⟩⟩
def ctB2 {α1 α2 T γ : Type} (o : Option (Ct (α1 × α2) T)) (g : T → Option γ) (f : α1 → α2 → Option γ) : Option γ := match o with
  | some (.nx (x1, x2)) => f x1 x2
  | some (.rt t) => g t
  | _ => none
theorem ctB2_nx {α1 α2 T γ : Type} (g : T → Option γ) (f : α1 → α2 → Option γ) (x1 : α1) (x2 : α2) : ctB2 (some (.nx (x1, x2))) g f = f x1 x2 := rfl
theorem ctB2_rt {α1 α2 T γ : Type} (g : T → Option γ) (f : α1 → α2 → Option γ) (t : T) : ctB2 (some (.rt t)) g f = g t := rfl
theorem obct2 {α1 α2 T γ : Type} {o : Option (Ct (α1 × α2) T)} {g : T → Option γ} {f : α1 → α2 → Option γ} {r : γ} (h : ctB2 o g f = some r) :
    ∃ c, o = some c ∧ ((∃ t, c = .rt t ∧ g t = some r) ∨ (∃ x1 x2, c = .nx (x1, x2) ∧ f x1 x2 = some r)) := by
  cases o with
  | none => cases h
  | some c => cases c with
    | nx s => exact ⟨_, rfl, .inr ⟨_, _, rfl, h⟩⟩
    | bk s => cases h
    | rt t => exact ⟨_, rfl, .inl ⟨t, rfl, h⟩⟩
def ctB3 {α1 α2 α3 T γ : Type} (o : Option (Ct (α1 × α2 × α3) T)) (g : T → Option γ) (f : α1 → α2 → α3 → Option γ) : Option γ := match o with
  | some (.nx (x1, x2, x3)) => f x1 x2 x3
  | some (.rt t) => g t
  | _ => none
theorem ctB3_nx {α1 α2 α3 T γ : Type} (g : T → Option γ) (f : α1 → α2 → α3 → Option γ) (x1 : α1) (x2 : α2) (x3 : α3) : ctB3 (some (.nx (x1, x2, x3))) g f = f x1 x2 x3 := rfl
theorem ctB3_rt {α1 α2 α3 T γ : Type} (g : T → Option γ) (f : α1 → α2 → α3 → Option γ) (t : T) : ctB3 (some (.rt t)) g f = g t := rfl
theorem obct3 {α1 α2 α3 T γ : Type} {o : Option (Ct (α1 × α2 × α3) T)} {g : T → Option γ} {f : α1 → α2 → α3 → Option γ} {r : γ} (h : ctB3 o g f = some r) :
    ∃ c, o = some c ∧ ((∃ t, c = .rt t ∧ g t = some r) ∨ (∃ x1 x2 x3, c = .nx (x1, x2, x3) ∧ f x1 x2 x3 = some r)) := by
  cases o with
  | none => cases h
  | some c => cases c with
    | nx s => exact ⟨_, rfl, .inr ⟨_, _, _, rfl, h⟩⟩
    | bk s => cases h
    | rt t => exact ⟨_, rfl, .inl ⟨t, rfl, h⟩⟩
def ctB4 {α1 α2 α3 α4 T γ : Type} (o : Option (Ct (α1 × α2 × α3 × α4) T)) (g : T → Option γ) (f : α1 → α2 → α3 → α4 → Option γ) : Option γ := match o with
  | some (.nx (x1, x2, x3, x4)) => f x1 x2 x3 x4
  | some (.rt t) => g t
  | _ => none
theorem ctB4_nx {α1 α2 α3 α4 T γ : Type} (g : T → Option γ) (f : α1 → α2 → α3 → α4 → Option γ) (x1 : α1) (x2 : α2) (x3 : α3) (x4 : α4) : ctB4 (some (.nx (x1, x2, x3, x4))) g f = f x1 x2 x3 x4 := rfl
theorem ctB4_rt {α1 α2 α3 α4 T γ : Type} (g : T → Option γ) (f : α1 → α2 → α3 → α4 → Option γ) (t : T) : ctB4 (some (.rt t)) g f = g t := rfl
theorem obct4 {α1 α2 α3 α4 T γ : Type} {o : Option (Ct (α1 × α2 × α3 × α4) T)} {g : T → Option γ} {f : α1 → α2 → α3 → α4 → Option γ} {r : γ} (h : ctB4 o g f = some r) :
    ∃ c, o = some c ∧ ((∃ t, c = .rt t ∧ g t = some r) ∨ (∃ x1 x2 x3 x4, c = .nx (x1, x2, x3, x4) ∧ f x1 x2 x3 x4 = some r)) := by
  cases o with
  | none => cases h
  | some c => cases c with
    | nx s => exact ⟨_, rfl, .inr ⟨_, _, _, _, rfl, h⟩⟩
    | bk s => cases h
    | rt t => exact ⟨_, rfl, .inl ⟨t, rfl, h⟩⟩
def ctB5 {α1 α2 α3 α4 α5 T γ : Type} (o : Option (Ct (α1 × α2 × α3 × α4 × α5) T)) (g : T → Option γ) (f : α1 → α2 → α3 → α4 → α5 → Option γ) : Option γ := match o with
  | some (.nx (x1, x2, x3, x4, x5)) => f x1 x2 x3 x4 x5
  | some (.rt t) => g t
  | _ => none
theorem ctB5_nx {α1 α2 α3 α4 α5 T γ : Type} (g : T → Option γ) (f : α1 → α2 → α3 → α4 → α5 → Option γ) (x1 : α1) (x2 : α2) (x3 : α3) (x4 : α4) (x5 : α5) : ctB5 (some (.nx (x1, x2, x3, x4, x5))) g f = f x1 x2 x3 x4 x5 := rfl
theorem ctB5_rt {α1 α2 α3 α4 α5 T γ : Type} (g : T → Option γ) (f : α1 → α2 → α3 → α4 → α5 → Option γ) (t : T) : ctB5 (some (.rt t)) g f = g t := rfl
theorem obct5 {α1 α2 α3 α4 α5 T γ : Type} {o : Option (Ct (α1 × α2 × α3 × α4 × α5) T)} {g : T → Option γ} {f : α1 → α2 → α3 → α4 → α5 → Option γ} {r : γ} (h : ctB5 o g f = some r) :
    ∃ c, o = some c ∧ ((∃ t, c = .rt t ∧ g t = some r) ∨ (∃ x1 x2 x3 x4 x5, c = .nx (x1, x2, x3, x4, x5) ∧ f x1 x2 x3 x4 x5 = some r)) := by
  cases o with
  | none => cases h
  | some c => cases c with
    | nx s => exact ⟨_, rfl, .inr ⟨_, _, _, _, _, rfl, h⟩⟩
    | bk s => cases h
    | rt t => exact ⟨_, rfl, .inl ⟨t, rfl, h⟩⟩
def ctB6 {α1 α2 α3 α4 α5 α6 T γ : Type} (o : Option (Ct (α1 × α2 × α3 × α4 × α5 × α6) T)) (g : T → Option γ) (f : α1 → α2 → α3 → α4 → α5 → α6 → Option γ) : Option γ := match o with
  | some (.nx (x1, x2, x3, x4, x5, x6)) => f x1 x2 x3 x4 x5 x6
  | some (.rt t) => g t
  | _ => none
theorem ctB6_nx {α1 α2 α3 α4 α5 α6 T γ : Type} (g : T → Option γ) (f : α1 → α2 → α3 → α4 → α5 → α6 → Option γ) (x1 : α1) (x2 : α2) (x3 : α3) (x4 : α4) (x5 : α5) (x6 : α6) : ctB6 (some (.nx (x1, x2, x3, x4, x5, x6))) g f = f x1 x2 x3 x4 x5 x6 := rfl
theorem ctB6_rt {α1 α2 α3 α4 α5 α6 T γ : Type} (g : T → Option γ) (f : α1 → α2 → α3 → α4 → α5 → α6 → Option γ) (t : T) : ctB6 (some (.rt t)) g f = g t := rfl
theorem obct6 {α1 α2 α3 α4 α5 α6 T γ : Type} {o : Option (Ct (α1 × α2 × α3 × α4 × α5 × α6) T)} {g : T → Option γ} {f : α1 → α2 → α3 → α4 → α5 → α6 → Option γ} {r : γ} (h : ctB6 o g f = some r) :
    ∃ c, o = some c ∧ ((∃ t, c = .rt t ∧ g t = some r) ∨ (∃ x1 x2 x3 x4 x5 x6, c = .nx (x1, x2, x3, x4, x5, x6) ∧ f x1 x2 x3 x4 x5 x6 = some r)) := by
  cases o with
  | none => cases h
  | some c => cases c with
    | nx s => exact ⟨_, rfl, .inr ⟨_, _, _, _, _, _, rfl, h⟩⟩
    | bk s => cases h
    | rt t => exact ⟨_, rfl, .inl ⟨t, rfl, h⟩⟩
def ctB7 {α1 α2 α3 α4 α5 α6 α7 T γ : Type} (o : Option (Ct (α1 × α2 × α3 × α4 × α5 × α6 × α7) T)) (g : T → Option γ) (f : α1 → α2 → α3 → α4 → α5 → α6 → α7 → Option γ) : Option γ := match o with
  | some (.nx (x1, x2, x3, x4, x5, x6, x7)) => f x1 x2 x3 x4 x5 x6 x7
  | some (.rt t) => g t
  | _ => none
theorem ctB7_nx {α1 α2 α3 α4 α5 α6 α7 T γ : Type} (g : T → Option γ) (f : α1 → α2 → α3 → α4 → α5 → α6 → α7 → Option γ) (x1 : α1) (x2 : α2) (x3 : α3) (x4 : α4) (x5 : α5) (x6 : α6) (x7 : α7) : ctB7 (some (.nx (x1, x2, x3, x4, x5, x6, x7))) g f = f x1 x2 x3 x4 x5 x6 x7 := rfl
theorem ctB7_rt {α1 α2 α3 α4 α5 α6 α7 T γ : Type} (g : T → Option γ) (f : α1 → α2 → α3 → α4 → α5 → α6 → α7 → Option γ) (t : T) : ctB7 (some (.rt t)) g f = g t := rfl
theorem obct7 {α1 α2 α3 α4 α5 α6 α7 T γ : Type} {o : Option (Ct (α1 × α2 × α3 × α4 × α5 × α6 × α7) T)} {g : T → Option γ} {f : α1 → α2 → α3 → α4 → α5 → α6 → α7 → Option γ} {r : γ} (h : ctB7 o g f = some r) :
    ∃ c, o = some c ∧ ((∃ t, c = .rt t ∧ g t = some r) ∨ (∃ x1 x2 x3 x4 x5 x6 x7, c = .nx (x1, x2, x3, x4, x5, x6, x7) ∧ f x1 x2 x3 x4 x5 x6 x7 = some r)) := by
  cases o with
  | none => cases h
  | some c => cases c with
    | nx s => exact ⟨_, rfl, .inr ⟨_, _, _, _, _, _, _, rfl, h⟩⟩
    | bk s => cases h
    | rt t => exact ⟨_, rfl, .inl ⟨t, rfl, h⟩⟩
def ctB8 {α1 α2 α3 α4 α5 α6 α7 α8 T γ : Type} (o : Option (Ct (α1 × α2 × α3 × α4 × α5 × α6 × α7 × α8) T)) (g : T → Option γ) (f : α1 → α2 → α3 → α4 → α5 → α6 → α7 → α8 → Option γ) : Option γ := match o with
  | some (.nx (x1, x2, x3, x4, x5, x6, x7, x8)) => f x1 x2 x3 x4 x5 x6 x7 x8
  | some (.rt t) => g t
  | _ => none
theorem ctB8_nx {α1 α2 α3 α4 α5 α6 α7 α8 T γ : Type} (g : T → Option γ) (f : α1 → α2 → α3 → α4 → α5 → α6 → α7 → α8 → Option γ) (x1 : α1) (x2 : α2) (x3 : α3) (x4 : α4) (x5 : α5) (x6 : α6) (x7 : α7) (x8 : α8) : ctB8 (some (.nx (x1, x2, x3, x4, x5, x6, x7, x8))) g f = f x1 x2 x3 x4 x5 x6 x7 x8 := rfl
theorem ctB8_rt {α1 α2 α3 α4 α5 α6 α7 α8 T γ : Type} (g : T → Option γ) (f : α1 → α2 → α3 → α4 → α5 → α6 → α7 → α8 → Option γ) (t : T) : ctB8 (some (.rt t)) g f = g t := rfl
theorem obct8 {α1 α2 α3 α4 α5 α6 α7 α8 T γ : Type} {o : Option (Ct (α1 × α2 × α3 × α4 × α5 × α6 × α7 × α8) T)} {g : T → Option γ} {f : α1 → α2 → α3 → α4 → α5 → α6 → α7 → α8 → Option γ} {r : γ} (h : ctB8 o g f = some r) :
    ∃ c, o = some c ∧ ((∃ t, c = .rt t ∧ g t = some r) ∨ (∃ x1 x2 x3 x4 x5 x6 x7 x8, c = .nx (x1, x2, x3, x4, x5, x6, x7, x8) ∧ f x1 x2 x3 x4 x5 x6 x7 x8 = some r)) := by
  cases o with
  | none => cases h
  | some c => cases c with
    | nx s => exact ⟨_, rfl, .inr ⟨_, _, _, _, _, _, _, _, rfl, h⟩⟩
    | bk s => cases h
    | rt t => exact ⟨_, rfl, .inl ⟨t, rfl, h⟩⟩
def ctB9 {α1 α2 α3 α4 α5 α6 α7 α8 α9 T γ : Type} (o : Option (Ct (α1 × α2 × α3 × α4 × α5 × α6 × α7 × α8 × α9) T)) (g : T → Option γ) (f : α1 → α2 → α3 → α4 → α5 → α6 → α7 → α8 → α9 → Option γ) : Option γ := match o with
  | some (.nx (x1, x2, x3, x4, x5, x6, x7, x8, x9)) => f x1 x2 x3 x4 x5 x6 x7 x8 x9
  | some (.rt t) => g t
  | _ => none
theorem ctB9_nx {α1 α2 α3 α4 α5 α6 α7 α8 α9 T γ : Type} (g : T → Option γ) (f : α1 → α2 → α3 → α4 → α5 → α6 → α7 → α8 → α9 → Option γ) (x1 : α1) (x2 : α2) (x3 : α3) (x4 : α4) (x5 : α5) (x6 : α6) (x7 : α7) (x8 : α8) (x9 : α9) : ctB9 (some (.nx (x1, x2, x3, x4, x5, x6, x7, x8, x9))) g f = f x1 x2 x3 x4 x5 x6 x7 x8 x9 := rfl
theorem ctB9_rt {α1 α2 α3 α4 α5 α6 α7 α8 α9 T γ : Type} (g : T → Option γ) (f : α1 → α2 → α3 → α4 → α5 → α6 → α7 → α8 → α9 → Option γ) (t : T) : ctB9 (some (.rt t)) g f = g t := rfl
theorem obct9 {α1 α2 α3 α4 α5 α6 α7 α8 α9 T γ : Type} {o : Option (Ct (α1 × α2 × α3 × α4 × α5 × α6 × α7 × α8 × α9) T)} {g : T → Option γ} {f : α1 → α2 → α3 → α4 → α5 → α6 → α7 → α8 → α9 → Option γ} {r : γ} (h : ctB9 o g f = some r) :
    ∃ c, o = some c ∧ ((∃ t, c = .rt t ∧ g t = some r) ∨ (∃ x1 x2 x3 x4 x5 x6 x7 x8 x9, c = .nx (x1, x2, x3, x4, x5, x6, x7, x8, x9) ∧ f x1 x2 x3 x4 x5 x6 x7 x8 x9 = some r)) := by
  cases o with
  | none => cases h
  | some c => cases c with
    | nx s => exact ⟨_, rfl, .inr ⟨_, _, _, _, _, _, _, _, _, rfl, h⟩⟩
    | bk s => cases h
    | rt t => exact ⟨_, rfl, .inl ⟨t, rfl, h⟩⟩
/-! ### while -/
def whP {S T : Type} (c : S → Option Bool) (f : S → Option (Ct S T)) : Nat → S → Option (Ct S T)
  | 0, _ => none
  | n + 1, s => (c s).bind fun k => if k = true then (f s).bind fun o => match o with
    | .nx s' => whP c f n s'
    | .bk s' => some (.nx s')
    | .rt t => some (.rt t)
    else some (.nx s)
theorem whP_run {S T : Type} {mc : M Bool} {b : M Fl} {c : S → Option Bool} {f : S → Option (Ct S T)} (I : S → Env → Prop) (Post : T → Fl → Env → Prop)
    (hc : ∀ s ρ k, I s ρ → c s = some k → ∃ ρ1, mc ρ = .ok k ρ1 ∧ I s ρ1) (hb : ∀ s ρ o, I s ρ → c s = some true → f s = some o → Run b ρ (ctQ I Post o)) :
    ∀ (n : Nat) (s : S) (ρ : Env) (o : Ct S T), I s ρ → whP c f n s = some o → Run (whGo mc b n) ρ (ctE I Post o)
  | 0, _, _, _, _, h => by cases h
  | n + 1, s, ρ, o, hi, h => by
    obtain ⟨k, h1, h2⟩ := ob h
    obtain ⟨ρ1, e1, hi1⟩ := hc s ρ k hi h1
    cases k with
    | false =>
      rw [if_neg Bool.false_ne_true] at h2
      cases h2
      exact ⟨.nx, ρ1, by show bnd mc _ ρ = _; rw [bnd_eq e1]; rfl, rfl, hi1⟩
    | true =>
      rw [if_pos rfl] at h2
      obtain ⟨o1, h3, h4⟩ := ob h2
      obtain ⟨fl, ρ2, e2, q⟩ := hb s ρ1 o1 hi1 h1 h3
      have go : whGo mc b (n + 1) ρ = bnd b (fun fl => match fl with
        | .nx => whGo mc b n
        | .ct => whGo mc b n
        | .bk => PL.ret .nx
        | .rt r => PL.ret (.rt r)) ρ1 := by
        show bnd mc _ ρ = _
        rw [bnd_eq e1, if_pos rfl]
        all_goals rfl
      cases o1 with
      | nx s' =>
        obtain ⟨hf, hi'⟩ := q
        obtain ⟨fl', ρ3, e3, q3⟩ := whP_run I Post hc hb n s' ρ2 o hi' h4
        refine ⟨fl', ρ3, ?_, q3⟩
        rw [go, bnd_eq e2]
        rcases hf with rfl | rfl <;> exact e3
      | bk s' =>
        obtain ⟨rfl, hi'⟩ := q
        cases h4
        exact ⟨.nx, ρ2, by rw [go, bnd_eq e2]; rfl, rfl, hi'⟩
      | rt r =>
        obtain ⟨hf, hq⟩ := q
        cases h4
        cases fl with
        | rt r' => exact ⟨.rt r', ρ2, by rw [go, bnd_eq e2]; rfl, trivial, hq⟩
        | _ => exact hf.elim
theorem run_while {mc : M Bool} {b : M Fl} {n : Nat} {ρ : Env} {Q : Fl → Env → Prop} (r : Run (whGo mc b n) ρ Q) : Run (mWhile (fun _ => n) mc b) ρ Q := r
/-! ### comprehensions -/
def lcP {S : Type} (f : D → S → Option (Option D × S)) : List D → S → Option (List D × S)
  | [], s => some ([], s)
  | x :: xs, s => (f x s).bind fun (o, s') => (lcP f xs s').bind fun (out, s2) => match o with
    | some y => some (y :: out, s2)
    | none => some (out, s2)
def lcT {S : Type} (f : D → S → Option (Option D × S)) (xs : List D) (s : S) : Option (List D × S) := (lcP f xs s).bind fun os => if os.1.length ≤ 100000 then some os else none
def mapP (f : D → Option D) : List D → Option (List D)
  | [] => some []
  | x :: xs => (f x).bind fun y => (mapP f xs).bind fun ys => some (y :: ys)
def filP (f : D → Option (Option D)) : List D → Option (List D)
  | [] => some []
  | x :: xs => (f x).bind fun o => (filP f xs).bind fun ys => match o with
    | some y => some (y :: ys)
    | none => some ys
def mapT (f : D → Option D) (xs : List D) : Option (List D) := (mapP f xs).bind fun ys => if ys.length ≤ 100000 then some ys else none
def filT (f : D → Option (Option D)) (xs : List D) : Option (List D) := (filP f xs).bind fun ys => if ys.length ≤ 100000 then some ys else none
/-- where an item of a comprehension ends -/
abbrev lcQ (c : M Bool) (fe : M D) (vs : List Nat) (I : Env → Prop) (ρ1 ρ2 : Env) (o : Option D) : Prop := match o with
  | some y => ∃ ρ3, c ρ1 = .ok true ρ2 ∧ fe ρ2 = .ok y ρ3 ∧ I (wipeE ρ3 vs)
  | none => c ρ1 = .ok false ρ2 ∧ I (wipeE ρ2 vs)
theorem lcP_run {S : Type} {t : D → M Unit} {vs : List Nat} {c : M Bool} {fe : M D} {f : D → S → Option (Option D × S)} (I : S → Env → Prop)
    (hb : ∀ x s ρ o s', I s ρ → f x s = some (o, s') → ∃ ρ1 ρ2, t x ρ = .ok () ρ1 ∧ lcQ c fe vs (I s') ρ1 ρ2 o) :
    ∀ (xs acc : List D) (s : S) (ρ : Env) (out : List D) (s' : S), I s ρ → lcP f xs s = some (out, s') → acc.length + out.length ≤ 100000 → ∃ ρ', lcGo t vs c fe acc xs ρ = .ok (acc ++ out) ρ' ∧ I s' ρ'
  | [], acc, s, ρ, out, s', hi, h, _ => by cases h; exact ⟨ρ, by rw [List.append_nil]; rfl, hi⟩
  | x :: xs, acc, s, ρ, out, s', hi, h, hl => by
    obtain ⟨⟨o, s1⟩, h1, h2⟩ := ob h
    obtain ⟨⟨out1, s2⟩, h3, h4⟩ := ob h2
    obtain ⟨ρ1, ρ2, e1, q⟩ := hb x s ρ o s1 hi h1
    cases o with
    | none =>
      cases h4
      obtain ⟨e2, hi'⟩ := q
      obtain ⟨ρ4, e4, hi4⟩ := lcP_run I hb xs acc s1 _ _ _ hi' h3 hl
      refine ⟨ρ4, ?_, hi4⟩
      show bnd (t x) _ ρ = _
      rw [bnd_eq e1, bnd_eq e2]
      exact e4
    | some y =>
      cases h4
      obtain ⟨ρ3, e2, e3, hi'⟩ := q
      rw [List.length_cons] at hl
      obtain ⟨ρ4, e4, hi4⟩ := lcP_run I hb xs (acc ++ [y]) s1 _ _ _ hi' h3 (by rw [List.length_append, List.length_cons, List.length_nil]; omega)
      refine ⟨ρ4, ?_, hi4⟩
      show bnd (t x) _ ρ = _
      rw [bnd_eq e1, bnd_eq e2, if_pos rfl, bnd_eq e3, if_pos (by omega)]
      rw [List.append_assoc] at e4
      exact e4
theorem lcT_run {S : Type} {fi : M (List D)} {t : D → M Unit} {vs : List Nat} {c : M Bool} {fe : M D} {f : D → S → Option (Option D × S)} (I : S → Env → Prop)
    {ρ0 ρ1 : Env} {xs : List D} {s : S} {out : List D} {s' : S} (h0 : fi ρ0 = .ok xs ρ1) (hi : I s (wipeE ρ1 vs)) (h : lcT f xs s = some (out, s'))
    (hb : ∀ x s ρ o s', I s ρ → f x s = some (o, s') → ∃ ρ1 ρ2, t x ρ = .ok () ρ1 ∧ lcQ c fe vs (I s') ρ1 ρ2 o) : ∃ ρ', mLc fi t vs c fe ρ0 = .ok (.fr (.list out)) (restE ρ1 ρ' vs) ∧ I s' ρ' := by
  obtain ⟨⟨o1, s1⟩, h1, h2⟩ := ob h
  simp only at h2
  split at h2
  · cases h2
    obtain ⟨ρ', e, q⟩ := lcP_run I hb xs [] s (wipeE ρ1 vs) out s' hi h1 (by simpa using ‹_›)
    exact ⟨ρ', mLc_ok h0 e, q⟩
  · cases h2
theorem mapP_lc (f : D → Option D) : ∀ (xs out : List D), mapP f xs = some out → lcP (S := Unit) (fun x _ => (f x).map fun y => (some y, ())) xs () = some (out, ())
  | [], out, h => by cases h; rfl
  | x :: xs, out, h => by
    obtain ⟨y, h1, h2⟩ := ob h
    obtain ⟨ys, h3, h4⟩ := ob h2
    cases h4
    have := mapP_lc f xs ys h3
    simp only [lcP, h1, this, Option.map_some, Option.bind_some]
theorem filP_lc (f : D → Option (Option D)) : ∀ (xs out : List D), filP f xs = some out → lcP (S := Unit) (fun x _ => (f x).map fun y => (y, ())) xs () = some (out, ())
  | [], out, h => by cases h; rfl
  | x :: xs, out, h => by
    obtain ⟨y, h1, h2⟩ := ob h
    obtain ⟨ys, h3, h4⟩ := ob h2
    have := filP_lc f xs ys h3
    cases y <;> cases h4 <;> simp only [lcP, h1, this, Option.map_some, Option.bind_some]
theorem mapT_run {fi : M (List D)} {t : D → M Unit} {vs : List Nat} {c : M Bool} {fe : M D} {f : D → Option D} (I : Env → Prop)
    {ρ0 ρ1 : Env} {xs : List D} {out : List D} (h0 : fi ρ0 = .ok xs ρ1) (hi : I (wipeE ρ1 vs)) (h : mapT f xs = some out)
    (hb : ∀ x ρ y, I ρ → f x = some y → ∃ ρ1 ρ2 ρ3, t x ρ = .ok () ρ1 ∧ c ρ1 = .ok true ρ2 ∧ fe ρ2 = .ok y ρ3 ∧ I (wipeE ρ3 vs)) : ∃ ρ', mLc fi t vs c fe ρ0 = .ok (.fr (.list out)) (restE ρ1 ρ' vs) ∧ I ρ' := by
  obtain ⟨ys, h1, h2⟩ := ob h
  have hl : ys.length ≤ 100000 := by
    split at h2
    · assumption
    · cases h2
  rw [if_pos hl] at h2
  cases h2
  refine lcT_run (S := Unit) (fun _ ρ => I ρ) h0 hi (s' := ()) (s := ()) (by unfold lcT; rw [mapP_lc f xs out h1, Option.bind_some]; exact if_pos hl) fun x s ρ o s' hi' hf => ?_
  cases hfx : f x with
  | none => rw [hfx] at hf; cases hf
  | some y =>
    rw [hfx] at hf
    cases hf
    obtain ⟨ρa, ρb, ρc, e1, e2, e3, q⟩ := hb x ρ y hi' hfx
    exact ⟨ρa, ρb, e1, ρc, e2, e3, q⟩
theorem filT_run {fi : M (List D)} {t : D → M Unit} {vs : List Nat} {c : M Bool} {fe : M D} {f : D → Option (Option D)} (I : Env → Prop)
    {ρ0 ρ1 : Env} {xs : List D} {out : List D} (h0 : fi ρ0 = .ok xs ρ1) (hi : I (wipeE ρ1 vs)) (h : filT f xs = some out)
    (hb : ∀ x ρ o, I ρ → f x = some o → ∃ ρ1 ρ2, t x ρ = .ok () ρ1 ∧ lcQ c fe vs I ρ1 ρ2 o) : ∃ ρ', mLc fi t vs c fe ρ0 = .ok (.fr (.list out)) (restE ρ1 ρ' vs) ∧ I ρ' := by
  obtain ⟨ys, h1, h2⟩ := ob h
  have hl : ys.length ≤ 100000 := by
    split at h2
    · assumption
    · cases h2
  rw [if_pos hl] at h2
  cases h2
  refine lcT_run (S := Unit) (fun _ ρ => I ρ) h0 hi (s' := ()) (s := ()) (by unfold lcT; rw [filP_lc f xs out h1, Option.bind_some]; exact if_pos hl) fun x s ρ o s' hi' hf => ?_
  cases hfx : f x with
  | none => rw [hfx] at hf; cases hf
  | some y =>
    rw [hfx] at hf
    cases hf
    exact hb x ρ _ hi' hfx
end PL
/-! PL22: dicts with numbers as keys -/
namespace PL
open PySem PySem.Spec L2 RT RZ
def isKI : D → Int → Bool
  | .int j, i => decide (j = i)
  | _, _ => false
def lookD : List (D × D) → Int → Option D
  | [], _ => none
  | (k, d) :: r, i => if isKI k i = true then some d else lookD r i
def putD (ks : List (D × D)) (i : Int) (d : D) : List (D × D) := if (ks.any fun kv => isKI kv.1 i) = true then ks.map (fun kv => if isKI kv.1 i = true then (kv.1, d) else kv) else ks ++ [(.int i, d)]
theorem isKI_key (k : Key) (i : Int) : isKI (keyD k) i = decide (k = .inl i) := by
  cases k with
  | inl j => by_cases h : j = i <;> simp [keyD, isKI, h]
  | inr s => simp [keyD, isKI]
theorem valV_rpk {G : Hp} (i : Int) : ∀ {es : List (Key × V)} {ks : List (D × D)}, RpK G es ks → (∀ d, lookD ks i = some d → ∃ v, valV es (.inl i) = some v ∧ Rp G v d) ∧ (lookD ks i = none → valV es (.inl i) = none)
  | _, _, .nil => ⟨fun d h => (nomatch h), fun _ => rfl⟩
  | _, _, .cons (k := k) (v := v) (es := es) (d := d) (ks := ks) r rs => by
    have ih := valV_rpk i rs
    have hv : valV ((k, v) :: es) (.inl i) = if decide (k = .inl i) = true then some v else valV es (.inl i) := by
      unfold valV
      rw [List.find?_cons]
      cases decide (k = .inl i) <;> rfl
    unfold lookD
    rw [isKI_key, hv]
    cases decide (k = .inl i) with
    | true => exact ⟨fun d' h => ⟨v, rfl, by cases h; exact r⟩, fun h => by cases h⟩
    | false => exact ih
theorem any_rpk {G : Hp} (i : Int) : ∀ {es : List (Key × V)} {ks : List (D × D)}, RpK G es ks → (es.any fun kv => decide (kv.1 = .inl i)) = ks.any fun kv => isKI kv.1 i
  | _, _, .nil => rfl
  | _, _, .cons r rs => by rw [List.any_cons, List.any_cons, any_rpk i rs, isKI_key]
theorem map_rpk {G : Hp} (i : Int) {y : V} {x : D} (ry : Rp G y x) : ∀ {es : List (Key × V)} {ks : List (D × D)}, RpK G es ks → RpK G (es.map fun kv => if kv.1 = .inl i then (kv.1, y) else kv) (ks.map fun kv => if isKI kv.1 i = true then (kv.1, x) else kv)
  | _, _, .nil => .nil
  | _, _, .cons (k := k) r rs => by
    rw [List.map_cons, List.map_cons]
    dsimp only
    rw [isKI_key]
    by_cases h : k = .inl i
    · rw [if_pos h, if_pos (by simp [h])]; exact .cons ry (map_rpk i ry rs)
    · rw [if_neg h, if_neg (by simp [h])]; exact .cons r (map_rpk i ry rs)
theorem snoc_rpk {G : Hp} {k : Key} {y : V} {x : D} (ry : Rp G y x) : ∀ {es : List (Key × V)} {ks : List (D × D)}, RpK G es ks → RpK G (es ++ [(k, y)]) (ks ++ [(keyD k, x)])
  | _, _, .nil => .cons ry .nil
  | _, _, .cons r rs => .cons r (snoc_rpk ry rs)
theorem put_rpk {G : Hp} (i : Int) {y : V} {x : D} (ry : Rp G y x) {es : List (Key × V)} {ks : List (D × D)} (r : RpK G es ks) : RpK G (putK es (.inl i) y) (putD ks i x) := by
  unfold putK putD
  rw [any_rpk i r]
  split
  · exact map_rpk i ry r
  · exact snoc_rpk (k := .inl i) ry r
theorem len_rpk {G : Hp} : ∀ {es : List (Key × V)} {ks : List (D × D)}, RpK G es ks → es.length = ks.length
  | _, _, .nil => rfl
  | _, _, .cons _ rs => by rw [List.length_cons, List.length_cons, len_rpk rs]
/-! ### d[k] -/
def gIxA (d k : D) : Option D := match d with
  | .dict ks => match k with
    | .int i => lookD ks i
    | _ => none
  | d => gIx d k
def rIxD : R2 := fun x y H Q => ∃ a v, x = .ref a ∧ DGet H a y (some v) ∧ Q v H
theorem ix_dict {X : Cx} (hu : X.A.units + 1 < cLine) : IxR X rIxD := by
  intro value slice pins s σ H x y v u Q I rx ry q hs
  obtain ⟨a, w, ex, g, q⟩ := q
  subst ex
  cases (show v = Value.ref a from rx)
  exact PyProof.Rows.tail_any (dict_typeIs I g) PySem.F.slot_dict_getitem.lookup (d_getItem hu I g ry fun w' s3 I3 rw' => ⟨w, H, I3, rw', q⟩) hs
theorem pop_ixA {K : PySem.W.Frag} : POpV (fun x y H Q => rIx K x y H Q ∨ rIxD x y H Q) gIxA := by
  intro G H x y d e z Q gh s1 s2 hg q
  cases s1 with
  | @dct a es ks h r =>
    cases s2 with
    | int i =>
      obtain ⟨v, hv, rv⟩ := (valV_rpk i r).1 z hg
      exact .inr ⟨a, v, rfl, by rw [← hv]; exact DGet.k (k := .inl i) h, q v G H (Grow.refl gh) rv⟩
    | _ => cases hg
  | non => exact .inl (pop_ix G H _ _ _ _ z Q gh .non s2 hg q)
  | bl b => exact .inl (pop_ix G H _ _ _ _ z Q gh (.bl b) s2 hg q)
  | int i => exact .inl (pop_ix G H _ _ _ _ z Q gh (.int i) s2 hg q)
  | str i => exact .inl (pop_ix G H _ _ _ _ z Q gh (.str i) s2 hg q)
  | lst h r => exact .inl (pop_ix G H _ _ _ _ z Q gh (.lst h r) s2 hg q)
  | tup h r => exact .inl (pop_ix G H _ _ _ _ z Q gh (.tup h r) s2 hg q)
/-! ### d.get(k, x) -/
def isDct : D → Option Unit
  | .dict _ => some ()
  | _ => none
def get2D (d k x : D) : Option D := match d, k with
  | .dict ks, .int i => some ((lookD ks i).getD x)
  | _, _ => none
def mGet2 (go : M Pl) (fk fx : M D) : M D := bnd go fun p => bnd (look p) fun d0 => bnd (ofO (isDct d0)) fun _ => bnd fk fun k => bnd fx fun x => bnd (look p) fun d => ofO (get2D d k x)
section
variable {X : Cx} {a b o e f : Expr} {ga gb go : M Pl} {fk fx fb fd : M D} {pos pos' tpos apos cpos : Pos} {x : Str}
theorem pv_ixA (hu : X.A.units + 64 < cLine) (ha : PP X a ga) (hb : PP X b gb) (hs : PlainIx b := by intro _ _; rfl) : PV X (.Subscript a b pos) (mOp gIxA ga gb) := by
  obtain ⟨ta, ha, ra⟩ := ha
  obtain ⟨tb, hb, rb⟩ := hb
  exact ⟨_, pe_ix (IxR.or ix_seq (ix_dict (by omega))) ha hb hs, rd_op pop_ixA ra rb⟩
theorem pv_get2 (hu : X.A.units + 64 < cLine) (ho : PP X o go) (he : PV X e fk) (hf : PV X f fx) (m : M2 X o "get" apos e f cpos := by exact ⟨rfl, rfl, rfl, rfl⟩) :
    PV X (.Call (.Attribute o "get" apos) [e, f] [] cpos) (mGet2 go fk fx) := by
  obtain ⟨to, ho, ro⟩ := ho
  obtain ⟨te, he, re⟩ := he
  obtain ⟨tf, hf, rf⟩ := hf
  refine ⟨_, pe_dget2 (by omega) ho he hf m, fun C G σ H ρ Q hK S d ρ' hh q => ?_⟩
  obtain ⟨p, ρ1, h1, hh1⟩ := bnd_ok hh
  obtain ⟨d0, ρ2, h2, hh2⟩ := bnd_ok hh1
  obtain ⟨_, ρ3, h3, hh3⟩ := bnd_ok hh2
  obtain ⟨dk, ρ4, h4, hh4⟩ := bnd_ok hh3
  obtain ⟨dx, ρ5, h5, hh5⟩ := bnd_ok hh4
  obtain ⟨d1, ρ6, h6, hh6⟩ := bnd_ok hh5
  refine ro C G σ H ρ _ hK S p ρ1 h1 fun v G1 H1 g1 S1 o1 => ?_
  obtain ⟨sh, rfl⟩ := look_ok S1 o1 h2
  obtain ⟨hi, rfl⟩ := ofO_ok h3
  cases sh with
  | @dct A es ks hA rK =>
    refine ⟨A, rfl, .inl ⟨es, .inl hA⟩, ?_⟩
    refine re C G1 σ H1 _ _ hK S1 dk ρ4 h4 fun v2 G2 H2 g2 S2 o2 => ?_
    refine rf C G2 σ H2 _ _ hK S2 dx ρ5 h5 fun v3 G3 H3 g3 S3 o3 => ?_
    obtain ⟨sh2, rfl⟩ := look_ok S3 ((o1.mono g2).mono g3) h6
    obtain ⟨hz, rfl⟩ := ofO_ok hh6
    cases sh2 with
    | @dct _ es2 ks2 hA2 rK2 =>
      cases o2 with
      | int i =>
        cases hz
        refine ⟨valV es2 (.inl i), DGet.k (k := .inl i) hA2, ?_⟩
        obtain ⟨y1, y2⟩ := valV_rpk i rK2
        cases hl : lookD ks2 i with
        | none => rw [y2 hl]; exact q _ G3 H3 ((g1.trans g2).trans g3) S3 (by rw [hl]; exact o3)
        | some d =>
          obtain ⟨w, hw, rw1⟩ := y1 d hl
          rw [hw]
          exact q _ G3 H3 ((g1.trans g2).trans g3) S3 (by rw [hl]; exact rw1)
      | _ => cases hz
    | _ => cases hz
  | _ => cases hi
/-- {}, as an object of one's own -/
theorem pf_dict0 : PF X (.Dict [] [] pos) (mFr mDict0) := ⟨_, pe_dnewK, fun C G σ H ρ Q hK S d ρ' hf q => by
  cases hf
  intro p hp
  have w : Grow G H G (upd H p (.dK [])) := Grow.newF S.gh hp
  exact q _ _ _ (Same.refl _) (S.grow w) (fresh_ok S hp w (.dct upd_same .nil))⟩
/-! ### d[k] = x -/
def putAt (j : Nat) (d k : D) : M Fl := fun ρ => match ρ[j]? with
  | some (.own (.dict ks)) => match k with
    | .int i => if ks.length < 100000 then .ok .nx (ρ.set j (.own (.dict (putD ks i d)))) else .stuck
    | _ => .stuck
  | some (.io (.dict ks)) => match k with
    | .int i => if ks.length < 100000 then .ok .nx (ρ.set j (.io (.dict (putD ks i d)))) else .stuck
    | _ => .stuck
  | _ => .stuck
def mDPut (j : Nat) (fe fi : M D) : M Fl := bnd fe fun d => bnd (isOwn j) fun _ => bnd fi fun k => putAt j d k
theorem pst_dput {j : Nat} (hu : X.A.units + 64 < cLine) (he : PV X e fd) (hi : PV X b fb) (hN : X.N[j]? = some x := by rfl) (hv : Vis X.env.scope x := by first | exact Or.inl rfl | exact Or.inr (Or.inl rfl) | exact Or.inr (Or.inr rfl)) (hd : (x == ("__debug__" : Str)) = false := by decide)
    (hcd : (x == ("__classdict__" : Str)) = false := by decide) (ha : ∀ v, assign (.Subscript (.Name x pos') b tpos) X.env v = (do
      let ov ← holding [v] (eval (.Name x pos') X.env)
      let iv ← holding [v, ov] (eval b X.env)
      standAt tpos
      holding [v, ov, iv] (setItem ov iv v)
      release [v, ov, iv] []) := by intro _; rfl) (hs : swapsWithSole [.Subscript (.Name x pos') b tpos] e pos.line X.env = pure false := by rfl) (hw : swappedStores [.Subscript (.Name x pos') b tpos] e X.env = pure none := by rfl) :
    PSt X (.Assign [.Subscript (.Name x pos') b tpos] e pos) (mDPut j fd fb) := by
  obtain ⟨te, he, re⟩ := he
  obtain ⟨ti, hi, ri⟩ := hi
  refine ⟨_, ps_asg he (pg_sub (pe_var hN hv hd hcd) hi (set_dict (by omega)) ha) hs hw, fun C G σ H ρ D hK S fl ρ' hf q => ?_⟩
  obtain ⟨d, ρ1, h1, hf2⟩ := bnd_ok hf
  obtain ⟨_, ρ0, h0, hf3⟩ := bnd_ok hf2
  obtain ⟨kd, ρ2, h2, hf4⟩ := bnd_ok hf3
  refine re C G σ H ρ _ hK S d ρ1 h1 fun v G1 H1 g1 S1 o1 => ?_
  obtain ⟨a, ea, rfl⟩ := isOwn_ok S1 h0
  refine ⟨.ref a, ea, ?_⟩
  refine ri C G1 σ H1 _ _ hK S1 kd ρ2 h2 fun v2 G2 H2 g2 S2 o2 => ?_
  unfold putAt at hf4
  cases es : ρ2[j]? with
  | none => rw [es] at hf4; cases hf4
  | some s =>
    rw [es] at hf4
    obtain ⟨o, e1, q1⟩ := S2.sl j s es
    rw [ea] at e1
    cases e1
    cases o2 with
    | int n =>
      have fin : ∀ (ks : List (PL.D × PL.D)) (kvs : List (Key × V)), ks.length < 100000 → H2 a = some (.dK kvs) → RpK G2 kvs ks → (StOk C G2 σ (upd H2 a (.dK (putK kvs (.inl n) v))) ρ') → fl = .nx →
          ∃ a' H', (V.ref a : V) = .ref a' ∧ DPut H2 a' (.int n) v H' ∧ D.nx σ H' := fun ks kvs hl hA rK S3 hfl => by
        subst hfl
        exact ⟨a, _, rfl, DPut.k (k := .inl n) hA (by rw [len_rpk rK]; exact line_lt hl), q σ G2 _ (g1.trans g2) S3⟩
      cases s with
      | own dd =>
        obtain ⟨b', eb, sh, _⟩ := q1
        cases eb
        cases sh with
        | @dct _ kvs ks hA rK =>
          dsimp only at hf4
          by_cases hl : ks.length < 100000
          · rw [if_pos hl] at hf4
            cases hf4
            exact fin ks kvs hl hA rK (S2.mut es rfl ea (.inl ⟨_, rfl, _, rfl, .dct upd_same (put_rpk n (o1.mono g2) rK)⟩)) rfl
          · rw [if_neg hl] at hf4; cases hf4
        | _ => cases hf4
      | io dd =>
        obtain ⟨b', eb, sh, _⟩ := q1
        cases eb
        cases sh with
        | @dct _ kvs ks hA rK =>
          dsimp only at hf4
          by_cases hl : ks.length < 100000
          · rw [if_pos hl] at hf4
            cases hf4
            exact fin ks kvs hl hA rK (S2.mut es rfl ea (.inr ⟨_, rfl, _, rfl, .dct upd_same (put_rpk n (o1.mono g2) rK)⟩)) rfl
          · rw [if_neg hl] at hf4; cases hf4
        | _ => cases hf4
      | _ => cases hf4
    | _ =>
      exfalso
      cases s with
      | own dd => cases dd <;> cases hf4
      | io dd => cases dd <;> cases hf4
      | _ => cases hf4
end
/-! ### sorted(d) -/
def keyInts : List (D × D) → Option (List Int)
  | [] => some []
  | (.int i, _) :: r => (keyInts r).map (i :: ·)
  | _ => none
def gSortedA : List D → Option D
  | [.dict ks] => (keyInts ks).map fun ns => .list ((sortI ns).map .int)
  | l => gSorted l
theorem keyInts_ok {G : Hp} : ∀ {es : List (Key × V)} {ks : List (D × D)} {ns : List Int}, RpK G es ks → keyInts ks = some ns → es.map (·.1) = ns.map Sum.inl
  | _, _, _, .nil, h => by cases h; rfl
  | _, _, _, .cons (k := k) r rs, h => by
    cases k with
    | inr z => cases h
    | inl i =>
      have h : (keyInts _).map (i :: ·) = some _ := h
      obtain ⟨ns', e1, e2⟩ := Option.map_eq_some_iff.mp h
      subst e2
      rw [List.map_cons, List.map_cons, keyInts_ok rs e1]
theorem cr_orA {X : Cx} {c : Value} {r r' : List V → Hp → VK → Prop} (h : CallR X c r) (h' : CallR X c r') : CallR X c (fun xs H Q => r xs H Q ∨ r' xs H Q) := by
  intro pins s σ H xs us Q I rr q
  rcases q with q | q
  · exact h pins s σ H xs us Q I rr q
  · exact h' pins s σ H xs us Q I rr q
section
variable {X : Cx} {e : Expr} {es : List Expr} {pos p : Pos} {gs : M (List Pl)}
theorem pf_sortedA (hc : X.calm = true) (hg : Gl X "sorted") (hm : X.mg "sorted" = none) (ha : PPs X (e :: es) gs) (he : starEach (e :: es) X.env = (false, eval e X.env) :: starEach es X.env := by rfl) (hpl : (backTo pos (starEach es X.env)).any (·.1) = false := by rfl) :
    PF X (.Call (.Name "sorted" p) (e :: es) [] pos) (mFr (mN gSortedA gs)) := pf_b (cr_orA cr_sortedI (cr_sortedDI hc)) (fun G H vs ds z Q gh s hg q => by
  cases s with
  | nil => cases hg
  | cons h r => cases r with
    | cons _ _ => cases h <;> cases hg
    | nil => cases h with
      | @lst a xs ds h r =>
        simp only [gSortedA, gSorted] at hg
        cases qd : nums ds with
        | none => rw [qd] at hg; cases hg
        | some ns =>
          rw [qd] at hg
          cases hg
          have := nums_ok qd r
          subst this
          refine .inl ⟨a, ns, rfl, .inl (.inl h), fun ns' l hp hs hl => ?_⟩
          rw [sortI_one hp hs]
          exact q l _ hl (Grow.newF gh hl) (.lst upd_same (RpA.ints _))
      | @dct a kvs ks h r =>
        simp only [gSortedA] at hg
        cases qd : keyInts ks with
        | none => rw [qd] at hg; cases hg
        | some ns =>
          rw [qd] at hg
          cases hg
          refine .inr ⟨a, kvs, ns, rfl, h, keyInts_ok r qd, fun ns' l hp hs hl => ?_⟩
          rw [sortI_one hp hs]
          exact q l _ hl (Grow.newF gh hl) (.lst upd_same (RpA.ints _))
      | _ => cases hg) hg hm (by decide +kernel) ha (he := he) (hpl := hpl)
end
/-! ### the p-level's rules -/
def dputP (e k x : D) : Option D := match e, k with
  | .dict ks, .int i => if ks.length < 100000 then some (.dict (putD ks i x)) else none
  | _, _ => none
section
variable {ρ : Env} {j : Nat} {d : D}
@[simp] theorem s_get2 (go : M Pl) (fk fx : M D) : mGet2 go fk fx ρ = bnd go (fun p => bnd (look p) fun d0 => bnd (ofO (isDct d0)) fun _ => bnd fk fun k => bnd fx fun x => bnd (look p) fun d => ofO (get2D d k x)) ρ := rfl
@[simp] theorem s_mDPut (fe fi : M D) : mDPut j fe fi ρ = bnd fe (fun d => bnd (isOwn j) fun _ => bnd fi fun k => putAt j d k) ρ := rfl
@[simp] theorem s_putAt (k : D) : putAt j d k ρ = match ρ[j]? with
  | some (.own e) => rSetAt (fun d => ρ.set j (.own d)) (dputP e k d)
  | some (.io e) => rSetAt (fun d => ρ.set j (.io d)) (dputP e k d)
  | _ => .stuck := by
  unfold putAt
  cases ρ[j]? with
  | none => rfl
  | some s =>
    cases s with
    | own e => cases e with
      | dict ks => cases k with
        | int n => simp only [dputP]; by_cases h : ks.length < 100000 <;> simp only [h, if_true, if_false, rSetAt]
        | _ => rfl
      | _ => rfl
    | io e => cases e with
      | dict ks => cases k with
        | int n => simp only [dputP]; by_cases h : ks.length < 100000 <;> simp only [h, if_true, if_false, rSetAt]
        | _ => rfl
      | _ => rfl
    | _ => rfl
end
end PL
/-! PL23: sorted(set(xs)), xs a list of numbers -/
namespace L2
open PySem PySem.Spec PyProof.Rows
abbrev newSet (w : World) : Obj := { cls := .type "set", dict := none, data := .set #[] 0 (.fresh 0 0 (!w.params.followText "set-order")) }
section
variable {P : Program} {w : World} {A : Around} {E : Value → Shared → Prop} {s : Shared}
set_option maxHeartbeats 3200000 in
theorem set_of_list {l : Addr} {items : Array Value} (ns : List Int) {Q : Value → Shared → Prop} (hh : A.handled = none) (hl : s.heap.IsList l items) (hit : IntsAre items.toList ns) (hb : ns.length + 1 < scanBound)
    (h : ∀ (h' : Heap) (tk c : Nat), SetR w h' s.heap.objs.size (fun j => decide (j ∈ ns)) c → c ≤ ns.length → (∀ b o, s.heap.get? b = some o → h'.get? b = some o) → Q (.ref s.heap.objs.size) { s with heap := h', toks := tk }) :
    wpAny (model P w) A (call (.type "set") [.ref l]) Q E s := by
  have hisz : items.size = ns.length := by
    have q := IntsAre.length hit
    rw [Array.length_toList] at q
    exact q
  obtain ⟨c, tl, hmro⟩ := F.called_set.mro
  have hmade := F.called_set.made
  have hsub := F.called_set.sub
  refine wpAny_call (codeAny_of_tree ?_)
  show wpAny _ _ (callAny (.type "set") _) _ _ _
  refine wpAny_pure ⟨Code.quiet_builtin _ (by decide +kernel), codeAny_builtin F.entry_type_call ?_⟩
  rw [Around.under_plain (weight_type_call_type "set" [.ref l] []) rfl]
  have h1 := F.called_set.notType
  have h2 := F.called_set.canCreate
  have hct := F.typeCall_set_1 (.ref l)
  repeat (any_goals (first | assumption | wp_step))
  refine codeAny_mono (code_set_led1 (.ref l) (E := E) (Q₁ := fun obj s₁ => obj = .ref s.heap.objs.size ∧ s₁ = { s with heap := s.heap.push (newSet w) }) ⟨rfl, rfl⟩) fun r s₁ hr => ?_
  cases r with
  | error e => exact hr
  | ok fl =>
    cases fl with
    | ret obj =>
      obtain ⟨rfl, rfl⟩ := hr
      have hS : (s.heap.push (newSet w)).get? s.heap.objs.size = some (newSet w) := Heap.get?_push_size _ rfl
      have hT : Shared.TypeIs { s with heap := s.heap.push (newSet w) } (.ref s.heap.objs.size) "set" := ⟨_, hS, rfl⟩
      have hli := F.called_set.init.lookup
      have hbi := F.called_set.init.bind (.ref s.heap.objs.size)
      repeat (any_goals (first | assumption | wp_step))
      refine codeAny_mono (codeAny_call_builtin (R := wants (fun r s₂ => r = .none ∧ ∃ h' tk c, s₂ = { s with heap := h', toks := tk } ∧ SetR w h' s.heap.objs.size (fun j => decide (j ∈ ns)) c ∧ c ≤ ns.length ∧
          (∀ b o, s.heap.get? b = some o → h'.get? b = some o)) E) F.called_set.init.plain F.entry_set_init (check_set_init_1 hT ?_)) fun r₂ s₂ hr₂ => ?_
      · obtain ⟨ol, hol, hcl, nl, hdl⟩ := hl
        obtain ⟨ocls, odict, odata, oslots⟩ := ol
        simp only at hcl hdl
        subst hcl; subst hdl
        have hol' : (s.heap.push (newSet w)).get? l = some { cls := .type "list", dict := odict, data := .seq items nl, slots := oslots } := Heap.get?_push_of_some _ hol
        have hsls := F.sub_list_set
        have hslf := F.sub_list_frozenset
        have hne : (Value.type "list" == Value.type "dict") = false := by decide
        have hl1 : (s.heap.push (newSet w)).IsList l items := ⟨_, hol', rfl, nl, rfl⟩
        unfold Builtin.«set.__init__» noKeywords Builtin.Frozenset.updateFrom
        generalize hPI : pyIter = PI
        wp_walk
        subst hPI
        refine wpAny_pyIter_list hl1 ?_
        refine wpAny_bind (wpAny_runValue ?_)
        have hlS : l < s.heap.objs.size := Heap.lt_size hol
        have hh3 : A.in1.in1.in1.handled = none := by simp [hh]
        have hz1 : (s.heap.push (newSet w)).objs.size = s.heap.objs.size + 1 := Heap.size_push ..
        have hneI : l ≠ (s.heap.push (newSet w)).objs.size := by
          rw [Heap.size_push]; exact Nat.ne_of_lt (Nat.lt_succ_of_lt hlS)
        have hSf : s.heap.objs.size ∉ [(s.heap.push (newSet w)).objs.size, l] := by
          rw [Heap.size_push]; simp only [List.mem_cons, List.mem_singleton, List.not_mem_nil, or_false, not_or]
          exact ⟨Nat.ne_of_lt (Nat.lt_succ_self _), Nat.ne_of_gt hlS⟩
        have hval : ∀ (i : Nat) (v : Value), items[i]? = some v → ∃ k t, ns[i]? = some k ∧ v = .int k t := fun i v hv => by
          have hi : i < ns.length := by rw [← hisz]; exact (Array.getElem?_eq_some_iff.mp hv).1
          obtain ⟨t, e⟩ := PyProof.Rows.IntsAre.int_at hit i v (by rw [Array.getElem?_toList]; exact hv)
          refine ⟨ns[i], t, List.getElem?_eq_getElem hi, ?_⟩
          rw [e, List.getD_eq_getElem?_getD, List.getElem?_eq_getElem hi] <;> rfl
        refine set_update_ints ((Walks.list hh3 _ l hneI items).toS) s.heap.objs.size
          hSf ns hisz hb hval (items.size - 0) 0 _ (by omega) (Nat.zero_le _)
          ⟨⟨_, Heap.get?_push_size _ rfl, rfl, rfl⟩, (hl1.push _)⟩ ?hS0 ?hR
        case hS0 =>
          have hget : ((s.heap.push (newSet w)).push { cls := .type "list_iterator", data := .fields #[.ref l, .int 0 0] }).get? s.heap.objs.size
              = some (newSet w) := Heap.get?_push_of_some _ hS
          exact ⟨0, Nat.le_refl 0, setR_new_at hget⟩
        case hR =>
          intro s' c' hm hc' hS'
          obtain ⟨h', g2, d', tk', os'⟩ := s'
          have eg : g2 = s.gens := hm.gens
          have ed : d' = s.drawn := hm.drawn
          have eo : os' = s.os := hm.os
          subst eg; subst ed; subst eo
          show wpAny _ _ _ _ _ _
          refine wpAny_pure ?_
          show wpAny _ _ (ret Value.none) _ _ _
          rw [hisz] at hc'
          refine wpAny_pure ⟨rfl, h', tk', c', rfl, hS', hc', fun b o e => ?_⟩
          have hb0 : b < s.heap.objs.size := Heap.lt_size e
          have hb1 : b ≠ s.heap.objs.size := Nat.ne_of_lt hb0
          have hb2 : b ≠ (s.heap.push (newSet w)).objs.size := by
            rw [Heap.size_push]; exact Nat.ne_of_lt (Nat.lt_succ_of_lt hb0)
          exact hm.heap b o (by simp only [List.mem_cons, List.mem_singleton, List.not_mem_nil, or_false, not_or]; exact ⟨hb1, hb2⟩) (Heap.get?_push_of_some _ (Heap.get?_push_of_some _ e))
      · cases r₂ with
        | error e => exact hr₂
        | ok fl₂ =>
          cases fl₂ with
          | ret r =>
            obtain ⟨rfl, h', tk, c', rfl, hS', hc', hk'⟩ := hr₂
            repeat (any_goals (first | assumption | wp_step))
            exact h _ _ _ hS' hc' hk'
          | _ => exact hr₂.elim
    | _ => exact hr.elim
end
end L2
namespace L2
open PySem PySem.Spec PyProof.Rows
section
variable {P : Program} {w : World} {A : Around} {E : Value → Shared → Prop} {s : Shared}
/-- the set's members, in order -/
theorem sorted_set_any {a : Addr} {S : Int → Bool} {n : Nat} {Q : Value → Shared → Prop} (R : SetR w s.heap a S n) (hh : A.handled = none) (hz : n ≤ sizeLine)
    (fin : ∀ s' p (us : List Value) (c : Nat) (ks : List Int), (∀ b u, s.heap.get? b = some u → s'.heap.get? b = some u) → s'.gens = s.gens → s'.os = s.os → s.heap.objs.size ≤ p →
      s'.heap.get? p = some (seqObj "list" us.toArray c) → Vals (ks.map V.int) us → ks.length = n → ks.Pairwise (· < ·) → (∀ k, k ∈ ks ↔ S k = true) → Q (.ref p) s') :
    wpAny (model P w) A (call (.builtin "sorted") [.ref a]) Q E s := by
  obtain ⟨ob, es, ep, t, q1, q2, q3, good, nd, mem, few, fit, num, ris, led⟩ := R
  refine Calls.call_function_entry kind_sorted plain_sorted entry_sorted (args_sorted1 _) ?_
  unfold Builtin.«sorted»
  refine wpAny_bind (m := checkCount "sorted" 1 1 _) (wpAny_pure ?_)
  refine wpAny_bind (collect_set (A := A.in1) hh ⟨ob, q1, q2.1, q3⟩ fit few ris led fun s1 vs keep grow same os1 perm => ?_)
  have len : vs.length = n := by rw [perm.length_eq, List.length_map, Array.length_toList]; exact num
  have intsH : IntsAre vs (vs.map Builtin.Re.reRawOf) := ints_of vs fun v hv => by
    obtain ⟨x, hx, rfl⟩ := List.mem_map.mp (perm.mem_iff.mp hv)
    obtain ⟨k, tk, h1, _⟩ := good x hx
    exact ⟨k, tk, h1⟩
  have pk : (vs.map Builtin.Re.reRawOf).Perm (es.toList.map keyOf) := by
    have z := perm.map Builtin.Re.reRawOf
    rwa [List.map_map] at z
  refine wpAny_bind (wpAny_newList ?_ (by rw [len]; exact hz))
  have hoL : (s1.heap.push (seqObj "list" vs.toArray 0)).get? s1.heap.objs.size = some (seqObj "list" vs.toArray 0) := Heap.get?_push_size _ rfl
  refine wpAny_bind (wpAny_holding (wpAny_call_entry slot_list_sort ⟨_, hoL, rfl⟩ entry_list_sort
    (SrtO.list_sort_ord SrtO.swo_int hoL (by rw [len]; exact hz) (fun h2 => SrtO.ints_sortable intsH h2) fun out h1 h2 => ⟨_, rfl, ?_⟩)
    (args_list_sort _)))
  obtain ⟨k1, k2, k3⟩ := SrtO.ints_out intsH h1 h2
  obtain ⟨e', he'⟩ := sortedHeap_at (vs := vs) (out := out.toArray) hoL
  have pn : (out.map SrtO.iv).Perm (es.toList.map keyOf) := k2.trans pk
  refine wpAny_pure ⟨_, rfl, fin _ s1.heap.objs.size out _ (out.map SrtO.iv) (fun b u e => ?_) same os1 grow he' (vals_of_ints k1) ?_ (lt_of_le_nodup _ k3 (pn.nodup_iff.mpr nd)) fun k => by rw [pn.mem_iff, ← mem k]⟩
  · have q := keep b u e
    have lt := Heap.lt_size q
    rw [sortedHeap_old (Nat.ne_of_lt lt) (by rw [size_push']; exact Nat.lt_succ_of_lt lt)]
    exact Heap.get?_push_of_some _ q
  · rw [pn.length_eq, List.length_map, Array.length_toList]; exact num
end
end L2
namespace PL
open PySem PySem.Spec L2 PyProof.Rows RT RZ
def insU (x : Int) : List Int → List Int
  | [] => [x]
  | y :: ys => if x < y then x :: y :: ys else if x = y then y :: ys else y :: insU x ys
def uniqI (ns : List Int) : List Int := ns.foldr insU []
theorem insU_mem (x k : Int) : ∀ l : List Int, k ∈ insU x l ↔ k = x ∨ k ∈ l
  | [] => by simp [insU]
  | y :: ys => by
    unfold insU
    split
    · simp
    · split
      · rename_i h; subst h; simp
      · rw [List.mem_cons, insU_mem x k ys, List.mem_cons]
        constructor
        · rintro (h | h | h)
          · exact .inr (.inl h)
          · exact .inl h
          · exact .inr (.inr h)
        · rintro (h | h | h)
          · exact .inr (.inl h)
          · exact .inl h
          · exact .inr (.inr h)
theorem insU_lt (x : Int) : ∀ l : List Int, l.Pairwise (· < ·) → (insU x l).Pairwise (· < ·)
  | [], _ => by simp [insU]
  | y :: ys, h => by
    obtain ⟨h1, h2⟩ := List.pairwise_cons.mp h
    unfold insU
    split
    · rename_i hx
      refine List.pairwise_cons.mpr ⟨fun z hz => ?_, h⟩
      rcases List.mem_cons.mp hz with rfl | hz
      · exact hx
      · exact Int.lt_trans hx (h1 z hz)
    · split
      · exact h
      · rename_i a b
        refine List.pairwise_cons.mpr ⟨fun z hz => ?_, insU_lt x ys h2⟩
        rcases (insU_mem x z ys).mp hz with rfl | hz
        · omega
        · exact h1 z hz
theorem uniqI_mem (k : Int) : ∀ ns : List Int, k ∈ uniqI ns ↔ k ∈ ns
  | [] => by simp [uniqI]
  | n :: ns => by
    show k ∈ insU n (uniqI ns) ↔ _
    rw [insU_mem, uniqI_mem k ns, List.mem_cons]
theorem uniqI_lt : ∀ ns : List Int, (uniqI ns).Pairwise (· < ·)
  | [] => List.Pairwise.nil
  | n :: ns => insU_lt n _ (uniqI_lt ns)
theorem uniqI_one {ns ks : List Int} (h : ks.Pairwise (· < ·)) (m : ∀ k, k ∈ ks ↔ k ∈ ns) : ks = uniqI ns := by
  refine List.Perm.eq_of_pairwise (le := (· < ·)) (fun a b _ _ h1 h2 => by omega) h (uniqI_lt ns) ?_
  refine (List.perm_ext_iff_of_nodup (h.imp fun x => by omega) ((uniqI_lt ns).imp fun x => by omega)).mpr fun k => ?_
  rw [m k, uniqI_mem]
def gSortSet : D → Option D
  | .list ds => if ds.length ≤ 4000 then (nums ds).map fun ns => .list ((uniqI ns).map .int) else none
  | _ => none
def tSortSet (K : PySem.W.Frag) (t : TE) : TE := fun σ H Q => t σ H fun x H1 => ∃ a ns, x = .ref a ∧ SqL K H1 a (ns.map V.int) ∧ ns.length ≤ 4000 ∧ ∀ p, H1 p = none → Q (.ref p) (upd H1 p (.lst ((uniqI ns).map V.int)))
section
variable {X : Cx} {e : Expr} {g : M Pl} {t : TE} {p p2 pos pos2 : Pos}
theorem pe_sortSet (hc : X.calm = true) (hg : Gl X "sorted") (hm : X.mg "sorted" = none) (hg2 : Gl X "set") (hm2 : X.mg "set" = none) (h : PE X e t) (n1 : starEach [e] X.env = (false, eval e X.env) :: starEach [] X.env := by rfl)
    (n2 : starEach [.Call (.Name "set" p2) [e] [] pos2] X.env = (false, eval (.Call (.Name "set" p2) [e] [] pos2) X.env) :: starEach [] X.env := by rfl) :
    PE X (.Call (.Name "sorted" p) [.Call (.Name "set" p2) [e] [] pos2] [] pos) (tSortSet X.K t) := by
  refine ⟨fun pins s σ H Q I hq => ?_⟩
  have hset : wpAny (model X.prog X.w) X.A (eval (.Call (.Name "set" p2) [e] [] pos2) X.env) (fun u s2 => ∃ a ns H1 L c, u = .ref a ∧ SetR X.w s2.heap a (fun j => decide (j ∈ ns)) c ∧ c ≤ ns.length ∧ ns.length ≤ 4000 ∧ L2.Inv X pins σ H1 s2 ∧ L = ns ∧
      ∀ p, H1 p = none → Q (.ref p) (upd H1 p (.lst ((uniqI ns).map V.int)))) X.xe s := by
    refine Call_ (ld_blt I hg2 hm2 (show bootBuiltins ("set" : Str) = some (.type "set") from by decide +kernel) (PyProof.Rows.callWith_type1 (one_arg h I hq (fun v s2 x H2 I2 rx q => ?_) n1) n1))
    obtain ⟨a, ns, rfl, sq, hl, q⟩ := q
    cases (show v = Value.ref a from rx)
    obtain ⟨its, rv, pt, hz⟩ := I2.list sq
    have hi : IntsAre its.toArray.toList ns := ints_of_vals rv
    exact set_of_list ns (I2.ok.hd hc) pt.isList hi (by unfold scanBound; omega) fun h' tk c R1 hcn k => ⟨_, ns, H2, ns, c, rfl, R1, hcn, hl, I2.kept k, rfl, q⟩
  refine Call_ (ld_blt I hg hm (show bootBuiltins ("sorted" : Str) = some (.builtin "sorted") from by decide +kernel) (PyProof.Rows.callWith_builtin1 (args_cons (thn hset fun u s2 hu => args_nil ?_) n2) n2))
  obtain ⟨a, ns, H1, _, c, rfl, R1, hcn, hl, I1, _, q⟩ := hu
  refine sorted_set_any R1 (I1.ok.hd hc) (by rw [sizeLine_eq]; omega) fun s' p' us cc ks keep gens os big hp rv hlen hlt hmem => ?_
  have eks : ks = uniqI ns := uniqI_one hlt fun k => by rw [hmem k, decide_eq_true_eq]
  subst eks
  have new : ObjOk X.prog X.w (upd H1 p' (.lst ((uniqI ns).map V.int))) s'.heap p' (.lst ((uniqI ns).map V.int)) := ⟨by rw [List.length_map, hlen, sizeLine_eq]; omega, us, cc, rv, hp⟩
  have I2 : L2.Inv X pins σ (upd H1 p' (.lst ((uniqI ns).map V.int))) s' := I1.call' (ch := []) os (Un.laid keep big (I1.hok.fresh big)) (I1.hok.laid keep big new) (by rw [gens]; exact I1.bare) (fun _ z => nomatch z)
  exact ⟨.ref p', _, I2, rfl, q p' (I1.hok.fresh big)⟩
theorem pf_sortSet (hc : X.calm = true) (hg : Gl X "sorted") (hm : X.mg "sorted" = none) (hg2 : Gl X "set") (hm2 : X.mg "set" = none) (h : PP X e g) (n1 : starEach [e] X.env = (false, eval e X.env) :: starEach [] X.env := by rfl)
    (n2 : starEach [.Call (.Name "set" p2) [e] [] pos2] X.env = (false, eval (.Call (.Name "set" p2) [e] [] pos2) X.env) :: starEach [] X.env := by rfl) :
    PF X (.Call (.Name "sorted" p) [.Call (.Name "set" p2) [e] [] pos2] [] pos) (mFr (mUn gSortSet g)) := by
  obtain ⟨t, h, r⟩ := h
  refine ⟨_, pe_sortSet hc hg hm hg2 hm2 h n1 n2, fun C G σ H ρ Q hK S d ρ' hf q => ?_⟩
  obtain ⟨d', ρ0, hf0, h0⟩ := bnd_ok hf
  cases h0
  obtain ⟨pl, ρ1, h1, hf1⟩ := bnd_ok hf0
  obtain ⟨dd, ρ2, h2, hf2⟩ := bnd_ok hf1
  obtain ⟨hz, rfl⟩ := ofO_ok hf2
  refine r C G σ H ρ _ hK S pl ρ1 h1 fun v G1 H1 g1 S1 o => ?_
  obtain ⟨sh, rfl⟩ := look_ok S1 o h2
  cases sh with
  | @lst a xs ds hA rA =>
    have hz : (if ds.length ≤ 4000 then (nums ds).map fun ns => PyData.list ((uniqI ns).map .int) else none) = some d' := hz
    by_cases hl : ds.length ≤ 4000
    · rw [if_pos hl] at hz
      cases qd : nums ds with
      | none => rw [qd] at hz; cases hz
      | some ns =>
        rw [qd] at hz
        cases hz
        have e := nums_ok qd rA
        subst e
        refine ⟨a, ns, rfl, .inl (.inl hA), ?_, fun p hp => ?_⟩
        · rw [← rA.length, List.length_map] at hl; exact hl
        · have w : Grow G1 H1 G1 (upd H1 p (.lst ((uniqI ns).map V.int))) := Grow.newF S1.gh hp
          exact q _ _ _ g1 (S1.grow w) (fresh_ok S1 hp w (.lst upd_same (RpA.ints _)))
    · rw [if_neg hl] at hz; cases hz
  | _ => cases hz
end
end PL
/-! PL25: zip of three lists. -/
namespace PL
open PySem PySem.Spec PyProof.Rows L2
def Itz3 (K : PySem.W.Frag) (a b c : Addr) : It :=
  ⟨fun i H => ∃ (xs ys zs : List V) (x y z : V), SqL K H a xs ∧ SqL K H b ys ∧ SqL K H c zs ∧ xs[i]? = some x ∧ ys[i]? = some y ∧ zs[i]? = some z,
    fun i H v H' => ∃ T x y z, v = .ref T ∧ H T = none ∧ H' = upd H T (.tup [x, y, z]) ∧ (∀ xs, SqL K H a xs → xs[i]? = some x) ∧ (∀ ys, SqL K H b ys → ys[i]? = some y) ∧ ∀ zs, SqL K H c zs → zs[i]? = some z,
    fun i H => ∃ xs ys zs : List V, SqL K H a xs ∧ SqL K H b ys ∧ SqL K H c zs ∧ i ≤ xs.length ∧ i ≤ ys.length ∧ i ≤ zs.length ∧ (i = xs.length ∨ i = ys.length ∨ i = zs.length)⟩
theorem turn_zip3 {P : Program} {w : World} {K : PySem.W.Frag} {elts : List Expr} {kk : Nat} {tpos : Pos} {a b c z TI TO i1 i2 i3 : Addr} (D : ZipSep3 z TI TO i1 i2 i3 [i1, a] [i2, b] [i3, c]) :
    Turn P w K (.Tuple elts kk tpos) (Itz3 K a b c) [z, TI, TO, i1, i2, i3] z (fun i h => IsZip h z TI TO .none ∧ IsTupOf3 h TI (.ref i1) (.ref i2) (.ref i3) ∧ (∃ x y u, IsTupOf3 h TO x y u) ∧ h.IsListIter i1 a i ∧ h.IsListIter i2 b i ∧ h.IsListIter i3 c i) where
  mem := by simp
  obj := fun i h st q hq => by
    obtain ⟨hz, hTI, ⟨x, y, u, hTO⟩, ⟨o1, e1, _, d1⟩, ⟨o2, e2, _, d2⟩, ⟨o3, e3, _, d3⟩⟩ := st
    have e' : q = z ∨ q = TI ∨ q = TO ∨ q = i1 ∨ q = i2 ∨ q = i3 := by simpa using hq
    rcases e' with r | r | r | r | r | r
    · rw [r]; exact ⟨_, hz, fun v q => nomatch q⟩
    · rw [r]; exact ⟨_, hTI, fun v q => nomatch q⟩
    · rw [r]; exact ⟨_, hTO, fun v q => nomatch q⟩
    · rw [r]; exact ⟨o1, e1, fun v q => by rw [d1] at q; cases q⟩
    · rw [r]; exact ⟨o2, e2, fun v q => by rw [d2] at q; cases q⟩
    · rw [r]; exact ⟨o3, e3, fun v q => by rw [d3] at q; cases q⟩
  keep := fun i h h' st k => by
    obtain ⟨hz, hTI, ⟨x, y, u, hTO⟩, h1, h2, h3⟩ := st
    exact ⟨k z (by simp) _ hz, k TI (by simp) _ hTI, ⟨x, y, u, k TO (by simp) _ hTO⟩, h1.at fun o q => k i1 (by simp) o q, h2.at fun o q => k i2 (by simp) o q, h3.at fun o q => k i3 (by simp) o q⟩
  item := by
    intro X hP hw hK hc i pins s σ H E I hf st hg
    subst hP hw hK
    obtain ⟨hz, hTI, ⟨x0, y0, u0, hTO⟩, h1, h2, h3⟩ := st
    obtain ⟨xs, ys, zs, x, y, u, hqx, hqy, hqu, hx, hy, hu⟩ := hg
    obtain ⟨its, rv, p, _⟩ := I.list hqx
    obtain ⟨its2, rv2, p2, _⟩ := I.list hqy
    obtain ⟨its3, rv3, p3, _⟩ := I.list hqu
    obtain ⟨w1, hw1, rw1⟩ := rv.get hx
    obtain ⟨w2, hw2, rw2⟩ := rv2.get hy
    obtain ⟨w3, hw3, rw3⟩ := rv3.get hu
    have hh : X.A.in1.handled = none := I.ok.hd hc
    have n1 : a ≠ i1 := fun e => by
      obtain ⟨o, e1, c1, _⟩ := h1
      obtain ⟨o', e2, c2, _⟩ := p.isList
      rw [e, e1] at e2; cases e2
      rw [c1] at c2; simp at c2
    have n2 : b ≠ i2 := fun e => by
      obtain ⟨o, e1, c1, _⟩ := h2
      obtain ⟨o', e2, c2, _⟩ := p2.isList
      rw [e, e1] at e2; cases e2
      rw [c1] at c2; simp at c2
    have n3 : c ≠ i3 := fun e => by
      obtain ⟨o, e1, c1, _⟩ := h3
      obtain ⟨o', e2, c2, _⟩ := p3.isList
      rw [e, e1] at e2; cases e2
      rw [c1] at c2; simp at c2
    have l1 : i < its.toArray.size := by
      have := (List.getElem?_eq_some_iff.mp hw1).1
      simpa using this
    have l2 : i < its2.toArray.size := by
      have := (List.getElem?_eq_some_iff.mp hw2).1
      simpa using this
    have l3 : i < its3.toArray.size := by
      have := (List.getElem?_eq_some_iff.mp hw3).1
      simpa using this
    have hzl : z < s.heap.objs.size := Heap.lt_size hz
    refine wpAny_pyNext_zipD3_item D (Draws.list hh i1 a n1 its.toArray) (Draws.list hh i2 b n2 its2.toArray) (Draws.list hh i3 c n3 its3.toArray) hz hTI hTO ⟨h1, p.isList⟩ ⟨h2, p2.isList⟩ ⟨h3, p3.isList⟩ l1 l2 l3 fun x1 x2 x3 h' tk q1 q2 q3 z' TO' h1' h2' h3' hT hsz hk => ?_
    have e1 : x1 = w1 := by
      have q : its.toArray[i]? = some x1 := q1
      rw [show its.toArray[i]? = its[i]? from by simp, hw1] at q
      exact (Option.some.inj q).symm
    have e2 : x2 = w2 := by
      have q : its2.toArray[i]? = some x2 := q2
      rw [show its2.toArray[i]? = its2[i]? from by simp, hw2] at q
      exact (Option.some.inj q).symm
    have e3 : x3 = w3 := by
      have q : its3.toArray[i]? = some x3 := q3
      rw [show its3.toArray[i]? = its3[i]? from by simp, hw3] at q
      exact (Option.some.inj q).symm
    subst e1; subst e2; subst e3
    refine ⟨_, rfl, wpAny_letOwnedTupleGo_zip (s := { s with heap := h', toks := tk }) z' fun h'' z'' sb => ?_⟩
    have hT2 : h''.get? s.heap.objs.size = some { cls := .type "tuple", data := .seq #[x1, x2, x3] } := (sb.2 _ (Nat.ne_of_gt hzl)).trans hT
    have new : ObjOk X.prog X.w (upd H s.heap.objs.size (.tup [x, y, u])) h'' s.heap.objs.size (.tup [x, y, u]) :=
      ⟨by show 3 ≤ sizeLine; decide, [x1, x2, x3], .cons rw1 (.cons rw2 (.cons rw3 .nil)), ⟨_, hT2, rfl, _, rfl⟩⟩
    have I1 : Inv X pins σ (upd H s.heap.objs.size (.tup [x, y, u])) { s with heap := h'', toks := tk } :=
      I.turnedNew (t' := tk) (ch := [z, TI, TO, i1, i2, i3]) (fun q o hb e => (sb.2 q (fun q' => hb (by simp [q']))).trans (hk q o (fun q' => hb (by simp [q'])) (fun q' => hb (by simp [q'])) (fun q' => hb (by simp [q'])) (fun q' => hb (by simp [q'])) (fun q' => hb (by simp [q'])) e)) hf (Nat.le_refl _) new
    refine ⟨.ref s.heap.objs.size, _, I1, rfl, ⟨_, x, y, u, rfl, I.hok.fresh (Nat.le_refl _), rfl, fun l hl => by rw [I.list_inj hl hqx]; exact hx, fun l hl => by rw [I.list_inj hl hqy]; exact hy, fun l hl => by rw [I.list_inj hl hqu]; exact hu⟩, ⟨z'', ?_, ⟨x1, x2, x3, ?_⟩, ?_, ?_, ?_⟩, fun q hcm => ?_⟩
    · exact (sb.2 _ D.TIz).trans (hk _ _ D.TIz D.TITO D.TIi1 D.TIi2 D.TIi3 hTI)
    · exact (sb.2 _ D.TOz).trans TO'
    · exact h1'.1.at fun o q => (sb.2 _ D.zi1.symm).trans q
    · exact h2'.1.at fun o q => (sb.2 _ D.zi2.symm).trans q
    · exact h3'.1.at fun o q => (sb.2 _ D.zi3.symm).trans q
    · have hlt : q < s.heap.objs.size := by
        have e' : q = z ∨ q = TI ∨ q = TO ∨ q = i1 ∨ q = i2 ∨ q = i3 := by simpa using hcm
        rcases e' with r | r | r | r | r | r
        · rw [r]; exact hzl
        · rw [r]; exact Heap.lt_size hTI
        · rw [r]; exact Heap.lt_size hTO
        · rw [r]; obtain ⟨_, e1, _⟩ := h1; exact Heap.lt_size e1
        · rw [r]; obtain ⟨_, e2, _⟩ := h2; exact Heap.lt_size e2
        · rw [r]; obtain ⟨_, e3, _⟩ := h3; exact Heap.lt_size e3
      rw [upd_ne (Nat.ne_of_lt hlt)]
      exact (hf q hcm).1
  done := by
    intro X hP hw hK hc i pins s σ H E I hf st hg
    subst hP hw hK
    obtain ⟨hz, hTI, ⟨x0, y0, u0, hTO⟩, h1, h2, h3⟩ := st
    obtain ⟨xs, ys, zs, hqx, hqy, hqu, k1, k2, k3, hend⟩ := hg
    obtain ⟨its, rv, p, _⟩ := I.list hqx
    obtain ⟨its2, rv2, p2, _⟩ := I.list hqy
    obtain ⟨its3, rv3, p3, _⟩ := I.list hqu
    have hh : X.A.in1.handled = none := I.ok.hd hc
    have n1 : a ≠ i1 := fun e => by
      obtain ⟨o, e1, c1, _⟩ := h1
      obtain ⟨o', e2, c2, _⟩ := p.isList
      rw [e, e1] at e2; cases e2
      rw [c1] at c2; simp at c2
    have n2 : b ≠ i2 := fun e => by
      obtain ⟨o, e1, c1, _⟩ := h2
      obtain ⟨o', e2, c2, _⟩ := p2.isList
      rw [e, e1] at e2; cases e2
      rw [c1] at c2; simp at c2
    have n3 : c ≠ i3 := fun e => by
      obtain ⟨o, e1, c1, _⟩ := h3
      obtain ⟨o', e2, c2, _⟩ := p3.isList
      rw [e, e1] at e2; cases e2
      rw [c1] at c2; simp at c2
    have l1 := rv.length
    have l2 := rv2.length
    have l3 := rv3.length
    exact wpAny_pyNext_zipD3_end D (Draws.list hh i1 a n1 its.toArray) (Draws.list hh i2 b n2 its2.toArray) (Draws.list hh i3 c n3 its3.toArray) hz hTI hTO ⟨h1, p.isList⟩ ⟨h2, p2.isList⟩ ⟨h3, p3.isList⟩
      (by simp; omega) (by simp; omega) (by simp; omega) (by simp; omega) fun h' tk hk => ⟨rfl, I.turnedL (t' := tk) (ch := [z, TI, TO, i1, i2, i3]) (fun q o hb e =>
      hk q o (fun q' => hb (by simp [q'])) (fun q' => hb (by simp [q'])) (fun q' => hb (by simp [q'])) (fun q' => hb (by simp [q'])) (fun q' => hb (by simp [q'])) e) hf⟩
  self := fun A i s Q E st h => wpAny_pyIter_zip st.1 h
def iZip3 (K : PySem.W.Frag) (ta : TA) : TI := fun σ H R => ta σ H fun vs H1 => ∃ a b c xs ys zs, vs = [.ref a, .ref b, .ref c] ∧ SqL K H1 a xs ∧ SqL K H1 b ys ∧ SqL K H1 c zs ∧ R (Itz3 K a b c) H1
theorem pi_zip3 {X : Cx} {e e2 e3 : Expr} {ta : TA} {p pos tpos : Pos} {elts : List Expr} {kk : Nat} (hg : Gl X "zip") (hm : X.mg "zip" = none) (ha : PA X [e, e2, e3] ta)
    (hs : starEach [e, e2, e3] X.env = (false, eval e X.env) :: starEach [e2, e3] X.env := by rfl) (hpl : (backTo pos (starEach [e2, e3] X.env)).any (·.1) = false := by rfl) :
    PI X (.Tuple elts kk tpos) (.Call (.Name "zip" p) [e, e2, e3] [] pos) (iZip3 X.K ta) := by
  refine ⟨fun pins s σ H R I h => ?_⟩
  refine Call_ (ld_blt I hg hm PyProof.Rows.boot_zip (PyProof.Rows.callWith_type1 (thn (ha.run pos pins s σ H _ I h) fun us s1 ⟨vs, H1, I1, r1, q1⟩ => ?_) hs hpl))
  obtain ⟨a, b, c, xs, ys, zs, ex, hqx, hqy, hqu, q⟩ := q1
  subst ex
  cases r1 with
  | cons r rr =>
    cases rr with
    | cons r' rr =>
      cases rr with
      | cons r'' rr =>
      cases rr
      cases r
      cases r'
      cases r''
      obtain ⟨its, rv, p1, _⟩ := I1.list hqx
      obtain ⟨its2, rv2, p2, _⟩ := I1.list hqy
      obtain ⟨its3, rv3, p3, _⟩ := I1.list hqu
      refine zip_begins3 (begins_list a its.toArray) (begins_list b its2.toArray) (begins_list c its3.toArray) p1.isList p2.isList p3.isList fun h' hz hTI hTO g1 g2 g3 hsz hk => wpAny_pyIter_zip hz ?_
      have I2 : Inv X pins σ H1 { s1 with heap := h' } := I1.kept (t' := s1.toks) hk
      have la : a < s1.heap.objs.size := p1.lt
      have lb : b < s1.heap.objs.size := p2.lt
      have lc : c < s1.heap.objs.size := p3.lt
      have S := zip_sep3 (N := s1.heap.objs.size) (fp1 := [a]) (fp2 := [b]) (fp3 := [c]) (by simpa using la) (by simpa using lb) (by simpa using lc)
      refine ⟨s1.heap.objs.size + 5, [s1.heap.objs.size + 5, s1.heap.objs.size + 3, s1.heap.objs.size + 4, s1.heap.objs.size, s1.heap.objs.size + 1, s1.heap.objs.size + 2], _, _, H1, rfl, I2, turn_zip3 S, ⟨hz, hTI, ⟨_, _, _, hTO⟩, ⟨_, g1, rfl, rfl⟩, ⟨_, g2, rfl, rfl⟩, ⟨_, g3, rfl, rfl⟩⟩, fun d hd => ?_, q⟩
      have e' : d = s1.heap.objs.size + 5 ∨ d = s1.heap.objs.size + 3 ∨ d = s1.heap.objs.size + 4 ∨ d = s1.heap.objs.size ∨ d = s1.heap.objs.size + 1 ∨ d = s1.heap.objs.size + 2 := by simpa using hd
      have hle : s1.heap.objs.size ≤ d := by
        rcases e' with z | z | z | z | z | z
        · rw [z]; exact Nat.le_add_right _ _
        · rw [z]; exact Nat.le_add_right _ _
        · rw [z]; exact Nat.le_add_right _ _
        · rw [z]; exact Nat.le_refl _
        · rw [z]; exact Nat.le_add_right _ _
        · rw [z]; exact Nat.le_add_right _ _
      exact I1.fpOk hle (I1.hok.fresh hle)
def z3 : List D → List D → List D → List D
  | a :: as, b :: bs, c :: cs => .tuple [a, b, c] :: z3 as bs cs
  | _, _, _ => []
theorem z3_len : ∀ as bs cs : List D, (z3 as bs cs).length = min (min as.length bs.length) cs.length
  | [], _, _ => by simp [z3]
  | _ :: _, [], _ => by simp [z3]
  | _ :: _, _ :: _, [] => by simp [z3]
  | a :: as, b :: bs, c :: cs => by simp only [z3, List.length_cons, z3_len as bs cs]; omega
theorem z3_get : ∀ {as bs cs : List D} {i : Nat} {d : D}, (z3 as bs cs)[i]? = some d → ∃ a b c, as[i]? = some a ∧ bs[i]? = some b ∧ cs[i]? = some c ∧ d = .tuple [a, b, c]
  | [], _, _, _, _, h => by simp [z3] at h
  | _ :: _, [], _, _, _, h => by simp [z3] at h
  | _ :: _, _ :: _, [], _, _, h => by simp [z3] at h
  | a :: as, b :: bs, c :: cs, 0, d, h => by simp [z3] at h; exact ⟨a, b, c, rfl, rfl, rfl, h.symm⟩
  | a :: as, b :: bs, c :: cs, i + 1, d, h => by
    have h' : (z3 as bs cs)[i]? = some d := by simpa [z3] using h
    simpa using z3_get h'
theorem JOk.zip3 {K : PySem.W.Frag} {B G1 : Hp} {a b c : Addr} {xs ys zs : List V} {ds es fs : List D} (s1 : ∀ G H, Same B H → Same G1 G → Same G H → SqL K H a xs) (r1 : RpA G1 xs ds) (s2 : ∀ G H, Same B H → Same G1 G → Same G H → SqL K H b ys) (r2 : RpA G1 ys es)
    (s3 : ∀ G H, Same B H → Same G1 G → Same G H → SqL K H c zs) (r3 : RpA G1 zs fs) : JOk (Itz3 K a b c) B G1 (z3 ds es fs) where
  go := fun i G H q g gh hi => by
    rw [z3_len] at hi
    obtain ⟨v, hv, _⟩ := r1.get (List.getElem?_eq_getElem (show i < ds.length by omega))
    obtain ⟨u, hu, _⟩ := r2.get (List.getElem?_eq_getElem (show i < es.length by omega))
    obtain ⟨t, ht, _⟩ := r3.get (List.getElem?_eq_getElem (show i < fs.length by omega))
    exact ⟨xs, ys, zs, v, u, t, s1 G H q g gh, s2 G H q g gh, s3 G H q g gh, hv, hu, ht⟩
  yld := fun i G H x H' d q g gh hd hy => by
    obtain ⟨T, x', y', u', rfl, hT, rfl, f1, f2, f3⟩ := hy
    obtain ⟨d1, d2, d3, q1, q2, q3, rfl⟩ := z3_get hd
    obtain ⟨v, hv, rv⟩ := r1.get q1
    obtain ⟨u, hu, ru⟩ := r2.get q2
    obtain ⟨t, ht, rt⟩ := r3.get q3
    have e1 := f1 xs (s1 G _ q g gh)
    rw [hv] at e1; cases e1
    have e2 := f2 ys (s2 G _ q g gh)
    rw [hu] at e2; cases e2
    have e3 := f3 zs (s3 G _ q g gh)
    rw [ht] at e3; cases e3
    have w := Grow.new (o := .tup [x', y', u']) gh hT
    exact ⟨_, w, .tup upd_same (.cons (rv.mono (g.trans w.g)) (.cons (ru.mono (g.trans w.g)) (.one (rt.mono (g.trans w.g)))))⟩
  stop := fun G H q g gh => ⟨xs, ys, zs, s1 G H q g gh, s2 G H q g gh, s3 G H q g gh, by rw [z3_len, r1.length]; omega, by rw [z3_len, r2.length]; omega, by rw [z3_len, r3.length]; omega, by rw [z3_len, r1.length, r2.length, r3.length]; omega⟩
def mZip3 (f g h : M Pl) : M (List D) := bnd f fun p => bnd g fun q => bnd h fun r => bnd (seqAt p) fun ds => bnd (seqAt q) fun es => bnd (seqAt r) fun fs => if (!ds.1 && !es.1 && !fs.1) = true then ret (z3 ds.2 es.2 fs.2) else fun _ => .stuck
theorem pit_zip3 {X : Cx} {a b c : Expr} {ga gb gc : M Pl} {p pos tpos : Pos} {elts : List Expr} {kk : Nat} (hg : Gl X "zip") (hm : X.mg "zip" = none) (h : PP X a ga) (h2 : PP X b gb) (h3 : PP X c gc)
    (hs : starEach [a, b, c] X.env = (false, eval a X.env) :: starEach [b, c] X.env := by rfl) (hs2 : starEach [b, c] X.env = (false, eval b X.env) :: starEach [c] X.env := by rfl) (hs3 : starEach [c] X.env = (false, eval c X.env) :: starEach [] X.env := by rfl) (hpl : (backTo pos (starEach [b, c] X.env)).any (·.1) = false := by rfl) :
    PIt X (.Tuple elts kk tpos) (.Call (.Name "zip" p) [a, b, c] [] pos) (mZip3 ga gb gc) := by
  obtain ⟨t, h, r⟩ := h
  obtain ⟨u, h2, r2⟩ := h2
  obtain ⟨v, h3, r3⟩ := h3
  refine ⟨_, pi_zip3 hg hm (pa_cons h (pa_cons h2 (pa_cons h3 pa_nil hs3) hs2) hs) hs hpl, fun C G σ H ρ R hK S ds ρ' hf q => ?_⟩
  obtain ⟨p1, ρ1, k1, hf⟩ := bnd_ok hf
  obtain ⟨p2, ρ2, k2, hf⟩ := bnd_ok hf
  obtain ⟨p3, ρ3, k3, hf⟩ := bnd_ok hf
  obtain ⟨d1, ρ4, k4, hf⟩ := bnd_ok hf
  obtain ⟨d2, ρ5, k5, hf⟩ := bnd_ok hf
  obtain ⟨d3, ρ6, k6, hf⟩ := bnd_ok hf
  by_cases hk : (!d1.1 && !d2.1 && !d3.1) = true
  · simp only [hk, if_true] at hf
    cases hf
    simp only [Bool.and_eq_true, Bool.not_eq_true'] at hk
    obtain ⟨⟨b1, b2⟩, b3⟩ := hk
    refine r C G σ H ρ _ hK S p1 ρ1 k1 fun v1 G1 H1 g1 S1 o => ?_
    refine r2 C G1 σ H1 ρ1 _ hK S1 p2 ρ2 k2 fun v2 G2 H2 g2 S2 o2 => ?_
    refine r3 C G2 σ H2 ρ2 _ hK S2 p3 ρ3 k3 fun v3 G3 H3 g3 S3 o3 => ?_
    obtain ⟨⟨a1, xs, rfl, rr, z⟩, rfl⟩ := seqAt_ok S3 ((o.mono g2).mono g3) k4
    obtain ⟨⟨a2, ys, rfl, rr2, z2⟩, rfl⟩ := seqAt_ok S3 (o2.mono g3) k5
    obtain ⟨⟨a3, zs, rfl, rr3, z3⟩, rfl⟩ := seqAt_ok S3 o3 k6
    rw [hK] at z z2 z3
    have l1 : ∀ G H, Same C.B H → Same G3 G → Same G H → SqL X.K H a1 xs := z.elim (fun y => y.2) fun y => by rw [b1] at y; cases y.1
    have l2 : ∀ G H, Same C.B H → Same G3 G → Same G H → SqL X.K H a2 ys := z2.elim (fun y => y.2) fun y => by rw [b2] at y; cases y.1
    have l3 : ∀ G H, Same C.B H → Same G3 G → Same G H → SqL X.K H a3 zs := z3.elim (fun y => y.2) fun y => by rw [b3] at y; cases y.1
    exact ⟨a1, a2, a3, xs, ys, zs, rfl, l1 G3 H3 S3.bh (Same.refl _) S3.gh, l2 G3 H3 S3.bh (Same.refl _) S3.gh, l3 G3 H3 S3.bh (Same.refl _) S3.gh, q _ G3 H3 ((g1.trans g2).trans g3) S3 (JOk.zip3 l1 rr l2 rr2 l3 rr3)⟩
  · simp only [hk] at hf
    cases hf
def zip3P (d e f : D) : Option (List D) := match d, e, f with
  | .list xs, .list ys, .list zs => some (z3 xs ys zs)
  | _, _, _ => none
theorem zip3P_ok {f g h : M Pl} {ρ ρ1 ρ2 ρ3 : Env} {p q r : Pl} {d e c : D} {zs : List D} (h1 : f ρ = .ok p ρ1) (h2 : g ρ1 = .ok q ρ2) (h3 : h ρ2 = .ok r ρ3)
    (h4 : seqAt p ρ3 = ofO (itemsD d) ρ3) (h5 : seqAt q ρ3 = ofO (itemsD e) ρ3) (h6 : seqAt r ρ3 = ofO (itemsD c) ρ3) (hz : zip3P d e c = some zs) : mZip3 f g h ρ = .ok zs ρ3 := by
  unfold zip3P at hz
  unfold mZip3
  rw [bnd_eq h1, bnd_eq h2, bnd_eq h3]
  cases d <;> cases e <;> cases c <;> cases hz
  rw [bnd_eq (show seqAt p ρ3 = .ok (false, _) ρ3 from h4), bnd_eq (show seqAt q ρ3 = .ok (false, _) ρ3 from h5), bnd_eq (show seqAt r ρ3 = .ok (false, _) ρ3 from h6)]
  rfl
end PL
/-! PL26: an object of one's own is but looked at for a while (a list that is gone through and changed later). -/
namespace PL
open PySem PySem.Spec PyProof.Rows L2
def pinM {α : Type} (i : Nat) (f : M α) : M α := fun ρ => match ρ[i]? with
  | some (.own d) => match f (ρ.set i (.bor d)) with
    | .ok a ρ' => match ρ'[i]? with
      | some (.bor _) => .ok a (ρ'.set i (.own d))
      | _ => .stuck
    | .stuck => .stuck
  | some (.io d) => match f (ρ.set i (.bor d)) with
    | .ok a ρ' => match ρ'[i]? with
      | some (.bor _) => .ok a (ρ'.set i (.io d))
      | _ => .stuck
    | .stuck => .stuck
  | _ => f ρ
def Ctx.pin (C : Ctx) (i : Nat) (a : Addr) (o : HO) (G : Hp) (d : D) : Ctx :=
  { K := C.K, G0 := G, B := upd C.B a o, A := fun b => C.A b ∧ b ≠ a, P := fun j => if j = i then some (.ref a) else C.P j, S := fun j => if j = i then .bor d else C.S j }
section
variable {C : Ctx} {G H : Hp} {σ : L2.St} {ρ : Env}
theorem pin_in (S : StOk C G σ H ρ) {i : Nat} {s : Sl} {d : D} (e : ρ[i]? = some s) (hs : s = .own d ∨ s = .io d) :
    ∃ a o, σ[i]? = some (some (.ref a)) ∧ H a = some o ∧ G a = none ∧ C.B a = none ∧ Own σ ρ i a ∧ StOk (C.pin i a o G d) G σ H (ρ.set i (.bor d)) := by
  have hi : i < ρ.length := (List.getElem?_eq_some_iff.mp e).1
  obtain ⟨oo, e1, k⟩ := S.sl i s e
  have kk : ∃ a, oo = some (.ref a) ∧ Sh G H (.ref a) d ∧ G a = none ∧ C.B a = none := by
    rcases hs with rfl | rfl
    · obtain ⟨a, h1, h2, h3, h4, _⟩ := k; exact ⟨a, h1, h2, h3, h4⟩
    · obtain ⟨a, h1, h2, h3, h4, _⟩ := k; exact ⟨a, h1, h2, h3, h4⟩
  obtain ⟨a, rfl, sh, ga, ba⟩ := kk
  have ho : ownK s = true := by rcases hs with rfl | rfl <;> rfl
  have ow : Own σ ρ i a := ⟨e1, s, e, ho⟩
  cases hH : H a with
  | none => exact absurd hH sh.tracked
  | some o =>
  refine ⟨a, o, e1, hH, ga, ba, ow, ?_⟩
  have bb : Same C.B (upd C.B a o) := fun b u q => by rw [upd_ne (ne_of_none q ba)]; exact q
  have bh : Same (upd C.B a o) H := fun b u q => by
    by_cases hb : b = a
    · subst hb; rw [upd_same] at q; cases q; exact hH
    · rw [upd_ne hb] at q; exact S.bh b u q
  have sub : ∀ {j : Nat} {b : Addr}, Own σ (ρ.set i (.bor d)) j b → j ≠ i ∧ Own σ ρ j b := fun {j b} ⟨x, s', y, z⟩ => by
    by_cases hj : j = i
    · subst hj
      rw [List.getElem?_set_self hi] at y
      cases y; cases z
    · rw [List.getElem?_set_ne (fun z => hj z.symm)] at y
      exact ⟨hj, x, s', y, z⟩
  have dist : ∀ {j : Nat} {s' : Sl} {b : Addr}, j ≠ i → ρ[j]? = some s' → ownK s' = true → σ[j]? = some (some (.ref b)) → b ≠ a := fun {j s' b} hj q kx hb z => by
    subst z
    exact hj (S.ds j i b ⟨hb, s', q, kx⟩ ow)
  refine ⟨S.gh, bh, Same.refl _, fun b q => ⟨S.fr b q, fun z => by subst z; rw [hH] at q; cases q⟩, fun b q => .inl q, fun j v q => ?_, by rw [List.length_set]; exact S.len, fun j s' q => ?_, fun j k b hj hk => S.ds j k b (sub hj).2 (sub hk).2⟩
  · show BorOk C.K G (upd C.B a o) v (if j = i then .bor d else C.S j)
    by_cases hj : j = i
    · rw [if_pos hj]
      have q' : (if j = i then some (V.ref a) else C.P j) = some v := q
      rw [if_pos hj] at q'
      cases q'
      exact sh.at (Same.refl _) fun b hb u hu => by cases hb; rw [upd_same]; rw [hH] at hu; exact hu
    · rw [if_neg hj]
      have q' : (if j = i then some (V.ref a) else C.P j) = some v := q
      rw [if_neg hj] at q'
      exact BorOk.mono S.g0 bb (S.wf j v q')
  · by_cases hj : j = i
    · subst hj
      rw [List.getElem?_set_self hi] at q
      cases q
      exact ⟨_, e1, _, rfl, if_pos rfl, if_pos rfl⟩
    · rw [List.getElem?_set_ne (fun z => hj z.symm)] at q
      obtain ⟨o', e2, k'⟩ := S.sl j s' q
      refine ⟨o', e2, ?_⟩
      cases s' with
      | un => trivial
      | val d' => exact k'
      | own d' =>
        obtain ⟨b, rfl, h1, h2, h3, h4⟩ := k'
        have hb := dist hj q rfl e2
        exact ⟨b, rfl, h1, h2, by show upd C.B a o b = none; rw [upd_ne hb]; exact h3, h4, hb⟩
      | io d' =>
        obtain ⟨b, rfl, h1, h2, h3, h4⟩ := k'
        have hb := dist hj q rfl e2
        exact ⟨b, rfl, h1, h2, by show upd C.B a o b = none; rw [upd_ne hb]; exact h3, (if_neg hj).trans h4⟩
      | bor d' => obtain ⟨v, h1, h2, h3⟩ := k'; exact ⟨v, h1, (if_neg hj).trans h2, (if_neg hj).trans h3⟩
      | scr ns => obtain ⟨v, h1, h2, h3⟩ := k'; exact ⟨v, h1, (if_neg hj).trans h2, (if_neg hj).trans h3⟩
theorem pin_out (S : StOk C G σ H ρ) {i : Nat} {s : Sl} {d : D} (e : ρ[i]? = some s) (hs : s = .own d ∨ s = .io d) {a : Addr} {o : HO} (ev : σ[i]? = some (some (.ref a))) (ho : H a = some o)
    {σ' : L2.St} {G' H' : Hp} {ρ' : Env} {d' : D} (S' : StOk (C.pin i a o G d) G' σ' H' ρ') (g : Same G G') (e' : ρ'[i]? = some (.bor d')) :
    StOk C G' σ' H' (ρ'.set i s) ∧ G' a = none := by
  have hi : i < ρ'.length := (List.getElem?_eq_some_iff.mp e').1
  have k := S.get e ev
  have kk : Sh G H (.ref a) d ∧ G a = none ∧ C.B a = none := by
    rcases hs with rfl | rfl
    · obtain ⟨b, h1, h2, h3, h4, _⟩ := k; cases h1; exact ⟨h2, h3, h4⟩
    · obtain ⟨b, h1, h2, h3, h4, _⟩ := k; cases h1; exact ⟨h2, h3, h4⟩
  obtain ⟨sh, ga, ba⟩ := kk
  have bb : Same C.B (upd C.B a o) := fun b u q => by rw [upd_ne (ne_of_none q ba)]; exact q
  have ga' : G' a = none := by
    cases q : G' a with
    | none => rfl
    | some u =>
      rcases S'.ga a (ne_none_of q) with z | z
      · exact absurd ga z
      · exact absurd rfl z.2
  have hH' : H' a = some o := S'.bh a o upd_same
  obtain ⟨_, e2, v', rfl, z2, z3⟩ := S'.sl i _ e'
  have z2' : (if i = i then some (V.ref a) else C.P i) = some v' := z2
  rw [if_pos rfl] at z2'
  cases z2'
  have sh' : Sh G' H' (.ref a) d := sh.at g fun b hb u hu => by cases hb; rw [ho] at hu; cases hu; exact hH'
  have sub : ∀ {j : Nat} {b : Addr}, j ≠ i → Own σ' (ρ'.set i s) j b → Own σ' ρ' j b := fun {j b} hj ⟨x, s', y, z⟩ => by
    rw [List.getElem?_set_ne (fun z => hj z.symm)] at y
    exact ⟨x, s', y, z⟩
  have away : ∀ {j : Nat} {b : Addr}, j ≠ i → Own σ' (ρ'.set i s) j b → b ≠ a := fun {j b} hj h z => by
    subst z
    have := (Own.tracked S' (sub hj h)).2.2
    rw [show (C.pin i b o G d).B b = some o from upd_same] at this
    cases this
  refine ⟨⟨S'.gh, bb.trans S'.bh, S.g0.trans g, fun b q => (S'.fr b q).1, fun b q => (S'.ga b q).elim (S.ga b) fun z => .inr z.1, S.wf, by rw [List.length_set]; exact S'.len, fun j s' q => ?_, fun j k b hj hk => ?_⟩, ga'⟩
  · by_cases hj : j = i
    · subst hj
      rw [List.getElem?_set_self hi] at q
      cases q
      refine ⟨_, e2, ?_⟩
      rcases hs with rfl | rfl
      · obtain ⟨b, h1, _, _, _, h5⟩ := k; cases h1; exact ⟨a, rfl, sh', ga', ba, h5⟩
      · obtain ⟨b, h1, _, _, _, h5⟩ := k; cases h1; exact ⟨a, rfl, sh', ga', ba, h5⟩
    · rw [List.getElem?_set_ne (fun z => hj z.symm)] at q
      obtain ⟨o', e3, k'⟩ := S'.sl j s' q
      refine ⟨o', e3, ?_⟩
      have bo : ∀ {b : Addr}, (C.pin i a o G d).B b = none → C.B b = none := fun {b} z => bb.free z
      cases s' with
      | un => trivial
      | val d' => exact k'
      | own d' => obtain ⟨b, h1, h2, h3, h4, h5⟩ := k'; exact ⟨b, h1, h2, h3, bo h4, h5.1⟩
      | io d' => obtain ⟨b, h1, h2, h3, h4, h5⟩ := k'; exact ⟨b, h1, h2, h3, bo h4, (if_neg hj).symm.trans h5⟩
      | bor d' => obtain ⟨v, h1, h2, h3⟩ := k'; exact ⟨v, h1, (if_neg hj).symm.trans h2, (if_neg hj).symm.trans h3⟩
      | scr ns => obtain ⟨v, h1, h2, h3⟩ := k'; exact ⟨v, h1, (if_neg hj).symm.trans h2, (if_neg hj).symm.trans h3⟩
  · by_cases h1 : j = i
    · by_cases h2 : k = i
      · rw [h1, h2]
      · have z := away h2 hk
        subst h1
        obtain ⟨x, _⟩ := hj
        rw [e2] at x
        cases x
        exact absurd rfl z
    · by_cases h2 : k = i
      · have z := away h1 hj
        subst h2
        obtain ⟨x, _⟩ := hk
        rw [e2] at x
        cases x
        exact absurd rfl z
      · exact S'.ds j k b (sub h1 hj) (sub h2 hk)
/-- what comes of a place that was but looked at -/
theorem pin_okR (S : StOk C G σ H ρ) {i : Nat} {s : Sl} {d : D} (e : ρ[i]? = some s) (hs : s = .own d ∨ s = .io d) {a : Addr} {o : HO} (ev : σ[i]? = some (some (.ref a))) (ho : H a = some o)
    {σ' : L2.St} {G' H' : Hp} {ρ' : Env} {d' : D} (S' : StOk (C.pin i a o G d) G' σ' H' ρ') (g : Same G G') (e' : ρ'[i]? = some (.bor d')) {v : V} {r : Rv} (h : okR (C.pin i a o G d) G' σ' H' ρ' v r) : okR C G' σ' H' (ρ'.set i s) v r := by
  cases r with
  | pl p => exact h
  | fr d0 =>
    obtain ⟨b, rfl, h1, h2, h3, h4, h5⟩ := h
    have ba : C.B a = none := by
      have k := S.get e ev
      rcases hs with rfl | rfl
      · obtain ⟨b, h1, h2, h3, h4, _⟩ := k; cases h1; exact h4
      · obtain ⟨b, h1, h2, h3, h4, _⟩ := k; cases h1; exact h4
    have bb : Same C.B (upd C.B a o) := fun b u q => by rw [upd_ne (ne_of_none q ba)]; exact q
    have hi : i < ρ'.length := (List.getElem?_eq_some_iff.mp e').1
    obtain ⟨_, e2, v', rfl, z2, z3⟩ := S'.sl i _ e'
    have z2' : (if i = i then some (V.ref a) else C.P i) = some v' := z2
    rw [if_pos rfl] at z2'
    cases z2'
    refine ⟨b, rfl, h1, h2, bb.free h3, h4.1, fun j ⟨x, s', y, z⟩ => ?_⟩
    by_cases hj : j = i
    · subst hj
      rw [e2] at x
      cases x
      exact h4.2 rfl
    · rw [List.getElem?_set_ne (fun z => hj z.symm)] at y
      exact h5 j ⟨x, s', y, z⟩
end
theorem pinM_inv {α : Type} {i : Nat} {f : M α} {ρ ρ2 : Env} {x : α} (h : pinM i f ρ = .ok x ρ2) :
    f ρ = .ok x ρ2 ∨ ∃ s d d' ρ', ρ[i]? = some s ∧ (s = .own d ∨ s = .io d) ∧ f (ρ.set i (.bor d)) = .ok x ρ' ∧ ρ'[i]? = some (.bor d') ∧ ρ2 = ρ'.set i s := by
  unfold pinM at h
  split at h
  · rename_i d q
    split at h
    · rename_i y ρ' q2
      split at h
      · rename_i d' q3
        cases h
        exact .inr ⟨_, d, d', ρ', q, .inl rfl, q2, q3, rfl⟩
      · cases h
    · cases h
  · rename_i d q
    split at h
    · rename_i y ρ' q2
      split at h
      · rename_i d' q3
        cases h
        exact .inr ⟨_, d, d', ρ', q, .inr rfl, q2, q3, rfl⟩
      · cases h
    · cases h
  · exact .inl h
section
variable {K : PySem.W.Frag} {i : Nat}
theorem rdV_pin {t : TE} {f : M D} (r : RdV K t f) : RdV K t (pinM i f) := by
  intro C G σ H ρ Q hK S d ρ2 hf q
  rcases pinM_inv hf with h | ⟨s, d0, d', ρ', e, hs, h, e', rfl⟩
  · exact r C G σ H ρ Q hK S d ρ2 h q
  · obtain ⟨a, o, ev, ho, ga, ba, ow, S1⟩ := pin_in S e hs
    exact r (C.pin i a o G d0) G σ H _ Q hK S1 d ρ' h fun v G' H' g S' o' => q v G' H' g (pin_out S e hs ev ho S' g e').1 o'
theorem rdP_pin {t : TE} {f : M Pl} (r : RdP K t f) : RdP K t (pinM i f) := by
  intro C G σ H ρ Q hK S d ρ2 hf q
  rcases pinM_inv hf with h | ⟨s, d0, d', ρ', e, hs, h, e', rfl⟩
  · exact r C G σ H ρ Q hK S d ρ2 h q
  · obtain ⟨a, o, ev, ho, ga, ba, ow, S1⟩ := pin_in S e hs
    exact r (C.pin i a o G d0) G σ H _ Q hK S1 d ρ' h fun v G' H' g S' o' => q v G' H' g (pin_out S e hs ev ho S' g e').1 o'
theorem rdF_pin {t : TE} {f : M Rv} (r : RdF K t f) : RdF K t (pinM i f) := by
  intro C G σ H ρ Q hK S d ρ2 hf q
  rcases pinM_inv hf with h | ⟨s, d0, d', ρ', e, hs, h, e', rfl⟩
  · exact r C G σ H ρ Q hK S d ρ2 h q
  · obtain ⟨a, o, ev, ho, ga, ba, ow, S1⟩ := pin_in S e hs
    exact r (C.pin i a o G d0) G σ H _ Q hK S1 d ρ' h fun v G' H' g S' o' => q v G' H' g (pin_out S e hs ev ho S' g e').1 (pin_okR S e hs ev ho S' g e' o')
theorem rdT_pin {t : TT} {f : M Bool} (r : RdT K t f) : RdT K t (pinM i f) := by
  intro C G σ H ρ Q hK S d ρ2 hf q
  rcases pinM_inv hf with h | ⟨s, d0, d', ρ', e, hs, h, e', rfl⟩
  · exact r C G σ H ρ Q hK S d ρ2 h q
  · obtain ⟨a, o, ev, ho, ga, ba, ow, S1⟩ := pin_in S e hs
    exact r (C.pin i a o G d0) G σ H _ Q hK S1 d ρ' h fun G' H' g S' => q G' H' g (pin_out S e hs ev ho S' g e').1
theorem rdS_pin {t : TS} {f : M Fl} (r : RdS K t f) : RdS K t (pinM i f) := by
  intro C G σ H ρ D hK S fl ρ2 hf q
  rcases pinM_inv hf with h | ⟨s, d0, d', ρ', e, hs, h, e', rfl⟩
  · exact r C G σ H ρ D hK S fl ρ2 h q
  · obtain ⟨a, o, ev, ho, ga, ba, ow, S1⟩ := pin_in S e hs
    refine r (C.pin i a o G d0) G σ H _ D hK S1 fl ρ' h fun σ' G' H' g S' => ?_
    have z := q σ' G' H' g (pin_out S e hs ev ho S' g e').1
    cases fl with
    | nx => exact z
    | bk => exact z
    | ct => exact z
    | rt rr => exact fun v o' => z v (pin_okR S e hs ev ho S' g e' o')
end
section
variable {X : Cx} {e : Expr} {st : Stmt} {sts : List Stmt}
theorem pv_pin (i : Nat) {f : M D} (h : PV X e f) : PV X e (pinM i f) := let ⟨t, h, r⟩ := h; ⟨t, h, rdV_pin r⟩
theorem pp_pin (i : Nat) {f : M Pl} (h : PP X e f) : PP X e (pinM i f) := let ⟨t, h, r⟩ := h; ⟨t, h, rdP_pin r⟩
theorem pf_pin (i : Nat) {f : M Rv} (h : PF X e f) : PF X e (pinM i f) := let ⟨t, h, r⟩ := h; ⟨t, h, rdF_pin r⟩
theorem ptt_pin (i : Nat) {f : M Bool} (h : PTt X e f) : PTt X e (pinM i f) := let ⟨t, h, r⟩ := h; ⟨t, h, rdT_pin r⟩
theorem pwt_pin (i : Nat) {f : M Bool} (h : PWt X e f) : PWt X e (pinM i f) := let ⟨t, h, r⟩ := h; ⟨t, h, rdT_pin r⟩
theorem pst_pin (i : Nat) {f : M Fl} (h : PSt X st f) : PSt X st (pinM i f) := let ⟨t, h, r⟩ := h; ⟨t, h, rdS_pin r⟩
end
/-- for the soundness of what is written without places -/
theorem pin_ok {α : Type} {i : Nat} {f : M α} {ρ ρ' : Env} {d d' : D} {x : α} (e : ρ[i]? = some (.own d)) (h : f (ρ.set i (.bor d)) = .ok x ρ') (e' : ρ'[i]? = some (.bor d')) : pinM i f ρ = .ok x (ρ'.set i (.own d)) := by
  unfold pinM
  simp only [e, h, e']
theorem pin_okI {α : Type} {i : Nat} {f : M α} {ρ ρ' : Env} {d d' : D} {x : α} (e : ρ[i]? = some (.io d)) (h : f (ρ.set i (.bor d)) = .ok x ρ') (e' : ρ'[i]? = some (.bor d')) : pinM i f ρ = .ok x (ρ'.set i (.io d)) := by
  unfold pinM
  simp only [e, h, e']
end PL
/-! PL27: dict(list of pairs), {k: v for ..}, with numbers as keys. -/
namespace PL
open PySem PySem.Spec PyProof.Rows L2 RT RZ
def pairD : D → Option (Int × D)
  | .tuple [.int i, d] => some (i, d)
  | _ => none
def pairsD : List D → Option (List (Int × D))
  | [] => some []
  | x :: r => (pairD x).bind fun p => (pairsD r).map fun ps => p :: ps
def mergeD (ks : List (D × D)) (ps : List (Int × D)) : List (D × D) := ps.foldl (fun a p => putD a p.1 p.2) ks
def gDictP : List D → Option D
  | [.list ds] => (pairsD ds).map fun ps => .dict (mergeD [] ps)
  | _ => none
theorem pairD_inv {x : D} {p : Int × D} (h : pairD x = some p) : x = .tuple [.int p.1, p.2] := by
  unfold pairD at h
  split at h
  · cases h; rfl
  · cases h
theorem pairsD_app : ∀ {xs ys : List D} {ps : List (Int × D)}, pairsD (xs ++ ys) = some ps → ∃ p q, pairsD xs = some p ∧ pairsD ys = some q ∧ ps = p ++ q
  | [], ys, ps, h => ⟨[], ps, rfl, h, rfl⟩
  | x :: xs, ys, ps, h => by
    simp only [List.cons_append, pairsD] at h
    cases h1 : pairD x with
    | none => rw [h1] at h; cases h
    | some p0 =>
      rw [h1] at h
      cases h2 : pairsD (xs ++ ys) with
      | none => rw [h2] at h; cases h
      | some ps2 =>
        rw [h2] at h
        cases h
        obtain ⟨p, q, e1, e2, rfl⟩ := pairsD_app h2
        exact ⟨p0 :: p, q, by simp [pairsD, h1, e1], e2, rfl⟩
theorem pairsD_len : ∀ {xs : List D} {ps : List (Int × D)}, pairsD xs = some ps → ps.length = xs.length
  | [], ps, h => by cases h; rfl
  | x :: xs, ps, h => by
    simp only [pairsD] at h
    cases h1 : pairD x with
    | none => rw [h1] at h; cases h
    | some p0 =>
      rw [h1] at h
      cases h2 : pairsD xs with
      | none => rw [h2] at h; cases h
      | some ps2 => rw [h2] at h; cases h; simp [pairsD_len h2]
theorem putD_len (ks : List (D × D)) (i : Int) (d : D) : (putD ks i d).length ≤ ks.length + 1 := by
  unfold putD
  split
  · simp
  · simp
theorem mergeD_len : ∀ (ps : List (Int × D)) (ks : List (D × D)), (mergeD ks ps).length ≤ ks.length + ps.length
  | [], ks => by simp [mergeD]
  | p :: ps, ks => by
    have := mergeD_len ps (putD ks p.1 p.2)
    have := putD_len ks p.1 p.2
    simp only [mergeD, List.foldl_cons, List.length_cons] at *
    omega
inductive RpP (G : Hp) : List (Key × V) → List (Int × D) → Prop
  | nil : RpP G [] []
  | cons {i : Int} {v : V} {d : D} {kvs : List (Key × V)} {ps : List (Int × D)} : Rp G v d → RpP G kvs ps → RpP G ((.inl i, v) :: kvs) ((i, d) :: ps)
theorem RpP.merge {G : Hp} : ∀ {kvs : List (Key × V)} {ps : List (Int × D)} {es : List (Key × V)} {ks : List (D × D)}, RpP G kvs ps → RpK G es ks → RpK G (mergeK es kvs) (mergeD ks ps)
  | _, _, _, _, .nil, r => r
  | _, _, es, ks, .cons (i := i) (v := v) (d := d) (kvs := kvs) (ps := ps) rv rr, r => by
    show RpK G (mergeK (putK es (.inl i) v) kvs) (mergeD (putD ks i d) ps)
    exact RpP.merge rr (put_rpk i rv r)
theorem pairs_rp {K : PySem.W.Frag} {G H : Hp} (gh : Same G H) : ∀ {xs : List V} {ds : List D} {ps : List (Int × D)}, RpA G xs ds → pairsD ds = some ps →
    ∃ (as : List Addr) (kvs : List (Key × V)), xs = as.map V.ref ∧ Paired (fun p kv => SqT K H p [kV kv.1, kv.2]) as kvs ∧ RpP G kvs ps
  | _, _, _, .nil, h => by cases h; exact ⟨[], [], rfl, .nil, .nil⟩
  | _, _, _, .cons (d := d) (ds := ds) r rr, h => by
    simp only [pairsD] at h
    cases h1 : pairD d with
    | none => rw [h1] at h; cases h
    | some p0 =>
      rw [h1] at h
      cases h2 : pairsD ds with
      | none => rw [h2] at h; cases h
      | some ps2 =>
        rw [h2] at h
        cases h
        obtain ⟨as, kvs, rfl, q1, q2⟩ := pairs_rp (K := K) gh rr h2
        have e := pairD_inv h1
        subst e
        cases r with
        | @tup a ys _ ha r =>
          cases r with
          | cons r1 r2 => cases r2 with
            | cons r2 r3 =>
              cases r3
              cases r1
              exact ⟨a :: as, (.inl p0.1, _) :: kvs, rfl, .cons (.inl (.inl (gh _ _ ha))) q1, .cons r2 q2⟩
section
variable {X : Cx} {e : Expr} {es : List Expr} {pos p : Pos} {gs : M (List Pl)}
theorem pf_dictP (hc : X.calm = true) (hg : Gl X "dict") (hm : X.mg "dict" = none) (ha : PPs X (e :: es) gs) (he : starEach (e :: es) X.env = (false, eval e X.env) :: starEach es X.env := by rfl) (hpl : (backTo pos (starEach es X.env)).any (·.1) = false := by rfl) :
    PF X (.Call (.Name "dict" p) (e :: es) [] pos) (mFr (mN gDictP gs)) := pf_bT (call_dictP hc) (fun G H vs ds z Q gh s hg q => by
  cases s with
  | nil => cases hg
  | cons h r => cases r with
    | cons _ _ => cases h <;> cases hg
    | nil => cases h with
      | @lst a xs ds h r =>
        simp only [gDictP] at hg
        cases h2 : pairsD ds with
        | none => rw [h2] at hg; cases hg
        | some ps =>
          rw [h2] at hg
          cases hg
          obtain ⟨as, kvs, rfl, q1, q2⟩ := pairs_rp (K := X.K) gh r h2
          exact ⟨a, as, kvs, rfl, .inl (.inl h), q1, fun l hl => q l _ hl (Grow.newF gh hl) (.dct upd_same (q2.merge .nil))⟩
      | _ => cases hg) hg hm PyProof.Rows.boot_dict ha (he := he) (hpl := hpl)
end
/-! ### {k: v for ..} -/
def mPr (fk fe : M D) : M D := mTup (mCons fk (mCons fe mNil))
def mDc (fi : M (List D)) (t : D → M Unit) (vs : List Nat) (c : M Bool) (fk fe : M D) : M Rv := bnd (mLc fi t vs c (mPr fk fe)) fun r => match r with
  | .fr d => bnd (ofO (gDictP [d])) fun z => ret (.fr z)
  | _ => fun _ => .stuck
theorem lcGo_ext {t : D → M Unit} {vs : List Nat} {c : M Bool} {fe : M D} : ∀ {ds acc out : List D} {ρ ρ' : Env}, lcGo t vs c fe acc ds ρ = .ok out ρ' → ∃ more, out = acc ++ more
  | [], acc, out, ρ, ρ', h => by cases h; exact ⟨[], by simp⟩
  | d :: ds, acc, out, ρ, ρ', h => by
    obtain ⟨_, ρ1, h1, h⟩ := bnd_ok h
    obtain ⟨k, ρ2, h2, h⟩ := bnd_ok h
    cases k with
    | true =>
      rw [if_pos rfl] at h
      obtain ⟨y, ρ3, h3, h⟩ := bnd_ok h
      split at h
      · obtain ⟨more, rfl⟩ := lcGo_ext h
        exact ⟨y :: more, by simp⟩
      · cases h
    | false =>
      rw [if_neg Bool.false_ne_true] at h
      exact lcGo_ext h
theorem mPr_ok {fk fe : M D} {ρ ρ' : Env} {y : D} (h : mPr fk fe ρ = .ok y ρ') : ∃ k d ρ1, fk ρ = .ok k ρ1 ∧ fe ρ1 = .ok d ρ' ∧ y = .tuple [k, d] := by
  obtain ⟨ds, ρ1, h1, h2⟩ := bnd_ok h
  obtain ⟨k, ρ2, h3, h4⟩ := bnd_ok h1
  obtain ⟨qs, ρ3, h5, h6⟩ := bnd_ok h4
  cases h6
  obtain ⟨d, ρ4, h7, h8⟩ := bnd_ok h5
  obtain ⟨qs2, ρ5, h9, h10⟩ := bnd_ok h8
  cases h10
  cases h9
  split at h2
  · cases h2; exact ⟨k, d, ρ2, h3, h7, rfl⟩
  · cases h2
section
variable {X : Cx} {tg kx vx iter c : Expr} {ifs : List Expr} {scope : Scope} {own : List (Str × Nat)} {pos : Pos} {fk fe : M D}
theorem rd_dc {wi : TI} {fi : M (List D)} {t : D → M Unit} {ts vs : List Nat} {mc : M Bool} (hts : ∀ i ∈ ts, i ∈ vs) (hi : RdI X.K wi fi) : RdF X.K (tDc wi (TGv X.K ts t) (TTv X.K mc) (TV X.K fk) (TV X.K fe) vs) (mDc fi t vs mc fk fe) := by
  intro C G σ H ρ Q hK S r0 ρ'0 hf0 q
  obtain ⟨r, ρ', hf, hz⟩ := bnd_ok hf0
  obtain ⟨ds, ρ1, h1, hf2⟩ := bnd_ok hf
  refine hi C G σ H ρ _ hK S ds ρ1 h1 fun J G1 H1 g1 S1 JJ E hE => ?_
  cases hl : lcGo t vs mc (mPr fk fe) [] ds (wipeE ρ1 vs) with
  | stuck => rw [hl] at hf2; cases hf2
  | ok accF ρF =>
    rw [hl] at hf2
    cases hf2
    obtain ⟨z, ρz, hz1, hz2⟩ := bnd_ok (show bnd (ofO (gDictP [.list accF])) (fun z => ret (.fr z)) (restE ρ1 ρF vs) = .ok r0 ρ'0 from hz)
    obtain ⟨hgd, rfl⟩ := ofO_ok hz1
    cases hz2
    cases hpF : pairsD accF with
    | none => simp only [gDictP, hpF] at hgd; cases hgd
    | some psF =>
    simp only [gDictP, hpF] at hgd
    cases hgd
    have hBE : C.B E = none := S1.bh.free hE
    have hGE : ∀ {G2 : Hp} {σ2 : L2.St} {H2 : Hp} {ρ2 : Env} {o : HO}, StOk (C.with E o) G2 σ2 H2 ρ2 → G2 E = none := fun {G2 σ2 H2 ρ2 o} S2 => by
      cases q : G2 E with
      | none => rfl
      | some u =>
        rcases S2.ga E (ne_none_of q) with z | z
        · exact absurd (S1.gh.free hE |> S1.g0.free) z
        · exact absurd rfl z.2
    refine ⟨fun i mm H2 => i + mm = ds.length ∧ ∃ G2 ρ2 accV acc ps, Same G1 G2 ∧ StOk (C.with E (.dK accV)) G2 (L2.wipe σ vs) H2 ρ2 ∧ pairsD acc = some ps ∧ RpK G2 accV (mergeD [] ps) ∧ lcGo t vs mc (mPr fk fe) acc (ds.drop i) ρ2 = .ok accF ρF,
      ⟨ds.length, by omega, G1, _, [], [], [], Same.refl _, (S1.enter hE (.dK [])).wipe vs, rfl, .nil, by simpa using hl⟩, fun i mm H2 ⟨hm, G2, ρ2, accV, acc, ps, g2, S2, hps, ra, h2⟩ => ?_⟩
    by_cases hlt : i < ds.length
    · have gh2 := S2.gh
      have bh2 : Same C.B H2 := (same_new hBE).trans S2.bh
      refine .inr ⟨JJ.go i G2 H2 bh2 g2 gh2 hlt, fun H3 => ∃ G3 ρ3 accV3 acc3 ps3, Same G1 G3 ∧ StOk (C.with E (.dK accV3)) G3 (L2.wipe σ vs) H3 ρ3 ∧ pairsD acc3 = some ps3 ∧ RpK G3 accV3 (mergeD [] ps3) ∧ lcGo t vs mc (mPr fk fe) acc3 (ds.drop (i + 1)) ρ3 = .ok accF ρF,
        fun H3 ⟨G3, ρ3, accV3, acc3, ps3, z1, z2, z3, z4, z5⟩ => ⟨mm - 1, by omega, by omega, G3, ρ3, accV3, acc3, ps3, z1, z2, z3, z4, z5⟩, fun y H3 hy => ?_⟩
      have ed : ds[i]? = some ds[i] := List.getElem?_eq_getElem hlt
      obtain ⟨G3, w, ry⟩ := JJ.yld i G2 H2 y H3 _ bh2 g2 gh2 ed hy
      have S3 := S2.grow w
      rw [List.drop_eq_getElem_cons hlt] at h2
      obtain ⟨uu, ρ3, h3, h4⟩ := bnd_ok h2
      refine ⟨C.with E (.dK accV), G3, _, _, ρ3, hK, S3, ry, h3, fun σ4 S4 w4 => ⟨(w4 vs hts).trans wipe_wipe, ?_⟩⟩
      obtain ⟨kk, ρ5, h5, h6⟩ := bnd_ok h4
      refine ⟨C.with E (.dK accV), G3, _, kk, ρ5, hK, S4, h5, fun G5 H5 g5 S5 => ?_⟩
      have ww : L2.wipe σ4 vs = L2.wipe σ vs := (w4 vs hts).trans wipe_wipe
      cases kk with
      | true =>
        show (if true = true then _ else _); rw [if_pos rfl]
        rw [if_pos rfl] at h6
        obtain ⟨yd, ρ6, h7, h8⟩ := bnd_ok h6
        obtain ⟨kd, dd, ρk, hk1, hk2, rfl⟩ := mPr_ok h7
        by_cases hac : acc.length < 100000
        · rw [if_pos hac] at h8
          have h8' : lcGo t vs mc (mPr fk fe) (acc ++ [.tuple [kd, dd]]) (ds.drop (i + 1)) (wipeE ρ6 vs) = .ok accF ρF := h8
          obtain ⟨more, em⟩ := lcGo_ext h8'
          rw [em] at hpF
          obtain ⟨pa, pb, ea, eb, _⟩ := pairsD_app hpF
          obtain ⟨pc, pd, ec, ed', rfl⟩ := pairsD_app ea
          rw [hps] at ec; cases ec
          have hpd : ∃ n, kd = .int n ∧ pd = [(n, dd)] := by
            simp only [pairsD] at ed'
            cases h9 : pairD (.tuple [kd, dd]) with
            | none => rw [h9] at ed'; cases ed'
            | some p0 =>
              rw [h9] at ed'
              cases ed'
              have := pairD_inv h9
              injection this with this
              injection this with e1 e2
              injection e2 with e2 e3
              subst e1; subst e2
              exact ⟨p0.1, rfl, rfl⟩
          obtain ⟨n, rfl, rfl⟩ := hpd
          refine ⟨C.with E (.dK accV), G5, _, .int n, ρk, hK, S5, hk1, fun v6 G6 H6 g6 S6 r6 => ?_⟩
          cases r6
          refine ⟨C.with E (.dK accV), G6, _, dd, ρ6, hK, S6, hk2, fun v7 G7 H7 g7 S7 r7 => ?_⟩
          have hH7 : H7 E = some (.dK accV) := S7.bh E _ upd_same
          have gg : Same G2 G7 := ((w.g.trans g5).trans g6).trans g7
          have hle : accV.length < 100000 := by
            rw [len_rpk ra]
            have := mergeD_len ps []
            have := pairsD_len hps
            simp at *
            omega
          refine ⟨accV, .inl n, rfl, hH7, line_lt hle, G7, wipeE ρ6 vs, putK accV (.inl n) v7, _, _, g2.trans gg, ?_, ea, ?_, h8'⟩
          · have S8 := S7.step (o' := .dK (putK accV (.inl n) v7)) (hGE S7) S1.wf hBE
            rw [← ww]
            exact S8.wipe vs
          · have := put_rpk n r7 (RpK.mono gg ra)
            rw [show mergeD [] (ps ++ [(n, dd)]) = putD (mergeD [] ps) n dd from by simp [mergeD, List.foldl_append]]
            exact this
        · rw [if_neg hac] at h8
          cases h8
      | false =>
        show (if false = true then _ else _); rw [if_neg Bool.false_ne_true]
        rw [if_neg Bool.false_ne_true] at h6
        refine ⟨G5, wipeE ρ5 vs, accV, acc, ps, g2.trans (w.g.trans g5), ?_, hps, RpK.mono (w.g.trans g5) ra, h6⟩
        rw [← ww]
        exact S5.wipe vs
    · have hi' : i = ds.length := by omega
      rw [List.drop_eq_nil_of_le (by omega)] at h2
      cases h2
      rw [hps] at hpF
      cases hpF
      have gh2 := S2.gh
      have bh2 : Same C.B H2 := (same_new hBE).trans S2.bh
      refine .inl ⟨by rw [hi']; exact JJ.stop G2 H2 bh2 g2 gh2, ?_⟩
      have S3 : StOk C G2 (L2.wipe σ vs) H2 _ := S2.exit S1.wf hBE
      have S4 := S1.rest S3 g2
      refine q _ G2 H2 (g1.trans g2) S4 ⟨E, rfl, .dct (S2.bh E _ upd_same) ra, hGE S2, hBE, S1.fr E hE, fun j hj => ?_⟩
      obtain ⟨z1, s, z2, z3⟩ := hj
      by_cases hjv : j ∈ vs
      · have := restE_in hjv z2
        subst this
        rw [keepS_own] at z3; cases z3
      · rw [restE_out hjv] at z2
        obtain ⟨_, _, z4⟩ := Own.tracked S2 (i := j) (a := E) ⟨by rw [wipe_get hjv]; exact z1, s, z2, z3⟩
        have z5 : upd C.B E (.dK accV) E = none := z4
        rw [upd_same] at z5; cases z5
theorem pf_dc {fi : M (List D)} {t : D → M Unit} {ts : List Nat} (hc : X.calm = true) (hN : X.N.Nodup) (hi : PIt X tg iter fi) (ok : BlkOk X.N X.env.scope scope own)
    (hg : ∀ (s : Shared) (H : Hp) (C : Addr) (cl : List (Str × Addr)) (fp : List Addr), PGt (X.blk s H scope (compEnvC scope cl C X.env) fp) tg ts t)
    (hk : ∀ (s : Shared) (H : Hp) (C : Addr) (cl : List (Str × Addr)) (fp : List Addr), PV (X.blk s H scope (compEnvC scope cl C X.env) fp) kx fk)
    (he : ∀ (s : Shared) (H : Hp) (C : Addr) (cl : List (Str × Addr)) (fp : List Addr), PV (X.blk s H scope (compEnvC scope cl C X.env) fp) vx fe) (hs : ∀ x, foldedSetIterable iter X.env x = pure x := by intro _; rfl)
    (hts : ∀ i ∈ ts, i ∈ own.map (·.2) := by decide) :
    PF X (.DictComp kx vx [⟨tg, iter, [], 0⟩] scope pos) (mDc fi t (own.map (·.2)) mYes fk fe) := by
  obtain ⟨wi, hi, ri⟩ := hi
  exact ⟨_, pe_dc (g := TGv X.K ts t) (tt := TTv X.K mYes) (tk := TV X.K fk) (tv := TV X.K fe) hc hN hi ok (fun s H C cl fp => pg_uni (hg s H C cl fp)) (fun _ _ _ _ _ => pts_yes) (fun s H C cl fp => pv_uni (hk s H C cl fp)) (fun s H C cl fp => pv_uni (he s H C cl fp)) hs, rd_dc hts ri⟩
theorem pf_dcIf {fi : M (List D)} {t : D → M Unit} {ts : List Nat} {mc : M Bool} (hc : X.calm = true) (hN : X.N.Nodup) (hi : PIt X tg iter fi) (ok : BlkOk X.N X.env.scope scope own)
    (hg : ∀ (s : Shared) (H : Hp) (C : Addr) (cl : List (Str × Addr)) (fp : List Addr), PGt (X.blk s H scope (compEnvC scope cl C X.env) fp) tg ts t)
    (ht : ∀ (s : Shared) (H : Hp) (C : Addr) (cl : List (Str × Addr)) (fp : List Addr), PTt (X.blk s H scope (compEnvC scope cl C X.env) fp) c mc)
    (hk : ∀ (s : Shared) (H : Hp) (C : Addr) (cl : List (Str × Addr)) (fp : List Addr), PV (X.blk s H scope (compEnvC scope cl C X.env) fp) kx fk)
    (he : ∀ (s : Shared) (H : Hp) (C : Addr) (cl : List (Str × Addr)) (fp : List Addr), PV (X.blk s H scope (compEnvC scope cl C X.env) fp) vx fe) (hs : ∀ x, foldedSetIterable iter X.env x = pure x := by intro _; rfl)
    (hts : ∀ i ∈ ts, i ∈ own.map (·.2) := by decide) :
    PF X (.DictComp kx vx [⟨tg, iter, [c], 0⟩] scope pos) (mDc fi t (own.map (·.2)) mc fk fe) := by
  obtain ⟨wi, hi, ri⟩ := hi
  exact ⟨_, pe_dc (g := TGv X.K ts t) (tt := TTv X.K mc) (tk := TV X.K fk) (tv := TV X.K fe) hc hN hi ok (fun s H C cl fp => pg_uni (hg s H C cl fp)) (fun s H C cl fp => pts_one (pt_uni (ht s H C cl fp))) (fun s H C cl fp => pv_uni (hk s H C cl fp)) (fun s H C cl fp => pv_uni (he s H C cl fp)) hs, rd_dc hts ri⟩
end
end PL
namespace PL
theorem mDc_ok {fi : M (List D)} {t : D → M Unit} {vs : List Nat} {c : M Bool} {fk fe : M D} {xs : List D} {z : D} {ρ ρ' : Env} (h : mLc fi t vs c (mTup (mCons fk (mCons fe mNil))) ρ = .ok (.fr (.list xs)) ρ') (hz : gDictP [.list xs] = some z) : mDc fi t vs c fk fe ρ = .ok (.fr z) ρ' := by
  unfold mDc
  rw [bnd_eq (show mLc fi t vs c (mPr fk fe) ρ = .ok (.fr (.list xs)) ρ' from h)]
  simp only [hz]
  rfl
end PL
/-! PL28: what a call tells of things without lists in them has new lists only; what is told so may be changed and forgotten. -/
namespace PL
open PySem PySem.Spec PyProof.Rows L2 RT RZ
/-! ### no list in it -/
mutual
def nol : D → Bool
  | .list _ => false
  | .dict _ => false
  | .tuple ds => nolA ds
  | _ => true
def nolA : List D → Bool
  | [] => true
  | d :: ds => nol d && nolA ds
end
/-- no list within its items -/
def nolE : D → Bool
  | .list ds => nolA ds
  | .tuple ds => nolA ds
  | .dict _ => false
  | _ => true
def dropL (G : Hp) : Hp := fun a => match G a with
  | some (.tup xs) => some (.tup xs)
  | _ => none
theorem dropL_same (G : Hp) : Same (dropL G) G := fun a o h => by
  unfold dropL at h
  split at h
  · rename_i xs q; cases h; exact q
  · cases h
theorem dropL_tup {G : Hp} {a : Addr} {xs : List V} (h : G a = some (.tup xs)) : dropL G a = some (.tup xs) := by
  unfold dropL; rw [h]
theorem dropL_lst {G : Hp} {a : Addr} {o : HO} (h : dropL G a = some o) : ∃ xs, o = .tup xs := by
  unfold dropL at h
  split at h
  · cases h; exact ⟨_, rfl⟩
  · cases h
mutual
theorem Rp.drop {G : Hp} : ∀ {v : V} {d : D}, Rp G v d → nol d = true → Rp (dropL G) v d
  | _, _, .non, _ => .non
  | _, _, .bl b, _ => .bl b
  | _, _, .int i, _ => .int i
  | _, _, .str x, _ => .str x
  | _, _, .lst h r, n => by simp [nol] at n
  | _, _, .tup h r, n => .tup (dropL_tup h) (RpA.drops r (by simpa [nol] using n))
  | _, _, .dct h r, n => by simp [nol] at n
theorem RpA.drops {G : Hp} : ∀ {vs : List V} {ds : List D}, RpA G vs ds → nolA ds = true → RpA (dropL G) vs ds
  | _, _, .nil, _ => .nil
  | _, _, .cons h r, n => by
    simp only [nolA, Bool.and_eq_true] at n
    exact .cons (Rp.drop h n.1) (RpA.drops r n.2)
end
theorem Sh.drop {G H : Hp} {v : V} {d : D} (h : Sh G H v d) (n : nolE d = true) : Sh (dropL G) H v d := by
  cases h with
  | non => exact .non
  | bl b => exact .bl b
  | int i => exact .int i
  | str x => exact .str x
  | lst h r => exact .lst h (r.drops n)
  | tup h r => exact .tup h (r.drops n)
  | dct h r => cases n
def nolS : Sl → Bool
  | .val d => nol d
  | .own _ => false
  | .io d => nolE d
  | .bor d => nolE d
  | _ => true
open Classical in
/-- lists (and dicts) elsewhere than at N left out -/
noncomputable def cutN (N : Addr → Prop) (G : Hp) : Hp := fun a => match G a with
  | some (.lst xs) => if N a then some (.lst xs) else none
  | some (.dK es) => if N a then some (.dK es) else none
  | o => o
theorem cutN_same {N : Addr → Prop} {G : Hp} : Same (cutN N G) G := fun a o h => by
  unfold cutN at h
  split at h
  · rename_i xs q
    split at h
    · cases h; exact q
    · cases h
  · rename_i xs q
    split at h
    · cases h; exact q
    · cases h
  · exact h
theorem cutN_at {N : Addr → Prop} {G : Hp} {a : Addr} (h : N a) : cutN N G a = G a := by
  unfold cutN
  split
  · rename_i xs q; rw [if_pos h, q]
  · rename_i xs q; rw [if_pos h, q]
  · rfl
theorem cutN_tup {N : Addr → Prop} {G : Hp} {a : Addr} {xs : List V} (h : G a = some (.tup xs)) : cutN N G a = some (.tup xs) := by
  unfold cutN
  rw [h]
theorem cutN_lst {N : Addr → Prop} {G : Hp} {a : Addr} {xs : List V} (h : cutN N G a = some (.lst xs)) : N a ∧ G a = some (.lst xs) := by
  have g := cutN_same _ _ h
  refine ⟨?_, g⟩
  unfold cutN at h
  rw [g] at h
  simp only at h
  split at h
  · assumption
  · cases h
theorem cutN_mono {N : Addr → Prop} {G G' : Hp} (e : Same G G') : Same (cutN N G) (cutN N G') := fun a o h => by
  have g := cutN_same _ _ h
  have g' := e _ _ g
  unfold cutN at h ⊢
  rw [g] at h
  rw [g']
  exact h
/-- the callee's frozen objects, as ours: its lists are new -/
theorem same_newL {N : Addr → Prop} {G G' : Hp} (e : Same G G') (h : ∀ a o, G a = some o → (∃ xs, o = .tup xs) ∨ N a) : Same G (cutN N G') := fun a o q => by
  rcases h a o q with ⟨xs, rfl⟩ | n
  · exact cutN_tup (e _ _ q)
  · rw [cutN_at n]; exact e _ _ q
theorem Sh.full {G H G2 : Hp} {a : Addr} {d : D} (h : Sh G H (.ref a) d) (e : Same G G2) (k : ∀ o, H a = some o → G2 a = some o) : Rp G2 (.ref a) d := by
  cases h with
  | lst h r => exact .lst (k _ h) (r.mono e)
  | tup h r => exact .tup (k _ h) (r.mono e)
  | dct h r => exact .dct (k _ h) (r.mono e)
/-! ### readings of new things -/
def RdN (K : PySem.W.Frag) (t : TE) (f : M D) : Prop := ∀ (C : Ctx) (G : Hp) (σ : L2.St) (H : Hp) (ρ : Env) (Q : VK), C.K = K → StOk C G σ H ρ → ∀ (d : D) (ρ' : Env), f ρ = .ok d ρ' →
  (∀ (v : V) (G' H' : Hp), Same G G' → StOk C G' σ H' ρ' → Rp (cutN C.A G') v d → Q v H') → t σ H Q
def RdNs (K : PySem.W.Frag) (t : TA) (f : M (List D)) : Prop := ∀ (C : Ctx) (G : Hp) (σ : L2.St) (H : Hp) (ρ : Env) (Q : List V → Hp → Prop), C.K = K → StOk C G σ H ρ → ∀ (ds : List D) (ρ' : Env), f ρ = .ok ds ρ' →
  (∀ (vs : List V) (G' H' : Hp), Same G G' → StOk C G' σ H' ρ' → RpA (cutN C.A G') vs ds → Q vs H') → t σ H Q
def PN (X : Cx) (e : Expr) (f : M D) : Prop := ∃ t, PE X e t ∧ RdN X.K t f
def PNs (X : Cx) (es : List Expr) (f : M (List D)) : Prop := ∃ t, PA X es t ∧ RdNs X.K t f
def mLstZ (f : M (List D)) : M D := bnd f fun ds => if ds.length ≤ 100000 then ret (.list ds) else fun _ => .stuck
section
variable {X : Cx} {e : Expr} {es : List Expr} {pos : Pos} {f : M D} {fs : M (List D)}
theorem pns_nil : PNs X [] mNil := ⟨_, pa_nil, fun C G σ H ρ Q hK S d ρ' hf q => by cases hf; exact q [] G H (Same.refl _) S .nil⟩
theorem pns_cons (h : PN X e f) (hr : PNs X es fs) (hs : starEach (e :: es) X.env = (false, eval e X.env) :: starEach es X.env := by rfl) : PNs X (e :: es) (mCons f fs) := by
  obtain ⟨t, h, r⟩ := h
  obtain ⟨u, hr, rr⟩ := hr
  refine ⟨_, pa_cons h hr hs, fun C G σ H ρ Q hK S ds ρ' hf q => ?_⟩
  obtain ⟨d, ρ1, h1, hf⟩ := bnd_ok hf
  obtain ⟨ds', ρ2, h2, hf⟩ := bnd_ok hf
  cases hf
  refine r C G σ H ρ _ hK S d ρ1 h1 fun v G1 H1 g1 S1 o1 => ?_
  exact rr C G1 σ H1 ρ1 _ hK S1 ds' _ h2 fun vs G2 H2 g2 S2 o2 => q _ G2 H2 (g1.trans g2) S2 (.cons (o1.mono (cutN_mono g2)) o2)
theorem pn_lst (h : PNs X es fs) : PN X (.List es pos) (mLstZ fs) := by
  obtain ⟨t, h, r⟩ := h
  refine ⟨_, pe_lst h, fun C G σ H ρ Q hK S d ρ' hf q => ?_⟩
  obtain ⟨ds, ρ1, h1, hf⟩ := bnd_ok hf
  by_cases hl : ds.length ≤ 100000
  · rw [if_pos hl] at hf
    cases hf
    refine r C G σ H ρ _ hK S ds _ h1 fun vs G1 H1 g1 S1 o1 => ⟨by rw [o1.length]; exact line_of hl, fun p hp => ?_⟩
    have w : Grow G1 H1 (upd G1 p (.lst vs)) (upd H1 p (.lst vs)) := Grow.new S1.gh hp
    refine q _ _ _ (g1.trans w.g) (S1.grow w) (.lst ?_ (o1.mono (cutN_mono w.g)))
    rw [cutN_at (S1.fr p hp)]
    exact upd_same
  · rw [if_neg hl] at hf
    cases hf
end
/-! ### a call of things without lists in them -/
def chkN (ms : List Md) (ps : List Pl) : M Unit := fun ρ => match argSs ρ ms ps with
  | some ss => if ss.all nolS = true then .ok () ρ else .stuck
  | none => .stuck
def mNew (ms : List Md) (nl : Nat) (body : M Fl) (fs : M (List Pl)) : M D := bnd fs fun ps => bnd (chkN ms ps) fun _ => mFz (callAt ms nl body ps)
section
variable {C : Ctx} {G H : Hp} {σ : L2.St} {ρ : Env} {vs : List V} {ps : List Pl} {ms : List Md} {ss : Env}
noncomputable def callD (C : Ctx) (G H : Hp) (σ : L2.St) (vs : List V) (ms : List Md) (ps : List Pl) (ss : Env) : Ctx := { callC C G H σ vs ms ps ss with G0 := dropL G }
theorem all_nolS (h : ss.all nolS = true) {i : Nat} {s : Sl} (e : ss[i]? = some s) : nolS s = true := List.all_eq_true.mp h s (List.mem_of_getElem? e)
theorem call_startD (S : StOk (callC C G H σ vs ms ps ss) G (vs.map some) H ss) (hn : ss.all nolS = true) : StOk (callD C G H σ vs ms ps ss) (dropL G) (vs.map some) H ss := by
  have dm := dropL_same G
  refine ⟨dm.trans S.gh, S.bh, Same.refl _, S.fr, fun a q => .inl q, fun i v q => ?_, S.len, fun i s e => ?_, S.ds⟩
  · have w := S.wf i v q
    show BorOk C.K (dropL G) _ v (ss.getD i .un)
    have w' : BorOk C.K G (callC C G H σ vs ms ps ss).B v (ss.getD i .un) := w
    cases e : ss[i]? with
    | none =>
      rw [List.getD_eq_getElem?_getD, e]
      trivial
    | some s =>
      have n := all_nolS hn e
      rw [List.getD_eq_getElem?_getD, e] at w' ⊢
      cases s with
      | bor d => exact Sh.drop w' n
      | scr ns => exact w'
      | _ => trivial
  · have n := all_nolS hn e
    obtain ⟨o, e1, k⟩ := S.sl i s e
    refine ⟨o, e1, ?_⟩
    cases s with
    | un => trivial
    | val d => obtain ⟨v, h1, r⟩ := k; exact ⟨v, h1, r.drop n⟩
    | own d => cases n
    | io d =>
      obtain ⟨a, h1, r, h2, h3, h4⟩ := k
      refine ⟨a, h1, r.drop n, ?_, h3, h4⟩
      exact dm.free h2
    | bor d => exact k
    | scr ns => exact k
def unH (G G' : Hp) : Hp := fun a => match G a with
  | some o => some o
  | none => G' a
theorem unH_l {G G' : Hp} : Same G (unH G G') := fun a o h => by unfold unH; rw [h]
theorem unH_r {G G' H : Hp} (h1 : Same G H) (h2 : Same G' H) : Same G' (unH G G') := fun a o h => by
  unfold unH
  cases q : G a with
  | none => exact h
  | some u =>
    have := h1 _ _ q
    rw [h2 _ _ h] at this
    cases this; rfl
theorem unH_ne {G G' : Hp} {a : Addr} (h : unH G G' a ≠ none) : G a ≠ none ∨ (G a = none ∧ G' a ≠ none) := by
  unfold unH at h
  cases q : G a with
  | none => rw [q] at h; exact .inr ⟨rfl, h⟩
  | some u => exact .inl (by intro z; cases z)
theorem unH_none {G G' : Hp} {a : Addr} (h1 : G a = none) (h2 : G' a = none) : unH G G' a = none := by unfold unH; rw [h1]; exact h2
theorem call_raise (S : StOk C G σ H ρ) (ha : argSs ρ ms ps = some ss) (S0 : StOk (callC C G H σ vs ms ps ss) G (vs.map some) H ss) {G' H' : Hp} {σ' : L2.St} {ρ' : Env} (S' : StOk (callD C G H σ vs ms ps ss) G' σ' H' ρ') :
    StOk (callC C G H σ vs ms ps ss) (unH G G') σ' H' ρ' ∧ Same G H' ∧ ∀ a o, G' a = some o → (∃ xs, o = .tup xs) ∨ H a = none := by
  have hGH : Same G H' := fun a o q => by
    have b : (callC C G H σ vs ms ps ss).B a = H a := if_neg fun h => by
      obtain ⟨j, _, ow⟩ := IoA.own ha h
      rw [(Own.tracked S ow).2.1] at q; cases q
    exact S'.bh a o (show (callC C G H σ vs ms ps ss).B a = some o by rw [b]; exact S.gh _ _ q)
  have r : Same G' (unH G G') := unH_r hGH S'.gh
  have low : ∀ {a : Addr}, (callC C G H σ vs ms ps ss).B a = none → G a = none := fun {a} q => by
    cases z : G a with
    | none => rfl
    | some o =>
      have b : (callC C G H σ vs ms ps ss).B a = H a := if_neg fun h => by
        obtain ⟨j, _, ow⟩ := IoA.own ha h
        rw [(Own.tracked S ow).2.1] at z; cases z
      rw [b, S.gh _ _ z] at q; cases q
  refine ⟨⟨fun a o q => ?_, S'.bh, unH_l, S'.fr, fun a q => ?_, S0.wf, S'.len, fun i s e => ?_, S'.ds⟩, hGH, fun a o q => ?_⟩
  · unfold unH at q
    cases z : G a with
    | none => rw [z] at q; exact S'.gh a o q
    | some u => rw [z] at q; cases q; exact hGH _ _ z
  · rcases unH_ne q with z | ⟨z, y⟩
    · exact .inl z
    · rcases S'.ga a y with w | w
      · exact .inl fun t => w ((dropL_same G).free t)
      · exact .inr w
  · obtain ⟨o, e1, k⟩ := S'.sl i s e
    refine ⟨o, e1, ?_⟩
    cases s with
    | un => trivial
    | val d => obtain ⟨v, h1, q⟩ := k; exact ⟨v, h1, q.mono r⟩
    | own d => obtain ⟨a, h1, q, h2, h3, h4⟩ := k; exact ⟨a, h1, q.mono r (Same.refl _), unH_none (low h3) h2, h3, h4⟩
    | io d => obtain ⟨a, h1, q, h2, h3, h4⟩ := k; exact ⟨a, h1, q.mono r (Same.refl _), unH_none (low h3) h2, h3, h4⟩
    | bor d => exact k
    | scr ns => exact k
  · rcases S'.ga a (ne_none_of q) with w | w
    · cases z : dropL G a with
      | none => exact absurd z w
      | some u =>
        obtain ⟨xs, rfl⟩ := dropL_lst z
        have h1 := S'.g0 a _ z
        rw [q] at h1
        exact .inl ⟨xs, Option.some.inj h1⟩
    · exact .inr w
end
section
variable {X : Cx} {e : Expr} {es : List Expr} {pos p : Pos} {x : Str} {k : Nat} {f : Addr} {fd : FuncData} {ps : List Str} {np nl : Nat} {m : M Fl} {ms : List Md} {fs : M (List Pl)}
theorem rd_new {E : XK} {t : TA} (ra : RdPs X.K t fs) (hl : ms.length = np) : RdN X.K (tCall (spD X.K np nl m) [] E t) (mNew ms nl m fs) := by
  intro C G σ H ρ Q hK S d0 ρ2 hf q
  obtain ⟨pl, ρ1, h1, hf2⟩ := bnd_ok hf
  refine ra C G σ H ρ _ hK S pl ρ1 h1 fun vs G1 H1 g1 S1 o => ?_
  obtain ⟨_, ρ1', hc, hf3⟩ := bnd_ok hf2
  obtain ⟨r', ρ3, hca, hf4⟩ := bnd_ok hf3
  unfold chkN at hc
  cases ha2 : argSs ρ1 ms pl with
  | none => rw [ha2] at hc; cases hc
  | some ss =>
  rw [ha2] at hc
  simp only at hc
  by_cases hn : ss.all nolS = true
  · rw [if_pos hn] at hc
    cases hc
    unfold callAt at hca
    by_cases ap : apart ms pl = true
    · rw [if_pos ap, ha2] at hca
      simp only at hca
      cases hev : evalD ms nl m ss with
      | none => rw [hev] at hca; cases hca
      | some ro =>
        rw [hev] at hca
        simp only at hca
        obtain ⟨r, ρ', hrun, hres, hout⟩ := evalD_inv hev
        obtain ⟨r2, outs⟩ := ro
        simp only at hca hres hout
        cases hbk0 : backIo ρ1 ms pl outs with
        | none => rw [hbk0] at hca; cases hca
        | some ρ4 =>
          rw [hbk0] at hca
          cases hca
          have hbk : backIo ρ1 ms pl ρ' = some ρ3 := by
            rw [hout, backIo_take (argSs_len ha2).1] at hbk0
            exact hbk0
          obtain ⟨l1, l2⟩ := argSs_len ha2
          have S0 := call_start S1 o ap ha2
          refine ⟨callD C G1 H1 σ vs ms pl ss, ss, r, ρ', by rw [List.append_nil, o.len, ← l1, hl], hK, ?_, hrun, fun v G' σ' H' g S' rok => ?_⟩
          · rw [List.append_nil]
            exact call_startD S0 hn
          · obtain ⟨S'', hGH, hnew⟩ := call_raise S1 ha2 S0 S'
            have S2 := call_end S1 o ap ha2 S'' unH_l hbk
            have r2s : Same G' (unH G1 G') := unH_r hGH S'.gh
            have hA : ∀ a, H1 a = none → C.A a := fun a h => S1.fr a h
            have cutS : ∀ {G9 : Hp}, Same (unH G1 G') G9 → Same G' (cutN C.A G9) := fun {G9} e9 => same_newL (Same.trans r2s e9) fun a o z => (hnew a o z).imp id (hA a)
            have fresh : ∀ {a : Addr} {d : D}, v = .ref a → Sh G' H' (.ref a) d → G' a = none → H1 a = none → d = d0 → ρ2 = ρ3 → Q v H' := fun {a d} ea sh gn hn ed er => by
              subst ed; subst er; subst ea
              have gn2 : unH G1 G' a = none := unH_none (S1.gh.free hn) gn
              obtain ⟨G9, y1, y2, y3⟩ := S2.freezeF (sh.mono r2s (Same.refl _)) gn2 (S1.fr a hn) (fun j ow => by
                obtain ⟨z1, s, z2, z3⟩ := ow
                have ap' := ap
                unfold apart at ap'
                simp only [Bool.and_eq_true, decide_eq_true_eq] at ap'
                have : ∃ s0, ρ1[j]? = some s0 ∧ ownK s0 = true := by
                  by_cases hj : j ∈ ios ms pl
                  · obtain ⟨i, d, s, s', h1, h2, h3, h4, h5, h6⟩ := backIo_in hbk ap'.1 hj
                    refine ⟨s, h4, ?_⟩
                    rcases h6 with ⟨_, rfl, _⟩ | ⟨_, rfl, _⟩ <;> rfl
                  · rw [backIo_out hbk hj] at z2
                    exact ⟨s, z2, z3⟩
                obtain ⟨s0, w1, w2⟩ := this
                exact (Own.tracked S1 ⟨z1, s0, w1, w2⟩).1 hn)
              refine q _ G9 H' (g1.trans (unH_l.trans y1)) y2 (sh.full (cutS y1) fun o ho => ?_)
              rw [cutN_at (hA a hn)]
              have t := y3.tracked
              cases z : G9 a with
              | none => exact absurd z t
              | some u =>
                have := y2.gh _ _ z
                rw [ho] at this
                cases this; rfl
            have old : ∀ {d : D}, Rp G' v d → d = d0 → ρ2 = ρ3 → Q v H' := fun {d} rr ed er => by
              subst ed; subst er
              exact q v (unH G1 G') H' (g1.trans unH_l) S2 (rr.mono (cutS (Same.refl _)))
            cases r with
            | fr d =>
              cases hres
              obtain ⟨a, ea, sh, gn, _, aa, _⟩ := rok
              cases hf4
              exact fresh ea sh gn aa rfl rfl
            | pl p =>
              cases p with
              | val d => cases hres; cases hf4; exact old rok rfl rfl
              | slot j =>
                have hv : σ'[j]? = some (some v) := rok
                simp only [resR] at hres
                cases qq : ρ'[j]? with
                | none => rw [qq] at hres; cases hres
                | some s =>
                  rw [qq] at hres
                  have kk := S'.get qq hv
                  cases s with
                  | un => cases hres
                  | io d => cases hres
                  | scr ns => cases hres
                  | val d => cases hres; cases hf4; obtain ⟨w, e, rr⟩ := kk; cases e; exact old rr rfl rfl
                  | own d =>
                    cases hres
                    cases hf4
                    obtain ⟨a, e, sh, gn, _, aa⟩ := kk
                    exact fresh (Option.some.inj e) sh gn aa rfl rfl
                  | bor d =>
                    simp only at hres
                    by_cases hat : atom d = true
                    · rw [if_pos hat] at hres
                      cases hres
                      cases hf4
                      obtain ⟨w, e, p1, p2⟩ := kk
                      cases e
                      exact old ((S'.bor p1 p2).atom hat G') rfl rfl
                    · rw [if_neg hat] at hres
                      cases hres
    · rw [if_neg ap] at hca
      cases hca
  · rw [if_neg hn] at hc
    cases hc
end
end PL
namespace PL
open PySem PySem.Spec PyProof.Rows L2 RT RZ
section
variable {X : Cx} {e : Expr} {es : List Expr} {pos p : Pos} {x : Str} {k : Nat} {f : Addr} {fd : FuncData} {ps : List Str} {np nl : Nat} {m : M Fl} {ms : List Md} {fs : M (List Pl)}
theorem pn_callG (F : FnG X.prog X.w X.K X.mg X.base k f fd ps (spD X.K np nl m)) (hG : X.A.guards = some []) (hr : Room k X.A) (hg : Gl X x) (hm : X.mg x = some (.ref f)) (hk : PySem.W.keepIn X.K (.ref f) = true) (hb : Binds X.K fd ps []) (ha : PPs X (e :: es) fs) (hl : ms.length = np)
    (hdb : (x == ("__debug__" : Str)) = false := by decide) (he : starEach (e :: es) X.env = (false, eval e X.env) :: starEach es X.env := by rfl) (hpl : (backTo pos (starEach es X.env)).any (·.1) = false := by rfl) :
    PN X (.Call (.Name x p) (e :: es) [] pos) (mNew ms nl m fs) := by
  obtain ⟨t, ha, ra⟩ := ha
  exact ⟨_, pe_callG F hG hr hg hm hk hb ha hdb he hpl, rd_new ra hl⟩
end
end PL
/-! PL29: a stretch of statements in which something new is told, looked at, changed in place, and forgotten. -/
namespace PL
open PySem PySem.Spec PyProof.Rows L2 RT RZ
/-! ### what stands before is but looked at -/
def blkS : Sl → Sl
  | .val d => .bor d
  | .own d => .bor d
  | .io d => .bor d
  | s => s
/-- behind it: s0 as it was, s2 as it is -/
def flatL : D → Bool
  | .list ds => ds.all atom
  | _ => false
def exS (s0 s2 : Sl) : Sl := match s2 with
  | .val d => if atom d = true then .val d else .un
  | .own d => if flatL d = true then .own d else .un
  | .bor _ => s0
  | .scr _ => s0
  | _ => .un
def exE : Env → Env → Env
  | s :: ss, t :: ts => exS s t :: exE ss ts
  | _, _ => []
theorem blkS_ne {d : D} {s : Sl} (h : blkS (.val d) = s) : s = .val d ∨ s = .bor d := .inr h.symm
theorem exE_get : ∀ {a b : Env} {i : Nat} {s : Sl}, (exE a b)[i]? = some s → ∃ s0 s2, a[i]? = some s0 ∧ b[i]? = some s2 ∧ s = exS s0 s2
  | [], _, _, _, h => by simp [exE] at h
  | _ :: _, [], _, _, h => by simp [exE] at h
  | s :: ss, t :: ts, 0, _, h => by simp [exE] at h; exact ⟨s, t, rfl, rfl, h.symm⟩
  | s :: ss, t :: ts, i + 1, r, h => by
    have h' : (exE ss ts)[i]? = some r := by simpa [exE] using h
    simpa using exE_get h'
theorem exE_len : ∀ {a b : Env}, a.length = b.length → (exE a b).length = a.length
  | [], [], _ => rfl
  | _ :: _, _ :: _, h => by simp [exE]; exact exE_len (by simpa using h)
def blkC (C : Ctx) (G H : Hp) (σ : L2.St) (ρ : Env) : Ctx := { K := C.K, G0 := G, B := H, A := fun a => H a = none, P := fun k => (σ[k]?).join, S := fun k => (ρ.map blkS).getD k .un }
section
variable {C : Ctx} {G H : Hp} {σ : L2.St} {ρ : Env}
theorem blk_in (S : StOk C G σ H ρ) : StOk (blkC C G H σ ρ) G σ H (ρ.map blkS) := by
  have noOwn : ∀ {i : Nat} {a : Addr}, ¬ Own σ (ρ.map blkS) i a := fun {i a} ⟨_, s, y, z⟩ => by
    rw [List.getElem?_map] at y
    cases q : ρ[i]? with
    | none => rw [q] at y; cases y
    | some s0 =>
      rw [q] at y
      have y : blkS s0 = s := Option.some.inj y
      subst y
      cases s0 with
      | val d => rcases blkS_ne (d := d) rfl with e | e <;> rw [e] at z <;> cases z
      | _ => cases z
  have bor : ∀ {i : Nat} {v : V} {s0 : Sl} {d : D}, ρ[i]? = some s0 → σ[i]? = some (some v) → blkS s0 = .bor d → Sh G H v d := fun {i v s0 d} q hv hb => by
    have k := S.get q hv
    cases s0 with
    | un => cases hb
    | scr ns => cases hb
    | val d' =>
      rcases blkS_ne hb with e | e
      · cases e
      · cases e; obtain ⟨_, z, r⟩ := k; cases z; exact r.sh S.gh
    | own d' => cases hb; obtain ⟨a, z, r, _⟩ := k; cases z; exact r
    | io d' => cases hb; obtain ⟨a, z, r, _⟩ := k; cases z; exact r
    | bor d' => cases hb; obtain ⟨_, z, p1, p2⟩ := k; cases z; exact S.bor p1 p2
  refine ⟨S.gh, Same.refl _, Same.refl _, fun a q => q, fun a q => .inl q, fun i v q => ?_, by rw [List.length_map]; exact S.len, fun i s e => ?_, fun i j a hi _ => absurd hi noOwn⟩
  · have q' : (σ[i]?).join = some v := q
    have hv : σ[i]? = some (some v) := by
      cases z : σ[i]? with
      | none => rw [z] at q'; cases q'
      | some o => rw [z] at q'; cases o with
        | none => cases q'
        | some w => cases q'; rfl
    show BorOk C.K G H v ((ρ.map blkS).getD i .un)
    rw [List.getD_eq_getElem?_getD, List.getElem?_map]
    cases z : ρ[i]? with
    | none => trivial
    | some s0 =>
      show BorOk C.K G H v (blkS s0)
      cases hb : blkS s0 with
      | bor d => exact bor z hv hb
      | scr ns =>
        have : s0 = .scr ns := by
          cases s0 with
          | val d' => rcases blkS_ne hb with e | e <;> cases e
          | scr ns' => cases hb; rfl
          | _ => cases hb
        subst this
        obtain ⟨_, z1, p1, p2⟩ := S.get z hv
        cases z1
        have w := S.wf i v p1
        rw [p2] at w
        obtain ⟨a, ea, sq⟩ := w
        exact ⟨a, ea, Same.seq S.bh sq⟩
      | _ => trivial
  · rw [List.getElem?_map] at e
    cases z : ρ[i]? with
    | none => rw [z] at e; cases e
    | some s0 =>
      rw [z] at e
      have e : blkS s0 = s := Option.some.inj e
      have hS : (blkC C G H σ ρ).S i = s := by
        show (ρ.map blkS).getD i .un = s
        rw [List.getD_eq_getElem?_getD, List.getElem?_map, z]
        exact e
      obtain ⟨o, e1, k⟩ := S.sl i s0 z
      refine ⟨o, e1, ?_⟩
      have hP : ∀ v, o = some v → (blkC C G H σ ρ).P i = some v := fun v hv => by
        show (σ[i]?).join = some v
        rw [e1, hv]; rfl
      cases s0 with
      | un => subst e; trivial
      | val d' =>
        rcases blkS_ne e with z | z
        · subst z; exact k
        · subst z; obtain ⟨v, hv, _⟩ := k; exact ⟨v, hv, hP v hv, hS⟩
      | own d' => subst e; obtain ⟨a, hv, _⟩ := k; exact ⟨_, hv, hP _ hv, hS⟩
      | io d' => subst e; obtain ⟨a, hv, _⟩ := k; exact ⟨_, hv, hP _ hv, hS⟩
      | bor d' => subst e; obtain ⟨v, hv, _⟩ := k; exact ⟨v, hv, hP v hv, hS⟩
      | scr ns => subst e; obtain ⟨v, hv, _⟩ := k; exact ⟨v, hv, hP v hv, hS⟩
theorem atomsA {G G' : Hp} : ∀ {vs : List V} {ds : List D}, RpA G vs ds → ds.all atom = true → RpA G' vs ds
  | _, _, .nil, _ => .nil
  | _, _, .cons (d := d) h r, n => by
    rw [List.all_cons, Bool.and_eq_true] at n
    refine .cons ?_ (atomsA r n.2)
    have a := n.1
    cases h with
    | non => exact .non
    | bl b => exact .bl b
    | int i => exact .int i
    | str x => exact .str x
    | lst h r => cases a
    | tup h r => cases a
    | dct h r => cases a
/-- some lists of what is new were changed in place -/
structure Jk (N : Addr → Prop) (G H Hx : Hp) : Prop where
  at_ : ∀ a, Hx a = H a ∨ (N a ∧ G a ≠ none ∧ Hx a ≠ none) ∨ H a = none
theorem Jk.refl {N : Addr → Prop} {G H : Hp} : Jk N G H H := ⟨fun _ => .inl rfl⟩
/-- the context in which what is told stands at i -/
def toldC (C1 : Ctx) (G1 : Hp) (i : Nat) (v : V) (d : D) : Ctx := { K := C1.K, G0 := G1, B := unH C1.B G1, A := C1.A, P := fun k => if k = i then some v else C1.P k, S := fun k => if k = i then .bor d else C1.S k }
theorem told_in {C1 : Ctx} {G1 H1 : Hp} {ρ1 : Env} (S : StOk C1 G1 σ H1 ρ1) {i : Nat} {v : V} {d : D} (hi : i < ρ1.length) (r : Rp G1 v d) : StOk (toldC C1 G1 i v d) G1 (σ.set i (some v)) H1 (ρ1.set i (.bor d)) := by
  have hs : i < σ.length := by rw [S.len]; exact hi
  have bs : Same C1.B (unH C1.B G1) := unH_l
  have gb : Same G1 (unH C1.B G1) := unH_r S.bh S.gh
  have sub : ∀ {j : Nat} {b : Addr}, Own (σ.set i (some v)) (ρ1.set i (.bor d)) j b → j ≠ i ∧ Own σ ρ1 j b := fun {j b} ⟨x, s', y, z⟩ => by
    by_cases hj : j = i
    · subst hj
      rw [List.getElem?_set_self hi] at y
      cases y; cases z
    · rw [List.getElem?_set_ne (fun z => hj z.symm)] at x y
      exact ⟨hj, x, s', y, z⟩
  refine ⟨S.gh, fun a o q => ?_, Same.refl _, S.fr, fun a q => .inl q, fun j w q => ?_, by rw [List.length_set, List.length_set]; exact S.len, fun j s q => ?_, fun j k b hj hk => S.ds j k b (sub hj).2 (sub hk).2⟩
  · have q' : unH C1.B G1 a = some o := q
    unfold unH at q'
    cases z : C1.B a with
    | some u => rw [z] at q'; cases q'; exact S.bh a _ z
    | none => rw [z] at q'; exact S.gh a o q'
  · show BorOk C1.K G1 (unH C1.B G1) w (if j = i then .bor d else C1.S j)
    have q' : (if j = i then some v else C1.P j) = some w := q
    by_cases hj : j = i
    · rw [if_pos hj] at q' ⊢
      cases q'
      exact r.sh gb
    · rw [if_neg hj] at q' ⊢
      exact BorOk.mono S.g0 bs (S.wf j w q')
  · by_cases hj : j = i
    · subst hj
      rw [List.getElem?_set_self hi] at q
      cases q
      exact ⟨_, List.getElem?_set_self hs, v, rfl, if_pos rfl, if_pos rfl⟩
    · rw [List.getElem?_set_ne (fun z => hj z.symm)] at q ⊢
      obtain ⟨o, e1, k⟩ := S.sl j s q
      refine ⟨o, e1, ?_⟩
      have bn : ∀ {b : Addr}, C1.B b = none → G1 b = none → (toldC C1 G1 i v d).B b = none := fun {b} h1 h2 => unH_none h1 h2
      cases s with
      | un => trivial
      | val d' => exact k
      | own d' => obtain ⟨b, h1, h2, h3, h4, h5⟩ := k; exact ⟨b, h1, h2, h3, bn h4 h3, h5⟩
      | io d' => obtain ⟨b, h1, h2, h3, h4, h5⟩ := k; exact ⟨b, h1, h2, h3, bn h4 h3, (if_neg hj).trans h5⟩
      | bor d' => obtain ⟨w, h1, h2, h3⟩ := k; exact ⟨w, h1, (if_neg hj).trans h2, (if_neg hj).trans h3⟩
      | scr ns => obtain ⟨w, h1, h2, h3⟩ := k; exact ⟨w, h1, (if_neg hj).trans h2, (if_neg hj).trans h3⟩
/-- and back: what stood before stands -/
theorem blk_out (S : StOk C G σ H ρ) {G1 : Hp} {i : Nat} {v : V} {d : D} {σ2 : L2.St} {G2 H2 Hx : Hp} {ρ2 : Env} (g1 : Same G G1) (hG1 : ∀ a, G1 a ≠ none → G a ≠ none ∨ H a = none) (S2 : StOk (toldC (blkC C G H σ ρ) G1 i v d) G2 σ2 H2 ρ2) (g : Same G1 G2) (J : Jk (fun a => H a = none) G2 H2 Hx) {σx : L2.St} (js : List Nat)
    (hl : σx.length = σ2.length) (hx : ∀ k, k ∉ js → k ≠ i → σx[k]? = σ2[k]?) (hlen : ρ2.length = ρ.length) :
    StOk C G σx Hx (wipeE ((exE ρ ρ2).set i .un) js) := by
  have old : ∀ {a : Addr} {o : HO}, H a = some o → Hx a = some o := fun {a o} q => by
    have h2 : H2 a = some o := S2.bh a o (show unH H G1 a = some o from unH_l a o q)
    rcases J.at_ a with z | ⟨z, _⟩ | z
    · rw [z]; exact h2
    · rw [q] at z; cases z
    · rw [h2] at z; cases z
  have untr : ∀ {a : Addr}, Hx a = none → H a = none := fun {a} q => by
    cases z : H a with
    | none => rfl
    | some o => rw [old z] at q; cases q
  have flat : ∀ {a : Addr} {d : D}, Sh G2 H2 (.ref a) d → G2 a = none → flatL d = true → Sh G Hx (.ref a) d := fun {a d} sh gn f => by
    have hxa : Hx a = H2 a := (J.at_ a).elim id fun z => z.elim (fun z => absurd gn z.2.1) fun z => absurd z sh.tracked
    cases sh with
    | lst h r => exact .lst (by rw [hxa]; exact h) (atomsA r f)
    | tup h r => cases f
    | dct h r => cases f
  have lenE : (exE ρ ρ2).length = ρ.length := exE_len hlen.symm
  have wget : ∀ {js : List Nat} {e : Env} {k : Nat} {s : Sl}, (wipeE e js)[k]? = some s → s = .un ∨ (k ∉ js ∧ e[k]? = some s) := by
    intro js
    induction js with
    | nil => intro e k s h; exact .inr ⟨by simp, h⟩
    | cons j js ih =>
      intro e k s h
      have h' : ((wipeE e js).set j .un)[k]? = some s := h
      by_cases hk : k = j
      · subst hk
        have hlt : k < (wipeE e js).length := by
          have := (List.getElem?_eq_some_iff.mp h').1
          rwa [List.length_set] at this
        rw [List.getElem?_set_self hlt] at h'
        cases h'; exact .inl rfl
      · rw [List.getElem?_set_ne (fun z => hk z.symm)] at h'
        rcases ih h' with z | ⟨z1, z2⟩
        · exact .inl z
        · exact .inr ⟨by simp [hk, z1], z2⟩
  have get : ∀ {k : Nat} {s : Sl}, (wipeE ((exE ρ ρ2).set i .un) js)[k]? = some s → s = .un ∨ (k ≠ i ∧ σx[k]? = σ2[k]? ∧ ∃ s0 s2, ρ[k]? = some s0 ∧ ρ2[k]? = some s2 ∧ s = exS s0 s2) := fun {k s} h => by
    rcases wget h with z | ⟨z1, z2⟩
    · exact .inl z
    · by_cases hk : k = i
      · subst hk
        have hlt : k < (exE ρ ρ2).length := by
          have := (List.getElem?_eq_some_iff.mp z2).1
          rwa [List.length_set] at this
        rw [List.getElem?_set_self hlt] at z2
        cases z2; exact .inl rfl
      · rw [List.getElem?_set_ne (fun z => hk z.symm)] at z2
        exact .inr ⟨hk, hx k z1 hk, exE_get z2⟩
  -- what is looked at is as it was
  have back : ∀ {k : Nat} {s0 s2 : Sl}, k ≠ i → ρ[k]? = some s0 → ρ2[k]? = some s2 → (∃ d, s2 = .bor d) ∨ (∃ ns, s2 = .scr ns) → σ2[k]? = σ[k]? := fun {k s0 s2} hk q0 q2 hs => by
    obtain ⟨o, e1, kk⟩ := S2.sl k s2 q2
    have : ∃ w, o = some w ∧ (toldC (blkC C G H σ ρ) G1 i v d).P k = some w := by
      rcases hs with ⟨d', rfl⟩ | ⟨ns, rfl⟩
      · obtain ⟨w, h1, h2, _⟩ := kk; exact ⟨w, h1, h2⟩
      · obtain ⟨w, h1, h2, _⟩ := kk; exact ⟨w, h1, h2⟩
    obtain ⟨w, rfl, hP⟩ := this
    have hP' : (if k = i then some v else (σ[k]?).join) = some w := hP
    rw [if_neg hk] at hP'
    rw [e1]
    cases z : σ[k]? with
    | none => rw [z] at hP'; cases hP'
    | some o => rw [z] at hP'; cases o with
      | none => cases hP'
      | some u => cases hP'; rfl
  have sOf : ∀ {k : Nat} {s0 s2 : Sl}, k ≠ i → ρ[k]? = some s0 → ρ2[k]? = some s2 → (∃ d, s2 = .bor d) ∨ (∃ ns, s2 = .scr ns) → blkS s0 = s2 := fun {k s0 s2} hk q0 q2 hs => by
    obtain ⟨o, e1, kk⟩ := S2.sl k s2 q2
    have : (toldC (blkC C G H σ ρ) G1 i v d).S k = s2 := by
      rcases hs with ⟨d', rfl⟩ | ⟨ns, rfl⟩
      · obtain ⟨w, h1, _, h3⟩ := kk; exact h3
      · obtain ⟨w, h1, _, h3⟩ := kk; exact h3
    have this' : (if k = i then .bor d else (ρ.map blkS).getD k .un) = s2 := this
    rw [if_neg hk, List.getD_eq_getElem?_getD, List.getElem?_map, q0] at this'
    exact this'
  -- kinds of own things
  have kind : ∀ {k : Nat} {a : Addr}, Own σx (wipeE ((exE ρ ρ2).set i .un) js) k a → (Own σ ρ k a ∧ H a ≠ none) ∨ (Own σ2 ρ2 k a ∧ H a = none) := fun {k a} ⟨x, s, y, z⟩ => by
    rcases get y with rfl | ⟨hk, ex, s0, s2, q0, q2, rfl⟩
    · cases z
    · rw [ex] at x
      cases s2 with
      | un => cases z
      | io d' => cases z
      | val d' =>
        have : exS s0 (.val d') = .val d' ∨ exS s0 (.val d') = .un := by
          by_cases ha : atom d' = true
          · exact .inl (if_pos ha)
          · exact .inr (if_neg ha)
        rcases this with e | e <;> rw [e] at z <;> cases z
      | own d' =>
        refine .inr ⟨⟨x, _, q2, rfl⟩, ?_⟩
        obtain ⟨b, eb, _, _, _, aa⟩ := S2.get q2 x
        cases eb
        exact aa
      | bor d' =>
        have e := back hk q0 q2 (.inl ⟨_, rfl⟩)
        rw [e] at x
        have ow : Own σ ρ k a := ⟨x, s0, q0, z⟩
        exact .inl ⟨ow, (Own.tracked S ow).1⟩
      | scr ns =>
        have e := back hk q0 q2 (.inr ⟨_, rfl⟩)
        rw [e] at x
        have ow : Own σ ρ k a := ⟨x, s0, q0, z⟩
        exact .inl ⟨ow, (Own.tracked S ow).1⟩
  have wlen : ∀ {js : List Nat} {e : Env}, (wipeE e js).length = e.length := by
    intro js
    induction js with
    | nil => intro e; rfl
    | cons j js ih => intro e; show ((wipeE e js).set j .un).length = _; rw [List.length_set]; exact ih
  refine ⟨fun a o q => old (S.gh a o q), fun a o q => old (S.bh a o q), S.g0, fun a q => S.fr a (untr q), S.ga, S.wf, by rw [wlen, List.length_set, lenE, hl, S2.len, hlen], fun k s q => ?_, fun j k a hj hk => ?_⟩
  · have hlt : k < σx.length := by
      have := (List.getElem?_eq_some_iff.mp q).1
      rw [wlen, List.length_set, lenE] at this
      rw [hl, S2.len, hlen]; exact this
    rcases get q with rfl | ⟨hk, ex, s0, s2, q0, q2, rfl⟩
    · exact ⟨σx[k], List.getElem?_eq_getElem hlt, trivial⟩
    · obtain ⟨o, e1, kk⟩ := S2.sl k s2 q2
      rw [ex]
      cases s2 with
      | un => exact ⟨o, e1, trivial⟩
      | io d' => exact ⟨o, e1, trivial⟩
      | val d' =>
        refine ⟨o, e1, ?_⟩
        show SlOk C G Hx k o (if atom d' = true then .val d' else .un)
        by_cases ha : atom d' = true
        · rw [if_pos ha]
          obtain ⟨w, h1, r⟩ := kk
          exact ⟨w, h1, (r.sh (Same.refl _)).atom ha G⟩
        · rw [if_neg ha]; trivial
      | own d' =>
        refine ⟨o, e1, ?_⟩
        show SlOk C G Hx k o (if flatL d' = true then .own d' else .un)
        by_cases hf : flatL d' = true
        · rw [if_pos hf]
          obtain ⟨a, h1, sh, gn, _, aa⟩ := kk
          have aa : H a = none := aa
          exact ⟨a, h1, flat sh gn hf, S.gh.free aa, S.bh.free aa, S.fr a aa⟩
        · rw [if_neg hf]; trivial
      | bor d' =>
        rw [back hk q0 q2 (.inl ⟨_, rfl⟩)]
        obtain ⟨o', e2, k0⟩ := S.sl k s0 q0
        refine ⟨o', e2, ?_⟩
        show SlOk C G Hx k o' s0
        cases s0 with
        | un => trivial
        | val d2 => exact k0
        | own d2 => obtain ⟨a, h1, sh, h2, h3, h4⟩ := k0; exact ⟨a, h1, sh.at (Same.refl _) fun b hb u hu => by cases hb; exact old hu, h2, h3, h4⟩
        | io d2 => obtain ⟨a, h1, sh, h2, h3, h4⟩ := k0; exact ⟨a, h1, sh.at (Same.refl _) fun b hb u hu => by cases hb; exact old hu, h2, h3, h4⟩
        | bor d2 => exact k0
        | scr ns => exact k0
      | scr ns =>
        rw [back hk q0 q2 (.inr ⟨_, rfl⟩)]
        obtain ⟨o', e2, k0⟩ := S.sl k s0 q0
        refine ⟨o', e2, ?_⟩
        have := sOf hk q0 q2 (.inr ⟨_, rfl⟩)
        show SlOk C G Hx k o' s0
        cases s0 with
        | scr ns' => exact k0
        | val d2 => rcases blkS_ne this with e | e <;> cases e
        | _ => cases this
  · rcases kind hj with ⟨h1, h2⟩ | ⟨h1, h2⟩
    · rcases kind hk with ⟨h3, h4⟩ | ⟨h3, h4⟩
      · exact S.ds j k a h1 h3
      · exact absurd h4 h2
    · rcases kind hk with ⟨h3, h4⟩ | ⟨h3, h4⟩
      · exact absurd h2 h4
      · exact S2.ds j k a h1 h3
end
end PL
/-! PL30: statements that change in place what was told anew. -/
namespace PL
open PySem PySem.Spec PyProof.Rows L2 RT RZ
/-! ### the head of a list of statements -/
def PCut (X : Cx) (sts rest : List Stmt) (f : M Fl) : Prop := ∃ t : TS, (∀ u, PSs X rest u → PSs X sts (tSeq t u)) ∧ RdS X.K t f
def RdJ (K : PySem.W.Frag) (i : Nat) (t : TS) (js : List Nat) (j : D → Bool) : Prop := ∀ (N : Addr → Prop) (G : Hp) (σ : L2.St) (H : Hp) (Z : Ends) (v : V) (d : D), Same G H → (∀ k ∈ js, k < σ.length) → σ[i]? = some (some v) → Rp (cutN N G) v d → j d = true →
  (∀ (Hx : Hp) (σx : L2.St), Jk N G H Hx → σx.length = σ.length → (∀ k, k ∉ js → σx[k]? = σ[k]?) → Z.nx σx Hx) → t Z σ H
def PJ (X : Cx) (i : Nat) (st : Stmt) (js : List Nat) (j : D → Bool) : Prop := ∃ t, PS X st t ∧ RdJ X.K i t js j
def mJunk (i : Nat) (fE : M D) (m : M Fl) (js : List Nat) (j : D → Bool) (k : M Fl) : M Fl := fun ρ => match fE (ρ.map blkS) with
  | .stuck => .stuck
  | .ok d ρ1 => if i < ρ1.length then match m (ρ1.set i (.bor d)) with
      | .ok .nx ρ2 => match ρ2[i]? with
        | some (.bor _) => if j d = true ∧ ρ2.length = ρ.length ∧ js.all (fun k => decide (k < ρ2.length)) = true then k (wipeE ((exE ρ ρ2).set i .un) js) else .stuck
        | _ => .stuck
      | .ok (.rt (.pl (.val b))) ρ2 => if atom b = true ∧ ρ2.length = ρ.length then .ok (.rt (.pl (.val b))) ((exE ρ ρ2).set i .un) else .stuck
      | _ => .stuck
    else .stuck
section
variable {X : Cx} {e : Expr} {st : Stmt} {sts rest : List Stmt} {pos pos' : Pos} {x : Str} {f g m k : M Fl} {fE : M D}
theorem pcut_nil : PCut X rest rest mSkip := ⟨tNext, fun u h => h, fun C G σ H ρ D hK S fl ρ' hf q => by cases hf; exact q σ G H (Same.refl _) S⟩
theorem pcut_cons (h : PSt X st f) (h2 : PCut X sts rest g) : PCut X (st :: sts) rest (mSeq f g) := by
  obtain ⟨t, h, r⟩ := h
  obtain ⟨u, h2, r2⟩ := h2
  refine ⟨tSeq t u, fun w hw => (show PSs X (st :: sts) (tSeq t (tSeq u w)) from pss_cons h (h2 w hw)), fun C G σ H ρ D hK S fl ρ' hf q => ?_⟩
  obtain ⟨f1, ρ1, h1, hf2⟩ := bnd_ok hf
  refine r C G σ H ρ _ hK S f1 ρ1 h1 fun σ1 G1 H1 g1 S1 => ?_
  cases f1 with
  | nx => exact r2 C G1 σ1 H1 ρ1 D hK S1 fl ρ' hf2 fun σ2 G2 H2 g2 S2 => q σ2 G2 H2 (g1.trans g2) S2
  | rt w => cases hf2; exact q σ1 G1 H1 g1 S1
  | bk => cases hf2; exact q σ1 G1 H1 g1 S1
  | ct => cases hf2; exact q σ1 G1 H1 g1 S1
theorem psts_junk {i : Nat} {js : List Nat} {j : D → Bool} {st2 : Stmt} (hN : X.N.Nodup) (h : PN X e fE) (hm : PCut X sts (st2 :: rest) m) (hj : PJ X i st2 js j) (hr : PSts X rest k)
    (hi : X.N[i]? = some x := by rfl) (hx : Loc X.env.scope x := by first | exact Or.inl rfl | exact Or.inr rfl) (hs : swapsWith e (some (.Name x pos')) pos.line X.env = pure false := by rfl)
    (hf : X.fn x = true ∨ X.env.scope.names.lookup x = some .local := by first | exact .inl rfl | exact .inr rfl | assumption) :
    PSts X (.Assign [.Name x pos'] e pos :: sts) (mJunk i fE m js j k) := by
  obtain ⟨te, h, r⟩ := h
  obtain ⟨tm, hm, rm⟩ := hm
  obtain ⟨tj, hj, rj⟩ := hj
  obtain ⟨tk, hr, rk⟩ := hr
  refine ⟨_, pss_cons (ps_set hN hi hx h hs hf) (hm _ (pss_cons hj hr)), fun C G σ H ρ D hK S fl ρ' hf q => ?_⟩
  unfold mJunk at hf
  cases hE : fE (ρ.map blkS) with
  | stuck => rw [hE] at hf; cases hf
  | ok d ρ1 =>
  rw [hE] at hf
  try simp only at hf
  by_cases hl : i < ρ1.length
  · rw [if_pos hl] at hf
    have S0 := blk_in S
    refine r (blkC C G H σ ρ) G σ H _ _ hK S0 d ρ1 hE fun v G1 H1 g1 S1 rn => ?_
    have S1' := told_in S1 hl (rn.mono cutN_same)
    show tSeq tm (tSeq tj tk) D (σ.set i (some v)) H1
    have hG1 : ∀ a, G1 a ≠ none → G a ≠ none ∨ H a = none := fun a z => S1.ga a z
    cases hm2 : m (ρ1.set i (.bor d)) with
    | stuck => rw [hm2] at hf; cases hf
    | ok f2 ρ2 =>
    rw [hm2] at hf
    try simp only at hf
    refine rm (toldC (blkC C G H σ ρ) G1 i v d) G1 _ H1 _ _ hK S1' f2 ρ2 hm2 fun σ2 G2 H2 g2 S2 => ?_
    cases f2 with
    | nx =>
      try simp only at hf
      cases hb : ρ2[i]? with
      | none => rw [hb] at hf; cases hf
      | some s2 =>
        rw [hb] at hf
        cases s2 with
        | bor d' =>
          try simp only at hf
          by_cases hj2 : j d = true ∧ ρ2.length = ρ.length ∧ js.all (fun k => decide (k < ρ2.length)) = true
          · rw [if_pos hj2] at hf
            obtain ⟨o, e1, w, rfl, hP, _⟩ := S2.sl i _ hb
            have hP' : (if i = i then some v else (σ[i]?).join) = some w := hP
            rw [if_pos rfl] at hP'
            cases hP'
            have rn2 : Rp (cutN (fun a => H a = none) G2) v d := rn.mono (cutN_mono g2)
            refine rj (fun a => H a = none) G2 σ2 H2 _ v d S2.gh (fun k hk => by rw [S2.len]; simpa using List.all_eq_true.mp hj2.2.2 k hk) e1 rn2 hj2.1 fun Hx σx J lx ax => ?_
            have S3 := blk_out S g1 hG1 S2 g2 J js lx (fun k hk _ => ax k hk) hj2.2.1
            exact rk C G σx Hx _ D hK S3 fl ρ' hf fun σ4 G4 H4 g4 S4 => q σ4 G4 H4 g4 S4
          · rw [if_neg hj2] at hf
            cases hf
        | _ => cases hf
    | bk => cases hf
    | ct => cases hf
    | rt w =>
      cases w with
      | fr d2 => cases hf
      | pl p =>
        cases p with
        | slot z => cases hf
        | val b =>
          try simp only at hf
          by_cases hb : atom b = true ∧ ρ2.length = ρ.length
          · rw [if_pos hb] at hf
            cases hf
            have S3 := blk_out S g1 hG1 S2 g2 Jk.refl [] rfl (fun k _ _ => rfl) hb.2
            have z := q σ2 G H2 (Same.refl _) S3
            intro u hu
            exact z u ((Rp.sh (Same.refl _) (show Rp G2 u b from hu)).atom hb.1 G)
          · rw [if_neg hb] at hf
            cases hf
  · rw [if_neg hl] at hf
    cases hf
end
/-! ### the statements -/
/-- arguments that are constants -/
def RdK (t : TA) : Prop := ∀ (σ : L2.St) (H : Hp) (Q : List V → Hp → Prop), (∀ v H', Same H H' → Q [v] H') → t σ H Q
def PKc (X : Cx) (es : List Expr) : Prop := ∃ t, PA X es t ∧ RdK t
section
variable {X : Cx} {e a b : Expr} {es : List Expr} {pos : Pos}
def RdK1 (t : TE) : Prop := ∀ (σ : L2.St) (H : Hp) (Q : VK), (∀ v H', Same H H' → Q v H') → t σ H Q
def PK (X : Cx) (e : Expr) : Prop := ∃ t, PE X e t ∧ RdK1 t
def PKA (X : Cx) (es : List Expr) (n : Nat) : Prop := ∃ t, PA X es t ∧ ∀ (σ : L2.St) (H : Hp) (Q : List V → Hp → Prop), (∀ vs H', vs.length = n → Same H H' → Q vs H') → t σ H Q
theorem pk_int {i : Int} {j : Nat} : PK X (.Constant (.int i) j pos) := ⟨_, pe_int, fun σ H Q q => q _ H (Same.refl _)⟩
theorem pk_non {j : Nat} : PK X (.Constant .none j pos) := ⟨_, pe_non, fun σ H Q q => q _ H (Same.refl _)⟩
theorem pk_bl {b : Bool} {j : Nat} : PK X (.Constant (.bool b) j pos) := ⟨_, pe_bl, fun σ H Q q => q _ H (Same.refl _)⟩
theorem pka_nil : PKA X [] 0 := ⟨_, pa_nil, fun σ H Q q => q [] H rfl (Same.refl _)⟩
theorem pka_cons {n : Nat} (h : PK X e) (hr : PKA X es n) (hs : starEach (e :: es) X.env = (false, eval e X.env) :: starEach es X.env := by rfl) : PKA X (e :: es) (n + 1) := by
  obtain ⟨t, h, r⟩ := h
  obtain ⟨u, hr, rr⟩ := hr
  refine ⟨_, pa_cons h hr hs, fun σ H Q q => ?_⟩
  refine r σ H _ fun v H1 g1 => ?_
  exact rr σ H1 _ fun vs H2 hl g2 => q _ H2 (by simp [hl]) (Same.trans g1 g2)
theorem pk_tup {x1} {n : Nat} (h : PKA X es n) (hn : n ≤ 100000 := by decide) : PK X (.Tuple es x1 pos) := by
  obtain ⟨t, h, r⟩ := h
  refine ⟨_, pe_tup h, fun σ H Q q => ?_⟩
  exact r σ H _ fun vs H1 hl g1 => ⟨by rw [hl]; exact line_of hn, fun p hp => q _ _ (Same.trans g1 (same_new hp))⟩
theorem pkc_one (h : PK X e) (hs : starEach [e] X.env = (false, eval e X.env) :: starEach [] X.env := by rfl) : PKc X [e] := by
  obtain ⟨t, h, r⟩ := h
  refine ⟨_, pa_cons h pa_nil hs, fun σ H Q q => ?_⟩
  exact r σ H _ fun v H1 g1 => q v H1 g1
end
/-- told[c], a list -/
def jAt (c : Nat) (d : D) : Bool := match d with
  | .list ds => match ds[c]? with
    | some (.list es) => decide (es.length < 100000)
    | _ => false
  | .tuple ds => match ds[c]? with
    | some (.list es) => decide (es.length < 100000)
    | _ => false
  | _ => false
section
variable {X : Cx} {e arg : Expr} {pos pos' p1 apos cpos sp : Pos} {x : Str} {i : Nat}
theorem jk_upd {N : Addr → Prop} {G H H' : Hp} {a : Addr} {o : HO} (g : Same H H') (hN : N a) (hG : G a ≠ none) : Jk N G H (upd H' a o) := ⟨fun b => by
  by_cases hb : b = a
  · subst hb
    exact .inr (.inl ⟨hN, hG, by rw [upd_same]; intro z; cases z⟩)
  · rw [upd_ne hb]
    cases z : H b with
    | none => exact .inr (.inr rfl)
    | some u => exact .inl (by rw [g _ _ z])⟩
theorem pj_app {c : Int} {jc : Nat} (n : Nat) (ha : PKc X [arg]) (hc : c = (n : Int) := by rfl) (hN : X.N[i]? = some x := by rfl) (hv : Vis X.env.scope x := by first | exact Or.inl rfl | exact Or.inr (Or.inl rfl) | exact Or.inr (Or.inr rfl)) (hd : (x == ("__debug__" : Str)) = false := by decide)
    (hcd : (x == ("__classdict__" : Str)) = false := by decide) (hpx : PlainIx (.Constant (.int c) jc p1) := by intro _ _; rfl)
    (hbase : attributeBase (.Subscript (.Name x pos') (.Constant (.int c) jc p1) sp) "append" X.env (eval (.Subscript (.Name x pos') (.Constant (.int c) jc p1) sp) X.env) = eval (.Subscript (.Name x pos') (.Constant (.int c) jc p1) sp) X.env := by rfl)
    (hfew : ((backTo cpos (starEach [arg] X.env)).all (fun x => !x.1) && (backToKw cpos (keywordEach [] X.env)).all (fun x => x.1.isSome)
      && decide (([arg] : List Expr).length + ([] : List Keyword).length + (if ([] : List Keyword).isEmpty then 0 else 1) < 30)) = true := by rfl)
    (hline : (apos.endLine == cpos.line) = true := by rfl) (hs : starEach [arg] X.env = (false, eval arg X.env) :: starEach [] X.env := by rfl) (hplain : (backTo cpos (starEach [] X.env)).any (·.1) = false := by rfl)
    (hsw : swapsWith (.Call (.Attribute (.Subscript (.Name x pos') (.Constant (.int c) jc p1) sp) "append" apos) [arg] [] cpos) none pos.line X.env = pure false := by rfl) :
    PJ X i (.Expr (.Call (.Attribute (.Subscript (.Name x pos') (.Constant (.int c) jc p1) sp) "append" apos) [arg] [] cpos) pos) [] (jAt n) := by
  obtain ⟨t, ha, ra⟩ := ha
  refine ⟨_, ps_expr (pe_bm PySem.F.plainAttrs_list PySem.F.slot_list_append PySem.F.type_list_append mt_append (pe_ix ix_seq (pe_var hN hv hd hcd) pe_int hpx) ha hbase hfew hline hs hplain) hsw, fun N G σ H D v d gh _ ev rn hj q => ?_⟩
  subst hc
  have core : ∀ (ds : List PL.D) (vs : List V) (es : List PL.D), RpA (cutN N G) vs ds → ds[n]? = some (.list es) → es.length < 100000 → ∀ (R : Hp → VK → Prop), True := fun _ _ _ _ _ _ _ => trivial
  have fin : ∀ (ds : List PL.D) (vs : List V) (es : List PL.D), RpA (cutN N G) vs ds → ds[n]? = some (.list es) → es.length < 100000 → ∃ w, atI vs (n : Int) = some w ∧ (tyV X.K "list" w H ∧ t σ H fun xs H2 => rAppend w xs H2 fun _ H3 => D.nx σ H3) := by
    intro ds vs es r hd hl
    obtain ⟨w, hw, rw1⟩ := r.get hd
    refine ⟨w, atI_nat hw, ?_⟩
    cases rw1 with
    | @lst a ys _ h1 h2 =>
      obtain ⟨hNa, hGa⟩ := cutN_lst h1
      have hHa := gh _ _ hGa
      refine ⟨.inl ⟨rfl, ys, .inl (.inl hHa)⟩, ?_⟩
      refine ra σ H _ fun u H' g => ?_
      exact ⟨a, ys, u, rfl, rfl, g _ _ hHa, by rw [h2.length]; exact line_lt hl, q _ σ (jk_upd g hNa (ne_none_of hGa)) rfl fun _ _ => rfl⟩
  refine ⟨v, ev, ?_⟩
  unfold jAt at hj
  cases rn with
  | @lst T xs ds h1 h2 =>
    simp only at hj
    split at hj
    · rename_i es hd
      obtain ⟨w, e1, e2⟩ := fin ds xs es h2 hd (by simpa using hj)
      exact .inl ⟨T, xs, (n : Int), w, rfl, rfl, .inl (.inl (gh _ _ (cutN_same _ _ h1))), e1, e2⟩
    · cases hj
  | @tup T xs ds h1 h2 =>
    simp only at hj
    split at hj
    · rename_i es hd
      obtain ⟨w, e1, e2⟩ := fin ds xs es h2 hd (by simpa using hj)
      exact .inr (.inl ⟨T, xs, (n : Int), w, rfl, rfl, .inl (.inl (gh _ _ (cutN_same _ _ h1))), e1, e2⟩)
    · cases hj
  | _ => cases hj
end
end PL
/-! PL31: for x in told: x.append(..); x.reverse() -/
namespace PL
open PySem PySem.Spec PyProof.Rows L2 RT RZ
mutual
theorem Rp.det {G : Hp} : ∀ {v : V} {d e : D}, Rp G v d → Rp G v e → d = e
  | _, _, _, .non, .non => rfl
  | _, _, _, .bl _, .bl _ => rfl
  | _, _, _, .int _, .int _ => rfl
  | _, _, _, .str _, .str _ => rfl
  | _, _, _, .lst h r, .lst h2 r2 => by rw [h] at h2; cases h2; rw [RpA.det r r2]
  | _, _, _, .lst h r, .tup h2 r2 => by rw [h] at h2; cases h2
  | _, _, _, .lst h r, .dct h2 r2 => by rw [h] at h2; cases h2
  | _, _, _, .tup h r, .lst h2 r2 => by rw [h] at h2; cases h2
  | _, _, _, .tup h r, .tup h2 r2 => by rw [h] at h2; cases h2; rw [RpA.det r r2]
  | _, _, _, .tup h r, .dct h2 r2 => by rw [h] at h2; cases h2
  | _, _, _, .dct h r, .lst h2 r2 => by rw [h] at h2; cases h2
  | _, _, _, .dct h r, .tup h2 r2 => by rw [h] at h2; cases h2
  | _, _, _, .dct h r, .dct h2 r2 => by rw [h] at h2; cases h2; rw [RpK.det r r2]
theorem RpA.det {G : Hp} : ∀ {vs : List V} {ds es : List D}, RpA G vs ds → RpA G vs es → ds = es
  | _, _, _, .nil, .nil => rfl
  | _, _, _, .cons h r, .cons h2 r2 => by rw [Rp.det h h2, RpA.det r r2]
theorem RpK.det {G : Hp} : ∀ {vs : List (Key × V)} {ds es : List (D × D)}, RpK G vs ds → RpK G vs es → ds = es
  | _, _, _, .nil, .nil => rfl
  | _, _, _, .cons h r, .cons h2 r2 => by rw [Rp.det h h2, RpK.det r r2]
end
/-- statements that change but the list x stands for -/
def RdB (jx n : Nat) (t : TS) : Prop := ∀ (Z : Ends) (σ : L2.St) (H : Hp) (a : Addr) (ys : List V), σ[jx]? = some (some (V.ref a)) → H a = some (.lst ys) → ys.length + n ≤ 100000 →
  (∀ (H' : Hp) (zs : List V), (∀ b, b ≠ a → H b ≠ none → H' b = H b) → H' a = some (.lst zs) → zs.length ≤ ys.length + n → Z.nx σ H') → t Z σ H
def PB (X : Cx) (jx n : Nat) (sts : List Stmt) : Prop := ∃ t, PSs X sts t ∧ RdB jx n t
section
variable {X : Cx} {arg e tg : Expr} {st : Stmt} {sts : List Stmt} {pos pos' p1 apos cpos tpos : Pos} {x y : Str} {i jx n : Nat}
theorem pb_nil : PB X jx 0 [] := ⟨_, pss_nil, fun Z σ H a ys ex hH hl q => q H ys (fun _ _ _ => rfl) hH (Nat.le_refl _)⟩
theorem pb_app (ha : PKc X [arg]) (hr : PB X jx n sts) (hN : X.N[jx]? = some x := by rfl) (hv : Vis X.env.scope x := by first | exact Or.inl rfl | exact Or.inr (Or.inl rfl) | exact Or.inr (Or.inr rfl)) (hd : (x == ("__debug__" : Str)) = false := by decide)
    (hcd : (x == ("__classdict__" : Str)) = false := by decide)
    (hbase : attributeBase (.Name x p1) "append" X.env (eval (.Name x p1) X.env) = eval (.Name x p1) X.env := by rfl)
    (hfew : ((backTo cpos (starEach [arg] X.env)).all (fun x => !x.1) && (backToKw cpos (keywordEach [] X.env)).all (fun x => x.1.isSome)
      && decide (([arg] : List Expr).length + ([] : List Keyword).length + (if ([] : List Keyword).isEmpty then 0 else 1) < 30)) = true := by rfl)
    (hline : (apos.endLine == cpos.line) = true := by rfl) (hs : starEach [arg] X.env = (false, eval arg X.env) :: starEach [] X.env := by rfl) (hplain : (backTo cpos (starEach [] X.env)).any (·.1) = false := by rfl)
    (hsw : swapsWith (.Call (.Attribute (.Name x p1) "append" apos) [arg] [] cpos) none pos.line X.env = pure false := by rfl) :
    PB X jx (n + 1) (.Expr (.Call (.Attribute (.Name x p1) "append" apos) [arg] [] cpos) pos :: sts) := by
  obtain ⟨t, ha, ra⟩ := ha
  obtain ⟨u, hr, rr⟩ := hr
  refine ⟨_, pss_cons (ps_expr (pe_bm PySem.F.plainAttrs_list PySem.F.slot_list_append PySem.F.type_list_append mt_append (pe_var hN hv hd hcd) ha hbase hfew hline hs hplain) hsw) hr, fun Z σ H a ys ex hH hl q => ?_⟩
  refine ⟨.ref a, ex, .inl ⟨rfl, ys, .inl (.inl hH)⟩, ?_⟩
  refine ra σ H _ fun w H1 g => ?_
  refine ⟨a, ys, w, rfl, rfl, g _ _ hH, line_lt (by omega), ?_⟩
  refine rr Z σ _ a (ys ++ [w]) ex upd_same (by simp; omega) fun H' zs k1 k2 k3 => q H' zs (fun b hb hn => ?_) k2 (by simp at k3; omega)
  have e1 : H1 b = H b := by
    cases z : H b with
    | none => exact absurd z hn
    | some o => exact g _ _ z
  rw [k1 b hb (by rw [upd_ne hb, e1]; exact hn), upd_ne hb, e1]
theorem pb_rev (hr : PB X jx n sts) (hN : X.N[jx]? = some x := by rfl) (hv : Vis X.env.scope x := by first | exact Or.inl rfl | exact Or.inr (Or.inl rfl) | exact Or.inr (Or.inr rfl)) (hd : (x == ("__debug__" : Str)) = false := by decide)
    (hcd : (x == ("__classdict__" : Str)) = false := by decide)
    (hbase : attributeBase (.Name x p1) "reverse" X.env (eval (.Name x p1) X.env) = eval (.Name x p1) X.env := by rfl)
    (hline : (apos.endLine == cpos.line) = true := by rfl) (hsw : swapsWith (.Call (.Attribute (.Name x p1) "reverse" apos) [] [] cpos) none pos.line X.env = pure false := by rfl) :
    PB X jx n (.Expr (.Call (.Attribute (.Name x p1) "reverse" apos) [] [] cpos) pos :: sts) := by
  obtain ⟨u, hr, rr⟩ := hr
  refine ⟨_, pss_cons (ps_expr (pe_bm0 PySem.F.plainAttrs_list PySem.F.slot_list_reverse PySem.F.type_list_reverse mt_reverse (pe_var hN hv hd hcd) hbase hline) hsw) hr, fun Z σ H a ys ex hH hl q => ?_⟩
  refine ⟨.ref a, ex, .inl ⟨rfl, ys, .inl (.inl hH)⟩, a, ys, rfl, rfl, hH, ?_⟩
  refine rr Z σ _ a ys.reverse ex upd_same (by simpa using hl) fun H' zs k1 k2 k3 => q H' zs (fun b hb hn => ?_) k2 (by simpa using k3)
  rw [k1 b hb (by rw [upd_ne hb]; exact hn), upd_ne hb]
/-- told, a list of lists -/
def jAll (n : Nat) (d : D) : Bool := match d with
  | .list ds => decide (ds.length ≤ 100) && ds.all fun e => match e with
    | .list es => decide (es.length + 100 * n ≤ 90000)
    | _ => false
  | _ => false
theorem pj_for (hp : PassesOwn (model X.prog X.w) X.A X.env X.xe) (hc : X.calm = true) (hb : PB X jx n sts) (hne : jx ≠ i) (hNd : X.N.Nodup) (hN : X.N[i]? = some x := by rfl) (hv : Vis X.env.scope x := by first | exact Or.inl rfl | exact Or.inr (Or.inl rfl) | exact Or.inr (Or.inr rfl)) (hd : (x == ("__debug__" : Str)) = false := by decide)
    (hcd : (x == ("__classdict__" : Str)) = false := by decide) (hNy : X.N[jx]? = some y := by rfl) (hly : Loc X.env.scope y := by first | exact Or.inl rfl | exact Or.inr rfl) (hfy : X.fn y = true ∨ X.env.scope.names.lookup y = some .local := by first | exact .inl rfl | exact .inr rfl | assumption)
    (hs : ∀ z, foldedSetIterable (.Name x p1) X.env z = pure z := by intro _; rfl) : PJ X i (.For (.Name y tpos) (.Name x p1) sts [] pos) [jx] (jAll n) := by
  obtain ⟨tb, hb, rb⟩ := hb
  refine ⟨_, ps_for hp hc (pi_seq (pe_var hN hv hd hcd)) (pg_name hNd hNy hly hfy) hb hs, fun N G σ H Z v d gh lj ev rn hj q => ?_⟩
  unfold jAll at hj
  cases rn with
  | @lst T xs ds h1 h2 =>
    simp only [Bool.and_eq_true, decide_eq_true_eq, List.all_eq_true] at hj
    obtain ⟨hl, hj⟩ := hj
    have hx := h2.length
    have hHT : H T = some (.lst xs) := gh _ _ (cutN_same _ _ h1)
    -- each item is a list that isn't T
    have item : ∀ k, k < xs.length → ∃ a ys, xs[k]? = some (V.ref a) ∧ N a ∧ G a = some (.lst ys) ∧ ys.length + 100 * n ≤ 90000 ∧ a ≠ T := by
      intro k hk
      have hw := List.getElem?_eq_getElem hk
      generalize xs[k] = w at hw
      obtain ⟨e, he, re⟩ := h2.get' hw
      have hm := hj e (List.mem_of_getElem? he)
      cases re with
      | @lst a ys es g1 g2 =>
        simp only [decide_eq_true_eq] at hm
        obtain ⟨hNa, hGa⟩ := cutN_lst g1
        refine ⟨a, ys, hw, hNa, hGa, by rw [g2.length]; exact hm, fun z => ?_⟩
        subst z
        have h3 : PyData.list es = PyData.list ds := Rp.det (.lst g1 g2) (.lst h1 h2)
        have hmem := List.mem_of_getElem? he
        rw [h3] at hmem
        have := List.sizeOf_lt_of_mem hmem
        simp at this
        omega
      | _ => cases hm
    have jl : jx < σ.length := lj jx (by simp)
    refine ⟨_, ev, T, rfl, .inl ⟨xs, .inl (.inl hHT), ?_⟩⟩
    refine ⟨fun m mm σ' H' => m + mm = xs.length ∧ σ'.length = σ.length ∧ (∀ k, k ∉ [jx] → σ'[k]? = σ[k]?) ∧ H' T = some (.lst xs) ∧ Jk N G H H' ∧ (∀ (k : Nat) (a : Addr), xs[k]? = some (V.ref a) → ∃ zs, H' a = some (.lst zs) ∧ zs.length + 100 * n ≤ 90000 + m * n),
      ⟨xs.length, by omega, rfl, fun _ _ => rfl, hHT, Jk.refl, fun k a ha => ?_⟩, fun m mm σ' H' ⟨hm, s1, s2, hT, J, hz⟩ => ?_⟩
    · obtain ⟨a', ys, e1, _, e3, e4, _⟩ := item k (List.getElem?_eq_some_iff.mp ha).1
      rw [ha] at e1; cases e1
      exact ⟨ys, gh _ _ e3, by omega⟩
    · by_cases hlt : m < xs.length
      · obtain ⟨a, ys, e1, e2, e3, e4, e5⟩ := item m hlt
        refine .inr ⟨⟨xs, _, .inl (.inl hT), e1⟩, fun σ3 H3 => σ3.length = σ.length ∧ (∀ k, k ∉ [jx] → σ3[k]? = σ[k]?) ∧ H3 T = some (.lst xs) ∧ Jk N G H H3 ∧ (∀ (k : Nat) (a : Addr), xs[k]? = some (V.ref a) → ∃ zs, H3 a = some (.lst zs) ∧ zs.length + 100 * n ≤ 90000 + (m + 1) * n),
          fun σ3 H3 ⟨r1, r2, r3, r4, r5⟩ => ⟨mm - 1, by omega, by omega, r1, r2, r3, r4, r5⟩, fun w H3 hy => ?_⟩
        obtain ⟨rfl, fy⟩ := hy
        have ew := fy xs (.inl (.inl hT))
        rw [e1] at ew
        cases ew
        obtain ⟨zs, hzs, hzl⟩ := hz m a e1
        have mn : m * n + n ≤ 100 * n := by
          have : (m + 1) * n ≤ 100 * n := Nat.mul_le_mul_right n (by omega)
          rw [Nat.succ_mul] at this
          exact this
        refine rb _ _ _ a zs (by rw [List.getElem?_set_self (by rw [s1]; exact jl)]) hzs (by omega) fun H4 us k1 k2 k3 => ⟨by rw [List.length_set]; exact s1, fun k hk => ?_, ?_, ⟨fun b => ?_⟩, fun k b hb => ?_⟩
        · have hkj : k ≠ jx := by simpa using hk
          rw [List.getElem?_set_ne (fun z => hkj z.symm)]
          exact s2 k hk
        · rw [k1 T (fun z => e5 z.symm) (by rw [hT]; intro z; cases z)]
          exact hT
        · by_cases hb : b = a
          · subst hb
            exact .inr (.inl ⟨e2, ne_none_of e3, by rw [k2]; intro z; cases z⟩)
          · rcases J.at_ b with z | ⟨z1, z2, z3⟩ | z
            · cases hHb : H b with
              | none => exact .inr (.inr rfl)
              | some o =>
                refine .inl ?_
                rw [k1 b hb (by rw [z, hHb]; intro y; cases y), z, hHb]
            · refine .inr (.inl ⟨z1, z2, ?_⟩)
              rw [k1 b hb z3]; exact z3
            · exact .inr (.inr z)
        · have sm : (m + 1) * n = m * n + n := Nat.succ_mul m n
          by_cases hba : b = a
          · subst hba
            exact ⟨us, k2, by omega⟩
          · obtain ⟨zs2, q1, q2⟩ := hz k b hb
            exact ⟨zs2, by rw [k1 b hba (by rw [q1]; intro y; cases y)]; exact q1, by omega⟩
      · have hme : m = xs.length := by omega
        exact .inl ⟨⟨xs, .inl (.inl hT), by omega⟩, q H' σ' J s1 s2⟩
  | _ => cases hj
end
end PL
/-! PL32: the same, for what is written without places. -/
namespace PL
open PySem PySem.Spec L2
section
variable {α β : Type} (ρ : Env) (d : D) (ds : List D)
@[simp] theorem q_mLstZ (f : M (List D)) : mLstZ f ρ = bnd f (fun ds => if ds.length ≤ 100000 then PL.ret (.list ds) else fun _ => .stuck) ρ := Eq.trans rfl rfl
@[simp] theorem q_mNew (ms : List Md) (nl : Nat) (body : M Fl) (fs : M (List Pl)) : mNew ms nl body fs ρ = bnd fs (fun ps => bnd (chkN ms ps) fun _ => mFz (callAt ms nl body ps)) ρ := Eq.trans rfl rfl
def rChk (ρ : Env) : Option Env → R Unit
  | some ss => if ss.all nolS = true then .ok () ρ else .stuck
  | none => .stuck
@[simp] theorem q_chkN (ms : List Md) (ps : List Pl) : chkN ms ps ρ = rChk ρ (argSs ρ ms ps) := by
  unfold chkN rChk
  cases argSs ρ ms ps <;> rfl
@[simp] theorem r_chk (ss : Env) : rChk ρ (some ss) = if ss.all nolS = true then .ok () ρ else .stuck := Eq.trans rfl rfl
@[simp] theorem q_nolS_v : nolS (.val d) = nol d := rfl
@[simp] theorem q_nolS_b : nolS (.bor d) = nolE d := rfl
@[simp] theorem q_nolS_i : nolS (.io d) = nolE d := rfl
@[simp] theorem q_nolS_s (ns : List Int) : nolS (.scr ns) = true := rfl
@[simp] theorem q_blk_v : blkS (.val d) = .bor d := rfl
@[simp] theorem q_blk_o : blkS (.own d) = .bor d := rfl
@[simp] theorem q_blk_i : blkS (.io d) = .bor d := rfl
@[simp] theorem q_blk_b : blkS (.bor d) = .bor d := rfl
@[simp] theorem q_blk_u : blkS .un = .un := rfl
@[simp] theorem q_blk_s (ns : List Int) : blkS (.scr ns) = .scr ns := rfl
@[simp] theorem q_blk_ov (g : Bool) : blkS (ovS g d) = .bor d := by cases g <;> rfl
@[simp] theorem q_exE_n : exE [] [] = [] := rfl
@[simp] theorem q_exE_c (s t : Sl) (ss ts : Env) : exE (s :: ss) (t :: ts) = exS s t :: exE ss ts := rfl
@[simp] theorem q_exS_b (s : Sl) : exS s (.bor d) = s := rfl
@[simp] theorem q_exS_u (s : Sl) : exS s .un = .un := rfl
@[simp] theorem q_exS_s (s : Sl) (ns : List Int) : exS s (.scr ns) = s := rfl
end
def gNolE (d : D) : Option Unit := if nolE d = true then some () else none
def gNol (d : D) : Option Unit := if nol d = true then some () else none
theorem gNolE_eq {d : D} {u : Unit} (h : gNolE d = some u) : nolE d = true := by
  unfold gNolE at h; split at h
  · assumption
  · cases h
theorem gNol_eq {d : D} {u : Unit} (h : gNol d = some u) : nol d = true := by
  unfold gNol at h; split at h
  · assumption
  · cases h
def jP (j : D → Bool) (d : D) : Option Unit := if j d = true then some () else none
theorem jP_eq {j : D → Bool} {d : D} {u : Unit} (h : jP j d = some u) : j d = true := by
  unfold jP at h; split at h
  · assumption
  · cases h
theorem run_junk {i : Nat} {fE : M D} {m k : M Fl} {js : List Nat} {j : D → Bool} {ρ ρb ρ1 : Env} {d : D} {Q : Fl → Env → Prop} (hb : ρ.map blkS = ρb) (hE : fE ρb = .ok d ρ1) (hl : i < ρ1.length)
    (hm : Run m (ρ1.set i (.bor d)) (fun fl ρ2 => (fl = .nx ∧ (∃ z, ρ2[i]? = some (.bor z)) ∧ j d = true ∧ ρ2.length = ρ.length ∧ js.all (fun k => decide (k < ρ2.length)) = true ∧ Run k (wipeE ((exE ρ ρ2).set i .un) js) Q) ∨
      (∃ b, fl = .rt (.pl (.val b)) ∧ atom b = true ∧ ρ2.length = ρ.length ∧ Q (.rt (.pl (.val b))) ((exE ρ ρ2).set i .un)))) : Run (mJunk i fE m js j k) ρ Q := by
  obtain ⟨fl, ρ2, e, q⟩ := hm
  rcases q with ⟨rfl, ⟨z, hz⟩, hj, h1, h2, fl', ρ', e', q'⟩ | ⟨b, rfl, ha, h1, q'⟩
  · refine ⟨fl', ρ', ?_, q'⟩
    unfold mJunk
    rw [hb, hE]
    simp only [hl, if_true, e, hz, hj, h1, true_and]
    rw [if_pos (by rw [← h1]; exact h2)]
    exact e'
  · refine ⟨_, _, ?_, q'⟩
    unfold mJunk
    rw [hb, hE]
    simp only [hl, if_true, e, ha, h1, true_and]
end PL
/-! (a, b, ..) = a list of that length -/
namespace L2
open PySem PySem.Spec PySem.Calls PyProof PyProof.Rows PySem.W
section
variable {X : Cx} {pos : Pos}
def gLstT (K : PySem.W.Frag) (n : Nat) (t : TGs) : TG := fun v σ H Q => ∃ a xs, v = .ref a ∧ SqL K H a xs ∧ xs.length = n ∧ t xs σ H Q
theorem pg_lstT {es : List Expr} {k : Nat} {t : TGs} {n : Nat} (hc : X.calm = true) (h : PGs X es t)
    (hn : (assignEach es X.env).length = n := by rfl) (hst : (assignEach es X.env).findIdx? (·.1) = none := by rfl) : PG X (.Tuple es k pos) (gLstT X.K n t) := by
  refine ⟨fun pins s σ H v u Q I r hw => ?_⟩
  obtain ⟨a, xs, e1, hq, hl, hw⟩ := hw
  subst e1
  cases r
  obtain ⟨its, rv, ht, hz⟩ := I.list hq
  have hlen : its.toArray.size = n := by rw [List.size_toArray, ← hl]; exact rv.length.symm
  rw [assign_Tuple]
  refine wpAny_bind (wpAny_standAt ?_)
  unfold unpack
  rw [hn, hst, ← hlen]
  refine wpAny_bind (wpAny_holding (PySem.W.kun_itemsOf (I.ok.hd hc) (let ⟨o, n, e, c, _, da⟩ := ht; ⟨o, e, c, n, da⟩) fun h' hx => ?_))
  have I1 : Inv X pins σ H { s with heap := h' } := I.kept (t' := s.toks) fun b o e => hx b o (Nat.ne_of_lt (Heap.lt_size e)) e
  exact h.run pins _ σ H xs _ Q I1 (by simpa using rv) hw
end
end L2
namespace PL
open PySem PySem.Spec L2
def tLst (u : List D → M Unit) : D → M Unit
  | .list ds => u ds
  | _ => fun _ => .stuck
section
variable {X : Cx} {es : List Expr} {pos : Pos}
theorem pgt_lst {n : Nat} {kk : Nat} {u : List D → M Unit} {ts : List Nat} (hc : X.calm = true) (h : PGts X es ts u) (hn : (assignEach es X.env).length = n := by rfl) (hl : ∀ ds ρ ρ', u ds ρ = .ok () ρ' → ds.length = n)
    (hst : (assignEach es X.env).findIdx? (·.1) = none := by rfl) : PGt X (.Tuple es kk pos) ts (tLst u) := by
  obtain ⟨g, h, r⟩ := h
  refine ⟨_, pg_lstT hc h hn hst, fun C G σ H ρ v d Q hK S rr ρ' hm q => ?_⟩
  cases rr with
  | @lst a xs ds ha hr => exact ⟨a, xs, rfl, Or.inl (Or.inl (S.gh _ _ ha)), by rw [hr.length]; exact hl ds ρ ρ' hm, r C G σ H ρ xs ds Q hK S hr ρ' hm q⟩
  | _ => cases hm
end
def lst2 : D → Option (D × D)
  | .list [a, b] => some (a, b)
  | _ => none
def lst3 : D → Option (D × D × D)
  | .list [a, b, c] => some (a, b, c)
  | _ => none
theorem lst2_eq {d a b : D} (h : lst2 d = some (a, b)) : d = .list [a, b] := by
  unfold lst2 at h
  split at h
  · cases h; rfl
  · cases h
theorem lst3_eq {d a b c : D} (h : lst3 d = some (a, b, c)) : d = .list [a, b, c] := by
  unfold lst3 at h
  split at h
  · cases h; rfl
  · cases h
@[simp] theorem q_tLst (u : List D → M Unit) (ds : List D) : tLst u (.list ds) = u ds := rfl
theorem tL2 {d a b : D} (h : lst2 d = some (a, b)) (u : List D → M Unit) : tLst u d = u [a, b] := by rw [lst2_eq h]; rfl
theorem tL3 {d a b c : D} (h : lst3 d = some (a, b, c)) (u : List D → M Unit) : tLst u d = u [a, b, c] := by rw [lst3_eq h]; rfl
end PL
namespace PL
open PySem PySem.Spec L2
/-! x in l, x not in l, of a list -/
def gIn (d e : D) : Option D := match e with
  | .list ds => if (SeqAt.shaped d && SeqAt.shaped (.list ds)) = true then some (.bool (ds.any fun z => PyData.eqv z d)) else none
  | _ => none
def gNotIn (d e : D) : Option D := match e with
  | .list ds => if (SeqAt.shaped d && SeqAt.shaped (.list ds)) = true then some (.bool (!ds.any fun z => PyData.eqv z d)) else none
  | _ => none
theorem pop_in {K : PySem.W.Frag} : POpV (rInD K) gIn := by
  intro G H x y d e z Q gh s1 s2 hg q
  unfold gIn at hg
  split at hg
  · rename_i ds
    by_cases h : (SeqAt.shaped d && SeqAt.shaped (.list ds)) = true
    · rw [if_pos h] at hg; cases hg
      rw [Bool.and_eq_true] at h
      exact ⟨d, ds, s1.dp gh (SeqAt.canLay_of_shaped h.1), s2.dp gh (SeqAt.canLay_of_shaped h.2), h.1, h.2, q _ G H (Grow.refl gh) (.bl _)⟩
    · rw [if_neg h] at hg; cases hg
  · cases hg
theorem pop_notIn {K : PySem.W.Frag} : POpV (rNotInD K) gNotIn := by
  intro G H x y d e z Q gh s1 s2 hg q
  unfold gNotIn at hg
  split at hg
  · rename_i ds
    by_cases h : (SeqAt.shaped d && SeqAt.shaped (.list ds)) = true
    · rw [if_pos h] at hg; cases hg
      rw [Bool.and_eq_true] at h
      exact ⟨d, ds, s1.dp gh (SeqAt.canLay_of_shaped h.1), s2.dp gh (SeqAt.canLay_of_shaped h.2), h.1, h.2, q _ G H (Grow.refl gh) (.bl _)⟩
    · rw [if_neg h] at hg; cases hg
  · cases hg
section
variable {X : Cx} {a b : Expr} {pos : Pos} {ga gb : M Pl}
theorem pt_in (hu : X.A.units + 65 < cLine) (ha : PP X a ga) (hb : PP X b gb) (hm : behindInMarks .In b = false := by rfl) : PTt X (.Compare a [.In] [b] pos) (mB (mOp gIn ga gb)) := pt_cmp' (op_inD hu) pop_in ha hb hm
theorem pt_notin (hu : X.A.units + 65 < cLine) (ha : PP X a ga) (hb : PP X b gb) (hm : behindInMarks .NotIn b = false := by rfl) : PTt X (.Compare a [.NotIn] [b] pos) (mB (mOp gNotIn ga gb)) := pt_cmp' (op_notInD hu) pop_notIn ha hb hm
theorem pv_in (hu : X.A.units + 65 < cLine) (ha : PP X a ga) (hb : PP X b gb) (hm : behindInMarks .In b = false := by rfl) : PV X (.Compare a [.In] [b] pos) (mOp gIn ga gb) := pv_cmp (op_inD hu) pop_in ha hb hm
theorem pv_notin (hu : X.A.units + 65 < cLine) (ha : PP X a ga) (hb : PP X b gb) (hm : behindInMarks .NotIn b = false := by rfl) : PV X (.Compare a [.NotIn] [b] pos) (mOp gNotIn ga gb) := pv_cmp (op_notInD hu) pop_notIn ha hb hm
end
end PL
namespace Y
open PySem PySem.Spec L2 PL RT RZ
def topS (i : Nat) : Stmt := PySem.Challenge.pw_boastrow_k10_never_comes_and_folds.main.body.getD i (.Pass ⟨0, 0, 0, 0⟩)
abbrev s_levelled : Stmt := topS 5
theorem sc_levelled : FnScope ["steps", "out", "c", "many"] ["steps"] (defScope s_levelled) := ⟨rfl, rfl, rfl, by decide +kernel, rfl, by decide +kernel, by decide +kernel⟩
abbrev s_added_up : Stmt := topS 6
theorem sc_added_up : FnScope ["changes", "many", "out", "c"] ["changes"] (defScope s_added_up) := ⟨rfl, rfl, rfl, by decide +kernel, rfl, by decide +kernel, by decide +kernel⟩
abbrev s_stretch_to : Stmt := topS 7
theorem sc_stretch_to : FnScope ["first", "beyond"] ["first", "beyond"] (defScope s_stretch_to) := ⟨rfl, rfl, rfl, by decide +kernel, rfl, by decide +kernel, by decide +kernel⟩
abbrev s_wish_behind : Stmt := topS 8
theorem sc_wish_behind : FnScope ["people", "wish", "least", "most"] ["people", "wish"] (defScope s_wish_behind) := ⟨rfl, rfl, rfl, by decide +kernel, rfl, by decide +kernel, by decide +kernel⟩
abbrev s_companies_within : Stmt := topS 9
theorem sc_companies_within : FnScope ["people", "saying", "least", "most", "first"] ["people", "saying"] (defScope s_companies_within) := ⟨rfl, rfl, rfl, by decide +kernel, rfl, by decide +kernel, by decide +kernel⟩
abbrev s_said_of_company : Stmt := topS 10
theorem sc_said_of_company : FnScope ["row", "place"] ["row"] (defScope s_said_of_company) := ⟨rfl, rfl, rfl, by decide +kernel, rfl, by decide +kernel, by decide +kernel⟩
abbrev s_changes_by : Stmt := topS 11
theorem sc_changes_by : FnScope ["stretches", "changes", "first", "last"] ["stretches"] (defScope s_changes_by) := ⟨rfl, rfl, rfl, by decide +kernel, rfl, by decide +kernel, by decide +kernel⟩
abbrev s_is_row : Stmt := topS 13
theorem sc_is_row : FnScope ["thing", "saying", "least", "most"] ["thing"] (defScope s_is_row) := ⟨rfl, rfl, rfl, by decide +kernel, rfl, by decide +kernel, by decide +kernel⟩
abbrev s_need_row : Stmt := topS 14
theorem sc_need_row : FnScope ["thing"] ["thing"] (defScope s_need_row) := ⟨rfl, rfl, rfl, by decide +kernel, rfl, by decide +kernel, by decide +kernel⟩
abbrev s_is_table : Stmt := topS 16
theorem sc_is_table : FnScope ["thing", "ahead", "level", "step", "c", "many"] ["thing"] (defScope s_is_table) := ⟨rfl, rfl, rfl, by decide +kernel, rfl, by decide +kernel, by decide +kernel⟩
abbrev s_is_rows : Stmt := topS 17
theorem sc_is_rows : FnScope ["thing", "ahead", "_", "many"] ["thing"] (defScope s_is_rows) := ⟨rfl, rfl, rfl, by decide +kernel, rfl, by decide +kernel, by decide +kernel⟩
abbrev s_need_rows_table : Stmt := topS 18
theorem sc_need_rows_table : FnScope ["thing"] ["thing"] (defScope s_need_rows_table) := ⟨rfl, rfl, rfl, by decide +kernel, rfl, by decide +kernel, by decide +kernel⟩
abbrev s_table_of : Stmt := topS 19
theorem sc_table_of : FnScope ["row", "said", "stretch"] ["row"] (defScope s_table_of) := ⟨rfl, rfl, rfl, by decide +kernel, rfl, by decide +kernel, by decide +kernel⟩
abbrev s_never_comes : Stmt := topS 20
theorem sc_never_comes : FnScope ["table", "out", "ahead", "c", "many"] ["table"] (defScope s_never_comes) := ⟨rfl, rfl, rfl, by decide +kernel, rfl, by decide +kernel, by decide +kernel⟩
abbrev s_folds : Stmt := topS 21
theorem sc_folds : FnScope ["table", "out", "ahead", "c", "many", "begun"] ["table"] (defScope s_folds) := ⟨rfl, rfl, rfl, by decide +kernel, rfl, by decide +kernel, by decide +kernel⟩
abbrev s_l_tin : Stmt := topS 23
theorem sc_l_tin : FnScope ["_law_script", "_law_k", "_law_cell"] ["_law_script", "_law_k"] (defScope s_l_tin) := ⟨rfl, rfl, rfl, by decide +kernel, rfl, by decide +kernel, by decide +kernel⟩
abbrev s_l_deal : Stmt := topS 24
theorem sc_l_deal : FnScope ["_law_tin_here", "_law_wide", "_law_found", "_law_mixed"] ["_law_tin_here", "_law_wide"] (defScope s_l_deal) := ⟨rfl, rfl, rfl, by decide +kernel, rfl, by decide +kernel, by decide +kernel⟩
abbrev s_l_said : Stmt := topS 25
theorem sc_l_said : FnScope ["_law_tin_here", "_law_wide", "_law_least", "_law_beyond", "_law_some"] ["_law_tin_here", "_law_wide"] (defScope s_l_said) := ⟨rfl, rfl, rfl, by decide +kernel, rfl, by decide +kernel, by decide +kernel⟩
abbrev s_l_walk : Stmt := topS 26
theorem sc_l_walk : FnScope ["_law_crew", "_law_crowd", "_law_ears", "_law_sure", "_law_least", "_law_most"] ["_law_crew", "_law_crowd"] (defScope s_l_walk) := ⟨rfl, rfl, rfl, by decide +kernel, rfl, by decide +kernel, by decide +kernel⟩
abbrev s_l_alike : Stmt := topS 27
theorem sc_l_alike : FnScope ["_law_found", "_law_due_here", "_law_mine", "_law_other"] ["_law_found", "_law_due_here"] (defScope s_l_alike) := ⟨rfl, rfl, rfl, by decide +kernel, rfl, by decide +kernel, by decide +kernel⟩
abbrev s_l_near_crew : Stmt := topS 28
theorem sc_l_near_crew : FnScope ["_law_tin_here", "_law_found", "_law_wide", "_law_k"] ["_law_tin_here"] (defScope s_l_near_crew) := ⟨rfl, rfl, rfl, by decide +kernel, rfl, by decide +kernel, by decide +kernel⟩
abbrev s_l_stretched : Stmt := topS 29
theorem sc_l_stretched : FnScope ["_law_numbers", "_law_found", "_law_number"] ["_law_numbers"] (defScope s_l_stretched) := ⟨rfl, rfl, rfl, by decide +kernel, rfl, by decide +kernel, by decide +kernel⟩
abbrev s_l_due : Stmt := topS 30
theorem sc_l_due : FnScope ["_law_crew", "_law_sums", "_law_missed", "_law_folded", "_law_crowd", "_law_number"] ["_law_crew"] (defScope s_l_due) := ⟨rfl, rfl, rfl, by decide +kernel, rfl, by decide +kernel, by decide +kernel⟩
abbrev s_l_moved : Stmt := topS 31
theorem sc_l_moved : FnScope ["_law_rows", "_law_by", "_law_begun", "_law_end"] ["_law_rows", "_law_by"] (defScope s_l_moved) := ⟨rfl, rfl, rfl, by decide +kernel, rfl, by decide +kernel, by decide +kernel⟩
abbrev s_l_counted : Stmt := topS 32
theorem sc_l_counted : FnScope ["_law_rows", "_law_begun", "_law_end"] ["_law_rows"] (defScope s_l_counted) := ⟨rfl, rfl, rfl, by decide +kernel, rfl, by decide +kernel, by decide +kernel⟩
abbrev s_law : Stmt := topS 33
theorem sc_law : FnScope ["_law_script", "_law_k", "_law_tin_here", "_law_crew", "_law_due_here", "_law_by", "_law_far", "_law_least", "_law_most", "_law_endless", "_law_some", "_law_more", "_law_steps_told", "_law_rows", "_law_told", "_law_counts", "_law_part", "_law_claim"] ["_law_script"] (defScope s_law) := ⟨rfl, rfl, rfl, by decide +kernel, rfl, by decide +kernel, by decide +kernel⟩
def mb_levelled_1 : M Fl := (mIf (mOr (mNot (mTr (mVar 1))) (mB (mOp gNe (mPl (mOp gIx (mPl (mOp gIx (mVar 1) (mPl (mNegU (mC (.int 1)))))) (mPl (mC (.int 1))))) (mVar 3)))) (mDrop (mMut 1 gAppend (mCons (mTup (mCons (mFz (mRv (mVar 2))) (mCons (mFz (mRv (mVar 3))) mNil))) mNil))) mSkip)
def m_levelled : M Fl := (mSeq (mSet 1 (mLst mNil))
    (mSeq (mFor (mIter (mVar 0)) (tTupl (tsCons (tName 2) (tsCons (tName 3) tsNil))) mb_levelled_1)
    (mRet (mRv (mVar 1)))))
def mb_added_up_1 : M Fl := (mIf (mB (mOp gGt (mVar 3) (mPl (mC (.int 0))))) (mSeq (mAug 1 gAddI (mPl (mOp gIxA (mVar 0) (mVar 3))))
    (mDrop (mMut 2 gAppend (mCons (mTup (mCons (mFz (mRv (mVar 3))) (mCons (mFz (mRv (mVar 1))) mNil))) mNil)))) mSkip)
def m_added_up : M Fl := (mSeq (mSet 1 (mRv (mPl (mGet2 (mVar 0) (mC (.int 0)) (mC (.int 0))))))
    (mSeq (mSet 2 (mLst (mCons (mTup (mCons (mC (.int 0)) (mCons (mFz (mRv (mVar 1))) mNil))) mNil)))
    (mSeq (mFor (mIter (mPl (mFz (mFr (mN gSortedA (mCons (mVar 0) mNil)))))) (tName 3) mb_added_up_1)
    (mRet (mCall [.b] 3 m_levelled (mCons (mVar 2) mNil))))))
def m_stretch_to : M Fl := (mSeq (mIf (mB (mOp gIs (mVar 1) (mPl (mC .none)))) (mRet (mRv (mPl (mTup (mCons (mFz (mRv (mVar 0))) (mCons (mC .none) mNil)))))) mSkip)
    (mSeq (mIf (mB (mOp gLe (mVar 1) (mVar 0))) (mRet (mRv (mPl (mC .none)))) mSkip)
    (mRet (mRv (mPl (mTup (mCons (mFz (mRv (mVar 0))) (mCons (mOp gSub' (mVar 1) (mPl (mC (.int 1)))) mNil))))))))
def mb_wish_behind_1 : M Fl := (mIf (mAnd (mB (mOp gLt (mVar 2) (mVar 1))) (mOr (mB (mOp gIs (mVar 3) (mPl (mC .none)))) (mB (mOp gLe (mVar 1) (mPl (mFz (mOpX gAdd (mVar 3) (mPl (mC (.int 1)))))))))) (mAug 1 gSub' (mPl (mC (.int 1)))) mSkip)
def m_wish_behind : M Fl := (mSeq (mFor (mIter (mVar 0)) (tTupl (tsCons (tName 2) (tsCons (tName 3) tsNil))) mb_wish_behind_1)
    (mRet (mRv (mVar 1))))
def m_companies_within : M Fl := (mSeq (mAsg (tTupl (tsCons (tName 2) (tsCons (tName 3) tsNil))) (mFz (mRv (mVar 1))))
    (mSeq (mSet 4 (mCall [.b, .v] 2 m_wish_behind (mCons (mVar 0) (mCons (mPl (mFz (mRv (mVar 2)))) mNil))))
    (mSeq (mIf (mB (mOp gIs (mVar 3) (mPl (mC .none)))) (mRet (mCall [.v, .b] 0 m_stretch_to (mCons (mPl (mFz (mRv (mVar 4)))) (mCons (mPl (mC .none)) mNil)))) mSkip)
    (mRet (mCall [.v, .b] 0 m_stretch_to (mCons (mPl (mFz (mRv (mVar 4)))) (mCons (mPl (mFz (mCall [.b, .v] 2 m_wish_behind (mCons (mVar 0) (mCons (mPl (mFz (mOpX gAdd (mVar 3) (mPl (mC (.int 1)))))) mNil))))) mNil)))))))
def m_said_of_company : M Fl := (mRet (mLc (mRng1 (mN gLen (mCons (mVar 0) mNil))) (tName 1) [1] mYes (mFz (mCall [.b, .v] 3 m_companies_within (mCons (mSliceP (mVar 0) (some (mFz (mOpX gAdd (mVar 1) (mPl (mC (.int 1)))))) none) (mCons (mPl (mOp gIx (mVar 0) (mVar 1))) mNil))))))
def mb_changes_by_1 : M Fl := (mSeq (mDPut 1 (mFz (mOpX gAdd (mPl (mGet2 (mVar 1) (mFz (mRv (mVar 2))) (mC (.int 0)))) (mPl (mC (.int 1))))) (mFz (mRv (mVar 2))))
    (mIf (mB (mOp gNot (mVar 3) (mPl (mC .none)))) (mDPut 1 (mOp gSub' (mPl (mGet2 (mVar 1) (mFz (mOpX gAdd (mVar 3) (mPl (mC (.int 1))))) (mC (.int 0)))) (mPl (mC (.int 1)))) (mFz (mOpX gAdd (mVar 3) (mPl (mC (.int 1)))))) mSkip))
def m_changes_by : M Fl := (mSeq (mSet 1 (mFr mDict0))
    (mSeq (mFor (mIter (mVar 0)) (tTupl (tsCons (tName 2) (tsCons (tName 3) tsNil))) mb_changes_by_1)
    (mRet (mRv (mVar 1)))))
def mb_is_row_1 : M Fl := (mSeq (mIf (mOr (mNot (mTr (mPl (mUn (gIsi ["tuple"]) (mVar 1))))) (mB (mOp gNe (mPl (mN gLen (mCons (mVar 1) mNil))) (mPl (mC (.int 2)))))) (mRet (mRv (mPl (mC (.bool false))))) mSkip)
    (mSeq (mAsg (tTupl (tsCons (tName 2) (tsCons (tName 3) tsNil))) (mFz (mRv (mVar 1))))
    (mSeq (mIf (mOr (mNot (mTr (mPl (mUn (gIsi ["int"]) (mVar 2))))) (mOr (mB (mOp gLt (mVar 2) (mPl (mC (.int 0))))) (mOr (mB (mOp gIs (mVar 2) (mPl (mC (.bool true))))) (mB (mOp gIs (mVar 2) (mPl (mC (.bool false)))))))) (mRet (mRv (mPl (mC (.bool false))))) mSkip)
    (mIf (mAnd (mB (mOp gNot (mVar 3) (mPl (mC .none)))) (mOr (mNot (mTr (mPl (mUn (gIsi ["int"]) (mVar 3))))) (mOr (mB (mOp gLt (mVar 3) (mVar 2))) (mOr (mB (mOp gIs (mVar 3) (mPl (mC (.bool true))))) (mB (mOp gIs (mVar 3) (mPl (mC (.bool false))))))))) (mRet (mRv (mPl (mC (.bool false))))) mSkip))))
def m_is_row : M Fl := (mSeq (mIf (mNot (mTr (mPl (mUn (gIsi ["list", "tuple"]) (mVar 0))))) (mRet (mRv (mPl (mC (.bool false))))) mSkip)
    (mSeq (mFor (mIter (mVar 0)) (tName 1) mb_is_row_1)
    (mRet (mRv (mPl (mC (.bool true)))))))
def m_need_row : M Fl := (mIf (mNot (mTr (mPl (mFz (mCall [.b] 3 m_is_row (mCons (mVar 0) mNil)))))) mNever mSkip)
def mb_is_table_1 : M Fl := (mSeq (mIf (mOr (mNot (mTr (mPl (mUn (gIsi ["tuple"]) (mVar 3))))) (mB (mOp gNe (mPl (mN gLen (mCons (mVar 3) mNil))) (mPl (mC (.int 2)))))) (mRet (mRv (mPl (mC (.bool false))))) mSkip)
    (mSeq (mAsg (tTupl (tsCons (tName 4) (tsCons (tName 5) tsNil))) (mFz (mRv (mVar 3))))
    (mSeq (mIf (mOr (mNot (mTr (mPl (mUn (gIsi ["int"]) (mVar 4))))) (mOr (mB (mOp gLe (mVar 4) (mVar 1))) (mOr (mB (mOp gIs (mVar 4) (mPl (mC (.bool true))))) (mB (mOp gIs (mVar 4) (mPl (mC (.bool false)))))))) (mRet (mRv (mPl (mC (.bool false))))) mSkip)
    (mSeq (mIf (mOr (mNot (mTr (mPl (mUn (gIsi ["int"]) (mVar 5))))) (mOr (mB (mOp gLt (mVar 5) (mPl (mC (.int 0))))) (mOr (mB (mOp gEq (mVar 5) (mVar 2))) (mOr (mB (mOp gIs (mVar 5) (mPl (mC (.bool true))))) (mB (mOp gIs (mVar 5) (mPl (mC (.bool false))))))))) (mRet (mRv (mPl (mC (.bool false))))) mSkip)
    (mSeq (mSet 1 (mRv (mPl (mFz (mRv (mVar 4))))))
    (mSet 2 (mRv (mPl (mFz (mRv (mVar 5)))))))))))
def m_is_table : M Fl := (mSeq (mIf (mOr (mNot (mTr (mPl (mUn (gIsi ["list"]) (mVar 0))))) (mNot (mTr (mVar 0)))) (mRet (mRv (mPl (mC (.bool false))))) mSkip)
    (mSeq (mSet 1 (mRv (mPl (mNegU (mC (.int 1))))))
    (mSeq (mSet 2 (mRv (mPl (mC .none))))
    (mSeq (mFor (mIter (mVar 0)) (tName 3) mb_is_table_1)
    (mRet (mRv (mPl (mOp gEq (mPl (mOp gIx (mPl (mOp gIx (mVar 0) (mPl (mC (.int 0))))) (mPl (mC (.int 0))))) (mPl (mC (.int 0)))))))))))
def mb_is_rows_1 : M Fl := (mSeq (mIf (mB (mOp gLt (mVar 3) (mPl (mOp gSub' (mVar 1) (mPl (mC (.int 1))))))) (mRet (mRv (mPl (mC (.bool false))))) mSkip)
    (mSet 1 (mRv (mPl (mFz (mRv (mVar 3)))))))
def m_is_rows : M Fl := (mSeq (mIf (mNot (mTr (mPl (mFz (mCall [.b] 5 m_is_table (mCons (mVar 0) mNil)))))) (mRet (mRv (mPl (mC (.bool false))))) mSkip)
    (mSeq (mSet 1 (mRv (mPl (mC (.int 0)))))
    (mSeq (mFor (mIter (mVar 0)) (tTupl (tsCons (tName 2) (tsCons (tName 3) tsNil))) mb_is_rows_1)
    (mRet (mRv (mPl (mC (.bool true))))))))
def m_need_rows_table : M Fl := (mIf (mNot (mTr (mPl (mFz (mCall [.b] 3 m_is_rows (mCons (mVar 0) mNil)))))) mNever mSkip)
def m_table_of : M Fl := (mSeq (mDrop (mFz (mCall [.b] 0 m_need_row (mCons (mVar 0) mNil))))
    (mSeq (mSet 1 (mCall [.b] 1 m_said_of_company (mCons (mVar 0) mNil)))
    (mRet (mCall [.b] 3 m_added_up (mCons (mPl (mFz (mCall [.b] 3 m_changes_by (mCons (mPl (mFz (mLc (mIter (mPl (mFz (mRv (mVar 1))))) (tName 2) [2] (mB (mOp gNot (mVar 2) (mPl (mC .none)))) (mFz (mRv (mVar 2)))))) mNil)))) mNil)))))
def mb_never_comes_1 : M Fl := (mSeq (mIf (mB (mOp gGt (mVar 4) (mVar 2))) (mDrop (mMut 1 gAppend (mCons (mTup (mCons (mFz (mOpX gAdd (mVar 3) (mVar 2))) (mCons (mOp gSub' (mPl (mFz (mOpX gAdd (mVar 3) (mVar 4)))) (mPl (mC (.int 1)))) mNil))) mNil))) mSkip)
    (mSet 2 (mRv (mPl (mFz (mRv (mVar 4)))))))
def m_never_comes : M Fl := (mSeq (mDrop (mFz (mCall [.b] 0 m_need_rows_table (mCons (mVar 0) mNil))))
    (mSeq (mSet 1 (mLst mNil))
    (mSeq (mSet 2 (mRv (mPl (mC (.int 0)))))
    (mSeq (mFor (mIter (mVar 0)) (tTupl (tsCons (tName 3) (tsCons (tName 4) tsNil))) mb_never_comes_1)
    (mRet (mRv (mVar 1)))))))
def mb_folds_1 : M Fl := (mSeq (mIf (mB (mOp gLt (mVar 4) (mVar 2))) (mSeq (mSet 5 (mRv (mPl (mOp gSub' (mVar 3) (mPl (mC (.int 1)))))))
    (mSeq (mIf (mAnd (mTr (mVar 1)) (mB (mOp gEq (mPl (mOp gIx (mPl (mOp gIx (mVar 1) (mPl (mNegU (mC (.int 1)))))) (mPl (mC (.int 1))))) (mPl (mOp gSub' (mVar 3) (mPl (mC (.int 2)))))))) (mSet 5 (mRv (mPl (mOp gIx (mPl (mMut 1 gPop mNil)) (mPl (mC (.int 0))))))) mSkip)
    (mDrop (mMut 1 gAppend (mCons (mTup (mCons (mFz (mRv (mVar 5))) (mCons (mOp gSub' (mVar 3) (mPl (mC (.int 1)))) mNil))) mNil))))) mSkip)
    (mSet 2 (mRv (mPl (mFz (mRv (mVar 4)))))))
def m_folds : M Fl := (mSeq (mDrop (mFz (mCall [.b] 0 m_need_rows_table (mCons (mVar 0) mNil))))
    (mSeq (mSet 1 (mLst mNil))
    (mSeq (mSet 2 (mRv (mPl (mC (.int 0)))))
    (mSeq (mFor (mIter (mVar 0)) (tTupl (tsCons (tName 3) (tsCons (tName 4) tsNil))) mb_folds_1)
    (mRet (mRv (mVar 1)))))))
def m_l_tin : M Fl := (mSeq (mSet 2 (mRv (mPl (mC (.int 0)))))
    (mSeq (mIf (mB (mOp gLt (mVar 1) (mPl (mLenS 0)))) (mSet 2 (mRv (mPl (mIxS 0 (mFz (mRv (mVar 1))))))) mSkip)
    (mRet (mLst (mCons (mN gMax2 (mCons (mPl (mC (.int 0))) (mCons (mPl (mOp gSub' (mPl (mN gAbs (mCons (mVar 2) mNil))) (mPl (mOp gPow (mPl (mC (.int 10))) (mPl (mC (.int 18))))))) mNil))) (mCons (mFz (mOpX gAdd (mPl (mFz (mOpX gMul (mPl (mOp gMod (mVar 2) (mPl (mFz (mOpX gAdd (mPl (mOp gPow (mPl (mC (.int 10))) (mPl (mC (.int 37))))) (mPl (mC (.int 43)))))))) (mPl (mC (.int 64)))))) (mVar 1))) (mCons (mC (.int 0)) mNil)))))))
def m_l_deal : M Fl := (mSeq (mIf (mB (mOp gGt (mPl (mOp gIx (mVar 0) (mPl (mC (.int 0))))) (mPl (mC (.int 0))))) (mSeq (mSet 2 (mRv (mPl (mOp gMod (mPl (mOp gIx (mVar 0) (mPl (mC (.int 0))))) (mVar 1)))))
    (mSeq (mSetIx 0 (mOp gDiv (mPl (mOp gIx (mVar 0) (mPl (mC (.int 0))))) (mVar 1)) (mC (.int 0)))
    (mRet (mRv (mVar 2))))) mSkip)
    (mSeq (mSetIx 0 (mFz (mOpX gAdd (mPl (mOp gIx (mVar 0) (mPl (mC (.int 2))))) (mPl (mC (.int 1))))) (mC (.int 2)))
    (mSeq (mSet 3 (mRv (mPl (mOp gMod (mPl (mOp gPow (mPl (mFz (mOpX gAdd (mPl (mOp gIx (mVar 0) (mPl (mC (.int 1))))) (mPl (mFz (mOpX gMul (mPl (mC (.int 9576890767))) (mPl (mOp gIx (mVar 0) (mPl (mC (.int 2))))))))))) (mPl (mC (.int 3))))) (mPl (mFz (mOpX gAdd (mPl (mOp gPow (mPl (mC (.int 10))) (mPl (mC (.int 38))))) (mPl (mC (.int 133))))))))))
    (mSeq (mSet 3 (mRv (mPl (mOp gMod (mPl (mOp gPow (mPl (mFz (mOpX gAdd (mVar 3) (mPl (mFz (mOpX gMul (mPl (mC (.int 32452843))) (mPl (mOp gIx (mVar 0) (mPl (mC (.int 2))))))))))) (mPl (mC (.int 5))))) (mPl (mFz (mOpX gAdd (mPl (mOp gPow (mPl (mC (.int 10))) (mPl (mC (.int 40))))) (mPl (mC (.int 121))))))))))
    (mRet (mRv (mPl (mOp gMod (mPl (mOp gDiv (mVar 3) (mPl (mC (.int 65536))))) (mVar 1)))))))))
def m_l_said : M Fl := (mSeq (mSet 2 (mCall [.io, .b] 2 m_l_deal (mCons (mVar 0) (mCons (mVar 1) mNil))))
    (mSeq (mSet 3 (mOpX gAdd (mVar 2) (mPl (mFz (mCall [.io, .b] 2 m_l_deal (mCons (mVar 0) (mCons (mVar 1) mNil)))))))
    (mSeq (mSet 4 (mLst (mCons (mTup (mCons (mFz (mRv (mVar 2))) (mCons (mC .none) mNil))) (mCons (mTup (mCons (mFz (mRv (mVar 2))) (mCons (mFz (mRv (mVar 2))) mNil))) (mCons (mTup (mCons (mC (.int 0)) (mCons (mFz (mRv (mVar 2))) mNil))) (mCons (mTup (mCons (mFz (mRv (mVar 2))) (mCons (mFz (mRv (mVar 3))) mNil))) (mCons (mTup (mCons (mC (.int 0)) (mCons (mC .none) mNil))) mNil)))))))
    (mRet (mRv (mPl (mOp gIx (mVar 4) (mPl (mOp gMod (mPl (mFz (mCall [.io, .b] 2 m_l_deal (mCons (mVar 0) (mCons (mPl (mC (.int 10))) mNil))))) (mPl (mC (.int 5))))))))))))
def mb_l_walk_1 : M Fl := (mSeq (mDrop (mMut 2 gAppend (mCons (mFz (mRv (mVar 1))) mNil)))
    (mSeq (mDrop (mMut 3 gAppend (mCons (mAndV (mOp gLe (mVar 4) (mVar 1)) (mOrV (mOp gIs (mVar 5) (mPl (mC .none))) (mOp gLe (mVar 1) (mVar 5)))) mNil)))
    (mSet 1 (mOpX gAdd (mVar 1) (mPl (mN gInt1 (mCons (mPl (mOp gIx (mVar 3) (mPl (mNegU (mC (.int 1)))))) mNil)))))))
def m_l_walk : M Fl := (mSeq (mSet 2 (mLst mNil))
    (mSeq (mSet 3 (mLst mNil))
    (mSeq (mFor (mIter (mPl (mFz (mFr (mUn gRevs (mVar 0)))))) (tTupl (tsCons (tName 4) (tsCons (tName 5) tsNil))) mb_l_walk_1)
    (mRet (mLst (mCons (mFz (mFr (mUn gRevs (mVar 2)))) (mCons (mFz (mFr (mUn gRevs (mVar 3)))) mNil)))))))
def m_l_alike : Nat → M Fl
  | 0 => mNever
  | n + 1 => (mSeq (mIf (mTr (mPl (mUn (gIsi ["list", "tuple"]) (mVar 1)))) (mSeq (mIf (mOr (mB (mOp gNe (mPl (mUn (gIsi ["list"]) (mVar 0))) (mPl (mUn (gIsi ["list"]) (mVar 1))))) (mNot (mTr (mPl (mUn (gIsi ["list", "tuple"]) (mVar 0)))))) (mRet (mRv (mPl (mC (.bool false))))) mSkip)
    (mSeq (mIf (mB (mOp gNe (mPl (mN gLen (mCons (mVar 0) mNil))) (mPl (mN gLen (mCons (mVar 1) mNil))))) (mRet (mRv (mPl (mC (.bool false))))) mSkip)
    (mRet (mRv (mPl (mN gAll (mCons (mPl (mFz (mLc (mZip (mVar 0) (mVar 1)) (tTupl (tsCons (tName 2) (tsCons (tName 3) tsNil))) [2, 3] mYes (mFz (mCall [.b, .b] 2 (m_l_alike n) (mCons (mVar 2) (mCons (mVar 3) mNil))))))) mNil))))))) mSkip)
    (mSeq (mIf (mB (mOp gIs (mVar 1) (mPl (mC .none)))) (mRet (mRv (mPl (mOp gIs (mVar 0) (mPl (mC .none)))))) mSkip)
    (mSeq (mIf (mTr (mPl (mUn (gIsi ["bool", "str"]) (mVar 1)))) (mRet (mRv (mPl (mAndV (mOp gEq (mPl (mUn (gIsi ["bool"]) (mVar 0))) (mPl (mUn (gIsi ["bool"]) (mVar 1)))) (mOp gEq (mVar 0) (mVar 1)))))) mSkip)
    (mRet (mRv (mPl (mAndV (mUn (gIsi ["int"]) (mVar 0)) (mAndV (mNotV (mUn (gIsi ["bool"]) (mVar 0))) (mOp gEq (mVar 0) (mVar 1))))))))))
def mb_l_near_crew_1 : M Fl := (mDrop (mMut 1 gAppend (mCons (mFz (mCall [.io, .b] 3 m_l_said (mCons (mVar 0) (mCons (mVar 2) mNil)))) mNil)))
def m_l_near_crew : M Fl := (mSeq (mSet 1 (mLst mNil))
    (mSeq (mSet 2 (mRv (mPl (mOp gIx (mPl (mFz (mLst (mCons (mC (.int 2)) (mCons (mC (.int 4)) (mCons (mC (.int 12)) mNil)))))) (mPl (mFz (mCall [.io, .b] 2 m_l_deal (mCons (mVar 0) (mCons (mPl (mC (.int 3))) mNil)))))))))
    (mSeq (mFor (mRng1 (mOp gIx (mPl (mFz (mLst (mCons (mFz (mCall [.io, .b] 2 m_l_deal (mCons (mVar 0) (mCons (mPl (mC (.int 5))) mNil)))) (mCons (mFz (mCall [.io, .b] 2 m_l_deal (mCons (mVar 0) (mCons (mPl (mC (.int 21))) mNil)))) mNil))))) (mPl (mFz (mCall [.io, .b] 2 m_l_deal (mCons (mVar 0) (mCons (mPl (mC (.int 2))) mNil))))))) (tName 3) mb_l_near_crew_1)
    (mRet (mRv (mVar 1))))))
def mb_l_stretched_1 : M Fl := (mIf (mAnd (mB (mOp gNe (mVar 1) (mPl (mFz (mLst mNil))))) (mB (mOp gEq (mPl (mOp gIx (mPl (mOp gIx (mVar 1) (mPl (mNegU (mC (.int 1)))))) (mPl (mC (.int 1))))) (mPl (mOp gSub' (mVar 2) (mPl (mC (.int 1)))))))) (mSetIx 1 (mTup (mCons (mOp gIx (mPl (mOp gIx (mVar 1) (mPl (mNegU (mC (.int 1)))))) (mPl (mC (.int 0)))) (mCons (mFz (mRv (mVar 2))) mNil))) (mNegU (mC (.int 1)))) (mDrop (mMut 1 gAppend (mCons (mTup (mCons (mFz (mRv (mVar 2))) (mCons (mFz (mRv (mVar 2))) mNil))) mNil))))
def m_l_stretched : M Fl := (mSeq (mSet 1 (mLst mNil))
    (mSeq (mFor (mIter (mVar 0)) (tName 2) mb_l_stretched_1)
    (mRet (mRv (mVar 1)))))
def m_l_due : M Fl := (mSeq (mSet 1 (mLc (mRng1 (mC (.int 62))) (tName 4) [4] mYes (mFz (mOpX gAdd (mVar 4) (mPl (mMeth gCount (mPl (mOp gIx (mPl (mFz (mCall [.b, .v] 4 m_l_walk (mCons (mVar 0) (mCons (mPl (mFz (mRv (mVar 4)))) mNil))))) (mPl (mC (.int 1))))) (mCons (mPl (mC (.bool true))) mNil)))))))
    (mSeq (mSet 2 (mLc (mRng1 (mC (.int 60))) (tName 5) [5] (mB (mOp gNotIn (mVar 5) (mVar 1))) (mFz (mRv (mVar 5)))))
    (mSeq (mSet 3 (mLc (mRng1 (mC (.int 60))) (tName 4) [4] (mB (mOp gEq (mPl (mOp gIx (mVar 1) (mVar 4))) (mPl (mOp gIx (mVar 1) (mPl (mFz (mOpX gAdd (mVar 4) (mPl (mC (.int 1)))))))))) (mFz (mRv (mVar 4)))))
    (mRet (mLst (mCons (mFz (mCall [.b] 2 m_l_stretched (mCons (mVar 2) mNil))) (mCons (mFz (mCall [.b] 2 m_l_stretched (mCons (mVar 3) mNil))) mNil)))))))
def m_l_moved : M Fl := (mRet (mLc (mIter (mVar 0)) (tTupl (tsCons (tName 2) (tsCons (tName 3) tsNil))) [2, 3] mYes (mTup (mCons (mFz (mOpX gAdd (mVar 2) (mVar 1))) (mCons (mFz (mOpX gAdd (mVar 3) (mVar 1))) mNil)))))
def m_l_counted : M Fl := (mRet (mRv (mPl (mN gSum (mCons (mPl (mFz (mLc (mIter (mVar 0)) (tTupl (tsCons (tName 1) (tsCons (tName 2) tsNil))) [1, 2] mYes (mOp gSub' (mPl (mFz (mOpX gAdd (mVar 2) (mPl (mC (.int 1)))))) (mVar 1))))) mNil)))))
def mb_law_1 : M Fl := (mDrop (mMut 6 gAppend (mCons (mTup (mCons (mFz (mOpX gAdd (mVar 7) (mVar 5))) (mCons (mIf (mB (mOp gIs (mVar 8) (mPl (mC .none)))) (mC .none) (mFz (mOpX gAdd (mVar 8) (mVar 5)))) mNil))) mNil)))
def mb_law_2 : M Fl := (mSeq (mSet 12 (mCall [.b] 2 m_table_of (mCons (mVar 10) mNil)))
    (mSeq (mSet 13 (mLst (mCons (mFz (mCall [.b, .b] 2 m_l_moved (mCons (mPl (mOp gIx (mVar 4) (mPl (mC (.int 0))))) (mCons (mVar 11) mNil)))) (mCons (mFz (mCall [.b, .b] 2 m_l_moved (mCons (mPl (mOp gIx (mVar 4) (mPl (mC (.int 1))))) (mCons (mVar 11) mNil)))) mNil))))
    (mJunk 14 (mLstZ (mCons (mNew [.b] 4 m_never_comes (mCons (mVar 12) mNil)) (mCons (mNew [.b] 5 m_folds (mCons (mVar 12) mNil)) mNil))) (mSeq (mIf (mNot (mTr (mPl (mFz (mCall [.b, .b] 2 (m_l_alike 8) (mCons (mVar 14) (mCons (mVar 13) mNil))))))) (mRet (mRv (mPl (mC (.bool false))))) mSkip)
    (mSeq (mSet 15 (mLc (mIter (mVar 14)) (tName 16) [16] mYes (mFz (mCall [.b] 2 m_l_counted (mCons (mVar 16) mNil)))))
    (mSeq (mIf (mOr (mB (mOp gNe (mPl (mOp gIx (mVar 15) (mPl (mC (.int 0))))) (mPl (mFz (mOpX gAdd (mPl (mOp gIx (mVar 15) (mPl (mC (.int 1))))) (mVar 9)))))) (mB (mOp gNe (mPl (mOp gIx (mPl (mOp gIx (mVar 12) (mPl (mNegU (mC (.int 1)))))) (mPl (mC (.int 1))))) (mVar 9)))) (mRet (mRv (mPl (mC (.bool false))))) mSkip)
    mSkip))) [16] (jAll 1) (mIf (mNot (mTr (mPl (mFz (mCall [.b, .b] 2 (m_l_alike 8) (mCons (mPl (mFz (mLst (mCons (mFz (mCall [.b] 4 m_never_comes (mCons (mVar 12) mNil))) (mCons (mFz (mCall [.b] 5 m_folds (mCons (mVar 12) mNil))) mNil))))) (mCons (mVar 13) mNil))))))) (mRet (mRv (mPl (mC (.bool false))))) mSkip))))
def mb_law_3 : M Fl := (mSeq (mSet 2 (mCall [.s, .b] 1 m_l_tin (mCons (mVar 0) (mCons (mVar 1) mNil))))
    (mSeq (mSet 3 (mCall [.io] 3 m_l_near_crew (mCons (mVar 2) mNil)))
    (mSeq (mSet 4 (mCall [.b] 5 m_l_due (mCons (mVar 3) mNil)))
    (mSeq (mSet 5 (mRv (mPl (mOp gIx (mPl (mFz (mLst (mCons (mC (.int 1)) (mCons (mFz (mCall [.io, .b] 2 m_l_deal (mCons (mVar 2) (mCons (mPl (mC (.int 9))) mNil)))) (mCons (mFz (mCall [.io, .b] 2 m_l_deal (mCons (mVar 2) (mCons (mPl (mOp gPow (mPl (mC (.int 10))) (mPl (mC (.int 29))))) mNil)))) mNil)))))) (mPl (mFz (mCall [.io, .b] 2 m_l_deal (mCons (mVar 2) (mCons (mPl (mC (.int 3))) mNil)))))))))
    (mSeq (mSet 6 (mLst mNil))
    (mSeq (mFor (mIter (mPl (mFz (mRv (mVar 3))))) (tTupl (tsCons (tName 7) (tsCons (tName 8) tsNil))) mb_law_1)
    (mSeq (mSet 9 (mRv (mPl (mN gLen (mCons (mPl (mFz (mLc (mIter (mPl (mFz (mRv (mVar 3))))) (tName 17) [17] (mB (mOp gIs (mPl (mOp gIx (mVar 17) (mPl (mC (.int 1))))) (mPl (mC .none)))) (mFz (mRv (mVar 17)))))) mNil)))))
    (mFor (mIter (mPl (mFz (mLst (mCons (mTup (mCons (mFz (mRv (mVar 3))) (mCons (mC (.int 0)) mNil))) (mCons (mTup (mCons (mFz (mRv (mVar 6))) (mCons (mFz (mRv (mVar 5))) mNil))) mNil)))))) (tTupl (tsCons (tName 10) (tsCons (tName 11) tsNil))) mb_law_2))))))))
def m_law : M Fl := (mSeq (mFor (mRng1 (mN gMax2 (mCons (mPl (mC (.int 1))) (mCons (mPl (mN gMin2 (mCons (mPl (mC (.int 10))) (mCons (mPl (mLenS 0)) mNil)))) mNil)))) (tName 1) mb_law_3)
    (mRet (mRv (mPl (mC (.bool true))))))
structure Tx (K : PySem.W.Frag) (mg : Str → Option Value) (a_levelled : Addr) (d_levelled : FuncData) (a_added_up : Addr) (d_added_up : FuncData) (a_stretch_to : Addr) (d_stretch_to : FuncData) (a_wish_behind : Addr) (d_wish_behind : FuncData) (a_companies_within : Addr) (d_companies_within : FuncData) (a_said_of_company : Addr) (d_said_of_company : FuncData) (a_changes_by : Addr) (d_changes_by : FuncData) (a_is_row : Addr) (d_is_row : FuncData) (a_need_row : Addr) (d_need_row : FuncData) (a_is_table : Addr) (d_is_table : FuncData) (a_is_rows : Addr) (d_is_rows : FuncData) (a_need_rows_table : Addr) (d_need_rows_table : FuncData) (a_table_of : Addr) (d_table_of : FuncData) (a_never_comes : Addr) (d_never_comes : FuncData) (a_folds : Addr) (d_folds : FuncData) (a_l_tin : Addr) (d_l_tin : FuncData) (a_l_deal : Addr) (d_l_deal : FuncData) (a_l_said : Addr) (d_l_said : FuncData) (a_l_walk : Addr) (d_l_walk : FuncData) (a_l_alike : Addr) (d_l_alike : FuncData) (a_l_near_crew : Addr) (d_l_near_crew : FuncData) (a_l_stretched : Addr) (d_l_stretched : FuncData) (a_l_due : Addr) (d_l_due : FuncData) (a_l_moved : Addr) (d_l_moved : FuncData) (a_l_counted : Addr) (d_l_counted : FuncData) (a_law : Addr) (d_law : FuncData) : Prop where
  n_abs : mg "abs" = none
  n_all : mg "all" = none
  n_bool : mg "bool" = none
  n_int : mg "int" = none
  n_isinstance : mg "isinstance" = none
  n_len : mg "len" = none
  n_list : mg "list" = none
  n_max : mg "max" = none
  n_min : mg "min" = none
  n_range : mg "range" = none
  n_sorted : mg "sorted" = none
  n_str : mg "str" = none
  n_sum : mg "sum" = none
  n_tuple : mg "tuple" = none
  n_zip : mg "zip" = none
  f_levelled : Fun K "levelled" "levelled" s_levelled a_levelled d_levelled
  g_levelled : mg "levelled" = some (.ref a_levelled)
  b_levelled : Binds K d_levelled ["steps"] []
  f_added_up : Fun K "added_up" "added_up" s_added_up a_added_up d_added_up
  g_added_up : mg "added_up" = some (.ref a_added_up)
  b_added_up : Binds K d_added_up ["changes"] []
  f_stretch_to : Fun K "stretch_to" "stretch_to" s_stretch_to a_stretch_to d_stretch_to
  g_stretch_to : mg "stretch_to" = some (.ref a_stretch_to)
  b_stretch_to : Binds K d_stretch_to ["first", "beyond"] []
  f_wish_behind : Fun K "wish_behind" "wish_behind" s_wish_behind a_wish_behind d_wish_behind
  g_wish_behind : mg "wish_behind" = some (.ref a_wish_behind)
  b_wish_behind : Binds K d_wish_behind ["people", "wish"] []
  f_companies_within : Fun K "companies_within" "companies_within" s_companies_within a_companies_within d_companies_within
  g_companies_within : mg "companies_within" = some (.ref a_companies_within)
  b_companies_within : Binds K d_companies_within ["people", "saying"] []
  f_said_of_company : Fun K "said_of_company" "said_of_company" s_said_of_company a_said_of_company d_said_of_company
  g_said_of_company : mg "said_of_company" = some (.ref a_said_of_company)
  b_said_of_company : Binds K d_said_of_company ["row"] []
  f_changes_by : Fun K "changes_by" "changes_by" s_changes_by a_changes_by d_changes_by
  g_changes_by : mg "changes_by" = some (.ref a_changes_by)
  b_changes_by : Binds K d_changes_by ["stretches"] []
  f_is_row : Fun K "is_row" "is_row" s_is_row a_is_row d_is_row
  g_is_row : mg "is_row" = some (.ref a_is_row)
  b_is_row : Binds K d_is_row ["thing"] []
  f_need_row : Fun K "need_row" "need_row" s_need_row a_need_row d_need_row
  g_need_row : mg "need_row" = some (.ref a_need_row)
  b_need_row : Binds K d_need_row ["thing"] []
  f_is_table : Fun K "is_table" "is_table" s_is_table a_is_table d_is_table
  g_is_table : mg "is_table" = some (.ref a_is_table)
  b_is_table : Binds K d_is_table ["thing"] []
  f_is_rows : Fun K "is_rows" "is_rows" s_is_rows a_is_rows d_is_rows
  g_is_rows : mg "is_rows" = some (.ref a_is_rows)
  b_is_rows : Binds K d_is_rows ["thing"] []
  f_need_rows_table : Fun K "need_rows_table" "need_rows_table" s_need_rows_table a_need_rows_table d_need_rows_table
  g_need_rows_table : mg "need_rows_table" = some (.ref a_need_rows_table)
  b_need_rows_table : Binds K d_need_rows_table ["thing"] []
  f_table_of : Fun K "table_of" "table_of" s_table_of a_table_of d_table_of
  g_table_of : mg "table_of" = some (.ref a_table_of)
  b_table_of : Binds K d_table_of ["row"] []
  f_never_comes : Fun K "never_comes" "never_comes" s_never_comes a_never_comes d_never_comes
  g_never_comes : mg "never_comes" = some (.ref a_never_comes)
  b_never_comes : Binds K d_never_comes ["table"] []
  f_folds : Fun K "folds" "folds" s_folds a_folds d_folds
  g_folds : mg "folds" = some (.ref a_folds)
  b_folds : Binds K d_folds ["table"] []
  f_l_tin : Fun K "_law_tin" "_law_tin" s_l_tin a_l_tin d_l_tin
  g_l_tin : mg "_law_tin" = some (.ref a_l_tin)
  b_l_tin : Binds K d_l_tin ["_law_script", "_law_k"] []
  f_l_deal : Fun K "_law_deal" "_law_deal" s_l_deal a_l_deal d_l_deal
  g_l_deal : mg "_law_deal" = some (.ref a_l_deal)
  b_l_deal : Binds K d_l_deal ["_law_tin_here", "_law_wide"] []
  f_l_said : Fun K "_law_said" "_law_said" s_l_said a_l_said d_l_said
  g_l_said : mg "_law_said" = some (.ref a_l_said)
  b_l_said : Binds K d_l_said ["_law_tin_here", "_law_wide"] []
  f_l_walk : Fun K "_law_walk" "_law_walk" s_l_walk a_l_walk d_l_walk
  g_l_walk : mg "_law_walk" = some (.ref a_l_walk)
  b_l_walk : Binds K d_l_walk ["_law_crew", "_law_crowd"] []
  f_l_alike : Fun K "_law_alike" "_law_alike" s_l_alike a_l_alike d_l_alike
  g_l_alike : mg "_law_alike" = some (.ref a_l_alike)
  b_l_alike : Binds K d_l_alike ["_law_found", "_law_due_here"] []
  f_l_near_crew : Fun K "_law_near_crew" "_law_near_crew" s_l_near_crew a_l_near_crew d_l_near_crew
  g_l_near_crew : mg "_law_near_crew" = some (.ref a_l_near_crew)
  b_l_near_crew : Binds K d_l_near_crew ["_law_tin_here"] []
  f_l_stretched : Fun K "_law_stretched" "_law_stretched" s_l_stretched a_l_stretched d_l_stretched
  g_l_stretched : mg "_law_stretched" = some (.ref a_l_stretched)
  b_l_stretched : Binds K d_l_stretched ["_law_numbers"] []
  f_l_due : Fun K "_law_due" "_law_due" s_l_due a_l_due d_l_due
  g_l_due : mg "_law_due" = some (.ref a_l_due)
  b_l_due : Binds K d_l_due ["_law_crew"] []
  f_l_moved : Fun K "_law_moved" "_law_moved" s_l_moved a_l_moved d_l_moved
  g_l_moved : mg "_law_moved" = some (.ref a_l_moved)
  b_l_moved : Binds K d_l_moved ["_law_rows", "_law_by"] []
  f_l_counted : Fun K "_law_counted" "_law_counted" s_l_counted a_l_counted d_l_counted
  g_l_counted : mg "_law_counted" = some (.ref a_l_counted)
  b_l_counted : Binds K d_l_counted ["_law_rows"] []
  f_law : Fun K "law" "law" s_law a_law d_law
  g_law : mg "law" = some (.ref a_law)
  b_law : Binds K d_law ["_law_script"] []
section
variable {P : Program} {w : World} {K : PySem.W.Frag} {mg : Str → Option Value} {base : Heap} {a_levelled a_added_up a_stretch_to a_wish_behind a_companies_within a_said_of_company a_changes_by a_is_row a_need_row a_is_table a_is_rows a_need_rows_table a_table_of a_never_comes a_folds a_l_tin a_l_deal a_l_said a_l_walk a_l_alike a_l_near_crew a_l_stretched a_l_due a_l_moved a_l_counted a_law : Addr} {d_levelled d_added_up d_stretch_to d_wish_behind d_companies_within d_said_of_company d_changes_by d_is_row d_need_row d_is_table d_is_rows d_need_rows_table d_table_of d_never_comes d_folds d_l_tin d_l_deal d_l_said d_l_walk d_l_alike d_l_near_crew d_l_stretched d_l_due d_l_moved d_l_counted d_law : FuncData}
theorem ok_levelled (T : Tx K mg a_levelled d_levelled a_added_up d_added_up a_stretch_to d_stretch_to a_wish_behind d_wish_behind a_companies_within d_companies_within a_said_of_company d_said_of_company a_changes_by d_changes_by a_is_row d_is_row a_need_row d_need_row a_is_table d_is_table a_is_rows d_is_rows a_need_rows_table d_need_rows_table a_table_of d_table_of a_never_comes d_never_comes a_folds d_folds a_l_tin d_l_tin a_l_deal d_l_deal a_l_said d_l_said a_l_walk d_l_walk a_l_alike d_l_alike a_l_near_crew d_l_near_crew a_l_stretched d_l_stretched a_l_due d_l_due a_l_moved d_l_moved a_l_counted d_l_counted a_law d_law) : FnG P w K mg base 1 a_levelled d_levelled ["steps"] (spD K 1 3 m_levelled) :=
  fnG_pl T.f_levelled sc_levelled rfl rfl fun cdv A outer s H E hG hr => have sc := sc_levelled; (psts_cons (pst_set (i := 1) sc.nd (pf_lst pvs_nil))
      (psts_cons (pst_for PassesOwn.never rfl (pit_seq (pp_name 0)) (pgt_tup rfl (pgts_cons (pgt_name (i := 2) sc.nd) (pgts_cons (pgt_name (i := 3) sc.nd) pgts_nil)) rfl (tsCons_len (tsCons_len tsNil_len))) (psts_one (pst_if (pt_of (pwt_or (ptt_not (ptt_truth (pp_name 1))) (pwt_or1 (pt_ne hr.units (pp_of (pv_ix (pp_of (pv_ix (pp_name 1) (pp_of (pv_neg pv_int)))) (pp_of pv_int))) (pp_name 3))))) (psts_one (pst_drop (pv_mut (j := 1) PySem.F.slot_list_append PySem.F.type_list_append mt_append pmut_append (pvs_cons (pv_tup (pvs_cons (pv_of (pf_of (pp_name 2))) (pvs_cons (pv_of (pf_of (pp_name 3))) pvs_nil))) pvs_nil)))) psts_nil)))
      (psts_one (pst_ret (pf_of (pp_name 1))))))
theorem ok_added_up (T : Tx K mg a_levelled d_levelled a_added_up d_added_up a_stretch_to d_stretch_to a_wish_behind d_wish_behind a_companies_within d_companies_within a_said_of_company d_said_of_company a_changes_by d_changes_by a_is_row d_is_row a_need_row d_need_row a_is_table d_is_table a_is_rows d_is_rows a_need_rows_table d_need_rows_table a_table_of d_table_of a_never_comes d_never_comes a_folds d_folds a_l_tin d_l_tin a_l_deal d_l_deal a_l_said d_l_said a_l_walk d_l_walk a_l_alike d_l_alike a_l_near_crew d_l_near_crew a_l_stretched d_l_stretched a_l_due d_l_due a_l_moved d_l_moved a_l_counted d_l_counted a_law d_law) : FnG P w K mg base 2 a_added_up d_added_up ["changes"] (spD K 1 3 m_added_up) :=
  fnG_pl T.f_added_up sc_added_up rfl rfl fun cdv A outer s H E hG hr => have sc := sc_added_up; (psts_cons (pst_set (i := 1) sc.nd (pf_of (pp_of (pv_get2 hr.units (pp_name 0) pv_int pv_int))))
      (psts_cons (pst_set (i := 2) sc.nd (pf_lst (pvs_cons (pv_tup (pvs_cons pv_int (pvs_cons (pv_of (pf_of (pp_name 1))) pvs_nil))) pvs_nil)))
      (psts_cons (pst_for PassesOwn.never rfl (pit_seq (pp_of (pv_of (pf_sortedA rfl (by rfl) T.n_sorted (pps_cons' (pp_name 0) pps_nil'))))) (pgt_name (i := 3) sc.nd) (psts_one (pst_if (pt_gt (pp_name 3) (pp_of pv_int)) (psts_cons (pst_aug (i := 1) ip_add pop_ip sc.nd (pp_of (pv_ixA hr.units (pp_name 0) (pp_name 3))))
      (psts_one (pst_drop (pv_mut (j := 2) PySem.F.slot_list_append PySem.F.type_list_append mt_append pmut_append (pvs_cons (pv_tup (pvs_cons (pv_of (pf_of (pp_name 3))) (pvs_cons (pv_of (pf_of (pp_name 1))) pvs_nil))) pvs_nil))))) psts_nil)))
      (psts_one (pst_ret (pf_callG (ok_levelled T) hG (hr.mono (by decide)) (by rfl) T.g_levelled T.f_levelled.kp T.b_levelled (pps_cons' (pp_name 2) pps_nil') (ms := [.b]) rfl))))))
theorem ok_stretch_to (T : Tx K mg a_levelled d_levelled a_added_up d_added_up a_stretch_to d_stretch_to a_wish_behind d_wish_behind a_companies_within d_companies_within a_said_of_company d_said_of_company a_changes_by d_changes_by a_is_row d_is_row a_need_row d_need_row a_is_table d_is_table a_is_rows d_is_rows a_need_rows_table d_need_rows_table a_table_of d_table_of a_never_comes d_never_comes a_folds d_folds a_l_tin d_l_tin a_l_deal d_l_deal a_l_said d_l_said a_l_walk d_l_walk a_l_alike d_l_alike a_l_near_crew d_l_near_crew a_l_stretched d_l_stretched a_l_due d_l_due a_l_moved d_l_moved a_l_counted d_l_counted a_law d_law) : FnG P w K mg base 1 a_stretch_to d_stretch_to ["first", "beyond"] (spD K 2 0 m_stretch_to) :=
  fnG_pl T.f_stretch_to sc_stretch_to rfl rfl fun cdv A outer s H E hG hr => have sc := sc_stretch_to; (psts_cons (pst_if (pt_is (pp_name 1) (pp_of pv_non)) (psts_one (pst_ret (pf_of (pp_of (pv_tup (pvs_cons (pv_of (pf_of (pp_name 0))) (pvs_cons pv_non pvs_nil))))))) psts_nil)
      (psts_cons (pst_if (pt_le (pp_name 1) (pp_name 0)) (psts_one (pst_ret (pf_of (pp_of pv_non)))) psts_nil)
      (psts_one (pst_ret (pf_of (pp_of (pv_tup (pvs_cons (pv_of (pf_of (pp_name 0))) (pvs_cons (pv_sub (pp_name 1) (pp_of pv_int)) pvs_nil)))))))))
theorem ok_wish_behind (T : Tx K mg a_levelled d_levelled a_added_up d_added_up a_stretch_to d_stretch_to a_wish_behind d_wish_behind a_companies_within d_companies_within a_said_of_company d_said_of_company a_changes_by d_changes_by a_is_row d_is_row a_need_row d_need_row a_is_table d_is_table a_is_rows d_is_rows a_need_rows_table d_need_rows_table a_table_of d_table_of a_never_comes d_never_comes a_folds d_folds a_l_tin d_l_tin a_l_deal d_l_deal a_l_said d_l_said a_l_walk d_l_walk a_l_alike d_l_alike a_l_near_crew d_l_near_crew a_l_stretched d_l_stretched a_l_due d_l_due a_l_moved d_l_moved a_l_counted d_l_counted a_law d_law) : FnG P w K mg base 1 a_wish_behind d_wish_behind ["people", "wish"] (spD K 2 2 m_wish_behind) :=
  fnG_pl T.f_wish_behind sc_wish_behind rfl rfl fun cdv A outer s H E hG hr => have sc := sc_wish_behind; (psts_cons (pst_for PassesOwn.never rfl (pit_seq (pp_name 0)) (pgt_tup rfl (pgts_cons (pgt_name (i := 2) sc.nd) (pgts_cons (pgt_name (i := 3) sc.nd) pgts_nil)) rfl (tsCons_len (tsCons_len tsNil_len))) (psts_one (pst_if (pt_of (pwt_and (pt_lt (pp_name 2) (pp_name 1)) (pwt_and1 (pt_of (pwt_or (pt_is (pp_name 3) (pp_of pv_non)) (pwt_or1 (pt_le (pp_name 1) (pp_of (pv_of (pf_add (pp_name 3) (pp_of pv_int))))))))))) (psts_one (pst_aug (i := 1) ip_sub pop_ip sc.nd (pp_of pv_int))) psts_nil)))
      (psts_one (pst_ret (pf_of (pp_name 1)))))
theorem ok_companies_within (T : Tx K mg a_levelled d_levelled a_added_up d_added_up a_stretch_to d_stretch_to a_wish_behind d_wish_behind a_companies_within d_companies_within a_said_of_company d_said_of_company a_changes_by d_changes_by a_is_row d_is_row a_need_row d_need_row a_is_table d_is_table a_is_rows d_is_rows a_need_rows_table d_need_rows_table a_table_of d_table_of a_never_comes d_never_comes a_folds d_folds a_l_tin d_l_tin a_l_deal d_l_deal a_l_said d_l_said a_l_walk d_l_walk a_l_alike d_l_alike a_l_near_crew d_l_near_crew a_l_stretched d_l_stretched a_l_due d_l_due a_l_moved d_l_moved a_l_counted d_l_counted a_law d_law) : FnG P w K mg base 2 a_companies_within d_companies_within ["people", "saying"] (spD K 2 3 m_companies_within) :=
  fnG_pl T.f_companies_within sc_companies_within rfl rfl fun cdv A outer s H E hG hr => have sc := sc_companies_within; (psts_cons (pst_asg (pv_of (pf_of (pp_name 1))) (pgt_tup rfl (pgts_cons (pgt_name (i := 2) sc.nd) (pgts_cons (pgt_name (i := 3) sc.nd) pgts_nil)) rfl (tsCons_len (tsCons_len tsNil_len))))
      (psts_cons (pst_set (i := 4) sc.nd (pf_callG (ok_wish_behind T) hG (hr.mono (by decide)) (by rfl) T.g_wish_behind T.f_wish_behind.kp T.b_wish_behind (pps_cons' (pp_name 0) (pps_cons' (pp_of (pv_of (pf_of (pp_name 2)))) pps_nil')) (ms := [.b, .v]) rfl))
      (psts_cons (pst_if (pt_is (pp_name 3) (pp_of pv_non)) (psts_one (pst_ret (pf_callG (ok_stretch_to T) hG (hr.mono (by decide)) (by rfl) T.g_stretch_to T.f_stretch_to.kp T.b_stretch_to (pps_cons' (pp_of (pv_of (pf_of (pp_name 4)))) (pps_cons' (pp_of pv_non) pps_nil')) (ms := [.v, .b]) rfl))) psts_nil)
      (psts_one (pst_ret (pf_callG (ok_stretch_to T) hG (hr.mono (by decide)) (by rfl) T.g_stretch_to T.f_stretch_to.kp T.b_stretch_to (pps_cons' (pp_of (pv_of (pf_of (pp_name 4)))) (pps_cons' (pp_of (pv_of (pf_callG (ok_wish_behind T) hG (hr.mono (by decide)) (by rfl) T.g_wish_behind T.f_wish_behind.kp T.b_wish_behind (pps_cons' (pp_name 0) (pps_cons' (pp_of (pv_of (pf_add (pp_name 3) (pp_of pv_int)))) pps_nil')) (ms := [.b, .v]) rfl))) pps_nil')) (ms := [.v, .b]) rfl))))))
theorem ok_said_of_company (T : Tx K mg a_levelled d_levelled a_added_up d_added_up a_stretch_to d_stretch_to a_wish_behind d_wish_behind a_companies_within d_companies_within a_said_of_company d_said_of_company a_changes_by d_changes_by a_is_row d_is_row a_need_row d_need_row a_is_table d_is_table a_is_rows d_is_rows a_need_rows_table d_need_rows_table a_table_of d_table_of a_never_comes d_never_comes a_folds d_folds a_l_tin d_l_tin a_l_deal d_l_deal a_l_said d_l_said a_l_walk d_l_walk a_l_alike d_l_alike a_l_near_crew d_l_near_crew a_l_stretched d_l_stretched a_l_due d_l_due a_l_moved d_l_moved a_l_counted d_l_counted a_law d_law) : FnG P w K mg base 3 a_said_of_company d_said_of_company ["row"] (spD K 1 1 m_said_of_company) :=
  fnG_pl T.f_said_of_company sc_said_of_company rfl rfl fun cdv A outer s H E hG hr => have sc := sc_said_of_company; (psts_one (pst_ret (pf_lc (own := [("place", 1)]) rfl sc.nd (pit_rng1 (by rfl) T.n_range (pv_len (by rfl) T.n_len (pps_cons' (pp_name 0) pps_nil'))) (blkOk_by (own := [("place", 1)]) (N := ["row", "place"]) (sc := defScope s_said_of_company) (by decide +kernel)) (fun _ _ _ _ _ => (pgt_name (i := 1) sc.nd)) (fun _ _ _ _ _ => (pv_of (pf_callG (ok_companies_within T) hG (hr.mono (by decide)) (by rfl) T.g_companies_within T.f_companies_within.kp T.b_companies_within (pps_cons' (pp_slice (pp_name 0) (pot_some (pv_of (pf_add (pp_name 1) (pp_of pv_int)))) pot_none) (pps_cons' (pp_of (pv_ix (pp_name 0) (pp_name 1))) pps_nil')) (ms := [.b, .v]) rfl))))))
theorem ok_changes_by (T : Tx K mg a_levelled d_levelled a_added_up d_added_up a_stretch_to d_stretch_to a_wish_behind d_wish_behind a_companies_within d_companies_within a_said_of_company d_said_of_company a_changes_by d_changes_by a_is_row d_is_row a_need_row d_need_row a_is_table d_is_table a_is_rows d_is_rows a_need_rows_table d_need_rows_table a_table_of d_table_of a_never_comes d_never_comes a_folds d_folds a_l_tin d_l_tin a_l_deal d_l_deal a_l_said d_l_said a_l_walk d_l_walk a_l_alike d_l_alike a_l_near_crew d_l_near_crew a_l_stretched d_l_stretched a_l_due d_l_due a_l_moved d_l_moved a_l_counted d_l_counted a_law d_law) : FnG P w K mg base 1 a_changes_by d_changes_by ["stretches"] (spD K 1 3 m_changes_by) :=
  fnG_pl T.f_changes_by sc_changes_by rfl rfl fun cdv A outer s H E hG hr => have sc := sc_changes_by; (psts_cons (pst_set (i := 1) sc.nd pf_dict0)
      (psts_cons (pst_for PassesOwn.never rfl (pit_seq (pp_name 0)) (pgt_tup rfl (pgts_cons (pgt_name (i := 2) sc.nd) (pgts_cons (pgt_name (i := 3) sc.nd) pgts_nil)) rfl (tsCons_len (tsCons_len tsNil_len))) (psts_cons (pst_dput (j := 1) hr.units (pv_of (pf_add (pp_of (pv_get2 hr.units (pp_name 1) (pv_of (pf_of (pp_name 2))) pv_int)) (pp_of pv_int))) (pv_of (pf_of (pp_name 2))))
      (psts_one (pst_if (pt_isnot (pp_name 3) (pp_of pv_non)) (psts_one (pst_dput (j := 1) hr.units (pv_sub (pp_of (pv_get2 hr.units (pp_name 1) (pv_of (pf_add (pp_name 3) (pp_of pv_int))) pv_int)) (pp_of pv_int)) (pv_of (pf_add (pp_name 3) (pp_of pv_int))))) psts_nil))))
      (psts_one (pst_ret (pf_of (pp_name 1))))))
theorem ok_is_row (T : Tx K mg a_levelled d_levelled a_added_up d_added_up a_stretch_to d_stretch_to a_wish_behind d_wish_behind a_companies_within d_companies_within a_said_of_company d_said_of_company a_changes_by d_changes_by a_is_row d_is_row a_need_row d_need_row a_is_table d_is_table a_is_rows d_is_rows a_need_rows_table d_need_rows_table a_table_of d_table_of a_never_comes d_never_comes a_folds d_folds a_l_tin d_l_tin a_l_deal d_l_deal a_l_said d_l_said a_l_walk d_l_walk a_l_alike d_l_alike a_l_near_crew d_l_near_crew a_l_stretched d_l_stretched a_l_due d_l_due a_l_moved d_l_moved a_l_counted d_l_counted a_law d_law) : FnG P w K mg base 1 a_is_row d_is_row ["thing"] (spD K 1 3 m_is_row) :=
  fnG_pl T.f_is_row sc_is_row rfl rfl fun cdv A outer s H E hG hr => have sc := sc_is_row; (psts_cons (pst_if (ptt_not (ptt_truth (pp_of (pv_isiT (by rfl) T.n_isinstance (pp_name 0) (pa_tyC (pe_ty (by rfl) T.n_list PyProof.Rows.boot_list) (pa_tyC (pe_ty (by rfl) T.n_tuple PyProof.Rows.boot_tuple) pa_tyN)) (by decide) (by decide))))) (psts_one (pst_ret (pf_of (pp_of pv_bl)))) psts_nil)
      (psts_cons (pst_for PassesOwn.never rfl (pit_seq (pp_name 0)) (pgt_name (i := 1) sc.nd) (psts_cons (pst_if (pt_of (pwt_or (ptt_not (ptt_truth (pp_of (pv_isi (by rfl) T.n_isinstance (pp_name 1) (pe_ty (by rfl) T.n_tuple PyProof.Rows.boot_tuple) (by decide))))) (pwt_or1 (pt_ne hr.units (pp_of (pv_len (by rfl) T.n_len (pps_cons' (pp_name 1) pps_nil'))) (pp_of pv_int))))) (psts_one (pst_ret (pf_of (pp_of pv_bl)))) psts_nil)
      (psts_cons (pst_asg (pv_of (pf_of (pp_name 1))) (pgt_tup rfl (pgts_cons (pgt_name (i := 2) sc.nd) (pgts_cons (pgt_name (i := 3) sc.nd) pgts_nil)) rfl (tsCons_len (tsCons_len tsNil_len))))
      (psts_cons (pst_if (pt_of (pwt_or (ptt_not (ptt_truth (pp_of (pv_isi (by rfl) T.n_isinstance (pp_name 2) (pe_ty (by rfl) T.n_int PyProof.Rows.boot_int) (by decide))))) (pwt_or (pt_lt (pp_name 2) (pp_of pv_int)) (pwt_or (pt_is (pp_name 2) (pp_of pv_bl)) (pwt_or1 (pt_is (pp_name 2) (pp_of pv_bl))))))) (psts_one (pst_ret (pf_of (pp_of pv_bl)))) psts_nil)
      (psts_one (pst_if (pt_of (pwt_and (pt_isnot (pp_name 3) (pp_of pv_non)) (pwt_and1 (pt_of (pwt_or (ptt_not (ptt_truth (pp_of (pv_isi (by rfl) T.n_isinstance (pp_name 3) (pe_ty (by rfl) T.n_int PyProof.Rows.boot_int) (by decide))))) (pwt_or (pt_lt (pp_name 3) (pp_name 2)) (pwt_or (pt_is (pp_name 3) (pp_of pv_bl)) (pwt_or1 (pt_is (pp_name 3) (pp_of pv_bl)))))))))) (psts_one (pst_ret (pf_of (pp_of pv_bl)))) psts_nil))))))
      (psts_one (pst_ret (pf_of (pp_of pv_bl))))))
theorem ok_need_row (T : Tx K mg a_levelled d_levelled a_added_up d_added_up a_stretch_to d_stretch_to a_wish_behind d_wish_behind a_companies_within d_companies_within a_said_of_company d_said_of_company a_changes_by d_changes_by a_is_row d_is_row a_need_row d_need_row a_is_table d_is_table a_is_rows d_is_rows a_need_rows_table d_need_rows_table a_table_of d_table_of a_never_comes d_never_comes a_folds d_folds a_l_tin d_l_tin a_l_deal d_l_deal a_l_said d_l_said a_l_walk d_l_walk a_l_alike d_l_alike a_l_near_crew d_l_near_crew a_l_stretched d_l_stretched a_l_due d_l_due a_l_moved d_l_moved a_l_counted d_l_counted a_law d_law) : FnG P w K mg base 2 a_need_row d_need_row ["thing"] (spD K 1 0 m_need_row) :=
  fnG_pl T.f_need_row sc_need_row rfl rfl fun cdv A outer s H E hG hr => have sc := sc_need_row; (psts_one (pst_if (ptt_not (ptt_truth (pp_of (pv_of (pf_callG (ok_is_row T) hG (hr.mono (by decide)) (by rfl) T.g_is_row T.f_is_row.kp T.b_is_row (pps_cons' (pp_name 0) pps_nil') (ms := [.b]) rfl))))) (psts_one pst_never) psts_nil))
theorem ok_is_table (T : Tx K mg a_levelled d_levelled a_added_up d_added_up a_stretch_to d_stretch_to a_wish_behind d_wish_behind a_companies_within d_companies_within a_said_of_company d_said_of_company a_changes_by d_changes_by a_is_row d_is_row a_need_row d_need_row a_is_table d_is_table a_is_rows d_is_rows a_need_rows_table d_need_rows_table a_table_of d_table_of a_never_comes d_never_comes a_folds d_folds a_l_tin d_l_tin a_l_deal d_l_deal a_l_said d_l_said a_l_walk d_l_walk a_l_alike d_l_alike a_l_near_crew d_l_near_crew a_l_stretched d_l_stretched a_l_due d_l_due a_l_moved d_l_moved a_l_counted d_l_counted a_law d_law) : FnG P w K mg base 1 a_is_table d_is_table ["thing"] (spD K 1 5 m_is_table) :=
  fnG_pl T.f_is_table sc_is_table rfl rfl fun cdv A outer s H E hG hr => have sc := sc_is_table; (psts_cons (pst_if (pt_of (pwt_or (ptt_not (ptt_truth (pp_of (pv_isi (by rfl) T.n_isinstance (pp_name 0) (pe_ty (by rfl) T.n_list PyProof.Rows.boot_list) (by decide))))) (pwt_or1 (ptt_not (ptt_truth (pp_name 0)))))) (psts_one (pst_ret (pf_of (pp_of pv_bl)))) psts_nil)
      (psts_cons (pst_set (i := 1) sc.nd (pf_of (pp_of (pv_neg pv_int))))
      (psts_cons (pst_set (i := 2) sc.nd (pf_of (pp_of pv_non)))
      (psts_cons (pst_for PassesOwn.never rfl (pit_seq (pp_name 0)) (pgt_name (i := 3) sc.nd) (psts_cons (pst_if (pt_of (pwt_or (ptt_not (ptt_truth (pp_of (pv_isi (by rfl) T.n_isinstance (pp_name 3) (pe_ty (by rfl) T.n_tuple PyProof.Rows.boot_tuple) (by decide))))) (pwt_or1 (pt_ne hr.units (pp_of (pv_len (by rfl) T.n_len (pps_cons' (pp_name 3) pps_nil'))) (pp_of pv_int))))) (psts_one (pst_ret (pf_of (pp_of pv_bl)))) psts_nil)
      (psts_cons (pst_asg (pv_of (pf_of (pp_name 3))) (pgt_tup rfl (pgts_cons (pgt_name (i := 4) sc.nd) (pgts_cons (pgt_name (i := 5) sc.nd) pgts_nil)) rfl (tsCons_len (tsCons_len tsNil_len))))
      (psts_cons (pst_if (pt_of (pwt_or (ptt_not (ptt_truth (pp_of (pv_isi (by rfl) T.n_isinstance (pp_name 4) (pe_ty (by rfl) T.n_int PyProof.Rows.boot_int) (by decide))))) (pwt_or (pt_le (pp_name 4) (pp_name 1)) (pwt_or (pt_is (pp_name 4) (pp_of pv_bl)) (pwt_or1 (pt_is (pp_name 4) (pp_of pv_bl))))))) (psts_one (pst_ret (pf_of (pp_of pv_bl)))) psts_nil)
      (psts_cons (pst_if (pt_of (pwt_or (ptt_not (ptt_truth (pp_of (pv_isi (by rfl) T.n_isinstance (pp_name 5) (pe_ty (by rfl) T.n_int PyProof.Rows.boot_int) (by decide))))) (pwt_or (pt_lt (pp_name 5) (pp_of pv_int)) (pwt_or (pt_eq hr.units (pp_name 5) (pp_name 2)) (pwt_or (pt_is (pp_name 5) (pp_of pv_bl)) (pwt_or1 (pt_is (pp_name 5) (pp_of pv_bl)))))))) (psts_one (pst_ret (pf_of (pp_of pv_bl)))) psts_nil)
      (psts_cons (pst_set (i := 1) sc.nd (pf_of (pp_of (pv_of (pf_of (pp_name 4))))))
      (psts_one (pst_set (i := 2) sc.nd (pf_of (pp_of (pv_of (pf_of (pp_name 5)))))))))))))
      (psts_one (pst_ret (pf_of (pp_of (pv_eq hr.units (pp_of (pv_ix (pp_of (pv_ix (pp_name 0) (pp_of pv_int))) (pp_of pv_int))) (pp_of pv_int))))))))))
theorem ok_is_rows (T : Tx K mg a_levelled d_levelled a_added_up d_added_up a_stretch_to d_stretch_to a_wish_behind d_wish_behind a_companies_within d_companies_within a_said_of_company d_said_of_company a_changes_by d_changes_by a_is_row d_is_row a_need_row d_need_row a_is_table d_is_table a_is_rows d_is_rows a_need_rows_table d_need_rows_table a_table_of d_table_of a_never_comes d_never_comes a_folds d_folds a_l_tin d_l_tin a_l_deal d_l_deal a_l_said d_l_said a_l_walk d_l_walk a_l_alike d_l_alike a_l_near_crew d_l_near_crew a_l_stretched d_l_stretched a_l_due d_l_due a_l_moved d_l_moved a_l_counted d_l_counted a_law d_law) : FnG P w K mg base 2 a_is_rows d_is_rows ["thing"] (spD K 1 3 m_is_rows) :=
  fnG_pl T.f_is_rows sc_is_rows rfl rfl fun cdv A outer s H E hG hr => have sc := sc_is_rows; (psts_cons (pst_if (ptt_not (ptt_truth (pp_of (pv_of (pf_callG (ok_is_table T) hG (hr.mono (by decide)) (by rfl) T.g_is_table T.f_is_table.kp T.b_is_table (pps_cons' (pp_name 0) pps_nil') (ms := [.b]) rfl))))) (psts_one (pst_ret (pf_of (pp_of pv_bl)))) psts_nil)
      (psts_cons (pst_set (i := 1) sc.nd (pf_of (pp_of pv_int)))
      (psts_cons (pst_for PassesOwn.never rfl (pit_seq (pp_name 0)) (pgt_tup rfl (pgts_cons (pgt_name (i := 2) sc.nd) (pgts_cons (pgt_name (i := 3) sc.nd) pgts_nil)) rfl (tsCons_len (tsCons_len tsNil_len))) (psts_cons (pst_if (pt_lt (pp_name 3) (pp_of (pv_sub (pp_name 1) (pp_of pv_int)))) (psts_one (pst_ret (pf_of (pp_of pv_bl)))) psts_nil)
      (psts_one (pst_set (i := 1) sc.nd (pf_of (pp_of (pv_of (pf_of (pp_name 3)))))))))
      (psts_one (pst_ret (pf_of (pp_of pv_bl)))))))
theorem ok_need_rows_table (T : Tx K mg a_levelled d_levelled a_added_up d_added_up a_stretch_to d_stretch_to a_wish_behind d_wish_behind a_companies_within d_companies_within a_said_of_company d_said_of_company a_changes_by d_changes_by a_is_row d_is_row a_need_row d_need_row a_is_table d_is_table a_is_rows d_is_rows a_need_rows_table d_need_rows_table a_table_of d_table_of a_never_comes d_never_comes a_folds d_folds a_l_tin d_l_tin a_l_deal d_l_deal a_l_said d_l_said a_l_walk d_l_walk a_l_alike d_l_alike a_l_near_crew d_l_near_crew a_l_stretched d_l_stretched a_l_due d_l_due a_l_moved d_l_moved a_l_counted d_l_counted a_law d_law) : FnG P w K mg base 3 a_need_rows_table d_need_rows_table ["thing"] (spD K 1 0 m_need_rows_table) :=
  fnG_pl T.f_need_rows_table sc_need_rows_table rfl rfl fun cdv A outer s H E hG hr => have sc := sc_need_rows_table; (psts_one (pst_if (ptt_not (ptt_truth (pp_of (pv_of (pf_callG (ok_is_rows T) hG (hr.mono (by decide)) (by rfl) T.g_is_rows T.f_is_rows.kp T.b_is_rows (pps_cons' (pp_name 0) pps_nil') (ms := [.b]) rfl))))) (psts_one pst_never) psts_nil))
theorem ok_table_of (T : Tx K mg a_levelled d_levelled a_added_up d_added_up a_stretch_to d_stretch_to a_wish_behind d_wish_behind a_companies_within d_companies_within a_said_of_company d_said_of_company a_changes_by d_changes_by a_is_row d_is_row a_need_row d_need_row a_is_table d_is_table a_is_rows d_is_rows a_need_rows_table d_need_rows_table a_table_of d_table_of a_never_comes d_never_comes a_folds d_folds a_l_tin d_l_tin a_l_deal d_l_deal a_l_said d_l_said a_l_walk d_l_walk a_l_alike d_l_alike a_l_near_crew d_l_near_crew a_l_stretched d_l_stretched a_l_due d_l_due a_l_moved d_l_moved a_l_counted d_l_counted a_law d_law) : FnG P w K mg base 4 a_table_of d_table_of ["row"] (spD K 1 2 m_table_of) :=
  fnG_pl T.f_table_of sc_table_of rfl rfl fun cdv A outer s H E hG hr => have sc := sc_table_of; (psts_cons (pst_drop (pv_of (pf_callG (ok_need_row T) hG (hr.mono (by decide)) (by rfl) T.g_need_row T.f_need_row.kp T.b_need_row (pps_cons' (pp_name 0) pps_nil') (ms := [.b]) rfl)))
      (psts_cons (pst_set (i := 1) sc.nd (pf_callG (ok_said_of_company T) hG (hr.mono (by decide)) (by rfl) T.g_said_of_company T.f_said_of_company.kp T.b_said_of_company (pps_cons' (pp_name 0) pps_nil') (ms := [.b]) rfl))
      (psts_one (pst_ret (pf_callG (ok_added_up T) hG (hr.mono (by decide)) (by rfl) T.g_added_up T.f_added_up.kp T.b_added_up (pps_cons' (pp_of (pv_of (pf_callG (ok_changes_by T) hG (hr.mono (by decide)) (by rfl) T.g_changes_by T.f_changes_by.kp T.b_changes_by (pps_cons' (pp_of (pv_of (pf_lcIf (own := [("stretch", 2)]) rfl sc.nd (pit_seq (pp_of (pv_of (pf_of (pp_name 1))))) (blkOk_by (own := [("stretch", 2)]) (N := ["row", "said", "stretch"]) (sc := defScope s_table_of) (by decide +kernel)) (fun _ _ _ _ _ => (pgt_name (i := 2) sc.nd)) (fun _ _ _ _ _ => (pt_isnot (pp_name 2) (pp_of pv_non))) (fun _ _ _ _ _ => (pv_of (pf_of (pp_name 2))))))) pps_nil') (ms := [.b]) rfl))) pps_nil') (ms := [.b]) rfl)))))
theorem ok_never_comes (T : Tx K mg a_levelled d_levelled a_added_up d_added_up a_stretch_to d_stretch_to a_wish_behind d_wish_behind a_companies_within d_companies_within a_said_of_company d_said_of_company a_changes_by d_changes_by a_is_row d_is_row a_need_row d_need_row a_is_table d_is_table a_is_rows d_is_rows a_need_rows_table d_need_rows_table a_table_of d_table_of a_never_comes d_never_comes a_folds d_folds a_l_tin d_l_tin a_l_deal d_l_deal a_l_said d_l_said a_l_walk d_l_walk a_l_alike d_l_alike a_l_near_crew d_l_near_crew a_l_stretched d_l_stretched a_l_due d_l_due a_l_moved d_l_moved a_l_counted d_l_counted a_law d_law) : FnG P w K mg base 4 a_never_comes d_never_comes ["table"] (spD K 1 4 m_never_comes) :=
  fnG_pl T.f_never_comes sc_never_comes rfl rfl fun cdv A outer s H E hG hr => have sc := sc_never_comes; (psts_cons (pst_drop (pv_of (pf_callG (ok_need_rows_table T) hG (hr.mono (by decide)) (by rfl) T.g_need_rows_table T.f_need_rows_table.kp T.b_need_rows_table (pps_cons' (pp_name 0) pps_nil') (ms := [.b]) rfl)))
      (psts_cons (pst_set (i := 1) sc.nd (pf_lst pvs_nil))
      (psts_cons (pst_set (i := 2) sc.nd (pf_of (pp_of pv_int)))
      (psts_cons (pst_for PassesOwn.never rfl (pit_seq (pp_name 0)) (pgt_tup rfl (pgts_cons (pgt_name (i := 3) sc.nd) (pgts_cons (pgt_name (i := 4) sc.nd) pgts_nil)) rfl (tsCons_len (tsCons_len tsNil_len))) (psts_cons (pst_if (pt_gt (pp_name 4) (pp_name 2)) (psts_one (pst_drop (pv_mut (j := 1) PySem.F.slot_list_append PySem.F.type_list_append mt_append pmut_append (pvs_cons (pv_tup (pvs_cons (pv_of (pf_add (pp_name 3) (pp_name 2))) (pvs_cons (pv_sub (pp_of (pv_of (pf_add (pp_name 3) (pp_name 4)))) (pp_of pv_int)) pvs_nil))) pvs_nil)))) psts_nil)
      (psts_one (pst_set (i := 2) sc.nd (pf_of (pp_of (pv_of (pf_of (pp_name 4)))))))))
      (psts_one (pst_ret (pf_of (pp_name 1))))))))
theorem ok_folds (T : Tx K mg a_levelled d_levelled a_added_up d_added_up a_stretch_to d_stretch_to a_wish_behind d_wish_behind a_companies_within d_companies_within a_said_of_company d_said_of_company a_changes_by d_changes_by a_is_row d_is_row a_need_row d_need_row a_is_table d_is_table a_is_rows d_is_rows a_need_rows_table d_need_rows_table a_table_of d_table_of a_never_comes d_never_comes a_folds d_folds a_l_tin d_l_tin a_l_deal d_l_deal a_l_said d_l_said a_l_walk d_l_walk a_l_alike d_l_alike a_l_near_crew d_l_near_crew a_l_stretched d_l_stretched a_l_due d_l_due a_l_moved d_l_moved a_l_counted d_l_counted a_law d_law) : FnG P w K mg base 4 a_folds d_folds ["table"] (spD K 1 5 m_folds) :=
  fnG_pl T.f_folds sc_folds rfl rfl fun cdv A outer s H E hG hr => have sc := sc_folds; (psts_cons (pst_drop (pv_of (pf_callG (ok_need_rows_table T) hG (hr.mono (by decide)) (by rfl) T.g_need_rows_table T.f_need_rows_table.kp T.b_need_rows_table (pps_cons' (pp_name 0) pps_nil') (ms := [.b]) rfl)))
      (psts_cons (pst_set (i := 1) sc.nd (pf_lst pvs_nil))
      (psts_cons (pst_set (i := 2) sc.nd (pf_of (pp_of pv_int)))
      (psts_cons (pst_for PassesOwn.never rfl (pit_seq (pp_name 0)) (pgt_tup rfl (pgts_cons (pgt_name (i := 3) sc.nd) (pgts_cons (pgt_name (i := 4) sc.nd) pgts_nil)) rfl (tsCons_len (tsCons_len tsNil_len))) (psts_cons (pst_if (pt_lt (pp_name 4) (pp_name 2)) (psts_cons (pst_set (i := 5) sc.nd (pf_of (pp_of (pv_sub (pp_name 3) (pp_of pv_int)))))
      (psts_cons (pst_if (pt_of (pwt_and (ptt_truth (pp_name 1)) (pwt_and1 (pt_eq hr.units (pp_of (pv_ix (pp_of (pv_ix (pp_name 1) (pp_of (pv_neg pv_int)))) (pp_of pv_int))) (pp_of (pv_sub (pp_name 3) (pp_of pv_int))))))) (psts_one (pst_set (i := 5) sc.nd (pf_of (pp_of (pv_ix (pp_of (pv_mut0 (j := 1) PySem.F.slot_list_pop PySem.F.type_list_pop mt_pop pmut_pop)) (pp_of pv_int)))))) psts_nil)
      (psts_one (pst_drop (pv_mut (j := 1) PySem.F.slot_list_append PySem.F.type_list_append mt_append pmut_append (pvs_cons (pv_tup (pvs_cons (pv_of (pf_of (pp_name 5))) (pvs_cons (pv_sub (pp_name 3) (pp_of pv_int)) pvs_nil))) pvs_nil)))))) psts_nil)
      (psts_one (pst_set (i := 2) sc.nd (pf_of (pp_of (pv_of (pf_of (pp_name 4)))))))))
      (psts_one (pst_ret (pf_of (pp_name 1))))))))
theorem ok_l_tin (T : Tx K mg a_levelled d_levelled a_added_up d_added_up a_stretch_to d_stretch_to a_wish_behind d_wish_behind a_companies_within d_companies_within a_said_of_company d_said_of_company a_changes_by d_changes_by a_is_row d_is_row a_need_row d_need_row a_is_table d_is_table a_is_rows d_is_rows a_need_rows_table d_need_rows_table a_table_of d_table_of a_never_comes d_never_comes a_folds d_folds a_l_tin d_l_tin a_l_deal d_l_deal a_l_said d_l_said a_l_walk d_l_walk a_l_alike d_l_alike a_l_near_crew d_l_near_crew a_l_stretched d_l_stretched a_l_due d_l_due a_l_moved d_l_moved a_l_counted d_l_counted a_law d_law) : FnG P w K mg base 1 a_l_tin d_l_tin ["_law_script", "_law_k"] (spD K 2 1 m_l_tin) :=
  fnG_pl T.f_l_tin sc_l_tin rfl rfl fun cdv A outer s H E hG hr => have sc := sc_l_tin; (psts_cons (pst_set (i := 2) sc.nd (pf_of (pp_of pv_int)))
      (psts_cons (pst_if (pt_lt (pp_name 1) (pp_of (pv_lenS 0 (by rfl) T.n_len))) (psts_one (pst_set (i := 2) sc.nd (pf_of (pp_of (pv_ixS 0 (pv_of (pf_of (pp_name 1)))))))) psts_nil)
      (psts_one (pst_ret (pf_lst (pvs_cons (pv_max2 rfl (by rfl) T.n_max (pps_cons' (pp_of pv_int) (pps_cons' (pp_of (pv_sub (pp_of (pv_abs (by rfl) T.n_abs (pps_cons' (pp_name 2) pps_nil'))) (pp_of (pv_pow (pp_of pv_int) (pp_of pv_int))))) pps_nil'))) (pvs_cons (pv_of (pf_add (pp_of (pv_of (pf_mul (pp_of (pv_mod (pp_name 2) (pp_of (pv_of (pf_add (pp_of (pv_pow (pp_of pv_int) (pp_of pv_int))) (pp_of pv_int)))))) (pp_of pv_int)))) (pp_name 1))) (pvs_cons pv_int pvs_nil))))))))
theorem ok_l_deal (T : Tx K mg a_levelled d_levelled a_added_up d_added_up a_stretch_to d_stretch_to a_wish_behind d_wish_behind a_companies_within d_companies_within a_said_of_company d_said_of_company a_changes_by d_changes_by a_is_row d_is_row a_need_row d_need_row a_is_table d_is_table a_is_rows d_is_rows a_need_rows_table d_need_rows_table a_table_of d_table_of a_never_comes d_never_comes a_folds d_folds a_l_tin d_l_tin a_l_deal d_l_deal a_l_said d_l_said a_l_walk d_l_walk a_l_alike d_l_alike a_l_near_crew d_l_near_crew a_l_stretched d_l_stretched a_l_due d_l_due a_l_moved d_l_moved a_l_counted d_l_counted a_law d_law) : FnG P w K mg base 1 a_l_deal d_l_deal ["_law_tin_here", "_law_wide"] (spD K 2 2 m_l_deal) :=
  fnG_pl T.f_l_deal sc_l_deal rfl rfl fun cdv A outer s H E hG hr => have sc := sc_l_deal; (psts_cons (pst_if (pt_gt (pp_of (pv_ix (pp_name 0) (pp_of pv_int))) (pp_of pv_int)) (psts_cons (pst_set (i := 2) sc.nd (pf_of (pp_of (pv_mod (pp_of (pv_ix (pp_name 0) (pp_of pv_int))) (pp_name 1)))))
      (psts_cons (pst_setix (j := 0) (pv_fdiv (pp_of (pv_ix (pp_name 0) (pp_of pv_int))) (pp_name 1)) pv_int)
      (psts_one (pst_ret (pf_of (pp_name 2)))))) psts_nil)
      (psts_cons (pst_setix (j := 0) (pv_of (pf_add (pp_of (pv_ix (pp_name 0) (pp_of pv_int))) (pp_of pv_int))) pv_int)
      (psts_cons (pst_set (i := 3) sc.nd (pf_of (pp_of (pv_mod (pp_of (pv_pow (pp_of (pv_of (pf_add (pp_of (pv_ix (pp_name 0) (pp_of pv_int))) (pp_of (pv_of (pf_mul (pp_of pv_int) (pp_of (pv_ix (pp_name 0) (pp_of pv_int))))))))) (pp_of pv_int))) (pp_of (pv_of (pf_add (pp_of (pv_pow (pp_of pv_int) (pp_of pv_int))) (pp_of pv_int))))))))
      (psts_cons (pst_set (i := 3) sc.nd (pf_of (pp_of (pv_mod (pp_of (pv_pow (pp_of (pv_of (pf_add (pp_name 3) (pp_of (pv_of (pf_mul (pp_of pv_int) (pp_of (pv_ix (pp_name 0) (pp_of pv_int))))))))) (pp_of pv_int))) (pp_of (pv_of (pf_add (pp_of (pv_pow (pp_of pv_int) (pp_of pv_int))) (pp_of pv_int))))))))
      (psts_one (pst_ret (pf_of (pp_of (pv_mod (pp_of (pv_fdiv (pp_name 3) (pp_of pv_int))) (pp_name 1))))))))))
theorem ok_l_said (T : Tx K mg a_levelled d_levelled a_added_up d_added_up a_stretch_to d_stretch_to a_wish_behind d_wish_behind a_companies_within d_companies_within a_said_of_company d_said_of_company a_changes_by d_changes_by a_is_row d_is_row a_need_row d_need_row a_is_table d_is_table a_is_rows d_is_rows a_need_rows_table d_need_rows_table a_table_of d_table_of a_never_comes d_never_comes a_folds d_folds a_l_tin d_l_tin a_l_deal d_l_deal a_l_said d_l_said a_l_walk d_l_walk a_l_alike d_l_alike a_l_near_crew d_l_near_crew a_l_stretched d_l_stretched a_l_due d_l_due a_l_moved d_l_moved a_l_counted d_l_counted a_law d_law) : FnG P w K mg base 2 a_l_said d_l_said ["_law_tin_here", "_law_wide"] (spD K 2 3 m_l_said) :=
  fnG_pl T.f_l_said sc_l_said rfl rfl fun cdv A outer s H E hG hr => have sc := sc_l_said; (psts_cons (pst_set (i := 2) sc.nd (pf_callG (ok_l_deal T) hG (hr.mono (by decide)) (by rfl) T.g_l_deal T.f_l_deal.kp T.b_l_deal (pps_cons' (pp_name 0) (pps_cons' (pp_name 1) pps_nil')) (ms := [.io, .b]) rfl))
      (psts_cons (pst_set (i := 3) sc.nd (pf_add (pp_name 2) (pp_of (pv_of (pf_callG (ok_l_deal T) hG (hr.mono (by decide)) (by rfl) T.g_l_deal T.f_l_deal.kp T.b_l_deal (pps_cons' (pp_name 0) (pps_cons' (pp_name 1) pps_nil')) (ms := [.io, .b]) rfl)))))
      (psts_cons (pst_set (i := 4) sc.nd (pf_lst (pvs_cons (pv_tup (pvs_cons (pv_of (pf_of (pp_name 2))) (pvs_cons pv_non pvs_nil))) (pvs_cons (pv_tup (pvs_cons (pv_of (pf_of (pp_name 2))) (pvs_cons (pv_of (pf_of (pp_name 2))) pvs_nil))) (pvs_cons (pv_tup (pvs_cons pv_int (pvs_cons (pv_of (pf_of (pp_name 2))) pvs_nil))) (pvs_cons (pv_tup (pvs_cons (pv_of (pf_of (pp_name 2))) (pvs_cons (pv_of (pf_of (pp_name 3))) pvs_nil))) (pvs_cons (pv_tup (pvs_cons pv_int (pvs_cons pv_non pvs_nil))) pvs_nil)))))))
      (psts_one (pst_ret (pf_of (pp_of (pv_ix (pp_name 4) (pp_of (pv_mod (pp_of (pv_of (pf_callG (ok_l_deal T) hG (hr.mono (by decide)) (by rfl) T.g_l_deal T.f_l_deal.kp T.b_l_deal (pps_cons' (pp_name 0) (pps_cons' (pp_of pv_int) pps_nil')) (ms := [.io, .b]) rfl))) (pp_of pv_int)))))))))))
theorem ok_l_walk (T : Tx K mg a_levelled d_levelled a_added_up d_added_up a_stretch_to d_stretch_to a_wish_behind d_wish_behind a_companies_within d_companies_within a_said_of_company d_said_of_company a_changes_by d_changes_by a_is_row d_is_row a_need_row d_need_row a_is_table d_is_table a_is_rows d_is_rows a_need_rows_table d_need_rows_table a_table_of d_table_of a_never_comes d_never_comes a_folds d_folds a_l_tin d_l_tin a_l_deal d_l_deal a_l_said d_l_said a_l_walk d_l_walk a_l_alike d_l_alike a_l_near_crew d_l_near_crew a_l_stretched d_l_stretched a_l_due d_l_due a_l_moved d_l_moved a_l_counted d_l_counted a_law d_law) : FnG P w K mg base 1 a_l_walk d_l_walk ["_law_crew", "_law_crowd"] (spD K 2 4 m_l_walk) :=
  fnG_pl T.f_l_walk sc_l_walk rfl rfl fun cdv A outer s H E hG hr => have sc := sc_l_walk; (psts_cons (pst_set (i := 2) sc.nd (pf_lst pvs_nil))
      (psts_cons (pst_set (i := 3) sc.nd (pf_lst pvs_nil))
      (psts_cons (pst_for PassesOwn.never rfl (pit_seq (pp_of (pv_of (pf_revs (pp_name 0))))) (pgt_tup rfl (pgts_cons (pgt_name (i := 4) sc.nd) (pgts_cons (pgt_name (i := 5) sc.nd) pgts_nil)) rfl (tsCons_len (tsCons_len tsNil_len))) (psts_cons (pst_drop (pv_mut (j := 2) PySem.F.slot_list_append PySem.F.type_list_append mt_append pmut_append (pvs_cons (pv_of (pf_of (pp_name 1))) pvs_nil)))
      (psts_cons (pst_drop (pv_mut (j := 3) PySem.F.slot_list_append PySem.F.type_list_append mt_append pmut_append (pvs_cons (pv_and (pv_le (pp_name 4) (pp_name 1)) (pv_one (pv_or (pv_is (pp_name 5) (pp_of pv_non)) (pv_one (pv_le (pp_name 1) (pp_name 5)))))) pvs_nil)))
      (psts_one (pst_set (i := 1) sc.nd (pf_add (pp_name 1) (pp_of (pv_int1 (by rfl) T.n_int (pps_cons' (pp_of (pv_ix (pp_name 3) (pp_of (pv_neg pv_int)))) pps_nil')))))))))
      (psts_one (pst_ret (pf_lst (pvs_cons (pv_of (pf_revs (pp_name 2))) (pvs_cons (pv_of (pf_revs (pp_name 3))) pvs_nil))))))))
theorem ok_l_alike (T : Tx K mg a_levelled d_levelled a_added_up d_added_up a_stretch_to d_stretch_to a_wish_behind d_wish_behind a_companies_within d_companies_within a_said_of_company d_said_of_company a_changes_by d_changes_by a_is_row d_is_row a_need_row d_need_row a_is_table d_is_table a_is_rows d_is_rows a_need_rows_table d_need_rows_table a_table_of d_table_of a_never_comes d_never_comes a_folds d_folds a_l_tin d_l_tin a_l_deal d_l_deal a_l_said d_l_said a_l_walk d_l_walk a_l_alike d_l_alike a_l_near_crew d_l_near_crew a_l_stretched d_l_stretched a_l_due d_l_due a_l_moved d_l_moved a_l_counted d_l_counted a_law d_law) : ∀ n : Nat, FnG P w K mg base (0 + n + 1) a_l_alike d_l_alike ["_law_found", "_law_due_here"] (spD K 2 2 (m_l_alike n))
  | 0 => fnG_pl T.f_l_alike sc_l_alike rfl rfl fun cdv A outer s H E hG hr => ⟨_, pss_never, fun C G σ H ρ D hK S fl ρ' hf q => nomatch hf⟩
  | n + 1 => by
    have ih := ok_l_alike T n
    exact fnG_pl T.f_l_alike sc_l_alike rfl rfl fun cdv A outer s H E hG hr => have sc := sc_l_alike; (psts_cons (pst_if (ptt_truth (pp_of (pv_isiT (by rfl) T.n_isinstance (pp_name 1) (pa_tyC (pe_ty (by rfl) T.n_list PyProof.Rows.boot_list) (pa_tyC (pe_ty (by rfl) T.n_tuple PyProof.Rows.boot_tuple) pa_tyN)) (by decide) (by decide)))) (psts_cons (pst_if (pt_of (pwt_or (pt_ne hr.units (pp_of (pv_isi (by rfl) T.n_isinstance (pp_name 0) (pe_ty (by rfl) T.n_list PyProof.Rows.boot_list) (by decide))) (pp_of (pv_isi (by rfl) T.n_isinstance (pp_name 1) (pe_ty (by rfl) T.n_list PyProof.Rows.boot_list) (by decide)))) (pwt_or1 (ptt_not (ptt_truth (pp_of (pv_isiT (by rfl) T.n_isinstance (pp_name 0) (pa_tyC (pe_ty (by rfl) T.n_list PyProof.Rows.boot_list) (pa_tyC (pe_ty (by rfl) T.n_tuple PyProof.Rows.boot_tuple) pa_tyN)) (by decide) (by decide)))))))) (psts_one (pst_ret (pf_of (pp_of pv_bl)))) psts_nil)
      (psts_cons (pst_if (pt_ne hr.units (pp_of (pv_len (by rfl) T.n_len (pps_cons' (pp_name 0) pps_nil'))) (pp_of (pv_len (by rfl) T.n_len (pps_cons' (pp_name 1) pps_nil')))) (psts_one (pst_ret (pf_of (pp_of pv_bl)))) psts_nil)
      (psts_one (pst_ret (pf_of (pp_of (pv_all rfl (by rfl) T.n_all (pps_cons' (pp_of (pv_of (pf_lc (own := [("_law_mine", 2), ("_law_other", 3)]) rfl sc.nd (pit_zip (by rfl) T.n_zip (pp_name 0) (pp_name 1)) (blkOk_by (own := [("_law_mine", 2), ("_law_other", 3)]) (N := ["_law_found", "_law_due_here", "_law_mine", "_law_other"]) (sc := defScope s_l_alike) (by decide +kernel)) (fun _ _ _ _ _ => (pgt_tup rfl (pgts_cons (pgt_name (i := 2) sc.nd) (pgts_cons (pgt_name (i := 3) sc.nd) pgts_nil)) rfl (tsCons_len (tsCons_len tsNil_len)))) (fun _ _ _ _ _ => (pv_of (pf_callG ih hG (hr.mono (by omega)) (by rfl) T.g_l_alike T.f_l_alike.kp T.b_l_alike (pps_cons' (pp_name 2) (pps_cons' (pp_name 3) pps_nil')) (ms := [.b, .b]) rfl)))))) pps_nil')))))))) psts_nil)
      (psts_cons (pst_if (pt_is (pp_name 1) (pp_of pv_non)) (psts_one (pst_ret (pf_of (pp_of (pv_is (pp_name 0) (pp_of pv_non)))))) psts_nil)
      (psts_cons (pst_if (ptt_truth (pp_of (pv_isiT (by rfl) T.n_isinstance (pp_name 1) (pa_tyC (pe_ty (by rfl) T.n_bool PyProof.Rows.boot_bool) (pa_tyC (pe_ty (by rfl) T.n_str PyProof.Rows.boot_str) pa_tyN)) (by decide) (by decide)))) (psts_one (pst_ret (pf_of (pp_of (pv_and (pv_eq hr.units (pp_of (pv_isi (by rfl) T.n_isinstance (pp_name 0) (pe_ty (by rfl) T.n_bool PyProof.Rows.boot_bool) (by decide))) (pp_of (pv_isi (by rfl) T.n_isinstance (pp_name 1) (pe_ty (by rfl) T.n_bool PyProof.Rows.boot_bool) (by decide)))) (pv_one (pv_eq hr.units (pp_name 0) (pp_name 1)))))))) psts_nil)
      (psts_one (pst_ret (pf_of (pp_of (pv_and (pv_isi (by rfl) T.n_isinstance (pp_name 0) (pe_ty (by rfl) T.n_int PyProof.Rows.boot_int) (by decide)) (pv_and (pv_not (pv_isi (by rfl) T.n_isinstance (pp_name 0) (pe_ty (by rfl) T.n_bool PyProof.Rows.boot_bool) (by decide))) (pv_one (pv_eq hr.units (pp_name 0) (pp_name 1))))))))))))
theorem ok_l_near_crew (T : Tx K mg a_levelled d_levelled a_added_up d_added_up a_stretch_to d_stretch_to a_wish_behind d_wish_behind a_companies_within d_companies_within a_said_of_company d_said_of_company a_changes_by d_changes_by a_is_row d_is_row a_need_row d_need_row a_is_table d_is_table a_is_rows d_is_rows a_need_rows_table d_need_rows_table a_table_of d_table_of a_never_comes d_never_comes a_folds d_folds a_l_tin d_l_tin a_l_deal d_l_deal a_l_said d_l_said a_l_walk d_l_walk a_l_alike d_l_alike a_l_near_crew d_l_near_crew a_l_stretched d_l_stretched a_l_due d_l_due a_l_moved d_l_moved a_l_counted d_l_counted a_law d_law) : FnG P w K mg base 3 a_l_near_crew d_l_near_crew ["_law_tin_here"] (spD K 1 3 m_l_near_crew) :=
  fnG_pl T.f_l_near_crew sc_l_near_crew rfl rfl fun cdv A outer s H E hG hr => have sc := sc_l_near_crew; (psts_cons (pst_set (i := 1) sc.nd (pf_lst pvs_nil))
      (psts_cons (pst_set (i := 2) sc.nd (pf_of (pp_of (pv_ix (pp_of (pv_of (pf_lst (pvs_cons pv_int (pvs_cons pv_int (pvs_cons pv_int pvs_nil)))))) (pp_of (pv_of (pf_callG (ok_l_deal T) hG (hr.mono (by decide)) (by rfl) T.g_l_deal T.f_l_deal.kp T.b_l_deal (pps_cons' (pp_name 0) (pps_cons' (pp_of pv_int) pps_nil')) (ms := [.io, .b]) rfl)))))))
      (psts_cons (pst_for PassesOwn.never rfl (pit_rng1 (by rfl) T.n_range (pv_ix (pp_of (pv_of (pf_lst (pvs_cons (pv_of (pf_callG (ok_l_deal T) hG (hr.mono (by decide)) (by rfl) T.g_l_deal T.f_l_deal.kp T.b_l_deal (pps_cons' (pp_name 0) (pps_cons' (pp_of pv_int) pps_nil')) (ms := [.io, .b]) rfl)) (pvs_cons (pv_of (pf_callG (ok_l_deal T) hG (hr.mono (by decide)) (by rfl) T.g_l_deal T.f_l_deal.kp T.b_l_deal (pps_cons' (pp_name 0) (pps_cons' (pp_of pv_int) pps_nil')) (ms := [.io, .b]) rfl)) pvs_nil))))) (pp_of (pv_of (pf_callG (ok_l_deal T) hG (hr.mono (by decide)) (by rfl) T.g_l_deal T.f_l_deal.kp T.b_l_deal (pps_cons' (pp_name 0) (pps_cons' (pp_of pv_int) pps_nil')) (ms := [.io, .b]) rfl))))) (pgt_name (i := 3) sc.nd) (psts_one (pst_drop (pv_mut (j := 1) PySem.F.slot_list_append PySem.F.type_list_append mt_append pmut_append (pvs_cons (pv_of (pf_callG (ok_l_said T) hG (hr.mono (by decide)) (by rfl) T.g_l_said T.f_l_said.kp T.b_l_said (pps_cons' (pp_name 0) (pps_cons' (pp_name 2) pps_nil')) (ms := [.io, .b]) rfl)) pvs_nil)))))
      (psts_one (pst_ret (pf_of (pp_name 1)))))))
theorem ok_l_stretched (T : Tx K mg a_levelled d_levelled a_added_up d_added_up a_stretch_to d_stretch_to a_wish_behind d_wish_behind a_companies_within d_companies_within a_said_of_company d_said_of_company a_changes_by d_changes_by a_is_row d_is_row a_need_row d_need_row a_is_table d_is_table a_is_rows d_is_rows a_need_rows_table d_need_rows_table a_table_of d_table_of a_never_comes d_never_comes a_folds d_folds a_l_tin d_l_tin a_l_deal d_l_deal a_l_said d_l_said a_l_walk d_l_walk a_l_alike d_l_alike a_l_near_crew d_l_near_crew a_l_stretched d_l_stretched a_l_due d_l_due a_l_moved d_l_moved a_l_counted d_l_counted a_law d_law) : FnG P w K mg base 1 a_l_stretched d_l_stretched ["_law_numbers"] (spD K 1 2 m_l_stretched) :=
  fnG_pl T.f_l_stretched sc_l_stretched rfl rfl fun cdv A outer s H E hG hr => have sc := sc_l_stretched; (psts_cons (pst_set (i := 1) sc.nd (pf_lst pvs_nil))
      (psts_cons (pst_for PassesOwn.never rfl (pit_seq (pp_name 0)) (pgt_name (i := 2) sc.nd) (psts_one (pst_if (pt_of (pwt_and (pt_ne hr.units (pp_name 1) (pp_of (pv_of (pf_lst pvs_nil)))) (pwt_and1 (pt_eq hr.units (pp_of (pv_ix (pp_of (pv_ix (pp_name 1) (pp_of (pv_neg pv_int)))) (pp_of pv_int))) (pp_of (pv_sub (pp_name 2) (pp_of pv_int))))))) (psts_one (pst_setix (j := 1) (pv_tup (pvs_cons (pv_ix (pp_of (pv_ix (pp_name 1) (pp_of (pv_neg pv_int)))) (pp_of pv_int)) (pvs_cons (pv_of (pf_of (pp_name 2))) pvs_nil))) (pv_neg pv_int))) (psts_one (pst_drop (pv_mut (j := 1) PySem.F.slot_list_append PySem.F.type_list_append mt_append pmut_append (pvs_cons (pv_tup (pvs_cons (pv_of (pf_of (pp_name 2))) (pvs_cons (pv_of (pf_of (pp_name 2))) pvs_nil))) pvs_nil)))))))
      (psts_one (pst_ret (pf_of (pp_name 1))))))
theorem ok_l_due (T : Tx K mg a_levelled d_levelled a_added_up d_added_up a_stretch_to d_stretch_to a_wish_behind d_wish_behind a_companies_within d_companies_within a_said_of_company d_said_of_company a_changes_by d_changes_by a_is_row d_is_row a_need_row d_need_row a_is_table d_is_table a_is_rows d_is_rows a_need_rows_table d_need_rows_table a_table_of d_table_of a_never_comes d_never_comes a_folds d_folds a_l_tin d_l_tin a_l_deal d_l_deal a_l_said d_l_said a_l_walk d_l_walk a_l_alike d_l_alike a_l_near_crew d_l_near_crew a_l_stretched d_l_stretched a_l_due d_l_due a_l_moved d_l_moved a_l_counted d_l_counted a_law d_law) : FnG P w K mg base 2 a_l_due d_l_due ["_law_crew"] (spD K 1 5 m_l_due) :=
  fnG_pl T.f_l_due sc_l_due rfl rfl fun cdv A outer s H E hG hr => have sc := sc_l_due; (psts_cons (pst_set (i := 1) sc.nd (pf_lc (own := [("_law_crowd", 4)]) rfl sc.nd (pit_rng1 (by rfl) T.n_range pv_int) (blkOk_by (own := [("_law_crowd", 4)]) (N := ["_law_crew", "_law_sums", "_law_missed", "_law_folded", "_law_crowd", "_law_number"]) (sc := defScope s_l_due) (by decide +kernel)) (fun _ _ _ _ _ => (pgt_name (i := 4) sc.nd)) (fun _ _ _ _ _ => (pv_of (pf_add (pp_name 4) (pp_of (pv_count hr.u65 (pp_of (pv_ix (pp_of (pv_of (pf_callG (ok_l_walk T) hG (hr.mono (by decide)) (by rfl) T.g_l_walk T.f_l_walk.kp T.b_l_walk (pps_cons' (pp_name 0) (pps_cons' (pp_of (pv_of (pf_of (pp_name 4)))) pps_nil')) (ms := [.b, .v]) rfl))) (pp_of pv_int))) (pps_cons' (pp_of pv_bl) pps_nil'))))))))
      (psts_cons (pst_setLcIf (own := [("_law_number", 5)]) (i := 2) rfl sc.nd rfl rfl (sw_true rfl rfl rfl (by decide +kernel)) (pit_rng1 (by rfl) T.n_range pv_int) (blkOk_by (own := [("_law_number", 5)]) (N := ["_law_crew", "_law_sums", "_law_missed", "_law_folded", "_law_crowd", "_law_number"]) (sc := defScope s_l_due) (by decide +kernel)) (fun _ _ _ _ _ => (pgt_name (i := 5) sc.nd)) (fun _ _ _ _ _ => (pt_notin hr.u65 (pp_name 5) (pp_name 1))) (fun _ _ _ _ _ => (pv_of (pf_of (pp_name 5)))))
      (psts_cons (pst_setLcIf (own := [("_law_crowd", 4)]) (i := 3) rfl sc.nd rfl rfl (sw_true rfl rfl rfl (by decide +kernel)) (pit_rng1 (by rfl) T.n_range pv_int) (blkOk_by (own := [("_law_crowd", 4)]) (N := ["_law_crew", "_law_sums", "_law_missed", "_law_folded", "_law_crowd", "_law_number"]) (sc := defScope s_l_due) (by decide +kernel)) (fun _ _ _ _ _ => (pgt_name (i := 4) sc.nd)) (fun _ _ _ _ _ => (pt_eq hr.units (pp_of (pv_ix (pp_name 1) (pp_name 4))) (pp_of (pv_ix (pp_name 1) (pp_of (pv_of (pf_add (pp_name 4) (pp_of pv_int)))))))) (fun _ _ _ _ _ => (pv_of (pf_of (pp_name 4)))))
      (psts_one (pst_ret (pf_lst (pvs_cons (pv_of (pf_callG (ok_l_stretched T) hG (hr.mono (by decide)) (by rfl) T.g_l_stretched T.f_l_stretched.kp T.b_l_stretched (pps_cons' (pp_name 2) pps_nil') (ms := [.b]) rfl)) (pvs_cons (pv_of (pf_callG (ok_l_stretched T) hG (hr.mono (by decide)) (by rfl) T.g_l_stretched T.f_l_stretched.kp T.b_l_stretched (pps_cons' (pp_name 3) pps_nil') (ms := [.b]) rfl)) pvs_nil))))))))
theorem ok_l_moved (T : Tx K mg a_levelled d_levelled a_added_up d_added_up a_stretch_to d_stretch_to a_wish_behind d_wish_behind a_companies_within d_companies_within a_said_of_company d_said_of_company a_changes_by d_changes_by a_is_row d_is_row a_need_row d_need_row a_is_table d_is_table a_is_rows d_is_rows a_need_rows_table d_need_rows_table a_table_of d_table_of a_never_comes d_never_comes a_folds d_folds a_l_tin d_l_tin a_l_deal d_l_deal a_l_said d_l_said a_l_walk d_l_walk a_l_alike d_l_alike a_l_near_crew d_l_near_crew a_l_stretched d_l_stretched a_l_due d_l_due a_l_moved d_l_moved a_l_counted d_l_counted a_law d_law) : FnG P w K mg base 1 a_l_moved d_l_moved ["_law_rows", "_law_by"] (spD K 2 2 m_l_moved) :=
  fnG_pl T.f_l_moved sc_l_moved rfl rfl fun cdv A outer s H E hG hr => have sc := sc_l_moved; (psts_one (pst_ret (pf_lc (own := [("_law_begun", 2), ("_law_end", 3)]) rfl sc.nd (pit_seq (pp_name 0)) (blkOk_by (own := [("_law_begun", 2), ("_law_end", 3)]) (N := ["_law_rows", "_law_by", "_law_begun", "_law_end"]) (sc := defScope s_l_moved) (by decide +kernel)) (fun _ _ _ _ _ => (pgt_tup rfl (pgts_cons (pgt_name (i := 2) sc.nd) (pgts_cons (pgt_name (i := 3) sc.nd) pgts_nil)) rfl (tsCons_len (tsCons_len tsNil_len)))) (fun _ _ _ _ _ => (pv_tup (pvs_cons (pv_of (pf_add (pp_name 2) (pp_name 1))) (pvs_cons (pv_of (pf_add (pp_name 3) (pp_name 1))) pvs_nil)))))))
theorem ok_l_counted (T : Tx K mg a_levelled d_levelled a_added_up d_added_up a_stretch_to d_stretch_to a_wish_behind d_wish_behind a_companies_within d_companies_within a_said_of_company d_said_of_company a_changes_by d_changes_by a_is_row d_is_row a_need_row d_need_row a_is_table d_is_table a_is_rows d_is_rows a_need_rows_table d_need_rows_table a_table_of d_table_of a_never_comes d_never_comes a_folds d_folds a_l_tin d_l_tin a_l_deal d_l_deal a_l_said d_l_said a_l_walk d_l_walk a_l_alike d_l_alike a_l_near_crew d_l_near_crew a_l_stretched d_l_stretched a_l_due d_l_due a_l_moved d_l_moved a_l_counted d_l_counted a_law d_law) : FnG P w K mg base 1 a_l_counted d_l_counted ["_law_rows"] (spD K 1 2 m_l_counted) :=
  fnG_pl T.f_l_counted sc_l_counted rfl rfl fun cdv A outer s H E hG hr => have sc := sc_l_counted; (psts_one (pst_ret (pf_of (pp_of (pv_sum rfl (by rfl) T.n_sum (pps_cons' (pp_of (pv_of (pf_lc (own := [("_law_begun", 1), ("_law_end", 2)]) rfl sc.nd (pit_seq (pp_name 0)) (blkOk_by (own := [("_law_begun", 1), ("_law_end", 2)]) (N := ["_law_rows", "_law_begun", "_law_end"]) (sc := defScope s_l_counted) (by decide +kernel)) (fun _ _ _ _ _ => (pgt_tup rfl (pgts_cons (pgt_name (i := 1) sc.nd) (pgts_cons (pgt_name (i := 2) sc.nd) pgts_nil)) rfl (tsCons_len (tsCons_len tsNil_len)))) (fun _ _ _ _ _ => (pv_sub (pp_of (pv_of (pf_add (pp_name 2) (pp_of pv_int)))) (pp_name 1)))))) pps_nil'))))))
theorem ok_law (T : Tx K mg a_levelled d_levelled a_added_up d_added_up a_stretch_to d_stretch_to a_wish_behind d_wish_behind a_companies_within d_companies_within a_said_of_company d_said_of_company a_changes_by d_changes_by a_is_row d_is_row a_need_row d_need_row a_is_table d_is_table a_is_rows d_is_rows a_need_rows_table d_need_rows_table a_table_of d_table_of a_never_comes d_never_comes a_folds d_folds a_l_tin d_l_tin a_l_deal d_l_deal a_l_said d_l_said a_l_walk d_l_walk a_l_alike d_l_alike a_l_near_crew d_l_near_crew a_l_stretched d_l_stretched a_l_due d_l_due a_l_moved d_l_moved a_l_counted d_l_counted a_law d_law) : FnG P w K mg base 10 a_law d_law ["_law_script"] (spD K 1 17 m_law) :=
  fnG_pl T.f_law sc_law rfl rfl fun cdv A outer s H E hG hr => have sc := sc_law; (psts_cons (pst_for PassesOwn.never rfl (pit_rng1 (by rfl) T.n_range (pv_max2 rfl (by rfl) T.n_max (pps_cons' (pp_of pv_int) (pps_cons' (pp_of (pv_min2 rfl (by rfl) T.n_min (pps_cons' (pp_of pv_int) (pps_cons' (pp_of (pv_lenS 0 (by rfl) T.n_len)) pps_nil')))) pps_nil')))) (pgt_name (i := 1) sc.nd) (psts_cons (pst_set (i := 2) sc.nd (pf_callG (ok_l_tin T) hG (hr.mono (by decide)) (by rfl) T.g_l_tin T.f_l_tin.kp T.b_l_tin (pps_cons' (pp_name 0) (pps_cons' (pp_name 1) pps_nil')) (ms := [.s, .b]) rfl))
      (psts_cons (pst_set (i := 3) sc.nd (pf_callG (ok_l_near_crew T) hG (hr.mono (by decide)) (by rfl) T.g_l_near_crew T.f_l_near_crew.kp T.b_l_near_crew (pps_cons' (pp_name 2) pps_nil') (ms := [.io]) rfl))
      (psts_cons (pst_set (i := 4) sc.nd (pf_callG (ok_l_due T) hG (hr.mono (by decide)) (by rfl) T.g_l_due T.f_l_due.kp T.b_l_due (pps_cons' (pp_name 3) pps_nil') (ms := [.b]) rfl))
      (psts_cons (pst_set (i := 5) sc.nd (pf_of (pp_of (pv_ix (pp_of (pv_of (pf_lst (pvs_cons pv_int (pvs_cons (pv_of (pf_callG (ok_l_deal T) hG (hr.mono (by decide)) (by rfl) T.g_l_deal T.f_l_deal.kp T.b_l_deal (pps_cons' (pp_name 2) (pps_cons' (pp_of pv_int) pps_nil')) (ms := [.io, .b]) rfl)) (pvs_cons (pv_of (pf_callG (ok_l_deal T) hG (hr.mono (by decide)) (by rfl) T.g_l_deal T.f_l_deal.kp T.b_l_deal (pps_cons' (pp_name 2) (pps_cons' (pp_of (pv_pow (pp_of pv_int) (pp_of pv_int))) pps_nil')) (ms := [.io, .b]) rfl)) pvs_nil)))))) (pp_of (pv_of (pf_callG (ok_l_deal T) hG (hr.mono (by decide)) (by rfl) T.g_l_deal T.f_l_deal.kp T.b_l_deal (pps_cons' (pp_name 2) (pps_cons' (pp_of pv_int) pps_nil')) (ms := [.io, .b]) rfl)))))))
      (psts_cons (pst_set (i := 6) sc.nd (pf_lst pvs_nil))
      (psts_cons (pst_for PassesOwn.never rfl (pit_seq (pp_of (pv_of (pf_of (pp_name 3))))) (pgt_tup rfl (pgts_cons (pgt_name (i := 7) sc.nd) (pgts_cons (pgt_name (i := 8) sc.nd) pgts_nil)) rfl (tsCons_len (tsCons_len tsNil_len))) (psts_one (pst_drop (pv_mut (j := 6) PySem.F.slot_list_append PySem.F.type_list_append mt_append pmut_append (pvs_cons (pv_tup (pvs_cons (pv_of (pf_add (pp_name 7) (pp_name 5))) (pvs_cons (pv_if (pt_is (pp_name 8) (pp_of pv_non)) pv_non (pv_of (pf_add (pp_name 8) (pp_name 5)))) pvs_nil))) pvs_nil)))))
      (psts_cons (pst_set (i := 9) sc.nd (pf_of (pp_of (pv_len (by rfl) T.n_len (pps_cons' (pp_of (pv_of (pf_lcIf (own := [("_law_claim", 17)]) rfl sc.nd (pit_seq (pp_of (pv_of (pf_of (pp_name 3))))) (blkOk_by (own := [("_law_claim", 17)]) (N := ["_law_script", "_law_k", "_law_tin_here", "_law_crew", "_law_due_here", "_law_by", "_law_far", "_law_least", "_law_most", "_law_endless", "_law_some", "_law_more", "_law_steps_told", "_law_rows", "_law_told", "_law_counts", "_law_part", "_law_claim"]) (sc := defScope s_law) (by decide +kernel)) (fun _ _ _ _ _ => (pgt_name (i := 17) sc.nd)) (fun _ _ _ _ _ => (pt_is (pp_of (pv_ix (pp_name 17) (pp_of pv_int))) (pp_of pv_non))) (fun _ _ _ _ _ => (pv_of (pf_of (pp_name 17))))))) pps_nil')))))
      (psts_one (pst_for PassesOwn.never rfl (pit_seq (pp_of (pv_of (pf_lst (pvs_cons (pv_tup (pvs_cons (pv_of (pf_of (pp_name 3))) (pvs_cons pv_int pvs_nil))) (pvs_cons (pv_tup (pvs_cons (pv_of (pf_of (pp_name 6))) (pvs_cons (pv_of (pf_of (pp_name 5))) pvs_nil))) pvs_nil)))))) (pgt_tup rfl (pgts_cons (pgt_name (i := 10) sc.nd) (pgts_cons (pgt_name (i := 11) sc.nd) pgts_nil)) rfl (tsCons_len (tsCons_len tsNil_len))) (psts_cons (pst_set (i := 12) sc.nd (pf_callG (ok_table_of T) hG (hr.mono (by decide)) (by rfl) T.g_table_of T.f_table_of.kp T.b_table_of (pps_cons' (pp_name 10) pps_nil') (ms := [.b]) rfl))
      (psts_cons (pst_set (i := 13) sc.nd (pf_lst (pvs_cons (pv_of (pf_callG (ok_l_moved T) hG (hr.mono (by decide)) (by rfl) T.g_l_moved T.f_l_moved.kp T.b_l_moved (pps_cons' (pp_of (pv_ix (pp_name 4) (pp_of pv_int))) (pps_cons' (pp_name 11) pps_nil')) (ms := [.b, .b]) rfl)) (pvs_cons (pv_of (pf_callG (ok_l_moved T) hG (hr.mono (by decide)) (by rfl) T.g_l_moved T.f_l_moved.kp T.b_l_moved (pps_cons' (pp_of (pv_ix (pp_name 4) (pp_of pv_int))) (pps_cons' (pp_name 11) pps_nil')) (ms := [.b, .b]) rfl)) pvs_nil))))
      (psts_junk (i := 14) sc.nd (pn_lst (pns_cons (pn_callG (ok_never_comes T) hG (hr.mono (by decide)) (by rfl) T.g_never_comes T.f_never_comes.kp T.b_never_comes (pps_cons' (pp_name 12) pps_nil') (ms := [.b]) rfl) (pns_cons (pn_callG (ok_folds T) hG (hr.mono (by decide)) (by rfl) T.g_folds T.f_folds.kp T.b_folds (pps_cons' (pp_name 12) pps_nil') (ms := [.b]) rfl) pns_nil)))
      (pcut_cons (pst_if (ptt_not (ptt_truth (pp_of (pv_of (pf_callG (ok_l_alike T 8) hG (hr.mono (by decide)) (by rfl) T.g_l_alike T.f_l_alike.kp T.b_l_alike (pps_cons' (pp_name 14) (pps_cons' (pp_name 13) pps_nil')) (ms := [.b, .b]) rfl))))) (psts_one (pst_ret (pf_of (pp_of pv_bl)))) psts_nil)
      (pcut_cons (pst_setLc (own := [("_law_part", 16)]) (i := 15) rfl sc.nd rfl rfl (sw_true rfl rfl rfl (by decide +kernel)) (pit_seq (pp_name 14)) (blkOk_by (own := [("_law_part", 16)]) (N := ["_law_script", "_law_k", "_law_tin_here", "_law_crew", "_law_due_here", "_law_by", "_law_far", "_law_least", "_law_most", "_law_endless", "_law_some", "_law_more", "_law_steps_told", "_law_rows", "_law_told", "_law_counts", "_law_part", "_law_claim"]) (sc := defScope s_law) (by decide +kernel)) (fun _ _ _ _ _ => (pgt_name (i := 16) sc.nd)) (fun _ _ _ _ _ => (pv_of (pf_callG (ok_l_counted T) hG (hr.mono (by decide)) (by rfl) T.g_l_counted T.f_l_counted.kp T.b_l_counted (pps_cons' (pp_name 16) pps_nil') (ms := [.b]) rfl))))
      (pcut_cons (pst_if (pt_of (pwt_or (pt_ne hr.units (pp_of (pv_ix (pp_name 15) (pp_of pv_int))) (pp_of (pv_of (pf_add (pp_of (pv_ix (pp_name 15) (pp_of pv_int))) (pp_name 9))))) (pwt_or1 (pt_ne hr.units (pp_of (pv_ix (pp_of (pv_ix (pp_name 12) (pp_of (pv_neg pv_int)))) (pp_of pv_int))) (pp_name 9))))) (psts_one (pst_ret (pf_of (pp_of pv_bl)))) psts_nil)
      pcut_nil)))
      (pj_for (i := 14) (jx := 16) PassesOwn.never rfl (pb_app (jx := 16) (pkc_one (pk_tup (pka_cons pk_int (pka_cons pk_int pka_nil)))) pb_nil) (by decide) sc.nd)
      (psts_one (pst_if (ptt_not (ptt_truth (pp_of (pv_of (pf_callG (ok_l_alike T 8) hG (hr.mono (by decide)) (by rfl) T.g_l_alike T.f_l_alike.kp T.b_l_alike (pps_cons' (pp_of (pv_of (pf_lst (pvs_cons (pv_of (pf_callG (ok_never_comes T) hG (hr.mono (by decide)) (by rfl) T.g_never_comes T.f_never_comes.kp T.b_never_comes (pps_cons' (pp_name 12) pps_nil') (ms := [.b]) rfl)) (pvs_cons (pv_of (pf_callG (ok_folds T) hG (hr.mono (by decide)) (by rfl) T.g_folds T.f_folds.kp T.b_folds (pps_cons' (pp_name 12) pps_nil') (ms := [.b]) rfl)) pvs_nil))))) (pps_cons' (pp_name 13) pps_nil')) (ms := [.b, .b]) rfl))))) (psts_one (pst_ret (pf_of (pp_of pv_bl)))) psts_nil)))))))))))))))
      (psts_one (pst_ret (pf_of (pp_of pv_bl)))))
end
set_option maxHeartbeats 0 in
theorem all_mk {l : PySem.W.OpenLaw} {w : World} {K : PySem.W.Frag} {h : Heap} {mg : Str → Option Value} {fa a_levelled a_added_up a_stretch_to a_wish_behind a_companies_within a_said_of_company a_changes_by a_is_row a_need_row a_is_table a_is_rows a_need_rows_table a_table_of a_never_comes a_folds a_l_tin a_l_deal a_l_said a_l_walk a_l_alike a_l_near_crew a_l_stretched a_l_due a_l_moved a_l_counted a_law : Addr} (X : K.In h) (G : h.Ns mainGlobals mg) (hfa : mg "law" = some (.ref fa))
    {od_levelled an_levelled od_added_up an_added_up od_stretch_to an_stretch_to od_wish_behind an_wish_behind od_companies_within an_companies_within od_said_of_company an_said_of_company od_changes_by an_changes_by od_is_row an_is_row od_need_row an_need_row od_is_table an_is_table od_is_rows an_is_rows od_need_rows_table an_need_rows_table od_table_of an_table_of od_never_comes an_never_comes od_folds an_folds od_l_tin an_l_tin od_l_deal an_l_deal od_l_said an_l_said od_l_walk an_l_walk od_l_alike an_l_alike od_l_near_crew an_l_near_crew od_l_stretched an_l_stretched od_l_due an_l_due od_l_moved an_l_moved od_l_counted an_l_counted od_law an_law : Option Addr} {sl_levelled sl_added_up sl_stretch_to sl_wish_behind sl_companies_within sl_said_of_company sl_changes_by sl_is_row sl_need_row sl_is_table sl_is_rows sl_need_rows_table sl_table_of sl_never_comes sl_folds sl_l_tin sl_l_deal sl_l_said sl_l_walk sl_l_alike sl_l_near_crew sl_l_stretched sl_l_due sl_l_moved sl_l_counted sl_law : Array (Option Value)} {oc_levelled kV_levelled dc_levelled pm_levelled cd_levelled ct_levelled oc_added_up kV_added_up dc_added_up pm_added_up cd_added_up ct_added_up oc_stretch_to kV_stretch_to dc_stretch_to pm_stretch_to cd_stretch_to ct_stretch_to oc_wish_behind kV_wish_behind dc_wish_behind pm_wish_behind cd_wish_behind ct_wish_behind oc_companies_within kV_companies_within dc_companies_within pm_companies_within cd_companies_within ct_companies_within oc_said_of_company kV_said_of_company dc_said_of_company pm_said_of_company cd_said_of_company ct_said_of_company oc_changes_by kV_changes_by dc_changes_by pm_changes_by cd_changes_by ct_changes_by oc_is_row kV_is_row dc_is_row pm_is_row cd_is_row ct_is_row oc_need_row kV_need_row dc_need_row pm_need_row cd_need_row ct_need_row oc_is_table kV_is_table dc_is_table pm_is_table cd_is_table ct_is_table oc_is_rows kV_is_rows dc_is_rows pm_is_rows cd_is_rows ct_is_rows oc_need_rows_table kV_need_rows_table dc_need_rows_table pm_need_rows_table cd_need_rows_table ct_need_rows_table oc_table_of kV_table_of dc_table_of pm_table_of cd_table_of ct_table_of oc_never_comes kV_never_comes dc_never_comes pm_never_comes cd_never_comes ct_never_comes oc_folds kV_folds dc_folds pm_folds cd_folds ct_folds oc_l_tin kV_l_tin dc_l_tin pm_l_tin cd_l_tin ct_l_tin oc_l_deal kV_l_deal dc_l_deal pm_l_deal cd_l_deal ct_l_deal oc_l_said kV_l_said dc_l_said pm_l_said cd_l_said ct_l_said oc_l_walk kV_l_walk dc_l_walk pm_l_walk cd_l_walk ct_l_walk oc_l_alike kV_l_alike dc_l_alike pm_l_alike cd_l_alike ct_l_alike oc_l_near_crew kV_l_near_crew dc_l_near_crew pm_l_near_crew cd_l_near_crew ct_l_near_crew oc_l_stretched kV_l_stretched dc_l_stretched pm_l_stretched cd_l_stretched ct_l_stretched oc_l_due kV_l_due dc_l_due pm_l_due cd_l_due ct_l_due oc_l_moved kV_l_moved dc_l_moved pm_l_moved cd_l_moved ct_l_moved oc_l_counted kV_l_counted dc_l_counted pm_l_counted cd_l_counted ct_l_counted oc_law kV_law dc_law pm_law cd_law ct_law : Value}
    (alevelled : PySem.W.nsIn K mainGlobals "levelled" = some (some (.ref a_levelled))) (llevelled : K.lookup a_levelled = some ⟨oc_levelled, od_levelled, .func (PySem.W.fnOf "levelled" "levelled" (defArgs s_levelled) (defBody s_levelled) (defScope s_levelled) .none kV_levelled dc_levelled pm_levelled an_levelled cd_levelled ct_levelled), sl_levelled⟩) (clevelled : PySem.W.codeIn K cd_levelled "levelled" = true) (klevelled : PySem.W.keepIn K (.ref a_levelled) = true)
    (aadded_up : PySem.W.nsIn K mainGlobals "added_up" = some (some (.ref a_added_up))) (ladded_up : K.lookup a_added_up = some ⟨oc_added_up, od_added_up, .func (PySem.W.fnOf "added_up" "added_up" (defArgs s_added_up) (defBody s_added_up) (defScope s_added_up) .none kV_added_up dc_added_up pm_added_up an_added_up cd_added_up ct_added_up), sl_added_up⟩) (cadded_up : PySem.W.codeIn K cd_added_up "added_up" = true) (kadded_up : PySem.W.keepIn K (.ref a_added_up) = true)
    (astretch_to : PySem.W.nsIn K mainGlobals "stretch_to" = some (some (.ref a_stretch_to))) (lstretch_to : K.lookup a_stretch_to = some ⟨oc_stretch_to, od_stretch_to, .func (PySem.W.fnOf "stretch_to" "stretch_to" (defArgs s_stretch_to) (defBody s_stretch_to) (defScope s_stretch_to) .none kV_stretch_to dc_stretch_to pm_stretch_to an_stretch_to cd_stretch_to ct_stretch_to), sl_stretch_to⟩) (cstretch_to : PySem.W.codeIn K cd_stretch_to "stretch_to" = true) (kstretch_to : PySem.W.keepIn K (.ref a_stretch_to) = true)
    (awish_behind : PySem.W.nsIn K mainGlobals "wish_behind" = some (some (.ref a_wish_behind))) (lwish_behind : K.lookup a_wish_behind = some ⟨oc_wish_behind, od_wish_behind, .func (PySem.W.fnOf "wish_behind" "wish_behind" (defArgs s_wish_behind) (defBody s_wish_behind) (defScope s_wish_behind) .none kV_wish_behind dc_wish_behind pm_wish_behind an_wish_behind cd_wish_behind ct_wish_behind), sl_wish_behind⟩) (cwish_behind : PySem.W.codeIn K cd_wish_behind "wish_behind" = true) (kwish_behind : PySem.W.keepIn K (.ref a_wish_behind) = true)
    (acompanies_within : PySem.W.nsIn K mainGlobals "companies_within" = some (some (.ref a_companies_within))) (lcompanies_within : K.lookup a_companies_within = some ⟨oc_companies_within, od_companies_within, .func (PySem.W.fnOf "companies_within" "companies_within" (defArgs s_companies_within) (defBody s_companies_within) (defScope s_companies_within) .none kV_companies_within dc_companies_within pm_companies_within an_companies_within cd_companies_within ct_companies_within), sl_companies_within⟩) (ccompanies_within : PySem.W.codeIn K cd_companies_within "companies_within" = true) (kcompanies_within : PySem.W.keepIn K (.ref a_companies_within) = true)
    (asaid_of_company : PySem.W.nsIn K mainGlobals "said_of_company" = some (some (.ref a_said_of_company))) (lsaid_of_company : K.lookup a_said_of_company = some ⟨oc_said_of_company, od_said_of_company, .func (PySem.W.fnOf "said_of_company" "said_of_company" (defArgs s_said_of_company) (defBody s_said_of_company) (defScope s_said_of_company) .none kV_said_of_company dc_said_of_company pm_said_of_company an_said_of_company cd_said_of_company ct_said_of_company), sl_said_of_company⟩) (csaid_of_company : PySem.W.codeIn K cd_said_of_company "said_of_company" = true) (ksaid_of_company : PySem.W.keepIn K (.ref a_said_of_company) = true)
    (achanges_by : PySem.W.nsIn K mainGlobals "changes_by" = some (some (.ref a_changes_by))) (lchanges_by : K.lookup a_changes_by = some ⟨oc_changes_by, od_changes_by, .func (PySem.W.fnOf "changes_by" "changes_by" (defArgs s_changes_by) (defBody s_changes_by) (defScope s_changes_by) .none kV_changes_by dc_changes_by pm_changes_by an_changes_by cd_changes_by ct_changes_by), sl_changes_by⟩) (cchanges_by : PySem.W.codeIn K cd_changes_by "changes_by" = true) (kchanges_by : PySem.W.keepIn K (.ref a_changes_by) = true)
    (ais_row : PySem.W.nsIn K mainGlobals "is_row" = some (some (.ref a_is_row))) (lis_row : K.lookup a_is_row = some ⟨oc_is_row, od_is_row, .func (PySem.W.fnOf "is_row" "is_row" (defArgs s_is_row) (defBody s_is_row) (defScope s_is_row) .none kV_is_row dc_is_row pm_is_row an_is_row cd_is_row ct_is_row), sl_is_row⟩) (cis_row : PySem.W.codeIn K cd_is_row "is_row" = true) (kis_row : PySem.W.keepIn K (.ref a_is_row) = true)
    (aneed_row : PySem.W.nsIn K mainGlobals "need_row" = some (some (.ref a_need_row))) (lneed_row : K.lookup a_need_row = some ⟨oc_need_row, od_need_row, .func (PySem.W.fnOf "need_row" "need_row" (defArgs s_need_row) (defBody s_need_row) (defScope s_need_row) .none kV_need_row dc_need_row pm_need_row an_need_row cd_need_row ct_need_row), sl_need_row⟩) (cneed_row : PySem.W.codeIn K cd_need_row "need_row" = true) (kneed_row : PySem.W.keepIn K (.ref a_need_row) = true)
    (ais_table : PySem.W.nsIn K mainGlobals "is_table" = some (some (.ref a_is_table))) (lis_table : K.lookup a_is_table = some ⟨oc_is_table, od_is_table, .func (PySem.W.fnOf "is_table" "is_table" (defArgs s_is_table) (defBody s_is_table) (defScope s_is_table) .none kV_is_table dc_is_table pm_is_table an_is_table cd_is_table ct_is_table), sl_is_table⟩) (cis_table : PySem.W.codeIn K cd_is_table "is_table" = true) (kis_table : PySem.W.keepIn K (.ref a_is_table) = true)
    (ais_rows : PySem.W.nsIn K mainGlobals "is_rows" = some (some (.ref a_is_rows))) (lis_rows : K.lookup a_is_rows = some ⟨oc_is_rows, od_is_rows, .func (PySem.W.fnOf "is_rows" "is_rows" (defArgs s_is_rows) (defBody s_is_rows) (defScope s_is_rows) .none kV_is_rows dc_is_rows pm_is_rows an_is_rows cd_is_rows ct_is_rows), sl_is_rows⟩) (cis_rows : PySem.W.codeIn K cd_is_rows "is_rows" = true) (kis_rows : PySem.W.keepIn K (.ref a_is_rows) = true)
    (aneed_rows_table : PySem.W.nsIn K mainGlobals "need_rows_table" = some (some (.ref a_need_rows_table))) (lneed_rows_table : K.lookup a_need_rows_table = some ⟨oc_need_rows_table, od_need_rows_table, .func (PySem.W.fnOf "need_rows_table" "need_rows_table" (defArgs s_need_rows_table) (defBody s_need_rows_table) (defScope s_need_rows_table) .none kV_need_rows_table dc_need_rows_table pm_need_rows_table an_need_rows_table cd_need_rows_table ct_need_rows_table), sl_need_rows_table⟩) (cneed_rows_table : PySem.W.codeIn K cd_need_rows_table "need_rows_table" = true) (kneed_rows_table : PySem.W.keepIn K (.ref a_need_rows_table) = true)
    (atable_of : PySem.W.nsIn K mainGlobals "table_of" = some (some (.ref a_table_of))) (ltable_of : K.lookup a_table_of = some ⟨oc_table_of, od_table_of, .func (PySem.W.fnOf "table_of" "table_of" (defArgs s_table_of) (defBody s_table_of) (defScope s_table_of) .none kV_table_of dc_table_of pm_table_of an_table_of cd_table_of ct_table_of), sl_table_of⟩) (ctable_of : PySem.W.codeIn K cd_table_of "table_of" = true) (ktable_of : PySem.W.keepIn K (.ref a_table_of) = true)
    (anever_comes : PySem.W.nsIn K mainGlobals "never_comes" = some (some (.ref a_never_comes))) (lnever_comes : K.lookup a_never_comes = some ⟨oc_never_comes, od_never_comes, .func (PySem.W.fnOf "never_comes" "never_comes" (defArgs s_never_comes) (defBody s_never_comes) (defScope s_never_comes) .none kV_never_comes dc_never_comes pm_never_comes an_never_comes cd_never_comes ct_never_comes), sl_never_comes⟩) (cnever_comes : PySem.W.codeIn K cd_never_comes "never_comes" = true) (knever_comes : PySem.W.keepIn K (.ref a_never_comes) = true)
    (afolds : PySem.W.nsIn K mainGlobals "folds" = some (some (.ref a_folds))) (lfolds : K.lookup a_folds = some ⟨oc_folds, od_folds, .func (PySem.W.fnOf "folds" "folds" (defArgs s_folds) (defBody s_folds) (defScope s_folds) .none kV_folds dc_folds pm_folds an_folds cd_folds ct_folds), sl_folds⟩) (cfolds : PySem.W.codeIn K cd_folds "folds" = true) (kfolds : PySem.W.keepIn K (.ref a_folds) = true)
    (al_tin : PySem.W.nsIn K mainGlobals "_law_tin" = some (some (.ref a_l_tin))) (ll_tin : K.lookup a_l_tin = some ⟨oc_l_tin, od_l_tin, .func (PySem.W.fnOf "_law_tin" "_law_tin" (defArgs s_l_tin) (defBody s_l_tin) (defScope s_l_tin) .none kV_l_tin dc_l_tin pm_l_tin an_l_tin cd_l_tin ct_l_tin), sl_l_tin⟩) (cl_tin : PySem.W.codeIn K cd_l_tin "_law_tin" = true) (kl_tin : PySem.W.keepIn K (.ref a_l_tin) = true)
    (al_deal : PySem.W.nsIn K mainGlobals "_law_deal" = some (some (.ref a_l_deal))) (ll_deal : K.lookup a_l_deal = some ⟨oc_l_deal, od_l_deal, .func (PySem.W.fnOf "_law_deal" "_law_deal" (defArgs s_l_deal) (defBody s_l_deal) (defScope s_l_deal) .none kV_l_deal dc_l_deal pm_l_deal an_l_deal cd_l_deal ct_l_deal), sl_l_deal⟩) (cl_deal : PySem.W.codeIn K cd_l_deal "_law_deal" = true) (kl_deal : PySem.W.keepIn K (.ref a_l_deal) = true)
    (al_said : PySem.W.nsIn K mainGlobals "_law_said" = some (some (.ref a_l_said))) (ll_said : K.lookup a_l_said = some ⟨oc_l_said, od_l_said, .func (PySem.W.fnOf "_law_said" "_law_said" (defArgs s_l_said) (defBody s_l_said) (defScope s_l_said) .none kV_l_said dc_l_said pm_l_said an_l_said cd_l_said ct_l_said), sl_l_said⟩) (cl_said : PySem.W.codeIn K cd_l_said "_law_said" = true) (kl_said : PySem.W.keepIn K (.ref a_l_said) = true)
    (al_walk : PySem.W.nsIn K mainGlobals "_law_walk" = some (some (.ref a_l_walk))) (ll_walk : K.lookup a_l_walk = some ⟨oc_l_walk, od_l_walk, .func (PySem.W.fnOf "_law_walk" "_law_walk" (defArgs s_l_walk) (defBody s_l_walk) (defScope s_l_walk) .none kV_l_walk dc_l_walk pm_l_walk an_l_walk cd_l_walk ct_l_walk), sl_l_walk⟩) (cl_walk : PySem.W.codeIn K cd_l_walk "_law_walk" = true) (kl_walk : PySem.W.keepIn K (.ref a_l_walk) = true)
    (al_alike : PySem.W.nsIn K mainGlobals "_law_alike" = some (some (.ref a_l_alike))) (ll_alike : K.lookup a_l_alike = some ⟨oc_l_alike, od_l_alike, .func (PySem.W.fnOf "_law_alike" "_law_alike" (defArgs s_l_alike) (defBody s_l_alike) (defScope s_l_alike) .none kV_l_alike dc_l_alike pm_l_alike an_l_alike cd_l_alike ct_l_alike), sl_l_alike⟩) (cl_alike : PySem.W.codeIn K cd_l_alike "_law_alike" = true) (kl_alike : PySem.W.keepIn K (.ref a_l_alike) = true)
    (al_near_crew : PySem.W.nsIn K mainGlobals "_law_near_crew" = some (some (.ref a_l_near_crew))) (ll_near_crew : K.lookup a_l_near_crew = some ⟨oc_l_near_crew, od_l_near_crew, .func (PySem.W.fnOf "_law_near_crew" "_law_near_crew" (defArgs s_l_near_crew) (defBody s_l_near_crew) (defScope s_l_near_crew) .none kV_l_near_crew dc_l_near_crew pm_l_near_crew an_l_near_crew cd_l_near_crew ct_l_near_crew), sl_l_near_crew⟩) (cl_near_crew : PySem.W.codeIn K cd_l_near_crew "_law_near_crew" = true) (kl_near_crew : PySem.W.keepIn K (.ref a_l_near_crew) = true)
    (al_stretched : PySem.W.nsIn K mainGlobals "_law_stretched" = some (some (.ref a_l_stretched))) (ll_stretched : K.lookup a_l_stretched = some ⟨oc_l_stretched, od_l_stretched, .func (PySem.W.fnOf "_law_stretched" "_law_stretched" (defArgs s_l_stretched) (defBody s_l_stretched) (defScope s_l_stretched) .none kV_l_stretched dc_l_stretched pm_l_stretched an_l_stretched cd_l_stretched ct_l_stretched), sl_l_stretched⟩) (cl_stretched : PySem.W.codeIn K cd_l_stretched "_law_stretched" = true) (kl_stretched : PySem.W.keepIn K (.ref a_l_stretched) = true)
    (al_due : PySem.W.nsIn K mainGlobals "_law_due" = some (some (.ref a_l_due))) (ll_due : K.lookup a_l_due = some ⟨oc_l_due, od_l_due, .func (PySem.W.fnOf "_law_due" "_law_due" (defArgs s_l_due) (defBody s_l_due) (defScope s_l_due) .none kV_l_due dc_l_due pm_l_due an_l_due cd_l_due ct_l_due), sl_l_due⟩) (cl_due : PySem.W.codeIn K cd_l_due "_law_due" = true) (kl_due : PySem.W.keepIn K (.ref a_l_due) = true)
    (al_moved : PySem.W.nsIn K mainGlobals "_law_moved" = some (some (.ref a_l_moved))) (ll_moved : K.lookup a_l_moved = some ⟨oc_l_moved, od_l_moved, .func (PySem.W.fnOf "_law_moved" "_law_moved" (defArgs s_l_moved) (defBody s_l_moved) (defScope s_l_moved) .none kV_l_moved dc_l_moved pm_l_moved an_l_moved cd_l_moved ct_l_moved), sl_l_moved⟩) (cl_moved : PySem.W.codeIn K cd_l_moved "_law_moved" = true) (kl_moved : PySem.W.keepIn K (.ref a_l_moved) = true)
    (al_counted : PySem.W.nsIn K mainGlobals "_law_counted" = some (some (.ref a_l_counted))) (ll_counted : K.lookup a_l_counted = some ⟨oc_l_counted, od_l_counted, .func (PySem.W.fnOf "_law_counted" "_law_counted" (defArgs s_l_counted) (defBody s_l_counted) (defScope s_l_counted) .none kV_l_counted dc_l_counted pm_l_counted an_l_counted cd_l_counted ct_l_counted), sl_l_counted⟩) (cl_counted : PySem.W.codeIn K cd_l_counted "_law_counted" = true) (kl_counted : PySem.W.keepIn K (.ref a_l_counted) = true)
    (alaw : PySem.W.nsIn K mainGlobals "law" = some (some (.ref a_law))) (llaw : K.lookup a_law = some ⟨oc_law, od_law, .func (PySem.W.fnOf "law" "law" (defArgs s_law) (defBody s_law) (defScope s_law) .none kV_law dc_law pm_law an_law cd_law ct_law), sl_law⟩) (claw : PySem.W.codeIn K cd_law "law" = true) (klaw : PySem.W.keepIn K (.ref a_law) = true)
    (zabs : PySem.W.nsIn K mainGlobals "abs" = some none)
    (zall : PySem.W.nsIn K mainGlobals "all" = some none)
    (zbool : PySem.W.nsIn K mainGlobals "bool" = some none)
    (zint : PySem.W.nsIn K mainGlobals "int" = some none)
    (zisinstance : PySem.W.nsIn K mainGlobals "isinstance" = some none)
    (zlen : PySem.W.nsIn K mainGlobals "len" = some none)
    (zlist : PySem.W.nsIn K mainGlobals "list" = some none)
    (zmax : PySem.W.nsIn K mainGlobals "max" = some none)
    (zmin : PySem.W.nsIn K mainGlobals "min" = some none)
    (zrange : PySem.W.nsIn K mainGlobals "range" = some none)
    (zsorted : PySem.W.nsIn K mainGlobals "sorted" = some none)
    (zstr : PySem.W.nsIn K mainGlobals "str" = some none)
    (zsum : PySem.W.nsIn K mainGlobals "sum" = some none)
    (ztuple : PySem.W.nsIn K mainGlobals "tuple" = some none)
    (zzip : PySem.W.nsIn K mainGlobals "zip" = some none)
    : ∃ fd : FuncData, (∀ (s : Shared) (v : Value), BindsTo s fd ⟨[v], []⟩ [("_law_script", v)]) ∧ ∀ base : Heap, K.In base → base.Ns mainGlobals mg → FnG l.prog w K mg base 10 fa fd ["_law_script"] (spD K 1 17 m_law) := by
  have e := hfa.symm.trans (PySem.W.mg_of X G alaw)
  cases e
  have Flevelled := fun_mk (st := s_levelled) llevelled clevelled klevelled
  have blevelled := Flevelled.binds (ps := ["steps"]) fun _ _ _ _ _ _ us hl => match us, hl with | [_], _ => rfl
  have Fadded_up := fun_mk (st := s_added_up) ladded_up cadded_up kadded_up
  have badded_up := Fadded_up.binds (ps := ["changes"]) fun _ _ _ _ _ _ us hl => match us, hl with | [_], _ => rfl
  have Fstretch_to := fun_mk (st := s_stretch_to) lstretch_to cstretch_to kstretch_to
  have bstretch_to := Fstretch_to.binds (ps := ["first", "beyond"]) fun _ _ _ _ _ _ us hl => match us, hl with | [_, _], _ => rfl
  have Fwish_behind := fun_mk (st := s_wish_behind) lwish_behind cwish_behind kwish_behind
  have bwish_behind := Fwish_behind.binds (ps := ["people", "wish"]) fun _ _ _ _ _ _ us hl => match us, hl with | [_, _], _ => rfl
  have Fcompanies_within := fun_mk (st := s_companies_within) lcompanies_within ccompanies_within kcompanies_within
  have bcompanies_within := Fcompanies_within.binds (ps := ["people", "saying"]) fun _ _ _ _ _ _ us hl => match us, hl with | [_, _], _ => rfl
  have Fsaid_of_company := fun_mk (st := s_said_of_company) lsaid_of_company csaid_of_company ksaid_of_company
  have bsaid_of_company := Fsaid_of_company.binds (ps := ["row"]) fun _ _ _ _ _ _ us hl => match us, hl with | [_], _ => rfl
  have Fchanges_by := fun_mk (st := s_changes_by) lchanges_by cchanges_by kchanges_by
  have bchanges_by := Fchanges_by.binds (ps := ["stretches"]) fun _ _ _ _ _ _ us hl => match us, hl with | [_], _ => rfl
  have Fis_row := fun_mk (st := s_is_row) lis_row cis_row kis_row
  have bis_row := Fis_row.binds (ps := ["thing"]) fun _ _ _ _ _ _ us hl => match us, hl with | [_], _ => rfl
  have Fneed_row := fun_mk (st := s_need_row) lneed_row cneed_row kneed_row
  have bneed_row := Fneed_row.binds (ps := ["thing"]) fun _ _ _ _ _ _ us hl => match us, hl with | [_], _ => rfl
  have Fis_table := fun_mk (st := s_is_table) lis_table cis_table kis_table
  have bis_table := Fis_table.binds (ps := ["thing"]) fun _ _ _ _ _ _ us hl => match us, hl with | [_], _ => rfl
  have Fis_rows := fun_mk (st := s_is_rows) lis_rows cis_rows kis_rows
  have bis_rows := Fis_rows.binds (ps := ["thing"]) fun _ _ _ _ _ _ us hl => match us, hl with | [_], _ => rfl
  have Fneed_rows_table := fun_mk (st := s_need_rows_table) lneed_rows_table cneed_rows_table kneed_rows_table
  have bneed_rows_table := Fneed_rows_table.binds (ps := ["thing"]) fun _ _ _ _ _ _ us hl => match us, hl with | [_], _ => rfl
  have Ftable_of := fun_mk (st := s_table_of) ltable_of ctable_of ktable_of
  have btable_of := Ftable_of.binds (ps := ["row"]) fun _ _ _ _ _ _ us hl => match us, hl with | [_], _ => rfl
  have Fnever_comes := fun_mk (st := s_never_comes) lnever_comes cnever_comes knever_comes
  have bnever_comes := Fnever_comes.binds (ps := ["table"]) fun _ _ _ _ _ _ us hl => match us, hl with | [_], _ => rfl
  have Ffolds := fun_mk (st := s_folds) lfolds cfolds kfolds
  have bfolds := Ffolds.binds (ps := ["table"]) fun _ _ _ _ _ _ us hl => match us, hl with | [_], _ => rfl
  have Fl_tin := fun_mk (st := s_l_tin) ll_tin cl_tin kl_tin
  have bl_tin := Fl_tin.binds (ps := ["_law_script", "_law_k"]) fun _ _ _ _ _ _ us hl => match us, hl with | [_, _], _ => rfl
  have Fl_deal := fun_mk (st := s_l_deal) ll_deal cl_deal kl_deal
  have bl_deal := Fl_deal.binds (ps := ["_law_tin_here", "_law_wide"]) fun _ _ _ _ _ _ us hl => match us, hl with | [_, _], _ => rfl
  have Fl_said := fun_mk (st := s_l_said) ll_said cl_said kl_said
  have bl_said := Fl_said.binds (ps := ["_law_tin_here", "_law_wide"]) fun _ _ _ _ _ _ us hl => match us, hl with | [_, _], _ => rfl
  have Fl_walk := fun_mk (st := s_l_walk) ll_walk cl_walk kl_walk
  have bl_walk := Fl_walk.binds (ps := ["_law_crew", "_law_crowd"]) fun _ _ _ _ _ _ us hl => match us, hl with | [_, _], _ => rfl
  have Fl_alike := fun_mk (st := s_l_alike) ll_alike cl_alike kl_alike
  have bl_alike := Fl_alike.binds (ps := ["_law_found", "_law_due_here"]) fun _ _ _ _ _ _ us hl => match us, hl with | [_, _], _ => rfl
  have Fl_near_crew := fun_mk (st := s_l_near_crew) ll_near_crew cl_near_crew kl_near_crew
  have bl_near_crew := Fl_near_crew.binds (ps := ["_law_tin_here"]) fun _ _ _ _ _ _ us hl => match us, hl with | [_], _ => rfl
  have Fl_stretched := fun_mk (st := s_l_stretched) ll_stretched cl_stretched kl_stretched
  have bl_stretched := Fl_stretched.binds (ps := ["_law_numbers"]) fun _ _ _ _ _ _ us hl => match us, hl with | [_], _ => rfl
  have Fl_due := fun_mk (st := s_l_due) ll_due cl_due kl_due
  have bl_due := Fl_due.binds (ps := ["_law_crew"]) fun _ _ _ _ _ _ us hl => match us, hl with | [_], _ => rfl
  have Fl_moved := fun_mk (st := s_l_moved) ll_moved cl_moved kl_moved
  have bl_moved := Fl_moved.binds (ps := ["_law_rows", "_law_by"]) fun _ _ _ _ _ _ us hl => match us, hl with | [_, _], _ => rfl
  have Fl_counted := fun_mk (st := s_l_counted) ll_counted cl_counted kl_counted
  have bl_counted := Fl_counted.binds (ps := ["_law_rows"]) fun _ _ _ _ _ _ us hl => match us, hl with | [_], _ => rfl
  have Flaw := fun_mk (st := s_law) llaw claw klaw
  have blaw := Flaw.binds (ps := ["_law_script"]) fun _ _ _ _ _ _ us hl => match us, hl with | [_], _ => rfl
  have T : Tx K mg a_levelled _ a_added_up _ a_stretch_to _ a_wish_behind _ a_companies_within _ a_said_of_company _ a_changes_by _ a_is_row _ a_need_row _ a_is_table _ a_is_rows _ a_need_rows_table _ a_table_of _ a_never_comes _ a_folds _ a_l_tin _ a_l_deal _ a_l_said _ a_l_walk _ a_l_alike _ a_l_near_crew _ a_l_stretched _ a_l_due _ a_l_moved _ a_l_counted _ fa _ := ⟨PySem.W.mg_none_of X G zabs, PySem.W.mg_none_of X G zall, PySem.W.mg_none_of X G zbool, PySem.W.mg_none_of X G zint, PySem.W.mg_none_of X G zisinstance, PySem.W.mg_none_of X G zlen, PySem.W.mg_none_of X G zlist, PySem.W.mg_none_of X G zmax, PySem.W.mg_none_of X G zmin, PySem.W.mg_none_of X G zrange, PySem.W.mg_none_of X G zsorted, PySem.W.mg_none_of X G zstr, PySem.W.mg_none_of X G zsum, PySem.W.mg_none_of X G ztuple, PySem.W.mg_none_of X G zzip, Flevelled, PySem.W.mg_of X G alevelled, blevelled, Fadded_up, PySem.W.mg_of X G aadded_up, badded_up, Fstretch_to, PySem.W.mg_of X G astretch_to, bstretch_to, Fwish_behind, PySem.W.mg_of X G awish_behind, bwish_behind, Fcompanies_within, PySem.W.mg_of X G acompanies_within, bcompanies_within, Fsaid_of_company, PySem.W.mg_of X G asaid_of_company, bsaid_of_company, Fchanges_by, PySem.W.mg_of X G achanges_by, bchanges_by, Fis_row, PySem.W.mg_of X G ais_row, bis_row, Fneed_row, PySem.W.mg_of X G aneed_row, bneed_row, Fis_table, PySem.W.mg_of X G ais_table, bis_table, Fis_rows, PySem.W.mg_of X G ais_rows, bis_rows, Fneed_rows_table, PySem.W.mg_of X G aneed_rows_table, bneed_rows_table, Ftable_of, PySem.W.mg_of X G atable_of, btable_of, Fnever_comes, PySem.W.mg_of X G anever_comes, bnever_comes, Ffolds, PySem.W.mg_of X G afolds, bfolds, Fl_tin, PySem.W.mg_of X G al_tin, bl_tin, Fl_deal, PySem.W.mg_of X G al_deal, bl_deal, Fl_said, PySem.W.mg_of X G al_said, bl_said, Fl_walk, PySem.W.mg_of X G al_walk, bl_walk, Fl_alike, PySem.W.mg_of X G al_alike, bl_alike, Fl_near_crew, PySem.W.mg_of X G al_near_crew, bl_near_crew, Fl_stretched, PySem.W.mg_of X G al_stretched, bl_stretched, Fl_due, PySem.W.mg_of X G al_due, bl_due, Fl_moved, PySem.W.mg_of X G al_moved, bl_moved, Fl_counted, PySem.W.mg_of X G al_counted, bl_counted, Flaw, PySem.W.mg_of X G alaw, blaw⟩
  exact ⟨_, fun s v => .of_eq rfl, fun base _ _ => ok_law T⟩
end Y
namespace Y
open PySem PL L2
def p_levelled_b1 (x145 : D) (v116 : D) : Option (D) :=
  bind2 (tup2 x145) fun v146 v147 =>
  bind1 (
    bind1 (truD v116) fun b149 =>
    if b149 = true then
      bind1 (negP (.int 1)) fun v151 =>
      bind1 (gIx v116 v151) fun v153 =>
      bind1 (gIx v153 (.int 1)) fun v155 =>
      bind1 (gNe v155 v147) fun v157 =>
      bind1 (asBool v157) fun b159 =>
      some b159
    else
      some true) fun b161 =>
  if b161 = true then
    bind2 (mutP gAppend v116 [(.tuple [v146, v147])]) fun v164 v165 =>
    some v164
  else
    some v116
def p_levelled (d1 : D) : Option (D) :=
  bind2 (itemsD d1) fun q89 x90 =>
  bind1 (foldP (fun x s => p_levelled_b1 x s) x90 (.list [])) fun v168 =>
  some v168
def p_added_up_b1 (d174 : D) (x295 : D) (v274 : D) (v275 : D) : Option (D × D) :=
  bind1 (gGt x295 (.int 0)) fun v296 =>
  bind1 (asBool v296) fun b298 =>
  if b298 = true then
    bind1 (gIxA d174 x295) fun v301 =>
    bind1 (gAddI v274 v301) fun v303 =>
    bind2 (mutP gAppend v275 [(.tuple [x295, v303])]) fun v306 v307 =>
    some (v303, v306)
  else
    some (v274, v275)
def p_added_up (d174 : D) : Option (D) :=
  bind1 (isDct d174) fun u247 =>
  bind1 (get2D d174 (.int 0) (.int 0)) fun v249 =>
  bind1 (gSortedA [d174]) fun v253 =>
  bind2 (itemsD v253) fun q255 x256 =>
  bind2 (foldP (fun x s => p_added_up_b1 d174 x s.1 s.2) x256 (v249, (PyData.list [(.tuple [(.int 0), v249])]))) fun v310 v311 =>
  bind1 (p_levelled v311) fun v315 =>
  some v315
def p_stretch_to (d319 : D) (d320 : D) : Option (D) :=
  bind1 (gIs d320 (.none : D)) fun v336 =>
  bind1 (asBool v336) fun b338 =>
  if b338 = true then
    some (.tuple [d319, (.none : D)])
  else
    bind1 (gLe d320 d319) fun v342 =>
    bind1 (asBool v342) fun b344 =>
    if b344 = true then
      some (.none : D)
    else
      bind1 (gSub' d320 (.int 1)) fun v348 =>
      some (.tuple [d319, v348])
def p_wish_behind_b1 (x499 : D) (v469 : D) : Option (D) :=
  bind2 (tup2 x499) fun v500 v501 =>
  bind1 (
    bind1 (gLt v500 v469) fun v503 =>
    bind1 (asBool v503) fun b505 =>
    if b505 = true then
      bind1 (gIs v501 (.none : D)) fun v507 =>
      bind1 (asBool v507) fun b509 =>
      if b509 = true then
        some true
      else
        bind1 (addV v501 (.int 1)) fun v511 =>
        bind1 (gLe v469 v511) fun v513 =>
        bind1 (asBool v513) fun b515 =>
        some b515
    else
      some false) fun b517 =>
  if b517 = true then
    bind1 (gSub' v469 (.int 1)) fun v520 =>
    some v520
  else
    some v469
def p_wish_behind (d351 : D) (d352 : D) : Option (D) :=
  bind2 (itemsD d351) fun q441 x442 =>
  bind1 (foldP (fun x s => p_wish_behind_b1 x s) x442 d352) fun v523 =>
  some v523
def p_companies_within (d529 : D) (d530 : D) : Option (D) :=
  bind2 (tup2 d530) fun v559 v560 =>
  bind1 (p_wish_behind d529 v559) fun v563 =>
  bind1 (gIs v560 (.none : D)) fun v568 =>
  bind1 (asBool v568) fun b570 =>
  if b570 = true then
    bind1 (p_stretch_to v563 (.none : D)) fun v573 =>
    some v573
  else
    bind1 (addV v560 (.int 1)) fun v577 =>
    bind1 (p_wish_behind d529 v577) fun v579 =>
    bind1 (p_stretch_to v563 v579) fun v583 =>
    some v583
def p_said_of_company_c1 (d587 : D) (x641 : D) : Option D :=
  bind1 (addV x641 (.int 1)) fun v642 =>
  bind1 (ixP v642) fun i644 =>
  bind2 (sliceW d587 (some i644) none) fun b646 v647 =>
  bind1 (gIx d587 x641) fun v649 =>
  bind1 (p_companies_within v647 v649) fun v651 =>
  some v651
def p_said_of_company (d587 : D) : Option (D) :=
  bind1 (gLen [d587]) fun v624 =>
  bind1 (rng1P v624) fun x626 =>
  bind1 (mapT (p_said_of_company_c1 d587) x626) fun x654 =>
  some (.list x654)
def p_changes_by_b1 (x834 : D) (v799 : D) : Option (D) :=
  bind2 (tup2 x834) fun v835 v836 =>
  bind1 (isDct v799) fun u838 =>
  bind1 (get2D v799 v835 (.int 0)) fun v840 =>
  bind1 (addV v840 (.int 1)) fun v842 =>
  bind1 (dputP v799 v835 v842) fun v844 =>
  bind1 (gNot v836 (.none : D)) fun v847 =>
  bind1 (asBool v847) fun b849 =>
  if b849 = true then
    bind1 (isDct v844) fun u852 =>
    bind1 (addV v836 (.int 1)) fun v854 =>
    bind1 (get2D v844 v854 (.int 0)) fun v856 =>
    bind1 (gSub' v856 (.int 1)) fun v858 =>
    bind1 (dputP v844 v854 v858) fun v860 =>
    some v860
  else
    some v844
def p_changes_by (d660 : D) : Option (D) :=
  bind2 (itemsD d660) fun q766 x767 =>
  bind1 (foldP (fun x s => p_changes_by_b1 x s) x767 (.dict [])) fun v863 =>
  some v863
def p_is_row_b1 (x1223 : D) : Option (Ct (Unit) (D)) :=
  bind1 (
    bind1 ((gIsi ["tuple"]) x1223) fun v1224 =>
    bind1 (truD v1224) fun b1226 =>
    if b1226 = true then
      bind1 (gLen [x1223]) fun v1228 =>
      bind1 (gNe v1228 (.int 2)) fun v1230 =>
      bind1 (asBool v1230) fun b1232 =>
      some b1232
    else
      some true) fun b1234 =>
  if b1234 = true then
    some (.rt (.bool false))
  else
    bind2 (tup2 x1223) fun v1238 v1239 =>
    bind1 (
      bind1 ((gIsi ["int"]) v1238) fun v1242 =>
      bind1 (truD v1242) fun b1244 =>
      if b1244 = true then
        bind1 (gLt v1238 (.int 0)) fun v1246 =>
        bind1 (asBool v1246) fun b1248 =>
        if b1248 = true then
          some true
        else
          bind1 (gIs v1238 (.bool true)) fun v1250 =>
          bind1 (asBool v1250) fun b1252 =>
          if b1252 = true then
            some true
          else
            bind1 (gIs v1238 (.bool false)) fun v1254 =>
            bind1 (asBool v1254) fun b1256 =>
            some b1256
      else
        some true) fun b1258 =>
    if b1258 = true then
      some (.rt (.bool false))
    else
      bind1 (
        bind1 (gNot v1239 (.none : D)) fun v1262 =>
        bind1 (asBool v1262) fun b1264 =>
        if b1264 = true then
          bind1 ((gIsi ["int"]) v1239) fun v1266 =>
          bind1 (truD v1266) fun b1268 =>
          if b1268 = true then
            bind1 (gLt v1239 v1238) fun v1270 =>
            bind1 (asBool v1270) fun b1272 =>
            if b1272 = true then
              some true
            else
              bind1 (gIs v1239 (.bool true)) fun v1274 =>
              bind1 (asBool v1274) fun b1276 =>
              if b1276 = true then
                some true
              else
                bind1 (gIs v1239 (.bool false)) fun v1278 =>
                bind1 (asBool v1278) fun b1280 =>
                some b1280
          else
            some true
        else
          some false) fun b1282 =>
      if b1282 = true then
        some (.rt (.bool false))
      else
        some (.nx ())
def p_is_row (d869 : D) : Option (D) :=
  bind1 ((gIsi ["list", "tuple"]) d869) fun v1081 =>
  bind1 (truD v1081) fun b1083 =>
  if b1083 = true then
    bind2 (itemsD d869) fun q1087 x1088 =>
    ctB0 (forP (fun x _ => p_is_row_b1 x) x1088 ()) (fun r => some r) fun _ =>
    some (.bool true)
  else
    some (.bool false)
def p_need_row (d1293 : D) : Option (D) :=
  bind1 (p_is_row d1293) fun v1300 =>
  bind1 (truD v1300) fun b1303 =>
  if b1303 = true then
    some (.none : D)
  else
    none
def p_is_table_b1 (x1702 : D) (v1627 : D) (v1628 : D) : Option (Ct (D × D) (D)) :=
  bind1 (
    bind1 ((gIsi ["tuple"]) x1702) fun v1703 =>
    bind1 (truD v1703) fun b1705 =>
    if b1705 = true then
      bind1 (gLen [x1702]) fun v1707 =>
      bind1 (gNe v1707 (.int 2)) fun v1709 =>
      bind1 (asBool v1709) fun b1711 =>
      some b1711
    else
      some true) fun b1713 =>
  if b1713 = true then
    some (.rt (.bool false))
  else
    bind2 (tup2 x1702) fun v1717 v1718 =>
    bind1 (
      bind1 ((gIsi ["int"]) v1717) fun v1721 =>
      bind1 (truD v1721) fun b1723 =>
      if b1723 = true then
        bind1 (gLe v1717 v1627) fun v1725 =>
        bind1 (asBool v1725) fun b1727 =>
        if b1727 = true then
          some true
        else
          bind1 (gIs v1717 (.bool true)) fun v1729 =>
          bind1 (asBool v1729) fun b1731 =>
          if b1731 = true then
            some true
          else
            bind1 (gIs v1717 (.bool false)) fun v1733 =>
            bind1 (asBool v1733) fun b1735 =>
            some b1735
      else
        some true) fun b1737 =>
    if b1737 = true then
      some (.rt (.bool false))
    else
      bind1 (
        bind1 ((gIsi ["int"]) v1718) fun v1741 =>
        bind1 (truD v1741) fun b1743 =>
        if b1743 = true then
          bind1 (gLt v1718 (.int 0)) fun v1745 =>
          bind1 (asBool v1745) fun b1747 =>
          if b1747 = true then
            some true
          else
            bind1 (gEq v1718 v1628) fun v1749 =>
            bind1 (asBool v1749) fun b1751 =>
            if b1751 = true then
              some true
            else
              bind1 (gIs v1718 (.bool true)) fun v1753 =>
              bind1 (asBool v1753) fun b1755 =>
              if b1755 = true then
                some true
              else
                bind1 (gIs v1718 (.bool false)) fun v1757 =>
                bind1 (asBool v1757) fun b1759 =>
                some b1759
        else
          some true) fun b1761 =>
      if b1761 = true then
        some (.rt (.bool false))
      else
        some (.nx (v1717, v1718))
def p_is_table (d1306 : D) : Option (D) :=
  bind1 (
    bind1 ((gIsi ["list"]) d1306) fun v1544 =>
    bind1 (truD v1544) fun b1546 =>
    if b1546 = true then
      bind1 (truD d1306) fun b1548 =>
      some (!b1548)
    else
      some true) fun b1550 =>
  if b1550 = true then
    some (.bool false)
  else
    bind1 (negP (.int 1)) fun v1554 =>
    bind2 (itemsD d1306) fun q1558 x1559 =>
    ctB2 (forP (fun x s => p_is_table_b1 x s.1 s.2) x1559 (v1554, (.none : D))) (fun r => some r) fun v1767 v1768 =>
    bind1 (gIx d1306 (.int 0)) fun v1774 =>
    bind1 (gIx v1774 (.int 0)) fun v1776 =>
    bind1 (gEq v1776 (.int 0)) fun v1778 =>
    some v1778
def p_is_rows_b1 (x1890 : D) (v1871 : D) : Option (Ct (D) (D)) :=
  bind2 (tup2 x1890) fun v1891 v1892 =>
  bind1 (gSub' v1871 (.int 1)) fun v1894 =>
  bind1 (gLt v1892 v1894) fun v1896 =>
  bind1 (asBool v1896) fun b1898 =>
  if b1898 = true then
    some (.rt (.bool false))
  else
    some (.nx v1892)
def p_is_rows (d1782 : D) : Option (D) :=
  bind1 (p_is_table d1782) fun v1846 =>
  bind1 (truD v1846) fun b1849 =>
  if b1849 = true then
    bind2 (itemsD d1782) fun q1854 x1855 =>
    ctB1 (forP (fun x s => p_is_rows_b1 x s) x1855 (.int 0)) (fun r => some r) fun v1903 =>
    some (.bool true)
  else
    some (.bool false)
def p_need_rows_table (d1910 : D) : Option (D) :=
  bind1 (p_is_rows d1910) fun v1917 =>
  bind1 (truD v1917) fun b1920 =>
  if b1920 = true then
    some (.none : D)
  else
    none
def p_table_of_c1 (x1973 : D) : Option (Option D) :=
  bind1 (gNot x1973 (.none : D)) fun v1974 =>
  bind1 (asBool v1974) fun b1976 =>
  if b1976 = true then
    some (some x1973)
  else
    some none
def p_table_of (d1923 : D) : Option (D) :=
  bind1 (p_need_row d1923) fun v1957 =>
  bind1 (p_said_of_company d1923) fun v1961 =>
  bind2 (itemsD v1961) fun q1965 x1966 =>
  bind1 (filT (p_table_of_c1) x1966) fun x1978 =>
  bind1 (p_changes_by (.list x1978)) fun v1983 =>
  bind1 (p_added_up v1983) fun v1986 =>
  some v1986
def p_never_comes_b1 (x2169 : D) (v2134 : D) (v2135 : D) : Option (D × D) :=
  bind2 (tup2 x2169) fun v2170 v2171 =>
  bind1 (
    bind1 (gGt v2171 v2135) fun v2179 =>
    bind1 (asBool v2179) fun b2181 =>
    if b2181 = true then
      bind1 (addV v2170 v2135) fun v2184 =>
      bind1 (addV v2170 v2171) fun v2186 =>
      bind1 (gSub' v2186 (.int 1)) fun v2188 =>
      bind2 (mutP gAppend v2134 [(.tuple [v2184, v2188])]) fun v2190 v2191 =>
      some v2190
    else
      some v2134) fun v2194 =>
  some (v2194, v2171)
def p_never_comes (d1990 : D) : Option (D) :=
  bind1 (p_need_rows_table d1990) fun v2097 =>
  bind2 (itemsD d1990) fun q2103 x2104 =>
  bind2 (foldP (fun x s => p_never_comes_b1 x s.1 s.2) x2104 ((PyData.list []), (PyData.int 0))) fun v2196 v2197 =>
  some v2196
def p_folds_b1 (x2592 : D) (v2514 : D) (v2515 : D) : Option (D × D) :=
  bind2 (tup2 x2592) fun v2593 v2594 =>
  bind1 (
    bind1 (gLt v2594 v2515) fun v2602 =>
    bind1 (asBool v2602) fun b2604 =>
    if b2604 = true then
      bind1 (gSub' v2593 (.int 1)) fun v2607 =>
      bind2 (
        bind1 (
          bind1 (truD v2514) fun b2626 =>
          if b2626 = true then
            bind1 (negP (.int 1)) fun v2628 =>
            bind1 (gIx v2514 v2628) fun v2630 =>
            bind1 (gIx v2630 (.int 1)) fun v2632 =>
            bind1 (gSub' v2593 (.int 2)) fun v2634 =>
            bind1 (gEq v2632 v2634) fun v2636 =>
            bind1 (asBool v2636) fun b2638 =>
            some b2638
          else
            some false) fun b2640 =>
        if b2640 = true then
          bind2 (mutP gPop v2514 []) fun v2643 v2644 =>
          bind1 (gIx v2644 (.int 0)) fun v2646 =>
          some (v2643, v2646)
        else
          some (v2514, v2607)) fun v2649 v2650 =>
      bind1 (gSub' v2593 (.int 1)) fun v2651 =>
      bind2 (mutP gAppend v2649 [(.tuple [v2650, v2651])]) fun v2653 v2654 =>
      some v2653
    else
      some v2514) fun v2657 =>
  some (v2657, v2594)
def p_folds (d2203 : D) : Option (D) :=
  bind1 (p_need_rows_table d2203) fun v2436 =>
  bind2 (itemsD d2203) fun q2442 x2443 =>
  bind2 (foldP (fun x s => p_folds_b1 x s.1 s.2) x2443 ((PyData.list []), (PyData.int 0))) fun v2660 v2661 =>
  some v2660
def p_l_tin (d2668 : List Int) (d2669 : D) : Option (D) :=
  bind1 (
    bind1 (gLt d2669 (.int ((d2668.length : Nat) : Int))) fun v2714 =>
    bind1 (asBool v2714) fun b2716 =>
    if b2716 = true then
      bind1 (atP d2669) fun u2719 =>
      bind1 (ixSP d2668 d2669) fun v2721 =>
      some v2721
    else
      some (.int 0)) fun v2724 =>
  bind1 (gAbs [v2724]) fun v2725 =>
  bind1 (gPow (.int 10) (.int 18)) fun v2727 =>
  bind1 (gSub' v2725 v2727) fun v2729 =>
  bind1 (gMax2 [(.int 0), v2729]) fun v2731 =>
  bind1 (gPow (.int 10) (.int 37)) fun v2733 =>
  bind1 (addV v2733 (.int 43)) fun v2735 =>
  bind1 (gMod v2724 v2735) fun v2737 =>
  bind1 (mulV v2737 (.int 64)) fun v2739 =>
  bind1 (addV v2739 d2669) fun v2741 =>
  some (.list [v2731, v2741, (.int 0)])
def p_l_deal (d2744 : D) (d2745 : D) : Option (D × D) :=
  bind1 (gIx d2744 (.int 0)) fun v2810 =>
  bind1 (gGt v2810 (.int 0)) fun v2812 =>
  bind1 (asBool v2812) fun b2814 =>
  if b2814 = true then
    bind1 (gIx d2744 (.int 0)) fun v2817 =>
    bind1 (gMod v2817 d2745) fun v2819 =>
    bind1 (gIx d2744 (.int 0)) fun v2822 =>
    bind1 (gDiv v2822 d2745) fun v2824 =>
    bind1 (setP d2744 (.int 0) v2824) fun v2826 =>
    some (v2819, v2826)
  else
    bind1 (gIx d2744 (.int 2)) fun v2830 =>
    bind1 (addV v2830 (.int 1)) fun v2832 =>
    bind1 (setP d2744 (.int 2) v2832) fun v2834 =>
    bind1 (gIx v2834 (.int 1)) fun v2837 =>
    bind1 (gIx v2834 (.int 2)) fun v2839 =>
    bind1 (mulV (.int 9576890767) v2839) fun v2841 =>
    bind1 (addV v2837 v2841) fun v2843 =>
    bind1 (gPow v2843 (.int 3)) fun v2845 =>
    bind1 (gPow (.int 10) (.int 38)) fun v2847 =>
    bind1 (addV v2847 (.int 133)) fun v2849 =>
    bind1 (gMod v2845 v2849) fun v2851 =>
    bind1 (gIx v2834 (.int 2)) fun v2854 =>
    bind1 (mulV (.int 32452843) v2854) fun v2856 =>
    bind1 (addV v2851 v2856) fun v2858 =>
    bind1 (gPow v2858 (.int 5)) fun v2860 =>
    bind1 (gPow (.int 10) (.int 40)) fun v2862 =>
    bind1 (addV v2862 (.int 121)) fun v2864 =>
    bind1 (gMod v2860 v2864) fun v2866 =>
    bind1 (gDiv v2866 (.int 65536)) fun v2869 =>
    bind1 (gMod v2869 d2745) fun v2871 =>
    some (v2871, v2834)
def p_l_said (d2875 : D) (d2876 : D) : Option (D × D) :=
  bind2 (p_l_deal d2875 d2876) fun v2899 v2900 =>
  bind2 (p_l_deal v2900 d2876) fun v2904 v2905 =>
  bind1 (addV v2899 v2904) fun v2908 =>
  bind2 (p_l_deal v2905 (.int 10)) fun v2912 v2913 =>
  bind1 (gMod v2912 (.int 5)) fun v2916 =>
  bind1 (gIx (.list [(.tuple [v2899, (.none : D)]), (.tuple [v2899, v2899]), (.tuple [(.int 0), v2899]), (.tuple [v2899, v2908]), (.tuple [(.int 0), (.none : D)])]) v2916) fun v2918 =>
  some (v2918, v2913)
def p_l_walk_b1 (x3167 : D) (v3118 : D) (v3119 : D) (v3120 : D) : Option (D × D × D) :=
  bind2 (tup2 x3167) fun v3168 v3169 =>
  bind2 (mutP gAppend v3119 [v3118]) fun v3171 v3172 =>
  bind1 (
    bind1 (gLe v3168 v3118) fun v3175 =>
    bind1 (asBool v3175) fun b3177 =>
    if b3177 = true then
      bind1 (gIs v3169 (.none : D)) fun v3179 =>
      bind1 (asBool v3179) fun b3181 =>
      if b3181 = true then
        bind2 (mutP gAppend v3120 [(.bool true)]) fun v3183 v3184 =>
        some v3183
      else
        bind1 (gLe v3118 v3169) fun v3186 =>
        bind2 (mutP gAppend v3120 [v3186]) fun v3188 v3189 =>
        some v3188
    else
      bind2 (mutP gAppend v3120 [(.bool false)]) fun v3191 v3192 =>
      some v3191) fun v3194 =>
  bind1 (negP (.int 1)) fun v3197 =>
  bind1 (gIx v3194 v3197) fun v3199 =>
  bind1 (gInt1 [v3199]) fun v3201 =>
  bind1 (addV v3118 v3201) fun v3203 =>
  some (v3203, v3171, v3194)
def p_l_walk (d2922 : D) (d2923 : D) : Option (D) :=
  bind1 (gRevs d2922) fun v3073 =>
  bind2 (itemsD v3073) fun q3075 x3076 =>
  bind3 (foldP (fun x s => p_l_walk_b1 x s.1 s.2.1 s.2.2) x3076 (d2923, (PyData.list []), (PyData.list []))) fun v3206 v3207 v3208 =>
  bind1 (gRevs v3207) fun v3213 =>
  bind1 (gRevs v3208) fun v3215 =>
  some (.list [v3213, v3215])
def p_l_alike_c1 (rec0 : D → D → Option (D)) (x3356 : D) : Option D :=
  bind2 (tup2 x3356) fun v3357 v3358 =>
  bind1 (rec0 v3357 v3358) fun v3360 =>
  some v3360
def p_l_alike : Nat → D → D → Option (D)
  | 0, _, _ => none
  | n + 1, d3218, d3219 =>
  bind1 ((gIsi ["list", "tuple"]) d3219) fun v3315 =>
  bind1 (truD v3315) fun b3317 =>
  if b3317 = true then
    bind1 (
      bind1 ((gIsi ["list"]) d3218) fun v3320 =>
      bind1 ((gIsi ["list"]) d3219) fun v3322 =>
      bind1 (gNe v3320 v3322) fun v3324 =>
      bind1 (asBool v3324) fun b3326 =>
      if b3326 = true then
        some true
      else
        bind1 ((gIsi ["list", "tuple"]) d3218) fun v3328 =>
        bind1 (truD v3328) fun b3330 =>
        some (!b3330)) fun b3332 =>
    if b3332 = true then
      some (.bool false)
    else
      bind1 (gLen [d3218]) fun v3336 =>
      bind1 (gLen [d3219]) fun v3338 =>
      bind1 (gNe v3336 v3338) fun v3340 =>
      bind1 (asBool v3340) fun b3342 =>
      if b3342 = true then
        some (.bool false)
      else
        bind1 (zipP d3218 d3219) fun x3346 =>
        bind1 (mapT (p_l_alike_c1 (p_l_alike n)) x3346) fun x3363 =>
        bind1 (gAll [(.list x3363)]) fun v3368 =>
        some v3368
  else
    bind1 (gIs d3219 (.none : D)) fun v3371 =>
    bind1 (asBool v3371) fun b3373 =>
    if b3373 = true then
      bind1 (gIs d3218 (.none : D)) fun v3376 =>
      some v3376
    else
      bind1 ((gIsi ["bool", "str"]) d3219) fun v3379 =>
      bind1 (truD v3379) fun b3381 =>
      if b3381 = true then
        bind1 (
          bind1 ((gIsi ["bool"]) d3218) fun v3384 =>
          bind1 ((gIsi ["bool"]) d3219) fun v3386 =>
          bind1 (gEq v3384 v3386) fun v3388 =>
          bind1 (asBool v3388) fun b3390 =>
          if b3390 = true then
            bind1 (gEq d3218 d3219) fun v3392 =>
            some v3392
          else
            some (.bool false)) fun v3394 =>
        some v3394
      else
        bind1 (
          bind1 ((gIsi ["int"]) d3218) fun v3397 =>
          bind1 (asBool v3397) fun b3399 =>
          if b3399 = true then
            bind1 ((gIsi ["bool"]) d3218) fun v3401 =>
            bind1 (asBool v3401) fun b3403 =>
            if b3403 = true then
              some (.bool false)
            else
              bind1 (gEq d3218 d3219) fun v3405 =>
              some v3405
          else
            some (.bool false)) fun v3407 =>
        some v3407
def p_l_near_crew_b1 (v3480 : D) (x3524 : D) (v3509 : D) (v3510 : D) : Option (D × D) :=
  bind2 (p_l_said v3509 v3480) fun v3525 v3526 =>
  bind2 (mutP gAppend v3510 [v3525]) fun v3529 v3530 =>
  some (v3526, v3529)
def p_l_near_crew (d3410 : D) : Option (D × D) :=
  bind2 (p_l_deal d3410 (.int 3)) fun v3476 v3477 =>
  bind1 (gIx (.list [(.int 2), (.int 4), (.int 12)]) v3476) fun v3480 =>
  bind2 (p_l_deal v3477 (.int 5)) fun v3483 v3484 =>
  bind2 (p_l_deal v3484 (.int 21)) fun v3487 v3488 =>
  bind2 (p_l_deal v3488 (.int 2)) fun v3491 v3492 =>
  bind1 (gIx (.list [v3483, v3487]) v3491) fun v3495 =>
  bind1 (rng1P v3495) fun x3497 =>
  bind2 (foldP (fun x s => p_l_near_crew_b1 v3480 x s.1 s.2) x3497 (v3492, (PyData.list []))) fun v3533 v3534 =>
  some (v3534, v3533)
def p_l_stretched_b1 (x3729 : D) (v3692 : D) : Option (D) :=
  bind1 (
    bind1 (gNe v3692 (.list [])) fun v3730 =>
    bind1 (asBool v3730) fun b3732 =>
    if b3732 = true then
      bind1 (negP (.int 1)) fun v3734 =>
      bind1 (gIx v3692 v3734) fun v3736 =>
      bind1 (gIx v3736 (.int 1)) fun v3738 =>
      bind1 (gSub' x3729 (.int 1)) fun v3740 =>
      bind1 (gEq v3738 v3740) fun v3742 =>
      bind1 (asBool v3742) fun b3744 =>
      some b3744
    else
      some false) fun b3746 =>
  if b3746 = true then
    bind1 (negP (.int 1)) fun v3749 =>
    bind1 (gIx v3692 v3749) fun v3751 =>
    bind1 (gIx v3751 (.int 0)) fun v3753 =>
    bind1 (setP v3692 v3749 (.tuple [v3753, x3729])) fun v3755 =>
    some v3755
  else
    bind2 (mutP gAppend v3692 [(.tuple [x3729, x3729])]) fun v3758 v3759 =>
    some v3758
def p_l_stretched (d3540 : D) : Option (D) :=
  bind2 (itemsD d3540) fun q3655 x3656 =>
  bind1 (foldP (fun x s => p_l_stretched_b1 x s) x3656 (.list [])) fun v3762 =>
  some v3762
def p_l_due_c1 (d3767 : D) (x3872 : D) : Option D :=
  bind1 (p_l_walk d3767 x3872) fun v3873 =>
  bind1 (gIx v3873 (.int 1)) fun v3877 =>
  bind1 (isL v3877) fun v3879 =>
  bind1 (gCount v3877 [(.bool true)]) fun v3881 =>
  bind1 (addV x3872 v3881) fun v3883 =>
  some v3883
def p_l_due_c2 (x3885 : List D) (x3898 : D) : Option (Option D) :=
  bind1 (gNotIn x3898 (.list x3885)) fun v3899 =>
  bind1 (asBool v3899) fun b3901 =>
  if b3901 = true then
    some (some x3898)
  else
    some none
def p_l_due_c3 (x3885 : List D) (x3922 : D) : Option (Option D) :=
  bind1 (gIx (.list x3885) x3922) fun v3923 =>
  bind1 (addV x3922 (.int 1)) fun v3925 =>
  bind1 (gIx (.list x3885) v3925) fun v3927 =>
  bind1 (gEq v3923 v3927) fun v3929 =>
  bind1 (asBool v3929) fun b3931 =>
  if b3931 = true then
    some (some x3922)
  else
    some none
def p_l_due (d3767 : D) : Option (D) :=
  bind1 (rng1P (.int 62)) fun x3857 =>
  bind1 (mapT (p_l_due_c1 d3767) x3857) fun x3885 =>
  bind1 (rng1P (.int 60)) fun x3891 =>
  bind1 (filT (p_l_due_c2 x3885) x3891) fun x3903 =>
  bind1 (rng1P (.int 60)) fun x3909 =>
  bind1 (filT (p_l_due_c3 x3885) x3909) fun x3933 =>
  bind1 (p_l_stretched (.list x3903)) fun v3939 =>
  bind1 (p_l_stretched (.list x3933)) fun v3942 =>
  some (.list [v3939, v3942])
def p_l_moved_c1 (d3947 : D) (x3984 : D) : Option D :=
  bind2 (tup2 x3984) fun v3985 v3986 =>
  bind1 (addV v3985 d3947) fun v3988 =>
  bind1 (addV v3986 d3947) fun v3990 =>
  some (.tuple [v3988, v3990])
def p_l_moved (d3946 : D) (d3947 : D) : Option (D) :=
  bind2 (itemsD d3946) fun q3973 x3974 =>
  bind1 (mapT (p_l_moved_c1 d3947) x3974) fun x3992 =>
  some (.list x3992)
def p_l_counted_c1 (x4037 : D) : Option D :=
  bind2 (tup2 x4037) fun v4038 v4039 =>
  bind1 (addV v4039 (.int 1)) fun v4041 =>
  bind1 (gSub' v4041 v4038) fun v4043 =>
  some v4043
def p_l_counted (d3998 : D) : Option (D) :=
  bind2 (itemsD d3998) fun q4026 x4027 =>
  bind1 (mapT (p_l_counted_c1) x4027) fun x4045 =>
  bind1 (gSum [(.list x4045)]) fun v4050 =>
  some v4050
def p_law_b1 (v6344 : D) (x6400 : D) (v6373 : D) : Option (D) :=
  bind2 (tup2 x6400) fun v6401 v6402 =>
  bind1 (
    bind1 (addV v6401 v6344) fun v6404 =>
    bind1 (gIs v6402 (.none : D)) fun v6406 =>
    bind1 (asBool v6406) fun b6408 =>
    if b6408 = true then
      bind2 (mutP gAppend v6373 [(.tuple [v6404, (.none : D)])]) fun v6410 v6411 =>
      some v6410
    else
      bind1 (addV v6402 v6344) fun v6413 =>
      bind2 (mutP gAppend v6373 [(.tuple [v6404, v6413])]) fun v6415 v6416 =>
      some v6415) fun v6418 =>
  some v6418
def p_law_c1 (x6436 : D) : Option (Option D) :=
  bind1 (gIx x6436 (.int 1)) fun v6437 =>
  bind1 (gIs v6437 (.none : D)) fun v6439 =>
  bind1 (asBool v6439) fun b6441 =>
  if b6441 = true then
    some (some x6436)
  else
    some none
def p_law_c2 (x6695 : D) : Option D :=
  bind1 (p_l_counted x6695) fun v6696 =>
  some v6696
def p_law_b2 (v6326 : D) (v6448 : D) (x6651 : D) : Option (Ct (Unit) (D)) :=
  bind2 (tup2 x6651) fun v6652 v6653 =>
  bind1 (p_table_of v6652) fun v6655 =>
  bind1 (gIx v6326 (.int 0)) fun v6659 =>
  bind1 (p_l_moved v6659 v6653) fun v6661 =>
  bind1 (gIx v6326 (.int 1)) fun v6664 =>
  bind1 (p_l_moved v6664 v6653) fun v6666 =>
  bind1 (gNolE v6655) fun u6670 =>
  bind1 (p_never_comes v6655) fun v6672 =>
  bind1 (p_folds v6655) fun v6675 =>
  bind1 (jP (jAll 1) (.list [v6672, v6675])) fun u6678 =>
  bind1 (p_l_alike 8 (.list [v6672, v6675]) (.list [v6661, v6666])) fun v6681 =>
  bind1 (truD v6681) fun b6684 =>
  if b6684 = true then
    bind2 (itemsD (.list [v6672, v6675])) fun q6688 x6689 =>
    bind1 (mapT (p_law_c2) x6689) fun x6699 =>
    bind1 (
      bind1 (gIx (.list x6699) (.int 0)) fun v6705 =>
      bind1 (gIx (.list x6699) (.int 1)) fun v6707 =>
      bind1 (addV v6707 v6448) fun v6709 =>
      bind1 (gNe v6705 v6709) fun v6711 =>
      bind1 (asBool v6711) fun b6713 =>
      if b6713 = true then
        some true
      else
        bind1 (negP (.int 1)) fun v6715 =>
        bind1 (gIx v6655 v6715) fun v6717 =>
        bind1 (gIx v6717 (.int 1)) fun v6719 =>
        bind1 (gNe v6719 v6448) fun v6721 =>
        bind1 (asBool v6721) fun b6723 =>
        some b6723) fun b6725 =>
    if b6725 = true then
      some (.rt (.bool false))
    else
      bind1 (p_never_comes v6655) fun v6729 =>
      bind1 (p_folds v6655) fun v6732 =>
      bind1 (p_l_alike 8 (.list [v6729, v6732]) (.list [v6661, v6666])) fun v6735 =>
      bind1 (truD v6735) fun b6738 =>
      if b6738 = true then
        some (.nx ())
      else
        some (.rt (.bool false))
  else
    some (.rt (.bool false))
def p_law_b3 (d4053 : List Int) (x6316 : D) : Option (Ct (Unit) (D)) :=
  bind1 (p_l_tin d4053 x6316) fun v6317 =>
  bind2 (p_l_near_crew v6317) fun v6321 v6322 =>
  bind1 (p_l_due v6321) fun v6326 =>
  bind2 (p_l_deal v6322 (.int 9)) fun v6330 v6331 =>
  bind1 (gPow (.int 10) (.int 29)) fun v6334 =>
  bind2 (p_l_deal v6331 v6334) fun v6336 v6337 =>
  bind2 (p_l_deal v6337 (.int 3)) fun v6340 v6341 =>
  bind1 (gIx (.list [(.int 1), v6330, v6336]) v6340) fun v6344 =>
  bind2 (itemsD v6321) fun q6348 x6349 =>
  bind1 (foldP (fun x s => p_law_b1 v6344 x s) x6349 (.list [])) fun v6421 =>
  bind2 (itemsD v6321) fun q6426 x6427 =>
  bind1 (filT (p_law_c1) x6427) fun x6443 =>
  bind1 (gLen [(.list x6443)]) fun v6448 =>
  bind2 (itemsD (.list [(.tuple [v6321, (.int 0)]), (.tuple [v6421, v6344])])) fun q6451 x6452 =>
  ctB0 (forP (fun x _ => p_law_b2 v6326 v6448 x) x6452 ()) (fun r => some (.rt r)) fun _ =>
  some (.nx ())
def p_law (d4053 : List Int) : Option (D) :=
  bind1 (gMin2 [(.int 10), (.int ((d4053.length : Nat) : Int))]) fun v5411 =>
  bind1 (gMax2 [(.int 1), v5411]) fun v5413 =>
  bind1 (rng1P v5413) fun x5415 =>
  ctB0 (forP (fun x _ => p_law_b3 d4053 x) x5415 ()) (fun r => some r) fun _ =>
  some (.bool true)
end Y
namespace Y
open PySem PL L2
theorem tb_levelled_1 (d1 : D) (x145 : D) (v116 : D) (j117 : Sl) (j118 : Sl) (s0 : D) (h : p_levelled_b1 x145 v116 = some s0) : ∃ ρ1, (tTupl (tsCons (tName 2) (tsCons (tName 3) tsNil))) x145 [.bor d1, .own v116, j117, j118] = .ok () ρ1 ∧ PL.Run mb_levelled_1 ρ1 (fun fl ρ' => (fl = .nx ∨ fl = .ct) ∧ (fun (s : D) (ρ : PL.Env) => ∃ (j117 : Sl) (j118 : Sl), ρ = [.bor d1, .own s, j117, j118]) s0 ρ') := by
  unfold p_levelled_b1 at h
  obtain ⟨v146, v147, h148, h⟩ := ob2 h
  refine ⟨[.bor d1, .own v116, .val v146, .val v147], by simp [(tT2 h148)], ?_⟩
  unfold mb_levelled_1
  obtain ⟨b161, h163, h⟩ := ob1 h
  have e162 : (mOr (mNot (mTr (mVar 1))) (mB (mOp gNe (mPl (mOp gIx (mPl (mOp gIx (mVar 1) (mPl (mNegU (mC (.int 1)))))) (mPl (mC (.int 1))))) (mVar 3)))) [.bor d1, .own v116, .val v146, .val v147] = .ok b161 [.bor d1, .own v116, .val v146, .val v147] := by
    obtain ⟨b149, h150, h163⟩ := ob1 h163
    rcases b149 with _ | _
    · rw [if_neg Bool.false_ne_true] at h163
      obtain rfl := Option.some.inj h163
      simp [h150]
    · rw [if_pos rfl] at h163
      obtain ⟨v151, h152, h163⟩ := ob1 h163
      obtain ⟨v153, h154, h163⟩ := ob1 h163
      obtain ⟨v155, h156, h163⟩ := ob1 h163
      obtain ⟨v157, h158, h163⟩ := ob1 h163
      obtain ⟨b159, h160, h163⟩ := ob1 h163
      obtain rfl := Option.some.inj h163
      simp [h150, h152, h154, h156, h158, h160]
  rcases b161 with _ | _
  · rw [if_neg Bool.false_ne_true] at h
    refine run_if_f e162 ?_
    obtain rfl := Option.some.inj h
    exact run_end (m := mSkip) (fl := .nx) rfl ⟨.inl rfl, .val v146, .val v147, rfl⟩
  · rw [if_pos rfl] at h
    refine run_if_t e162 ?_
    obtain ⟨v164, v165, h166, h⟩ := ob2 h
    have e167 : (mDrop (mMut 1 gAppend (mCons (mTup (mCons (mFz (mRv (mVar 2))) (mCons (mFz (mRv (mVar 3))) mNil))) mNil))) [.bor d1, .own v116, .val v146, .val v147] = .ok .nx [.bor d1, .own v164, .val v146, .val v147] := by simp [h166, (mutP_lst h166)]
    obtain rfl := Option.some.inj h
    exact run_end e167 ⟨.inl rfl, .val v146, .val v147, rfl⟩
theorem tr_levelled (d1 : D) (r : D) (h : p_levelled d1 = some r) : evalD [.b] 3 m_levelled [.bor d1] = some ((.fr r), [.bor d1]) := by
  unfold p_levelled at h
  refine run_evalD (m := m_levelled) ?_
  show PL.Run m_levelled [.bor d1, .un, .un, .un] _
  unfold m_levelled
  have e88 : (mSet 1 (mLst mNil)) [.bor d1, .un, .un, .un] = .ok .nx [.bor d1, .own (.list []), .un, .un] := by simp []
  refine run_seq e88 ?_
  obtain ⟨q89, x90, h91, h⟩ := ob2 h
  have e92 : (mIter (mVar 0)) [.bor d1, .own (.list []), .un, .un] = .ok x90 [.bor d1, .own (.list []), .un, .un] := by simp [h91]
  obtain ⟨v168, h171, h⟩ := ob1 h
  obtain ⟨_, e172, j169, j170, rfl⟩ := run_for_nx e92 (foldP_run (fun (s : D) (ρ : PL.Env) => ∃ (j117 : Sl) (j118 : Sl), ρ = [.bor d1, .own s, j117, j118]) (t := (tTupl (tsCons (tName 2) (tsCons (tName 3) tsNil)))) (b := mb_levelled_1) (fun x s ρ s0 hi hf => by obtain ⟨j117, j118, rfl⟩ := hi; exact tb_levelled_1 d1 x s j117 j118 s0 hf) x90 (.list []) _ v168 ⟨.un, .un, rfl⟩ h171)
  refine run_seq e172 ?_
  have e173 : (mRv (mVar 1)) [.bor d1, .own v168, j169, j170] = .ok (.pl (.slot 1)) [.bor d1, .own v168, j169, j170] := by simp []
  obtain rfl := Option.some.inj h
  exact run_ret e173 ⟨by simp [flR], by simp⟩
theorem tb_added_up_1 (d174 : D) (x295 : D) (v274 : D) (v275 : D) (j276 : Sl) (s0 : D × D) (h : p_added_up_b1 d174 x295 v274 v275 = some s0) : ∃ ρ1, (tName 3) x295 [.bor d174, .val v274, .own v275, j276] = .ok () ρ1 ∧ PL.Run mb_added_up_1 ρ1 (fun fl ρ' => (fl = .nx ∨ fl = .ct) ∧ (fun (s : D × D) (ρ : PL.Env) => ∃ (j276 : Sl), ρ = [.bor d174, .val s.1, .own s.2, j276]) s0 ρ') := by
  unfold p_added_up_b1 at h
  refine ⟨[.bor d174, .val v274, .own v275, .val x295], by simp [], ?_⟩
  unfold mb_added_up_1
  obtain ⟨v296, h297, h⟩ := ob1 h
  obtain ⟨b298, h299, h⟩ := ob1 h
  have e300 : (mB (mOp gGt (mVar 3) (mPl (mC (.int 0))))) [.bor d174, .val v274, .own v275, .val x295] = .ok b298 [.bor d174, .val v274, .own v275, .val x295] := by simp [h297, h299]
  rcases b298 with _ | _
  · rw [if_neg Bool.false_ne_true] at h
    refine run_if_f e300 ?_
    obtain rfl := Option.some.inj h
    exact run_end (m := mSkip) (fl := .nx) rfl ⟨.inl rfl, .val x295, rfl⟩
  · rw [if_pos rfl] at h
    refine run_if_t e300 ?_
    obtain ⟨v301, h302, h⟩ := ob1 h
    obtain ⟨v303, h304, h⟩ := ob1 h
    have e305 : (mAug 1 gAddI (mPl (mOp gIxA (mVar 0) (mVar 3)))) [.bor d174, .val v274, .own v275, .val x295] = .ok .nx [.bor d174, .val v303, .own v275, .val x295] := by simp [h302, h304]
    refine run_seq e305 ?_
    obtain ⟨v306, v307, h308, h⟩ := ob2 h
    have e309 : (mDrop (mMut 2 gAppend (mCons (mTup (mCons (mFz (mRv (mVar 3))) (mCons (mFz (mRv (mVar 1))) mNil))) mNil))) [.bor d174, .val v303, .own v275, .val x295] = .ok .nx [.bor d174, .val v303, .own v306, .val x295] := by simp [h308, (mutP_lst h308)]
    obtain rfl := Option.some.inj h
    exact run_end e309 ⟨.inl rfl, .val x295, rfl⟩
theorem tr_added_up (d174 : D) (r : D) (h : p_added_up d174 = some r) : evalD [.b] 3 m_added_up [.bor d174] = some ((.fr r), [.bor d174]) := by
  unfold p_added_up at h
  refine run_evalD (m := m_added_up) ?_
  show PL.Run m_added_up [.bor d174, .un, .un, .un] _
  unfold m_added_up
  obtain ⟨u247, h248, h⟩ := ob1 h
  obtain ⟨v249, h250, h⟩ := ob1 h
  have e251 : (mSet 1 (mRv (mPl (mGet2 (mVar 0) (mC (.int 0)) (mC (.int 0)))))) [.bor d174, .un, .un, .un] = .ok .nx [.bor d174, .val v249, .un, .un] := by simp [h248, h250]
  refine run_seq e251 ?_
  have e252 : (mSet 2 (mLst (mCons (mTup (mCons (mC (.int 0)) (mCons (mFz (mRv (mVar 1))) mNil))) mNil))) [.bor d174, .val v249, .un, .un] = .ok .nx [.bor d174, .val v249, .own (.list [(.tuple [(.int 0), v249])]), .un] := by simp []
  refine run_seq e252 ?_
  obtain ⟨v253, h254, h⟩ := ob1 h
  obtain ⟨q255, x256, h257, h⟩ := ob2 h
  have e258 : (mIter (mPl (mFz (mFr (mN gSortedA (mCons (mVar 0) mNil)))))) [.bor d174, .val v249, .own (.list [(.tuple [(.int 0), v249])]), .un] = .ok x256 [.bor d174, .val v249, .own (.list [(.tuple [(.int 0), v249])]), .un] := by simp [h254, h257]
  obtain ⟨v310, v311, h313, h⟩ := ob2 h
  obtain ⟨_, e314, j312, rfl⟩ := run_for_nx e258 (foldP_run (fun (s : D × D) (ρ : PL.Env) => ∃ (j276 : Sl), ρ = [.bor d174, .val s.1, .own s.2, j276]) (t := (tName 3)) (b := mb_added_up_1) (fun x s ρ s0 hi hf => by obtain ⟨j276, rfl⟩ := hi; exact tb_added_up_1 d174 x s.1 s.2 j276 s0 hf) x256 (v249, (PyData.list [(.tuple [(.int 0), v249])])) _ (v310, v311) ⟨.un, rfl⟩ h313)
  refine run_seq e314 ?_
  obtain ⟨v315, h316, h⟩ := ob1 h
  have e317 := tr_levelled v311 _ h316
  have e318 : (mCall [.b] 3 m_levelled (mCons (mVar 2) mNil)) [.bor d174, .val v310, .own v311, j312] = .ok (.fr v315) [.bor d174, .val v310, .own v311, j312] := by simp [e317]
  obtain rfl := Option.some.inj h
  exact run_ret e318 ⟨by simp [flR], by simp⟩
theorem tr_stretch_to (d319 : D) (d320 : D) (r : D) (h : p_stretch_to d319 d320 = some r) : evalD [.v, .b] 0 m_stretch_to [.val d319, .bor d320] = some ((.pl (.val r)), [.val d319, .bor d320]) := by
  unfold p_stretch_to at h
  refine run_evalD (m := m_stretch_to) ?_
  show PL.Run m_stretch_to [.val d319, .bor d320] _
  unfold m_stretch_to
  obtain ⟨v336, h337, h⟩ := ob1 h
  obtain ⟨b338, h339, h⟩ := ob1 h
  have e340 : (mB (mOp gIs (mVar 1) (mPl (mC .none)))) [.val d319, .bor d320] = .ok b338 [.val d319, .bor d320] := by simp [h337, h339]
  rcases b338 with _ | _
  · rw [if_neg Bool.false_ne_true] at h
    refine run_seq_if_f e340 ?_
    refine run_seq_skip ?_
    obtain ⟨v342, h343, h⟩ := ob1 h
    obtain ⟨b344, h345, h⟩ := ob1 h
    have e346 : (mB (mOp gLe (mVar 1) (mVar 0))) [.val d319, .bor d320] = .ok b344 [.val d319, .bor d320] := by simp [h343, h345]
    rcases b344 with _ | _
    · rw [if_neg Bool.false_ne_true] at h
      refine run_seq_if_f e346 ?_
      refine run_seq_skip ?_
      obtain ⟨v348, h349, h⟩ := ob1 h
      have e350 : (mRv (mPl (mTup (mCons (mFz (mRv (mVar 0))) (mCons (mOp gSub' (mVar 1) (mPl (mC (.int 1)))) mNil))))) [.val d319, .bor d320] = .ok (.pl (.val (.tuple [d319, v348]))) [.val d319, .bor d320] := by simp [h349]
      obtain rfl := Option.some.inj h
      exact run_ret e350 ⟨by simp [flR], by simp⟩
    · rw [if_pos rfl] at h
      refine run_seq_if_t e346 ?_
      have e347 : (mRv (mPl (mC .none))) [.val d319, .bor d320] = .ok (.pl (.val (.none : D))) [.val d319, .bor d320] := by simp []
      obtain rfl := Option.some.inj h
      exact run_seq_ret e347 ⟨by simp [flR], by simp⟩
  · rw [if_pos rfl] at h
    refine run_seq_if_t e340 ?_
    have e341 : (mRv (mPl (mTup (mCons (mFz (mRv (mVar 0))) (mCons (mC .none) mNil))))) [.val d319, .bor d320] = .ok (.pl (.val (.tuple [d319, (.none : D)]))) [.val d319, .bor d320] := by simp []
    obtain rfl := Option.some.inj h
    exact run_seq_ret e341 ⟨by simp [flR], by simp⟩
theorem tb_wish_behind_1 (d351 : D) (x499 : D) (v469 : D) (j470 : Sl) (j471 : Sl) (s0 : D) (h : p_wish_behind_b1 x499 v469 = some s0) : ∃ ρ1, (tTupl (tsCons (tName 2) (tsCons (tName 3) tsNil))) x499 [.bor d351, .val v469, j470, j471] = .ok () ρ1 ∧ PL.Run mb_wish_behind_1 ρ1 (fun fl ρ' => (fl = .nx ∨ fl = .ct) ∧ (fun (s : D) (ρ : PL.Env) => ∃ (j470 : Sl) (j471 : Sl), ρ = [.bor d351, .val s, j470, j471]) s0 ρ') := by
  unfold p_wish_behind_b1 at h
  obtain ⟨v500, v501, h502, h⟩ := ob2 h
  refine ⟨[.bor d351, .val v469, .val v500, .val v501], by simp [(tT2 h502)], ?_⟩
  unfold mb_wish_behind_1
  obtain ⟨b517, h519, h⟩ := ob1 h
  have e518 : (mAnd (mB (mOp gLt (mVar 2) (mVar 1))) (mOr (mB (mOp gIs (mVar 3) (mPl (mC .none)))) (mB (mOp gLe (mVar 1) (mPl (mFz (mOpX gAdd (mVar 3) (mPl (mC (.int 1)))))))))) [.bor d351, .val v469, .val v500, .val v501] = .ok b517 [.bor d351, .val v469, .val v500, .val v501] := by
    obtain ⟨v503, h504, h519⟩ := ob1 h519
    obtain ⟨b505, h506, h519⟩ := ob1 h519
    rcases b505 with _ | _
    · rw [if_neg Bool.false_ne_true] at h519
      obtain rfl := Option.some.inj h519
      simp [h504, h506]
    · rw [if_pos rfl] at h519
      obtain ⟨v507, h508, h519⟩ := ob1 h519
      obtain ⟨b509, h510, h519⟩ := ob1 h519
      rcases b509 with _ | _
      · rw [if_neg Bool.false_ne_true] at h519
        obtain ⟨v511, h512, h519⟩ := ob1 h519
        obtain ⟨v513, h514, h519⟩ := ob1 h519
        obtain ⟨b515, h516, h519⟩ := ob1 h519
        obtain rfl := Option.some.inj h519
        simp [h504, h506, h508, h510, (addV_eq h512), h514, h516]
      · rw [if_pos rfl] at h519
        obtain rfl := Option.some.inj h519
        simp [h504, h506, h508, h510]
  rcases b517 with _ | _
  · rw [if_neg Bool.false_ne_true] at h
    refine run_if_f e518 ?_
    obtain rfl := Option.some.inj h
    exact run_end (m := mSkip) (fl := .nx) rfl ⟨.inl rfl, .val v500, .val v501, rfl⟩
  · rw [if_pos rfl] at h
    refine run_if_t e518 ?_
    obtain ⟨v520, h521, h⟩ := ob1 h
    have e522 : (mAug 1 gSub' (mPl (mC (.int 1)))) [.bor d351, .val v469, .val v500, .val v501] = .ok .nx [.bor d351, .val v520, .val v500, .val v501] := by simp [h521]
    obtain rfl := Option.some.inj h
    exact run_end e522 ⟨.inl rfl, .val v500, .val v501, rfl⟩
theorem tr_wish_behind (d351 : D) (d352 : D) (r : D) (h : p_wish_behind d351 d352 = some r) : ∃ (z1 : Sl), evalD [.b, .v] 2 m_wish_behind [.bor d351, .val d352] = some ((.pl (.val r)), [.bor d351, z1]) := by
  unfold p_wish_behind at h
  have e0 : PL.Run m_wish_behind [.bor d351, .val d352, .un, .un] fun fl ρ' => ∃ (z1 : Sl), flR fl ρ' = some (.pl (.val r)) ∧ ρ'.take 2 = [.bor d351, z1] := by
    unfold m_wish_behind
    obtain ⟨q441, x442, h443, h⟩ := ob2 h
    have e444 : (mIter (mVar 0)) [.bor d351, .val d352, .un, .un] = .ok x442 [.bor d351, .val d352, .un, .un] := by simp [h443]
    obtain ⟨v523, h526, h⟩ := ob1 h
    obtain ⟨_, e527, j524, j525, rfl⟩ := run_for_nx e444 (foldP_run (fun (s : D) (ρ : PL.Env) => ∃ (j470 : Sl) (j471 : Sl), ρ = [.bor d351, .val s, j470, j471]) (t := (tTupl (tsCons (tName 2) (tsCons (tName 3) tsNil)))) (b := mb_wish_behind_1) (fun x s ρ s0 hi hf => by obtain ⟨j470, j471, rfl⟩ := hi; exact tb_wish_behind_1 d351 x s j470 j471 s0 hf) x442 d352 _ v523 ⟨.un, .un, rfl⟩ h526)
    refine run_seq e527 ?_
    have e528 : (mRv (mVar 1)) [.bor d351, .val v523, j524, j525] = .ok (.pl (.val v523)) [.bor d351, .val v523, j524, j525] := by simp []
    obtain rfl := Option.some.inj h
    exact run_ret e528 ⟨.val v523, by simp [flR], by simp⟩
  obtain ⟨fl, ρ', e0, z1, e1, e2⟩ := e0
  exact ⟨z1, run_evalD (m := m_wish_behind) ⟨fl, ρ', e0, e1, e2⟩⟩
theorem tr_companies_within (d529 : D) (d530 : D) (r : D) (h : p_companies_within d529 d530 = some r) : evalD [.b, .v] 3 m_companies_within [.bor d529, .val d530] = some ((.pl (.val r)), [.bor d529, .val d530]) := by
  unfold p_companies_within at h
  refine run_evalD (m := m_companies_within) ?_
  show PL.Run m_companies_within [.bor d529, .val d530, .un, .un, .un] _
  unfold m_companies_within
  obtain ⟨v559, v560, h561, h⟩ := ob2 h
  have e562 : (mAsg (tTupl (tsCons (tName 2) (tsCons (tName 3) tsNil))) (mFz (mRv (mVar 1)))) [.bor d529, .val d530, .un, .un, .un] = .ok .nx [.bor d529, .val d530, .val v559, .val v560, .un] := by simp [(tT2 h561)]
  refine run_seq e562 ?_
  obtain ⟨v563, h564, h⟩ := ob1 h
  obtain ⟨z566, e565⟩ := tr_wish_behind d529 v559 _ h564
  have e567 : (mSet 4 (mCall [.b, .v] 2 m_wish_behind (mCons (mVar 0) (mCons (mPl (mFz (mRv (mVar 2)))) mNil)))) [.bor d529, .val d530, .val v559, .val v560, .un] = .ok .nx [.bor d529, .val d530, .val v559, .val v560, .val v563] := by simp [e565]
  refine run_seq e567 ?_
  obtain ⟨v568, h569, h⟩ := ob1 h
  obtain ⟨b570, h571, h⟩ := ob1 h
  have e572 : (mB (mOp gIs (mVar 3) (mPl (mC .none)))) [.bor d529, .val d530, .val v559, .val v560, .val v563] = .ok b570 [.bor d529, .val d530, .val v559, .val v560, .val v563] := by simp [h569, h571]
  rcases b570 with _ | _
  · rw [if_neg Bool.false_ne_true] at h
    refine run_seq_if_f e572 ?_
    refine run_seq_skip ?_
    obtain ⟨v577, h578, h⟩ := ob1 h
    obtain ⟨v579, h580, h⟩ := ob1 h
    obtain ⟨z582, e581⟩ := tr_wish_behind d529 v577 _ h580
    obtain ⟨v583, h584, h⟩ := ob1 h
    have e585 := tr_stretch_to v563 v579 _ h584
    have e586 : (mCall [.v, .b] 0 m_stretch_to (mCons (mPl (mFz (mRv (mVar 4)))) (mCons (mPl (mFz (mCall [.b, .v] 2 m_wish_behind (mCons (mVar 0) (mCons (mPl (mFz (mOpX gAdd (mVar 3) (mPl (mC (.int 1)))))) mNil))))) mNil))) [.bor d529, .val d530, .val v559, .val v560, .val v563] = .ok (.pl (.val v583)) [.bor d529, .val d530, .val v559, .val v560, .val v563] := by simp [(addV_eq h578), e581, e585]
    obtain rfl := Option.some.inj h
    exact run_ret e586 ⟨by simp [flR], by simp⟩
  · rw [if_pos rfl] at h
    refine run_seq_if_t e572 ?_
    obtain ⟨v573, h574, h⟩ := ob1 h
    have e575 := tr_stretch_to v563 (.none : D) _ h574
    have e576 : (mCall [.v, .b] 0 m_stretch_to (mCons (mPl (mFz (mRv (mVar 4)))) (mCons (mPl (mC .none)) mNil))) [.bor d529, .val d530, .val v559, .val v560, .val v563] = .ok (.pl (.val v573)) [.bor d529, .val d530, .val v559, .val v560, .val v563] := by simp [e575]
    obtain rfl := Option.some.inj h
    exact run_seq_ret e576 ⟨by simp [flR], by simp⟩
theorem tc_said_of_company_1 (d587 : D) (x641 : D) (y : D) (h : p_said_of_company_c1 d587 x641 = some y) : ∃ ρ1 ρ2 ρ3, (tName 1) x641 [.bor d587, .un] = .ok () ρ1 ∧ mYes ρ1 = .ok true ρ2 ∧ (mFz (mCall [.b, .v] 3 m_companies_within (mCons (mSliceP (mVar 0) (some (mFz (mOpX gAdd (mVar 1) (mPl (mC (.int 1)))))) none) (mCons (mPl (mOp gIx (mVar 0) (mVar 1))) mNil)))) ρ2 = .ok y ρ3 ∧ (fun (ρ : PL.Env) => ρ = [.bor d587, .un]) (wipeE ρ3 [1]) := by
  unfold p_said_of_company_c1 at h
  obtain ⟨v642, h643, h⟩ := ob1 h
  obtain ⟨i644, h645, h⟩ := ob1 h
  obtain ⟨b646, v647, h648, h⟩ := ob2 h
  have w_h648 := sliceW_w h648
  obtain ⟨v649, h650, h⟩ := ob1 h
  obtain ⟨v651, h652, h⟩ := ob1 h
  have e653 := tr_companies_within v647 v649 _ h652
  obtain rfl := Option.some.inj h
  exact ⟨[.bor d587, .val x641], [.bor d587, .val x641], [.bor d587, .val x641], by (rcases b646 with _ | _; (focus (simp [(addV_eq h643), h645, h648, h650, e653])); (have w := w_h648 rfl; subst w; simp [(addV_eq h643), h645, h648, h650, e653])), by (rcases b646 with _ | _; (focus (simp [(addV_eq h643), h645, h648, h650, e653])); (have w := w_h648 rfl; subst w; simp [(addV_eq h643), h645, h648, h650, e653])), by (rcases b646 with _ | _; (focus (simp [(addV_eq h643), h645, h648, h650, e653])); (have w := w_h648 rfl; subst w; simp [(addV_eq h643), h645, h648, h650, e653])), by simp⟩
theorem tr_said_of_company (d587 : D) (r : D) (h : p_said_of_company d587 = some r) : evalD [.b] 1 m_said_of_company [.bor d587] = some ((.fr r), [.bor d587]) := by
  unfold p_said_of_company at h
  refine run_evalD (m := m_said_of_company) ?_
  show PL.Run m_said_of_company [.bor d587, .un] _
  unfold m_said_of_company
  obtain ⟨v624, h625, h⟩ := ob1 h
  obtain ⟨x626, h627, h⟩ := ob1 h
  obtain ⟨x654, h655, h⟩ := ob1 h
  obtain ⟨r657, e656, r658⟩ := mapT_run (fun (ρ : PL.Env) => ρ = [.bor d587, .un]) (fi := (mRng1 (mN gLen (mCons (mVar 0) mNil)))) (t := (tName 1)) (vs := [1]) (c := mYes) (fe := (mFz (mCall [.b, .v] 3 m_companies_within (mCons (mSliceP (mVar 0) (some (mFz (mOpX gAdd (mVar 1) (mPl (mC (.int 1)))))) none) (mCons (mPl (mOp gIx (mVar 0) (mVar 1))) mNil))))) (ρ0 := [.bor d587, .un]) (ρ1 := [.bor d587, .un]) (by simp [h625, h627]) (by simp) h655 (fun x ρ y hi hf => by subst hi; exact tc_said_of_company_1 d587 x y hf)
  subst r658
  have e659 : (mLc (mRng1 (mN gLen (mCons (mVar 0) mNil))) (tName 1) [1] mYes (mFz (mCall [.b, .v] 3 m_companies_within (mCons (mSliceP (mVar 0) (some (mFz (mOpX gAdd (mVar 1) (mPl (mC (.int 1)))))) none) (mCons (mPl (mOp gIx (mVar 0) (mVar 1))) mNil))))) [.bor d587, .un] = .ok (.fr (.list x654)) [.bor d587, .un] := by simp [h625, h627, e656]
  obtain rfl := Option.some.inj h
  exact run_ret e659 ⟨by simp [flR], by simp⟩
theorem tb_changes_by_1 (d660 : D) (x834 : D) (v799 : D) (j800 : Sl) (j801 : Sl) (s0 : D) (h : p_changes_by_b1 x834 v799 = some s0) : ∃ ρ1, (tTupl (tsCons (tName 2) (tsCons (tName 3) tsNil))) x834 [.bor d660, .own v799, j800, j801] = .ok () ρ1 ∧ PL.Run mb_changes_by_1 ρ1 (fun fl ρ' => (fl = .nx ∨ fl = .ct) ∧ (fun (s : D) (ρ : PL.Env) => ∃ (j800 : Sl) (j801 : Sl), ρ = [.bor d660, .own s, j800, j801]) s0 ρ') := by
  unfold p_changes_by_b1 at h
  obtain ⟨v835, v836, h837, h⟩ := ob2 h
  refine ⟨[.bor d660, .own v799, .val v835, .val v836], by simp [(tT2 h837)], ?_⟩
  unfold mb_changes_by_1
  obtain ⟨u838, h839, h⟩ := ob1 h
  obtain ⟨v840, h841, h⟩ := ob1 h
  obtain ⟨v842, h843, h⟩ := ob1 h
  obtain ⟨v844, h845, h⟩ := ob1 h
  have e846 : (mDPut 1 (mFz (mOpX gAdd (mPl (mGet2 (mVar 1) (mFz (mRv (mVar 2))) (mC (.int 0)))) (mPl (mC (.int 1))))) (mFz (mRv (mVar 2)))) [.bor d660, .own v799, .val v835, .val v836] = .ok .nx [.bor d660, .own v844, .val v835, .val v836] := by simp [h839, h841, (addV_eq h843), h845]
  refine run_seq e846 ?_
  obtain ⟨v847, h848, h⟩ := ob1 h
  obtain ⟨b849, h850, h⟩ := ob1 h
  have e851 : (mB (mOp gNot (mVar 3) (mPl (mC .none)))) [.bor d660, .own v844, .val v835, .val v836] = .ok b849 [.bor d660, .own v844, .val v835, .val v836] := by simp [h848, h850]
  rcases b849 with _ | _
  · rw [if_neg Bool.false_ne_true] at h
    refine run_if_f e851 ?_
    obtain rfl := Option.some.inj h
    exact run_end (m := mSkip) (fl := .nx) rfl ⟨.inl rfl, .val v835, .val v836, rfl⟩
  · rw [if_pos rfl] at h
    refine run_if_t e851 ?_
    obtain ⟨u852, h853, h⟩ := ob1 h
    obtain ⟨v854, h855, h⟩ := ob1 h
    obtain ⟨v856, h857, h⟩ := ob1 h
    obtain ⟨v858, h859, h⟩ := ob1 h
    obtain ⟨v860, h861, h⟩ := ob1 h
    have e862 : (mDPut 1 (mOp gSub' (mPl (mGet2 (mVar 1) (mFz (mOpX gAdd (mVar 3) (mPl (mC (.int 1))))) (mC (.int 0)))) (mPl (mC (.int 1)))) (mFz (mOpX gAdd (mVar 3) (mPl (mC (.int 1)))))) [.bor d660, .own v844, .val v835, .val v836] = .ok .nx [.bor d660, .own v860, .val v835, .val v836] := by simp [h853, (addV_eq h855), h857, h859, h861]
    obtain rfl := Option.some.inj h
    exact run_end e862 ⟨.inl rfl, .val v835, .val v836, rfl⟩
theorem tr_changes_by (d660 : D) (r : D) (h : p_changes_by d660 = some r) : evalD [.b] 3 m_changes_by [.bor d660] = some ((.fr r), [.bor d660]) := by
  unfold p_changes_by at h
  refine run_evalD (m := m_changes_by) ?_
  show PL.Run m_changes_by [.bor d660, .un, .un, .un] _
  unfold m_changes_by
  have e765 : (mSet 1 (mFr mDict0)) [.bor d660, .un, .un, .un] = .ok .nx [.bor d660, .own (.dict []), .un, .un] := by simp []
  refine run_seq e765 ?_
  obtain ⟨q766, x767, h768, h⟩ := ob2 h
  have e769 : (mIter (mVar 0)) [.bor d660, .own (.dict []), .un, .un] = .ok x767 [.bor d660, .own (.dict []), .un, .un] := by simp [h768]
  obtain ⟨v863, h866, h⟩ := ob1 h
  obtain ⟨_, e867, j864, j865, rfl⟩ := run_for_nx e769 (foldP_run (fun (s : D) (ρ : PL.Env) => ∃ (j800 : Sl) (j801 : Sl), ρ = [.bor d660, .own s, j800, j801]) (t := (tTupl (tsCons (tName 2) (tsCons (tName 3) tsNil)))) (b := mb_changes_by_1) (fun x s ρ s0 hi hf => by obtain ⟨j800, j801, rfl⟩ := hi; exact tb_changes_by_1 d660 x s j800 j801 s0 hf) x767 (.dict []) _ v863 ⟨.un, .un, rfl⟩ h866)
  refine run_seq e867 ?_
  have e868 : (mRv (mVar 1)) [.bor d660, .own v863, j864, j865] = .ok (.pl (.slot 1)) [.bor d660, .own v863, j864, j865] := by simp []
  obtain rfl := Option.some.inj h
  exact run_ret e868 ⟨by simp [flR], by simp⟩
theorem tb_is_row_1 (d869 : D) (x1223 : D) (j1154 : Sl) (j1155 : Sl) (j1156 : Sl) (o : Ct (Unit) (D)) (h : p_is_row_b1 x1223 = some o) : ∃ ρ1, (tName 1) x1223 [.bor d869, j1154, j1155, j1156] = .ok () ρ1 ∧ PL.Run mb_is_row_1 ρ1 ((ctQ (fun (s : Unit) (ρ : PL.Env) => ∃ (j1154 : Sl) (j1155 : Sl) (j1156 : Sl), ρ = [.bor d869, j1154, j1155, j1156]) (fun (r : D) fl ρ' => flR fl ρ' = some (.pl (.val r)) ∧ ρ'.take 1 = [.bor d869]) o)) := by
  unfold p_is_row_b1 at h
  refine ⟨[.bor d869, .val x1223, j1155, j1156], by simp [], ?_⟩
  unfold mb_is_row_1
  obtain ⟨b1234, h1236, h⟩ := ob1 h
  have e1235 : (mOr (mNot (mTr (mPl (mUn (gIsi ["tuple"]) (mVar 1))))) (mB (mOp gNe (mPl (mN gLen (mCons (mVar 1) mNil))) (mPl (mC (.int 2)))))) [.bor d869, .val x1223, j1155, j1156] = .ok b1234 [.bor d869, .val x1223, j1155, j1156] := by
    obtain ⟨v1224, h1225, h1236⟩ := ob1 h1236
    obtain ⟨b1226, h1227, h1236⟩ := ob1 h1236
    rcases b1226 with _ | _
    · rw [if_neg Bool.false_ne_true] at h1236
      obtain rfl := Option.some.inj h1236
      simp [h1225, h1227]
    · rw [if_pos rfl] at h1236
      obtain ⟨v1228, h1229, h1236⟩ := ob1 h1236
      obtain ⟨v1230, h1231, h1236⟩ := ob1 h1236
      obtain ⟨b1232, h1233, h1236⟩ := ob1 h1236
      obtain rfl := Option.some.inj h1236
      simp [h1225, h1227, h1229, h1231, h1233]
  rcases b1234 with _ | _
  · rw [if_neg Bool.false_ne_true] at h
    refine run_seq_if_f e1235 ?_
    refine run_seq_skip ?_
    obtain ⟨v1238, v1239, h1240, h⟩ := ob2 h
    have e1241 : (mAsg (tTupl (tsCons (tName 2) (tsCons (tName 3) tsNil))) (mFz (mRv (mVar 1)))) [.bor d869, .val x1223, j1155, j1156] = .ok .nx [.bor d869, .val x1223, .val v1238, .val v1239] := by simp [(tT2 h1240)]
    refine run_seq e1241 ?_
    obtain ⟨b1258, h1260, h⟩ := ob1 h
    have e1259 : (mOr (mNot (mTr (mPl (mUn (gIsi ["int"]) (mVar 2))))) (mOr (mB (mOp gLt (mVar 2) (mPl (mC (.int 0))))) (mOr (mB (mOp gIs (mVar 2) (mPl (mC (.bool true))))) (mB (mOp gIs (mVar 2) (mPl (mC (.bool false)))))))) [.bor d869, .val x1223, .val v1238, .val v1239] = .ok b1258 [.bor d869, .val x1223, .val v1238, .val v1239] := by
      obtain ⟨v1242, h1243, h1260⟩ := ob1 h1260
      obtain ⟨b1244, h1245, h1260⟩ := ob1 h1260
      rcases b1244 with _ | _
      · rw [if_neg Bool.false_ne_true] at h1260
        obtain rfl := Option.some.inj h1260
        simp [h1243, h1245]
      · rw [if_pos rfl] at h1260
        obtain ⟨v1246, h1247, h1260⟩ := ob1 h1260
        obtain ⟨b1248, h1249, h1260⟩ := ob1 h1260
        rcases b1248 with _ | _
        · rw [if_neg Bool.false_ne_true] at h1260
          obtain ⟨v1250, h1251, h1260⟩ := ob1 h1260
          obtain ⟨b1252, h1253, h1260⟩ := ob1 h1260
          rcases b1252 with _ | _
          · rw [if_neg Bool.false_ne_true] at h1260
            obtain ⟨v1254, h1255, h1260⟩ := ob1 h1260
            obtain ⟨b1256, h1257, h1260⟩ := ob1 h1260
            obtain rfl := Option.some.inj h1260
            simp [h1243, h1245, h1247, h1249, h1251, h1253, h1255, h1257]
          · rw [if_pos rfl] at h1260
            obtain rfl := Option.some.inj h1260
            simp [h1243, h1245, h1247, h1249, h1251, h1253]
        · rw [if_pos rfl] at h1260
          obtain rfl := Option.some.inj h1260
          simp [h1243, h1245, h1247, h1249]
    rcases b1258 with _ | _
    · rw [if_neg Bool.false_ne_true] at h
      refine run_seq_if_f e1259 ?_
      refine run_seq_skip ?_
      obtain ⟨b1282, h1284, h⟩ := ob1 h
      have e1283 : (mAnd (mB (mOp gNot (mVar 3) (mPl (mC .none)))) (mOr (mNot (mTr (mPl (mUn (gIsi ["int"]) (mVar 3))))) (mOr (mB (mOp gLt (mVar 3) (mVar 2))) (mOr (mB (mOp gIs (mVar 3) (mPl (mC (.bool true))))) (mB (mOp gIs (mVar 3) (mPl (mC (.bool false))))))))) [.bor d869, .val x1223, .val v1238, .val v1239] = .ok b1282 [.bor d869, .val x1223, .val v1238, .val v1239] := by
        obtain ⟨v1262, h1263, h1284⟩ := ob1 h1284
        obtain ⟨b1264, h1265, h1284⟩ := ob1 h1284
        rcases b1264 with _ | _
        · rw [if_neg Bool.false_ne_true] at h1284
          obtain rfl := Option.some.inj h1284
          simp [h1263, h1265]
        · rw [if_pos rfl] at h1284
          obtain ⟨v1266, h1267, h1284⟩ := ob1 h1284
          obtain ⟨b1268, h1269, h1284⟩ := ob1 h1284
          rcases b1268 with _ | _
          · rw [if_neg Bool.false_ne_true] at h1284
            obtain rfl := Option.some.inj h1284
            simp [h1263, h1265, h1267, h1269]
          · rw [if_pos rfl] at h1284
            obtain ⟨v1270, h1271, h1284⟩ := ob1 h1284
            obtain ⟨b1272, h1273, h1284⟩ := ob1 h1284
            rcases b1272 with _ | _
            · rw [if_neg Bool.false_ne_true] at h1284
              obtain ⟨v1274, h1275, h1284⟩ := ob1 h1284
              obtain ⟨b1276, h1277, h1284⟩ := ob1 h1284
              rcases b1276 with _ | _
              · rw [if_neg Bool.false_ne_true] at h1284
                obtain ⟨v1278, h1279, h1284⟩ := ob1 h1284
                obtain ⟨b1280, h1281, h1284⟩ := ob1 h1284
                obtain rfl := Option.some.inj h1284
                simp [h1263, h1265, h1267, h1269, h1271, h1273, h1275, h1277, h1279, h1281]
              · rw [if_pos rfl] at h1284
                obtain rfl := Option.some.inj h1284
                simp [h1263, h1265, h1267, h1269, h1271, h1273, h1275, h1277]
            · rw [if_pos rfl] at h1284
              obtain rfl := Option.some.inj h1284
              simp [h1263, h1265, h1267, h1269, h1271, h1273]
      rcases b1282 with _ | _
      · rw [if_neg Bool.false_ne_true] at h
        refine run_if_f e1283 ?_
        obtain rfl := Option.some.inj h
        exact run_end (m := mSkip) (fl := .nx) rfl ⟨.inl rfl, .val x1223, .val v1238, .val v1239, rfl⟩
      · rw [if_pos rfl] at h
        refine run_if_t e1283 ?_
        have e1285 : (mRv (mPl (mC (.bool false)))) [.bor d869, .val x1223, .val v1238, .val v1239] = .ok (.pl (.val (.bool false))) [.bor d869, .val x1223, .val v1238, .val v1239] := by simp []
        obtain rfl := Option.some.inj h
        exact run_ret e1285 ⟨trivial, ⟨by simp [flR], by simp⟩⟩
    · rw [if_pos rfl] at h
      refine run_seq_if_t e1259 ?_
      have e1261 : (mRv (mPl (mC (.bool false)))) [.bor d869, .val x1223, .val v1238, .val v1239] = .ok (.pl (.val (.bool false))) [.bor d869, .val x1223, .val v1238, .val v1239] := by simp []
      obtain rfl := Option.some.inj h
      exact run_seq_ret e1261 ⟨trivial, ⟨by simp [flR], by simp⟩⟩
  · rw [if_pos rfl] at h
    refine run_seq_if_t e1235 ?_
    have e1237 : (mRv (mPl (mC (.bool false)))) [.bor d869, .val x1223, j1155, j1156] = .ok (.pl (.val (.bool false))) [.bor d869, .val x1223, j1155, j1156] := by simp []
    obtain rfl := Option.some.inj h
    exact run_seq_ret e1237 ⟨trivial, ⟨by simp [flR], by simp⟩⟩
theorem tr_is_row (d869 : D) (r : D) (h : p_is_row d869 = some r) : evalD [.b] 3 m_is_row [.bor d869] = some ((.pl (.val r)), [.bor d869]) := by
  unfold p_is_row at h
  refine run_evalD (m := m_is_row) ?_
  show PL.Run m_is_row [.bor d869, .un, .un, .un] _
  unfold m_is_row
  obtain ⟨v1081, h1082, h⟩ := ob1 h
  obtain ⟨b1083, h1084, h⟩ := ob1 h
  have e1085 : (mNot (mTr (mPl (mUn (gIsi ["list", "tuple"]) (mVar 0))))) [.bor d869, .un, .un, .un] = .ok (!b1083) [.bor d869, .un, .un, .un] := by simp [h1082, h1084]
  rcases b1083 with _ | _
  · rw [if_neg Bool.false_ne_true] at h
    refine run_seq_if_t e1085 ?_
    have e1086 : (mRv (mPl (mC (.bool false)))) [.bor d869, .un, .un, .un] = .ok (.pl (.val (.bool false))) [.bor d869, .un, .un, .un] := by simp []
    obtain rfl := Option.some.inj h
    exact run_seq_ret e1086 ⟨by simp [flR], by simp⟩
  · rw [if_pos rfl] at h
    refine run_seq_if_f e1085 ?_
    refine run_seq_skip ?_
    obtain ⟨q1087, x1088, h1089, h⟩ := ob2 h
    have e1090 : (mIter (mVar 0)) [.bor d869, .un, .un, .un] = .ok x1088 [.bor d869, .un, .un, .un] := by simp [h1089]
    obtain ⟨o1292, h1289, h⟩ := obct0 h
    have e1290 := forP_run (fun (s : Unit) (ρ : PL.Env) => ∃ (j1154 : Sl) (j1155 : Sl) (j1156 : Sl), ρ = [.bor d869, j1154, j1155, j1156]) (fun (r : D) fl ρ' => flR fl ρ' = some (.pl (.val r)) ∧ ρ'.take 1 = [.bor d869]) (t := (tName 1)) (b := mb_is_row_1) (fun x s ρ o hi hf => by obtain ⟨j1154, j1155, j1156, rfl⟩ := hi; exact tb_is_row_1 d869 x j1154 j1155 j1156 o hf) x1088 () _ o1292 ⟨.un, .un, .un, rfl⟩ h1289
    rcases h with ⟨r, rfl, h⟩ | ⟨rfl, h⟩
    · refine run_seq_ct (run_for e1090 e1290) (fun t fl ρ' ho hf hq => ?_) (fun s ρ' ho hi => nomatch ho)
      cases ho
      cases h
      exact hq
    · refine run_seq_ct (run_for e1090 e1290) (fun t fl ρ' ho hf hq => nomatch ho) (fun s ρ' ho hi => ?_)
      cases ho
      obtain ⟨j1286, j1287, j1288, rfl⟩ := hi
      have e1291 : (mRv (mPl (mC (.bool true)))) [.bor d869, j1286, j1287, j1288] = .ok (.pl (.val (.bool true))) [.bor d869, j1286, j1287, j1288] := by simp []
      obtain rfl := Option.some.inj h
      exact run_ret e1291 ⟨by simp [flR], by simp⟩
theorem tr_need_row (d1293 : D) (r : D) (h : p_need_row d1293 = some r) : evalD [.b] 0 m_need_row [.bor d1293] = some ((.pl (.val r)), [.bor d1293]) := by
  unfold p_need_row at h
  refine run_evalD (m := m_need_row) ?_
  show PL.Run m_need_row [.bor d1293] _
  unfold m_need_row
  obtain ⟨v1300, h1301, h⟩ := ob1 h
  have e1302 := tr_is_row d1293 _ h1301
  obtain ⟨b1303, h1304, h⟩ := ob1 h
  have e1305 : (mNot (mTr (mPl (mFz (mCall [.b] 3 m_is_row (mCons (mVar 0) mNil)))))) [.bor d1293] = .ok (!b1303) [.bor d1293] := by simp [e1302, h1304]
  rcases b1303 with _ | _
  · rw [if_neg Bool.false_ne_true] at h
    refine run_if_t e1305 ?_
    exact nomatch h
  · rw [if_pos rfl] at h
    refine run_if_f e1305 ?_
    obtain rfl := Option.some.inj h
    exact run_end (m := mSkip) (fl := .nx) rfl ⟨by simp [flR], by simp⟩
theorem tb_is_table_1 (d1306 : D) (x1702 : D) (v1627 : D) (v1628 : D) (j1629 : Sl) (j1630 : Sl) (j1631 : Sl) (o : Ct (D × D) (D)) (h : p_is_table_b1 x1702 v1627 v1628 = some o) : ∃ ρ1, (tName 3) x1702 [.bor d1306, .val v1627, .val v1628, j1629, j1630, j1631] = .ok () ρ1 ∧ PL.Run mb_is_table_1 ρ1 ((ctQ (fun (s : D × D) (ρ : PL.Env) => ∃ (j1629 : Sl) (j1630 : Sl) (j1631 : Sl), ρ = [.bor d1306, .val s.1, .val s.2, j1629, j1630, j1631]) (fun (r : D) fl ρ' => flR fl ρ' = some (.pl (.val r)) ∧ ρ'.take 1 = [.bor d1306]) o)) := by
  unfold p_is_table_b1 at h
  refine ⟨[.bor d1306, .val v1627, .val v1628, .val x1702, j1630, j1631], by simp [], ?_⟩
  unfold mb_is_table_1
  obtain ⟨b1713, h1715, h⟩ := ob1 h
  have e1714 : (mOr (mNot (mTr (mPl (mUn (gIsi ["tuple"]) (mVar 3))))) (mB (mOp gNe (mPl (mN gLen (mCons (mVar 3) mNil))) (mPl (mC (.int 2)))))) [.bor d1306, .val v1627, .val v1628, .val x1702, j1630, j1631] = .ok b1713 [.bor d1306, .val v1627, .val v1628, .val x1702, j1630, j1631] := by
    obtain ⟨v1703, h1704, h1715⟩ := ob1 h1715
    obtain ⟨b1705, h1706, h1715⟩ := ob1 h1715
    rcases b1705 with _ | _
    · rw [if_neg Bool.false_ne_true] at h1715
      obtain rfl := Option.some.inj h1715
      simp [h1704, h1706]
    · rw [if_pos rfl] at h1715
      obtain ⟨v1707, h1708, h1715⟩ := ob1 h1715
      obtain ⟨v1709, h1710, h1715⟩ := ob1 h1715
      obtain ⟨b1711, h1712, h1715⟩ := ob1 h1715
      obtain rfl := Option.some.inj h1715
      simp [h1704, h1706, h1708, h1710, h1712]
  rcases b1713 with _ | _
  · rw [if_neg Bool.false_ne_true] at h
    refine run_seq_if_f e1714 ?_
    refine run_seq_skip ?_
    obtain ⟨v1717, v1718, h1719, h⟩ := ob2 h
    have e1720 : (mAsg (tTupl (tsCons (tName 4) (tsCons (tName 5) tsNil))) (mFz (mRv (mVar 3)))) [.bor d1306, .val v1627, .val v1628, .val x1702, j1630, j1631] = .ok .nx [.bor d1306, .val v1627, .val v1628, .val x1702, .val v1717, .val v1718] := by simp [(tT2 h1719)]
    refine run_seq e1720 ?_
    obtain ⟨b1737, h1739, h⟩ := ob1 h
    have e1738 : (mOr (mNot (mTr (mPl (mUn (gIsi ["int"]) (mVar 4))))) (mOr (mB (mOp gLe (mVar 4) (mVar 1))) (mOr (mB (mOp gIs (mVar 4) (mPl (mC (.bool true))))) (mB (mOp gIs (mVar 4) (mPl (mC (.bool false)))))))) [.bor d1306, .val v1627, .val v1628, .val x1702, .val v1717, .val v1718] = .ok b1737 [.bor d1306, .val v1627, .val v1628, .val x1702, .val v1717, .val v1718] := by
      obtain ⟨v1721, h1722, h1739⟩ := ob1 h1739
      obtain ⟨b1723, h1724, h1739⟩ := ob1 h1739
      rcases b1723 with _ | _
      · rw [if_neg Bool.false_ne_true] at h1739
        obtain rfl := Option.some.inj h1739
        simp [h1722, h1724]
      · rw [if_pos rfl] at h1739
        obtain ⟨v1725, h1726, h1739⟩ := ob1 h1739
        obtain ⟨b1727, h1728, h1739⟩ := ob1 h1739
        rcases b1727 with _ | _
        · rw [if_neg Bool.false_ne_true] at h1739
          obtain ⟨v1729, h1730, h1739⟩ := ob1 h1739
          obtain ⟨b1731, h1732, h1739⟩ := ob1 h1739
          rcases b1731 with _ | _
          · rw [if_neg Bool.false_ne_true] at h1739
            obtain ⟨v1733, h1734, h1739⟩ := ob1 h1739
            obtain ⟨b1735, h1736, h1739⟩ := ob1 h1739
            obtain rfl := Option.some.inj h1739
            simp [h1722, h1724, h1726, h1728, h1730, h1732, h1734, h1736]
          · rw [if_pos rfl] at h1739
            obtain rfl := Option.some.inj h1739
            simp [h1722, h1724, h1726, h1728, h1730, h1732]
        · rw [if_pos rfl] at h1739
          obtain rfl := Option.some.inj h1739
          simp [h1722, h1724, h1726, h1728]
    rcases b1737 with _ | _
    · rw [if_neg Bool.false_ne_true] at h
      refine run_seq_if_f e1738 ?_
      refine run_seq_skip ?_
      obtain ⟨b1761, h1763, h⟩ := ob1 h
      have e1762 : (mOr (mNot (mTr (mPl (mUn (gIsi ["int"]) (mVar 5))))) (mOr (mB (mOp gLt (mVar 5) (mPl (mC (.int 0))))) (mOr (mB (mOp gEq (mVar 5) (mVar 2))) (mOr (mB (mOp gIs (mVar 5) (mPl (mC (.bool true))))) (mB (mOp gIs (mVar 5) (mPl (mC (.bool false))))))))) [.bor d1306, .val v1627, .val v1628, .val x1702, .val v1717, .val v1718] = .ok b1761 [.bor d1306, .val v1627, .val v1628, .val x1702, .val v1717, .val v1718] := by
        obtain ⟨v1741, h1742, h1763⟩ := ob1 h1763
        obtain ⟨b1743, h1744, h1763⟩ := ob1 h1763
        rcases b1743 with _ | _
        · rw [if_neg Bool.false_ne_true] at h1763
          obtain rfl := Option.some.inj h1763
          simp [h1742, h1744]
        · rw [if_pos rfl] at h1763
          obtain ⟨v1745, h1746, h1763⟩ := ob1 h1763
          obtain ⟨b1747, h1748, h1763⟩ := ob1 h1763
          rcases b1747 with _ | _
          · rw [if_neg Bool.false_ne_true] at h1763
            obtain ⟨v1749, h1750, h1763⟩ := ob1 h1763
            obtain ⟨b1751, h1752, h1763⟩ := ob1 h1763
            rcases b1751 with _ | _
            · rw [if_neg Bool.false_ne_true] at h1763
              obtain ⟨v1753, h1754, h1763⟩ := ob1 h1763
              obtain ⟨b1755, h1756, h1763⟩ := ob1 h1763
              rcases b1755 with _ | _
              · rw [if_neg Bool.false_ne_true] at h1763
                obtain ⟨v1757, h1758, h1763⟩ := ob1 h1763
                obtain ⟨b1759, h1760, h1763⟩ := ob1 h1763
                obtain rfl := Option.some.inj h1763
                simp [h1742, h1744, h1746, h1748, h1750, h1752, h1754, h1756, h1758, h1760]
              · rw [if_pos rfl] at h1763
                obtain rfl := Option.some.inj h1763
                simp [h1742, h1744, h1746, h1748, h1750, h1752, h1754, h1756]
            · rw [if_pos rfl] at h1763
              obtain rfl := Option.some.inj h1763
              simp [h1742, h1744, h1746, h1748, h1750, h1752]
          · rw [if_pos rfl] at h1763
            obtain rfl := Option.some.inj h1763
            simp [h1742, h1744, h1746, h1748]
      rcases b1761 with _ | _
      · rw [if_neg Bool.false_ne_true] at h
        refine run_seq_if_f e1762 ?_
        refine run_seq_skip ?_
        have e1765 : (mSet 1 (mRv (mPl (mFz (mRv (mVar 4)))))) [.bor d1306, .val v1627, .val v1628, .val x1702, .val v1717, .val v1718] = .ok .nx [.bor d1306, .val v1717, .val v1628, .val x1702, .val v1717, .val v1718] := by simp []
        refine run_seq e1765 ?_
        have e1766 : (mSet 2 (mRv (mPl (mFz (mRv (mVar 5)))))) [.bor d1306, .val v1717, .val v1628, .val x1702, .val v1717, .val v1718] = .ok .nx [.bor d1306, .val v1717, .val v1718, .val x1702, .val v1717, .val v1718] := by simp []
        obtain rfl := Option.some.inj h
        exact run_end e1766 ⟨.inl rfl, .val x1702, .val v1717, .val v1718, rfl⟩
      · rw [if_pos rfl] at h
        refine run_seq_if_t e1762 ?_
        have e1764 : (mRv (mPl (mC (.bool false)))) [.bor d1306, .val v1627, .val v1628, .val x1702, .val v1717, .val v1718] = .ok (.pl (.val (.bool false))) [.bor d1306, .val v1627, .val v1628, .val x1702, .val v1717, .val v1718] := by simp []
        obtain rfl := Option.some.inj h
        exact run_seq_ret e1764 ⟨trivial, ⟨by simp [flR], by simp⟩⟩
    · rw [if_pos rfl] at h
      refine run_seq_if_t e1738 ?_
      have e1740 : (mRv (mPl (mC (.bool false)))) [.bor d1306, .val v1627, .val v1628, .val x1702, .val v1717, .val v1718] = .ok (.pl (.val (.bool false))) [.bor d1306, .val v1627, .val v1628, .val x1702, .val v1717, .val v1718] := by simp []
      obtain rfl := Option.some.inj h
      exact run_seq_ret e1740 ⟨trivial, ⟨by simp [flR], by simp⟩⟩
  · rw [if_pos rfl] at h
    refine run_seq_if_t e1714 ?_
    have e1716 : (mRv (mPl (mC (.bool false)))) [.bor d1306, .val v1627, .val v1628, .val x1702, j1630, j1631] = .ok (.pl (.val (.bool false))) [.bor d1306, .val v1627, .val v1628, .val x1702, j1630, j1631] := by simp []
    obtain rfl := Option.some.inj h
    exact run_seq_ret e1716 ⟨trivial, ⟨by simp [flR], by simp⟩⟩
theorem tr_is_table (d1306 : D) (r : D) (h : p_is_table d1306 = some r) : evalD [.b] 5 m_is_table [.bor d1306] = some ((.pl (.val r)), [.bor d1306]) := by
  unfold p_is_table at h
  refine run_evalD (m := m_is_table) ?_
  show PL.Run m_is_table [.bor d1306, .un, .un, .un, .un, .un] _
  unfold m_is_table
  obtain ⟨b1550, h1552, h⟩ := ob1 h
  have e1551 : (mOr (mNot (mTr (mPl (mUn (gIsi ["list"]) (mVar 0))))) (mNot (mTr (mVar 0)))) [.bor d1306, .un, .un, .un, .un, .un] = .ok b1550 [.bor d1306, .un, .un, .un, .un, .un] := by
    obtain ⟨v1544, h1545, h1552⟩ := ob1 h1552
    obtain ⟨b1546, h1547, h1552⟩ := ob1 h1552
    rcases b1546 with _ | _
    · rw [if_neg Bool.false_ne_true] at h1552
      obtain rfl := Option.some.inj h1552
      simp [h1545, h1547]
    · rw [if_pos rfl] at h1552
      obtain ⟨b1548, h1549, h1552⟩ := ob1 h1552
      obtain rfl := Option.some.inj h1552
      simp [h1545, h1547, h1549]
  rcases b1550 with _ | _
  · rw [if_neg Bool.false_ne_true] at h
    refine run_seq_if_f e1551 ?_
    refine run_seq_skip ?_
    obtain ⟨v1554, h1555, h⟩ := ob1 h
    have e1556 : (mSet 1 (mRv (mPl (mNegU (mC (.int 1)))))) [.bor d1306, .un, .un, .un, .un, .un] = .ok .nx [.bor d1306, .val v1554, .un, .un, .un, .un] := by simp [h1555]
    refine run_seq e1556 ?_
    have e1557 : (mSet 2 (mRv (mPl (mC .none)))) [.bor d1306, .val v1554, .un, .un, .un, .un] = .ok .nx [.bor d1306, .val v1554, .val (.none : D), .un, .un, .un] := by simp []
    refine run_seq e1557 ?_
    obtain ⟨q1558, x1559, h1560, h⟩ := ob2 h
    have e1561 : (mIter (mVar 0)) [.bor d1306, .val v1554, .val (.none : D), .un, .un, .un] = .ok x1559 [.bor d1306, .val v1554, .val (.none : D), .un, .un, .un] := by simp [h1560]
    obtain ⟨o1781, h1772, h⟩ := obct2 h
    have e1773 := forP_run (fun (s : D × D) (ρ : PL.Env) => ∃ (j1629 : Sl) (j1630 : Sl) (j1631 : Sl), ρ = [.bor d1306, .val s.1, .val s.2, j1629, j1630, j1631]) (fun (r : D) fl ρ' => flR fl ρ' = some (.pl (.val r)) ∧ ρ'.take 1 = [.bor d1306]) (t := (tName 3)) (b := mb_is_table_1) (fun x s ρ o hi hf => by obtain ⟨j1629, j1630, j1631, rfl⟩ := hi; exact tb_is_table_1 d1306 x s.1 s.2 j1629 j1630 j1631 o hf) x1559 (v1554, (.none : D)) _ o1781 ⟨.un, .un, .un, rfl⟩ h1772
    rcases h with ⟨r, rfl, h⟩ | ⟨v1767, v1768, rfl, h⟩
    · refine run_seq_ct (run_for e1561 e1773) (fun t fl ρ' ho hf hq => ?_) (fun s ρ' ho hi => nomatch ho)
      cases ho
      cases h
      exact hq
    · refine run_seq_ct (run_for e1561 e1773) (fun t fl ρ' ho hf hq => nomatch ho) (fun s ρ' ho hi => ?_)
      cases ho
      obtain ⟨j1769, j1770, j1771, rfl⟩ := hi
      obtain ⟨v1774, h1775, h⟩ := ob1 h
      obtain ⟨v1776, h1777, h⟩ := ob1 h
      obtain ⟨v1778, h1779, h⟩ := ob1 h
      have e1780 : (mRv (mPl (mOp gEq (mPl (mOp gIx (mPl (mOp gIx (mVar 0) (mPl (mC (.int 0))))) (mPl (mC (.int 0))))) (mPl (mC (.int 0)))))) [.bor d1306, .val v1767, .val v1768, j1769, j1770, j1771] = .ok (.pl (.val v1778)) [.bor d1306, .val v1767, .val v1768, j1769, j1770, j1771] := by simp [h1775, h1777, h1779]
      obtain rfl := Option.some.inj h
      exact run_ret e1780 ⟨by simp [flR], by simp⟩
  · rw [if_pos rfl] at h
    refine run_seq_if_t e1551 ?_
    have e1553 : (mRv (mPl (mC (.bool false)))) [.bor d1306, .un, .un, .un, .un, .un] = .ok (.pl (.val (.bool false))) [.bor d1306, .un, .un, .un, .un, .un] := by simp []
    obtain rfl := Option.some.inj h
    exact run_seq_ret e1553 ⟨by simp [flR], by simp⟩
theorem tb_is_rows_1 (d1782 : D) (x1890 : D) (v1871 : D) (j1872 : Sl) (j1873 : Sl) (o : Ct (D) (D)) (h : p_is_rows_b1 x1890 v1871 = some o) : ∃ ρ1, (tTupl (tsCons (tName 2) (tsCons (tName 3) tsNil))) x1890 [.bor d1782, .val v1871, j1872, j1873] = .ok () ρ1 ∧ PL.Run mb_is_rows_1 ρ1 ((ctQ (fun (s : D) (ρ : PL.Env) => ∃ (j1872 : Sl) (j1873 : Sl), ρ = [.bor d1782, .val s, j1872, j1873]) (fun (r : D) fl ρ' => flR fl ρ' = some (.pl (.val r)) ∧ ρ'.take 1 = [.bor d1782]) o)) := by
  unfold p_is_rows_b1 at h
  obtain ⟨v1891, v1892, h1893, h⟩ := ob2 h
  refine ⟨[.bor d1782, .val v1871, .val v1891, .val v1892], by simp [(tT2 h1893)], ?_⟩
  unfold mb_is_rows_1
  obtain ⟨v1894, h1895, h⟩ := ob1 h
  obtain ⟨v1896, h1897, h⟩ := ob1 h
  obtain ⟨b1898, h1899, h⟩ := ob1 h
  have e1900 : (mB (mOp gLt (mVar 3) (mPl (mOp gSub' (mVar 1) (mPl (mC (.int 1))))))) [.bor d1782, .val v1871, .val v1891, .val v1892] = .ok b1898 [.bor d1782, .val v1871, .val v1891, .val v1892] := by simp [h1895, h1897, h1899]
  rcases b1898 with _ | _
  · rw [if_neg Bool.false_ne_true] at h
    refine run_seq_if_f e1900 ?_
    refine run_seq_skip ?_
    have e1902 : (mSet 1 (mRv (mPl (mFz (mRv (mVar 3)))))) [.bor d1782, .val v1871, .val v1891, .val v1892] = .ok .nx [.bor d1782, .val v1892, .val v1891, .val v1892] := by simp []
    obtain rfl := Option.some.inj h
    exact run_end e1902 ⟨.inl rfl, .val v1891, .val v1892, rfl⟩
  · rw [if_pos rfl] at h
    refine run_seq_if_t e1900 ?_
    have e1901 : (mRv (mPl (mC (.bool false)))) [.bor d1782, .val v1871, .val v1891, .val v1892] = .ok (.pl (.val (.bool false))) [.bor d1782, .val v1871, .val v1891, .val v1892] := by simp []
    obtain rfl := Option.some.inj h
    exact run_seq_ret e1901 ⟨trivial, ⟨by simp [flR], by simp⟩⟩
theorem tr_is_rows (d1782 : D) (r : D) (h : p_is_rows d1782 = some r) : evalD [.b] 3 m_is_rows [.bor d1782] = some ((.pl (.val r)), [.bor d1782]) := by
  unfold p_is_rows at h
  refine run_evalD (m := m_is_rows) ?_
  show PL.Run m_is_rows [.bor d1782, .un, .un, .un] _
  unfold m_is_rows
  obtain ⟨v1846, h1847, h⟩ := ob1 h
  have e1848 := tr_is_table d1782 _ h1847
  obtain ⟨b1849, h1850, h⟩ := ob1 h
  have e1851 : (mNot (mTr (mPl (mFz (mCall [.b] 5 m_is_table (mCons (mVar 0) mNil)))))) [.bor d1782, .un, .un, .un] = .ok (!b1849) [.bor d1782, .un, .un, .un] := by simp [e1848, h1850]
  rcases b1849 with _ | _
  · rw [if_neg Bool.false_ne_true] at h
    refine run_seq_if_t e1851 ?_
    have e1852 : (mRv (mPl (mC (.bool false)))) [.bor d1782, .un, .un, .un] = .ok (.pl (.val (.bool false))) [.bor d1782, .un, .un, .un] := by simp []
    obtain rfl := Option.some.inj h
    exact run_seq_ret e1852 ⟨by simp [flR], by simp⟩
  · rw [if_pos rfl] at h
    refine run_seq_if_f e1851 ?_
    refine run_seq_skip ?_
    have e1853 : (mSet 1 (mRv (mPl (mC (.int 0))))) [.bor d1782, .un, .un, .un] = .ok .nx [.bor d1782, .val (.int 0), .un, .un] := by simp []
    refine run_seq e1853 ?_
    obtain ⟨q1854, x1855, h1856, h⟩ := ob2 h
    have e1857 : (mIter (mVar 0)) [.bor d1782, .val (.int 0), .un, .un] = .ok x1855 [.bor d1782, .val (.int 0), .un, .un] := by simp [h1856]
    obtain ⟨o1909, h1906, h⟩ := obct1 h
    have e1907 := forP_run (fun (s : D) (ρ : PL.Env) => ∃ (j1872 : Sl) (j1873 : Sl), ρ = [.bor d1782, .val s, j1872, j1873]) (fun (r : D) fl ρ' => flR fl ρ' = some (.pl (.val r)) ∧ ρ'.take 1 = [.bor d1782]) (t := (tTupl (tsCons (tName 2) (tsCons (tName 3) tsNil)))) (b := mb_is_rows_1) (fun x s ρ o hi hf => by obtain ⟨j1872, j1873, rfl⟩ := hi; exact tb_is_rows_1 d1782 x s j1872 j1873 o hf) x1855 (.int 0) _ o1909 ⟨.un, .un, rfl⟩ h1906
    rcases h with ⟨r, rfl, h⟩ | ⟨v1903, rfl, h⟩
    · refine run_seq_ct (run_for e1857 e1907) (fun t fl ρ' ho hf hq => ?_) (fun s ρ' ho hi => nomatch ho)
      cases ho
      cases h
      exact hq
    · refine run_seq_ct (run_for e1857 e1907) (fun t fl ρ' ho hf hq => nomatch ho) (fun s ρ' ho hi => ?_)
      cases ho
      obtain ⟨j1904, j1905, rfl⟩ := hi
      have e1908 : (mRv (mPl (mC (.bool true)))) [.bor d1782, .val v1903, j1904, j1905] = .ok (.pl (.val (.bool true))) [.bor d1782, .val v1903, j1904, j1905] := by simp []
      obtain rfl := Option.some.inj h
      exact run_ret e1908 ⟨by simp [flR], by simp⟩
theorem tr_need_rows_table (d1910 : D) (r : D) (h : p_need_rows_table d1910 = some r) : evalD [.b] 0 m_need_rows_table [.bor d1910] = some ((.pl (.val r)), [.bor d1910]) := by
  unfold p_need_rows_table at h
  refine run_evalD (m := m_need_rows_table) ?_
  show PL.Run m_need_rows_table [.bor d1910] _
  unfold m_need_rows_table
  obtain ⟨v1917, h1918, h⟩ := ob1 h
  have e1919 := tr_is_rows d1910 _ h1918
  obtain ⟨b1920, h1921, h⟩ := ob1 h
  have e1922 : (mNot (mTr (mPl (mFz (mCall [.b] 3 m_is_rows (mCons (mVar 0) mNil)))))) [.bor d1910] = .ok (!b1920) [.bor d1910] := by simp [e1919, h1921]
  rcases b1920 with _ | _
  · rw [if_neg Bool.false_ne_true] at h
    refine run_if_t e1922 ?_
    exact nomatch h
  · rw [if_pos rfl] at h
    refine run_if_f e1922 ?_
    obtain rfl := Option.some.inj h
    exact run_end (m := mSkip) (fl := .nx) rfl ⟨by simp [flR], by simp⟩
theorem tc_table_of_1 (d1923 : D) (v1961 : D) (x1973 : D) (o : Option D) (h : p_table_of_c1 x1973 = some o) : ∃ ρ1 ρ2, (tName 2) x1973 [.bor d1923, .val v1961, .un] = .ok () ρ1 ∧ lcQ (mB (mOp gNot (mVar 2) (mPl (mC .none)))) (mFz (mRv (mVar 2))) [2] (fun (ρ : PL.Env) => ρ = [.bor d1923, .val v1961, .un]) ρ1 ρ2 o := by
  unfold p_table_of_c1 at h
  obtain ⟨v1974, h1975, h⟩ := ob1 h
  obtain ⟨b1976, h1977, h⟩ := ob1 h
  rcases b1976 with _ | _
  · rw [if_neg Bool.false_ne_true] at h
    obtain rfl := Option.some.inj h
    exact ⟨[.bor d1923, .val v1961, .val x1973], [.bor d1923, .val v1961, .val x1973], by simp [h1975, h1977], by simp [h1975, h1977], by simp⟩
  · rw [if_pos rfl] at h
    obtain rfl := Option.some.inj h
    exact ⟨[.bor d1923, .val v1961, .val x1973], [.bor d1923, .val v1961, .val x1973], by simp [h1975, h1977], [.bor d1923, .val v1961, .val x1973], by simp [h1975, h1977], by simp [h1975, h1977], by simp⟩
theorem tr_table_of (d1923 : D) (r : D) (h : p_table_of d1923 = some r) : evalD [.b] 2 m_table_of [.bor d1923] = some ((.fr r), [.bor d1923]) := by
  unfold p_table_of at h
  refine run_evalD (m := m_table_of) ?_
  show PL.Run m_table_of [.bor d1923, .un, .un] _
  unfold m_table_of
  obtain ⟨v1957, h1958, h⟩ := ob1 h
  have e1959 := tr_need_row d1923 _ h1958
  have e1960 : (mDrop (mFz (mCall [.b] 0 m_need_row (mCons (mVar 0) mNil)))) [.bor d1923, .un, .un] = .ok .nx [.bor d1923, .un, .un] := by simp [e1959]
  refine run_seq e1960 ?_
  obtain ⟨v1961, h1962, h⟩ := ob1 h
  have e1963 := tr_said_of_company d1923 _ h1962
  have e1964 : (mSet 1 (mCall [.b] 1 m_said_of_company (mCons (mVar 0) mNil))) [.bor d1923, .un, .un] = .ok .nx [.bor d1923, .own v1961, .un] := by simp [e1963]
  refine run_seq e1964 ?_
  obtain ⟨q1965, x1966, h1967, h⟩ := ob2 h
  obtain ⟨x1978, h1979, h⟩ := ob1 h
  obtain ⟨r1981, e1980, r1982⟩ := filT_run (fun (ρ : PL.Env) => ρ = [.bor d1923, .val v1961, .un]) (fi := (mIter (mPl (mFz (mRv (mVar 1)))))) (t := (tName 2)) (vs := [2]) (c := (mB (mOp gNot (mVar 2) (mPl (mC .none))))) (fe := (mFz (mRv (mVar 2)))) (ρ0 := [.bor d1923, .own v1961, .un]) (ρ1 := [.bor d1923, .val v1961, .un]) (by simp [h1967]) (by simp) h1979 (fun x ρ o hi hf => by subst hi; exact tc_table_of_1 d1923 v1961 x o hf)
  subst r1982
  obtain ⟨v1983, h1984, h⟩ := ob1 h
  have e1985 := tr_changes_by (.list x1978) _ h1984
  obtain ⟨v1986, h1987, h⟩ := ob1 h
  have e1988 := tr_added_up v1983 _ h1987
  have e1989 : (mCall [.b] 3 m_added_up (mCons (mPl (mFz (mCall [.b] 3 m_changes_by (mCons (mPl (mFz (mLc (mIter (mPl (mFz (mRv (mVar 1))))) (tName 2) [2] (mB (mOp gNot (mVar 2) (mPl (mC .none)))) (mFz (mRv (mVar 2)))))) mNil)))) mNil)) [.bor d1923, .own v1961, .un] = .ok (.fr v1986) [.bor d1923, .val v1961, .un] := by simp [h1967, e1980, e1985, e1988]
  obtain rfl := Option.some.inj h
  exact run_ret e1989 ⟨by simp [flR], by simp⟩
theorem tb_never_comes_1 (d1990 : D) (x2169 : D) (v2134 : D) (v2135 : D) (j2136 : Sl) (j2137 : Sl) (s0 : D × D) (h : p_never_comes_b1 x2169 v2134 v2135 = some s0) : ∃ ρ1, (tTupl (tsCons (tName 3) (tsCons (tName 4) tsNil))) x2169 [.bor d1990, .own v2134, .val v2135, j2136, j2137] = .ok () ρ1 ∧ PL.Run mb_never_comes_1 ρ1 (fun fl ρ' => (fl = .nx ∨ fl = .ct) ∧ (fun (s : D × D) (ρ : PL.Env) => ∃ (j2136 : Sl) (j2137 : Sl), ρ = [.bor d1990, .own s.1, .val s.2, j2136, j2137]) s0 ρ') := by
  unfold p_never_comes_b1 at h
  obtain ⟨v2170, v2171, h2172, h⟩ := ob2 h
  refine ⟨[.bor d1990, .own v2134, .val v2135, .val v2170, .val v2171], by simp [(tT2 h2172)], ?_⟩
  unfold mb_never_comes_1
  obtain ⟨v2194, h2177, h⟩ := ob1 h
  have e2178 : PL.Run (mIf (mB (mOp gGt (mVar 4) (mVar 2))) (mDrop (mMut 1 gAppend (mCons (mTup (mCons (mFz (mOpX gAdd (mVar 3) (mVar 2))) (mCons (mOp gSub' (mPl (mFz (mOpX gAdd (mVar 3) (mVar 4)))) (mPl (mC (.int 1)))) mNil))) mNil))) mSkip) [.bor d1990, .own v2134, .val v2135, .val v2170, .val v2171] fun fl ρ' => fl = .nx ∧ ρ' = [.bor d1990, .own v2194, .val v2135, .val v2170, .val v2171] := by
    obtain ⟨v2179, h2180, h2177⟩ := ob1 h2177
    obtain ⟨b2181, h2182, h2177⟩ := ob1 h2177
    have e2183 : (mB (mOp gGt (mVar 4) (mVar 2))) [.bor d1990, .own v2134, .val v2135, .val v2170, .val v2171] = .ok b2181 [.bor d1990, .own v2134, .val v2135, .val v2170, .val v2171] := by simp [h2180, h2182]
    rcases b2181 with _ | _
    · rw [if_neg Bool.false_ne_true] at h2177
      refine run_if_f e2183 ?_
      obtain rfl := Option.some.inj h2177
      exact run_end (m := mSkip) (fl := .nx) rfl ⟨rfl, rfl⟩
    · rw [if_pos rfl] at h2177
      refine run_if_t e2183 ?_
      obtain ⟨v2184, h2185, h2177⟩ := ob1 h2177
      obtain ⟨v2186, h2187, h2177⟩ := ob1 h2177
      obtain ⟨v2188, h2189, h2177⟩ := ob1 h2177
      obtain ⟨v2190, v2191, h2192, h2177⟩ := ob2 h2177
      have e2193 : (mDrop (mMut 1 gAppend (mCons (mTup (mCons (mFz (mOpX gAdd (mVar 3) (mVar 2))) (mCons (mOp gSub' (mPl (mFz (mOpX gAdd (mVar 3) (mVar 4)))) (mPl (mC (.int 1)))) mNil))) mNil))) [.bor d1990, .own v2134, .val v2135, .val v2170, .val v2171] = .ok .nx [.bor d1990, .own v2190, .val v2135, .val v2170, .val v2171] := by simp [(addV_eq h2185), (addV_eq h2187), h2189, h2192, (mutP_lst h2192)]
      obtain rfl := Option.some.inj h2177
      exact run_end e2193 ⟨rfl, rfl⟩
  obtain ⟨_, _, e2178, rfl, rfl⟩ := e2178
  refine run_seq e2178 ?_
  have e2195 : (mSet 2 (mRv (mPl (mFz (mRv (mVar 4)))))) [.bor d1990, .own v2194, .val v2135, .val v2170, .val v2171] = .ok .nx [.bor d1990, .own v2194, .val v2171, .val v2170, .val v2171] := by simp []
  obtain rfl := Option.some.inj h
  exact run_end e2195 ⟨.inl rfl, .val v2170, .val v2171, rfl⟩
theorem tr_never_comes (d1990 : D) (r : D) (h : p_never_comes d1990 = some r) : evalD [.b] 4 m_never_comes [.bor d1990] = some ((.fr r), [.bor d1990]) := by
  unfold p_never_comes at h
  refine run_evalD (m := m_never_comes) ?_
  show PL.Run m_never_comes [.bor d1990, .un, .un, .un, .un] _
  unfold m_never_comes
  obtain ⟨v2097, h2098, h⟩ := ob1 h
  have e2099 := tr_need_rows_table d1990 _ h2098
  have e2100 : (mDrop (mFz (mCall [.b] 0 m_need_rows_table (mCons (mVar 0) mNil)))) [.bor d1990, .un, .un, .un, .un] = .ok .nx [.bor d1990, .un, .un, .un, .un] := by simp [e2099]
  refine run_seq e2100 ?_
  have e2101 : (mSet 1 (mLst mNil)) [.bor d1990, .un, .un, .un, .un] = .ok .nx [.bor d1990, .own (.list []), .un, .un, .un] := by simp []
  refine run_seq e2101 ?_
  have e2102 : (mSet 2 (mRv (mPl (mC (.int 0))))) [.bor d1990, .own (.list []), .un, .un, .un] = .ok .nx [.bor d1990, .own (.list []), .val (.int 0), .un, .un] := by simp []
  refine run_seq e2102 ?_
  obtain ⟨q2103, x2104, h2105, h⟩ := ob2 h
  have e2106 : (mIter (mVar 0)) [.bor d1990, .own (.list []), .val (.int 0), .un, .un] = .ok x2104 [.bor d1990, .own (.list []), .val (.int 0), .un, .un] := by simp [h2105]
  obtain ⟨v2196, v2197, h2200, h⟩ := ob2 h
  obtain ⟨_, e2201, j2198, j2199, rfl⟩ := run_for_nx e2106 (foldP_run (fun (s : D × D) (ρ : PL.Env) => ∃ (j2136 : Sl) (j2137 : Sl), ρ = [.bor d1990, .own s.1, .val s.2, j2136, j2137]) (t := (tTupl (tsCons (tName 3) (tsCons (tName 4) tsNil)))) (b := mb_never_comes_1) (fun x s ρ s0 hi hf => by obtain ⟨j2136, j2137, rfl⟩ := hi; exact tb_never_comes_1 d1990 x s.1 s.2 j2136 j2137 s0 hf) x2104 ((PyData.list []), (PyData.int 0)) _ (v2196, v2197) ⟨.un, .un, rfl⟩ h2200)
  refine run_seq e2201 ?_
  have e2202 : (mRv (mVar 1)) [.bor d1990, .own v2196, .val v2197, j2198, j2199] = .ok (.pl (.slot 1)) [.bor d1990, .own v2196, .val v2197, j2198, j2199] := by simp []
  obtain rfl := Option.some.inj h
  exact run_ret e2202 ⟨by simp [flR], by simp⟩
theorem tb_folds_1 (d2203 : D) (x2592 : D) (v2514 : D) (v2515 : D) (j2516 : Sl) (j2517 : Sl) (j2518 : Sl) (s0 : D × D) (h : p_folds_b1 x2592 v2514 v2515 = some s0) : ∃ ρ1, (tTupl (tsCons (tName 3) (tsCons (tName 4) tsNil))) x2592 [.bor d2203, .own v2514, .val v2515, j2516, j2517, j2518] = .ok () ρ1 ∧ PL.Run mb_folds_1 ρ1 (fun fl ρ' => (fl = .nx ∨ fl = .ct) ∧ (fun (s : D × D) (ρ : PL.Env) => ∃ (j2516 : Sl) (j2517 : Sl) (j2518 : Sl), ρ = [.bor d2203, .own s.1, .val s.2, j2516, j2517, j2518]) s0 ρ') := by
  unfold p_folds_b1 at h
  obtain ⟨v2593, v2594, h2595, h⟩ := ob2 h
  refine ⟨[.bor d2203, .own v2514, .val v2515, .val v2593, .val v2594, j2518], by simp [(tT2 h2595)], ?_⟩
  unfold mb_folds_1
  obtain ⟨v2657, h2600, h⟩ := ob1 h
  have e2601 : PL.Run (mIf (mB (mOp gLt (mVar 4) (mVar 2))) (mSeq (mSet 5 (mRv (mPl (mOp gSub' (mVar 3) (mPl (mC (.int 1))))))) (mSeq (mIf (mAnd (mTr (mVar 1)) (mB (mOp gEq (mPl (mOp gIx (mPl (mOp gIx (mVar 1) (mPl (mNegU (mC (.int 1)))))) (mPl (mC (.int 1))))) (mPl (mOp gSub' (mVar 3) (mPl (mC (.int 2)))))))) (mSet 5 (mRv (mPl (mOp gIx (mPl (mMut 1 gPop mNil)) (mPl (mC (.int 0))))))) mSkip) (mDrop (mMut 1 gAppend (mCons (mTup (mCons (mFz (mRv (mVar 5))) (mCons (mOp gSub' (mVar 3) (mPl (mC (.int 1)))) mNil))) mNil))))) mSkip) [.bor d2203, .own v2514, .val v2515, .val v2593, .val v2594, j2518] fun fl ρ' => fl = .nx ∧ ∃ (j2658 : Sl), ρ' = [.bor d2203, .own v2657, .val v2515, .val v2593, .val v2594, j2658] := by
    obtain ⟨v2602, h2603, h2600⟩ := ob1 h2600
    obtain ⟨b2604, h2605, h2600⟩ := ob1 h2600
    have e2606 : (mB (mOp gLt (mVar 4) (mVar 2))) [.bor d2203, .own v2514, .val v2515, .val v2593, .val v2594, j2518] = .ok b2604 [.bor d2203, .own v2514, .val v2515, .val v2593, .val v2594, j2518] := by simp [h2603, h2605]
    rcases b2604 with _ | _
    · rw [if_neg Bool.false_ne_true] at h2600
      refine run_if_f e2606 ?_
      obtain rfl := Option.some.inj h2600
      exact run_end (m := mSkip) (fl := .nx) rfl ⟨rfl, j2518, rfl⟩
    · rw [if_pos rfl] at h2600
      refine run_if_t e2606 ?_
      obtain ⟨v2607, h2608, h2600⟩ := ob1 h2600
      have e2609 : (mSet 5 (mRv (mPl (mOp gSub' (mVar 3) (mPl (mC (.int 1))))))) [.bor d2203, .own v2514, .val v2515, .val v2593, .val v2594, j2518] = .ok .nx [.bor d2203, .own v2514, .val v2515, .val v2593, .val v2594, .val v2607] := by simp [h2608]
      refine run_seq e2609 ?_
      obtain ⟨v2649, v2650, h2624, h2600⟩ := ob2 h2600
      have e2625 : PL.Run (mIf (mAnd (mTr (mVar 1)) (mB (mOp gEq (mPl (mOp gIx (mPl (mOp gIx (mVar 1) (mPl (mNegU (mC (.int 1)))))) (mPl (mC (.int 1))))) (mPl (mOp gSub' (mVar 3) (mPl (mC (.int 2)))))))) (mSet 5 (mRv (mPl (mOp gIx (mPl (mMut 1 gPop mNil)) (mPl (mC (.int 0))))))) mSkip) [.bor d2203, .own v2514, .val v2515, .val v2593, .val v2594, .val v2607] fun fl ρ' => fl = .nx ∧ ρ' = [.bor d2203, .own v2649, .val v2515, .val v2593, .val v2594, .val v2650] := by
        obtain ⟨b2640, h2642, h2624⟩ := ob1 h2624
        have e2641 : (mAnd (mTr (mVar 1)) (mB (mOp gEq (mPl (mOp gIx (mPl (mOp gIx (mVar 1) (mPl (mNegU (mC (.int 1)))))) (mPl (mC (.int 1))))) (mPl (mOp gSub' (mVar 3) (mPl (mC (.int 2)))))))) [.bor d2203, .own v2514, .val v2515, .val v2593, .val v2594, .val v2607] = .ok b2640 [.bor d2203, .own v2514, .val v2515, .val v2593, .val v2594, .val v2607] := by
          obtain ⟨b2626, h2627, h2642⟩ := ob1 h2642
          rcases b2626 with _ | _
          · rw [if_neg Bool.false_ne_true] at h2642
            obtain rfl := Option.some.inj h2642
            simp [h2627]
          · rw [if_pos rfl] at h2642
            obtain ⟨v2628, h2629, h2642⟩ := ob1 h2642
            obtain ⟨v2630, h2631, h2642⟩ := ob1 h2642
            obtain ⟨v2632, h2633, h2642⟩ := ob1 h2642
            obtain ⟨v2634, h2635, h2642⟩ := ob1 h2642
            obtain ⟨v2636, h2637, h2642⟩ := ob1 h2642
            obtain ⟨b2638, h2639, h2642⟩ := ob1 h2642
            obtain rfl := Option.some.inj h2642
            simp [h2627, h2629, h2631, h2633, h2635, h2637, h2639]
        rcases b2640 with _ | _
        · rw [if_neg Bool.false_ne_true] at h2624
          refine run_if_f e2641 ?_
          obtain ⟨rfl, rfl⟩ := sinj2 h2624
          exact run_end (m := mSkip) (fl := .nx) rfl ⟨rfl, rfl⟩
        · rw [if_pos rfl] at h2624
          refine run_if_t e2641 ?_
          obtain ⟨v2643, v2644, h2645, h2624⟩ := ob2 h2624
          obtain ⟨v2646, h2647, h2624⟩ := ob1 h2624
          have e2648 : (mSet 5 (mRv (mPl (mOp gIx (mPl (mMut 1 gPop mNil)) (mPl (mC (.int 0))))))) [.bor d2203, .own v2514, .val v2515, .val v2593, .val v2594, .val v2607] = .ok .nx [.bor d2203, .own v2643, .val v2515, .val v2593, .val v2594, .val v2646] := by simp [h2645, (mutP_lst h2645), h2647]
          obtain ⟨rfl, rfl⟩ := sinj2 h2624
          exact run_end e2648 ⟨rfl, rfl⟩
      obtain ⟨_, _, e2625, rfl, rfl⟩ := e2625
      refine run_seq e2625 ?_
      obtain ⟨v2651, h2652, h2600⟩ := ob1 h2600
      obtain ⟨v2653, v2654, h2655, h2600⟩ := ob2 h2600
      have e2656 : (mDrop (mMut 1 gAppend (mCons (mTup (mCons (mFz (mRv (mVar 5))) (mCons (mOp gSub' (mVar 3) (mPl (mC (.int 1)))) mNil))) mNil))) [.bor d2203, .own v2649, .val v2515, .val v2593, .val v2594, .val v2650] = .ok .nx [.bor d2203, .own v2653, .val v2515, .val v2593, .val v2594, .val v2650] := by simp [h2652, h2655, (mutP_lst h2655)]
      obtain rfl := Option.some.inj h2600
      exact run_end e2656 ⟨rfl, .val v2650, rfl⟩
  obtain ⟨_, _, e2601, rfl, j2658, rfl⟩ := e2601
  refine run_seq e2601 ?_
  have e2659 : (mSet 2 (mRv (mPl (mFz (mRv (mVar 4)))))) [.bor d2203, .own v2657, .val v2515, .val v2593, .val v2594, j2658] = .ok .nx [.bor d2203, .own v2657, .val v2594, .val v2593, .val v2594, j2658] := by simp []
  obtain rfl := Option.some.inj h
  exact run_end e2659 ⟨.inl rfl, .val v2593, .val v2594, j2658, rfl⟩
theorem tr_folds (d2203 : D) (r : D) (h : p_folds d2203 = some r) : evalD [.b] 5 m_folds [.bor d2203] = some ((.fr r), [.bor d2203]) := by
  unfold p_folds at h
  refine run_evalD (m := m_folds) ?_
  show PL.Run m_folds [.bor d2203, .un, .un, .un, .un, .un] _
  unfold m_folds
  obtain ⟨v2436, h2437, h⟩ := ob1 h
  have e2438 := tr_need_rows_table d2203 _ h2437
  have e2439 : (mDrop (mFz (mCall [.b] 0 m_need_rows_table (mCons (mVar 0) mNil)))) [.bor d2203, .un, .un, .un, .un, .un] = .ok .nx [.bor d2203, .un, .un, .un, .un, .un] := by simp [e2438]
  refine run_seq e2439 ?_
  have e2440 : (mSet 1 (mLst mNil)) [.bor d2203, .un, .un, .un, .un, .un] = .ok .nx [.bor d2203, .own (.list []), .un, .un, .un, .un] := by simp []
  refine run_seq e2440 ?_
  have e2441 : (mSet 2 (mRv (mPl (mC (.int 0))))) [.bor d2203, .own (.list []), .un, .un, .un, .un] = .ok .nx [.bor d2203, .own (.list []), .val (.int 0), .un, .un, .un] := by simp []
  refine run_seq e2441 ?_
  obtain ⟨q2442, x2443, h2444, h⟩ := ob2 h
  have e2445 : (mIter (mVar 0)) [.bor d2203, .own (.list []), .val (.int 0), .un, .un, .un] = .ok x2443 [.bor d2203, .own (.list []), .val (.int 0), .un, .un, .un] := by simp [h2444]
  obtain ⟨v2660, v2661, h2665, h⟩ := ob2 h
  obtain ⟨_, e2666, j2662, j2663, j2664, rfl⟩ := run_for_nx e2445 (foldP_run (fun (s : D × D) (ρ : PL.Env) => ∃ (j2516 : Sl) (j2517 : Sl) (j2518 : Sl), ρ = [.bor d2203, .own s.1, .val s.2, j2516, j2517, j2518]) (t := (tTupl (tsCons (tName 3) (tsCons (tName 4) tsNil)))) (b := mb_folds_1) (fun x s ρ s0 hi hf => by obtain ⟨j2516, j2517, j2518, rfl⟩ := hi; exact tb_folds_1 d2203 x s.1 s.2 j2516 j2517 j2518 s0 hf) x2443 ((PyData.list []), (PyData.int 0)) _ (v2660, v2661) ⟨.un, .un, .un, rfl⟩ h2665)
  refine run_seq e2666 ?_
  have e2667 : (mRv (mVar 1)) [.bor d2203, .own v2660, .val v2661, j2662, j2663, j2664] = .ok (.pl (.slot 1)) [.bor d2203, .own v2660, .val v2661, j2662, j2663, j2664] := by simp []
  obtain rfl := Option.some.inj h
  exact run_ret e2667 ⟨by simp [flR], by simp⟩
theorem tr_l_tin (d2668 : List Int) (d2669 : D) (r : D) (h : p_l_tin d2668 d2669 = some r) : evalD [.s, .b] 1 m_l_tin [.scr d2668, .bor d2669] = some ((.fr r), [.scr d2668, .bor d2669]) := by
  unfold p_l_tin at h
  refine run_evalD (m := m_l_tin) ?_
  show PL.Run m_l_tin [.scr d2668, .bor d2669, .un] _
  unfold m_l_tin
  have e2707 : (mSet 2 (mRv (mPl (mC (.int 0))))) [.scr d2668, .bor d2669, .un] = .ok .nx [.scr d2668, .bor d2669, .val (.int 0)] := by simp []
  refine run_seq e2707 ?_
  obtain ⟨v2724, h2712, h⟩ := ob1 h
  have e2713 : PL.Run (mIf (mB (mOp gLt (mVar 1) (mPl (mLenS 0)))) (mSet 2 (mRv (mPl (mIxS 0 (mFz (mRv (mVar 1))))))) mSkip) [.scr d2668, .bor d2669, .val (.int 0)] fun fl ρ' => fl = .nx ∧ ρ' = [.scr d2668, .bor d2669, .val v2724] := by
    obtain ⟨v2714, h2715, h2712⟩ := ob1 h2712
    obtain ⟨b2716, h2717, h2712⟩ := ob1 h2712
    have e2718 : (mB (mOp gLt (mVar 1) (mPl (mLenS 0)))) [.scr d2668, .bor d2669, .val (.int 0)] = .ok b2716 [.scr d2668, .bor d2669, .val (.int 0)] := by simp [h2715, h2717]
    rcases b2716 with _ | _
    · rw [if_neg Bool.false_ne_true] at h2712
      refine run_if_f e2718 ?_
      obtain rfl := Option.some.inj h2712
      exact run_end (m := mSkip) (fl := .nx) rfl ⟨rfl, rfl⟩
    · rw [if_pos rfl] at h2712
      refine run_if_t e2718 ?_
      obtain ⟨u2719, h2720, h2712⟩ := ob1 h2712
      obtain ⟨v2721, h2722, h2712⟩ := ob1 h2712
      have e2723 : (mSet 2 (mRv (mPl (mIxS 0 (mFz (mRv (mVar 1))))))) [.scr d2668, .bor d2669, .val (.int 0)] = .ok .nx [.scr d2668, .bor d2669, .val v2721] := by simp [(atP_eq h2720), h2722, s_ixS]
      obtain rfl := Option.some.inj h2712
      exact run_end e2723 ⟨rfl, rfl⟩
  obtain ⟨_, _, e2713, rfl, rfl⟩ := e2713
  refine run_seq e2713 ?_
  obtain ⟨v2725, h2726, h⟩ := ob1 h
  obtain ⟨v2727, h2728, h⟩ := ob1 h
  obtain ⟨v2729, h2730, h⟩ := ob1 h
  obtain ⟨v2731, h2732, h⟩ := ob1 h
  obtain ⟨v2733, h2734, h⟩ := ob1 h
  obtain ⟨v2735, h2736, h⟩ := ob1 h
  obtain ⟨v2737, h2738, h⟩ := ob1 h
  obtain ⟨v2739, h2740, h⟩ := ob1 h
  obtain ⟨v2741, h2742, h⟩ := ob1 h
  have e2743 : (mLst (mCons (mN gMax2 (mCons (mPl (mC (.int 0))) (mCons (mPl (mOp gSub' (mPl (mN gAbs (mCons (mVar 2) mNil))) (mPl (mOp gPow (mPl (mC (.int 10))) (mPl (mC (.int 18))))))) mNil))) (mCons (mFz (mOpX gAdd (mPl (mFz (mOpX gMul (mPl (mOp gMod (mVar 2) (mPl (mFz (mOpX gAdd (mPl (mOp gPow (mPl (mC (.int 10))) (mPl (mC (.int 37))))) (mPl (mC (.int 43)))))))) (mPl (mC (.int 64)))))) (mVar 1))) (mCons (mC (.int 0)) mNil)))) [.scr d2668, .bor d2669, .val v2724] = .ok (.fr (.list [v2731, v2741, (.int 0)])) [.scr d2668, .bor d2669, .val v2724] := by simp [h2726, h2728, h2730, h2732, h2734, (addV_eq h2736), h2738, (mulV_eq h2740), (addV_eq h2742)]
  obtain rfl := Option.some.inj h
  exact run_ret e2743 ⟨by simp [flR], by simp⟩
theorem tr_l_deal (d2744 : D) (d2745 : D) (r : D) (v2874 : D) (h : p_l_deal d2744 d2745 = some (r, v2874)) : evalD [.io, .b] 2 m_l_deal [.io d2744, .bor d2745] = some ((.pl (.val r)), [.io v2874, .bor d2745]) := by
  unfold p_l_deal at h
  refine run_evalD (m := m_l_deal) ?_
  show PL.Run m_l_deal [.io d2744, .bor d2745, .un, .un] _
  unfold m_l_deal
  obtain ⟨v2810, h2811, h⟩ := ob1 h
  obtain ⟨v2812, h2813, h⟩ := ob1 h
  obtain ⟨b2814, h2815, h⟩ := ob1 h
  have e2816 : (mB (mOp gGt (mPl (mOp gIx (mVar 0) (mPl (mC (.int 0))))) (mPl (mC (.int 0))))) [.io d2744, .bor d2745, .un, .un] = .ok b2814 [.io d2744, .bor d2745, .un, .un] := by simp [h2811, h2813, h2815]
  rcases b2814 with _ | _
  · rw [if_neg Bool.false_ne_true] at h
    refine run_seq_if_f e2816 ?_
    refine run_seq_skip ?_
    obtain ⟨v2830, h2831, h⟩ := ob1 h
    obtain ⟨v2832, h2833, h⟩ := ob1 h
    obtain ⟨v2834, h2835, h⟩ := ob1 h
    have e2836 : (mSetIx 0 (mFz (mOpX gAdd (mPl (mOp gIx (mVar 0) (mPl (mC (.int 2))))) (mPl (mC (.int 1))))) (mC (.int 2))) [.io d2744, .bor d2745, .un, .un] = .ok .nx [.io v2834, .bor d2745, .un, .un] := by simp [h2831, (addV_eq h2833), h2835]
    refine run_seq e2836 ?_
    obtain ⟨v2837, h2838, h⟩ := ob1 h
    obtain ⟨v2839, h2840, h⟩ := ob1 h
    obtain ⟨v2841, h2842, h⟩ := ob1 h
    obtain ⟨v2843, h2844, h⟩ := ob1 h
    obtain ⟨v2845, h2846, h⟩ := ob1 h
    obtain ⟨v2847, h2848, h⟩ := ob1 h
    obtain ⟨v2849, h2850, h⟩ := ob1 h
    obtain ⟨v2851, h2852, h⟩ := ob1 h
    have e2853 : (mSet 3 (mRv (mPl (mOp gMod (mPl (mOp gPow (mPl (mFz (mOpX gAdd (mPl (mOp gIx (mVar 0) (mPl (mC (.int 1))))) (mPl (mFz (mOpX gMul (mPl (mC (.int 9576890767))) (mPl (mOp gIx (mVar 0) (mPl (mC (.int 2))))))))))) (mPl (mC (.int 3))))) (mPl (mFz (mOpX gAdd (mPl (mOp gPow (mPl (mC (.int 10))) (mPl (mC (.int 38))))) (mPl (mC (.int 133)))))))))) [.io v2834, .bor d2745, .un, .un] = .ok .nx [.io v2834, .bor d2745, .un, .val v2851] := by simp [h2838, h2840, (mulV_eq h2842), (addV_eq h2844), h2846, h2848, (addV_eq h2850), h2852]
    refine run_seq e2853 ?_
    obtain ⟨v2854, h2855, h⟩ := ob1 h
    obtain ⟨v2856, h2857, h⟩ := ob1 h
    obtain ⟨v2858, h2859, h⟩ := ob1 h
    obtain ⟨v2860, h2861, h⟩ := ob1 h
    obtain ⟨v2862, h2863, h⟩ := ob1 h
    obtain ⟨v2864, h2865, h⟩ := ob1 h
    obtain ⟨v2866, h2867, h⟩ := ob1 h
    have e2868 : (mSet 3 (mRv (mPl (mOp gMod (mPl (mOp gPow (mPl (mFz (mOpX gAdd (mVar 3) (mPl (mFz (mOpX gMul (mPl (mC (.int 32452843))) (mPl (mOp gIx (mVar 0) (mPl (mC (.int 2))))))))))) (mPl (mC (.int 5))))) (mPl (mFz (mOpX gAdd (mPl (mOp gPow (mPl (mC (.int 10))) (mPl (mC (.int 40))))) (mPl (mC (.int 121)))))))))) [.io v2834, .bor d2745, .un, .val v2851] = .ok .nx [.io v2834, .bor d2745, .un, .val v2866] := by simp [h2855, (mulV_eq h2857), (addV_eq h2859), h2861, h2863, (addV_eq h2865), h2867]
    refine run_seq e2868 ?_
    obtain ⟨v2869, h2870, h⟩ := ob1 h
    obtain ⟨v2871, h2872, h⟩ := ob1 h
    have e2873 : (mRv (mPl (mOp gMod (mPl (mOp gDiv (mVar 3) (mPl (mC (.int 65536))))) (mVar 1)))) [.io v2834, .bor d2745, .un, .val v2866] = .ok (.pl (.val v2871)) [.io v2834, .bor d2745, .un, .val v2866] := by simp [h2870, h2872]
    obtain ⟨rfl, rfl⟩ := sinj2 h
    exact run_ret e2873 ⟨by simp [flR], by simp⟩
  · rw [if_pos rfl] at h
    refine run_seq_if_t e2816 ?_
    refine run_seq_assoc ?_
    obtain ⟨v2817, h2818, h⟩ := ob1 h
    obtain ⟨v2819, h2820, h⟩ := ob1 h
    have e2821 : (mSet 2 (mRv (mPl (mOp gMod (mPl (mOp gIx (mVar 0) (mPl (mC (.int 0))))) (mVar 1))))) [.io d2744, .bor d2745, .un, .un] = .ok .nx [.io d2744, .bor d2745, .val v2819, .un] := by simp [h2818, h2820]
    refine run_seq e2821 ?_
    refine run_seq_assoc ?_
    obtain ⟨v2822, h2823, h⟩ := ob1 h
    obtain ⟨v2824, h2825, h⟩ := ob1 h
    obtain ⟨v2826, h2827, h⟩ := ob1 h
    have e2828 : (mSetIx 0 (mOp gDiv (mPl (mOp gIx (mVar 0) (mPl (mC (.int 0))))) (mVar 1)) (mC (.int 0))) [.io d2744, .bor d2745, .val v2819, .un] = .ok .nx [.io v2826, .bor d2745, .val v2819, .un] := by simp [h2823, h2825, h2827]
    refine run_seq e2828 ?_
    have e2829 : (mRv (mVar 2)) [.io v2826, .bor d2745, .val v2819, .un] = .ok (.pl (.val v2819)) [.io v2826, .bor d2745, .val v2819, .un] := by simp []
    obtain ⟨rfl, rfl⟩ := sinj2 h
    exact run_seq_ret e2829 ⟨by simp [flR], by simp⟩
theorem tr_l_said (d2875 : D) (d2876 : D) (r : D) (v2921 : D) (h : p_l_said d2875 d2876 = some (r, v2921)) : evalD [.io, .b] 3 m_l_said [.io d2875, .bor d2876] = some ((.pl (.val r)), [.io v2921, .bor d2876]) := by
  unfold p_l_said at h
  refine run_evalD (m := m_l_said) ?_
  show PL.Run m_l_said [.io d2875, .bor d2876, .un, .un, .un] _
  unfold m_l_said
  obtain ⟨v2899, v2900, h2901, h⟩ := ob2 h
  have e2902 := tr_l_deal d2875 d2876 _ _ h2901
  have e2903 : (mSet 2 (mCall [.io, .b] 2 m_l_deal (mCons (mVar 0) (mCons (mVar 1) mNil)))) [.io d2875, .bor d2876, .un, .un, .un] = .ok .nx [.io v2900, .bor d2876, .val v2899, .un, .un] := by simp [e2902]
  refine run_seq e2903 ?_
  obtain ⟨v2904, v2905, h2906, h⟩ := ob2 h
  have e2907 := tr_l_deal v2900 d2876 _ _ h2906
  obtain ⟨v2908, h2909, h⟩ := ob1 h
  have e2910 : (mSet 3 (mOpX gAdd (mVar 2) (mPl (mFz (mCall [.io, .b] 2 m_l_deal (mCons (mVar 0) (mCons (mVar 1) mNil))))))) [.io v2900, .bor d2876, .val v2899, .un, .un] = .ok .nx [.io v2905, .bor d2876, .val v2899, .val v2908, .un] := by simp [e2907, (addV_eq h2909)]
  refine run_seq e2910 ?_
  have e2911 : (mSet 4 (mLst (mCons (mTup (mCons (mFz (mRv (mVar 2))) (mCons (mC .none) mNil))) (mCons (mTup (mCons (mFz (mRv (mVar 2))) (mCons (mFz (mRv (mVar 2))) mNil))) (mCons (mTup (mCons (mC (.int 0)) (mCons (mFz (mRv (mVar 2))) mNil))) (mCons (mTup (mCons (mFz (mRv (mVar 2))) (mCons (mFz (mRv (mVar 3))) mNil))) (mCons (mTup (mCons (mC (.int 0)) (mCons (mC .none) mNil))) mNil))))))) [.io v2905, .bor d2876, .val v2899, .val v2908, .un] = .ok .nx [.io v2905, .bor d2876, .val v2899, .val v2908, .own (.list [(.tuple [v2899, (.none : D)]), (.tuple [v2899, v2899]), (.tuple [(.int 0), v2899]), (.tuple [v2899, v2908]), (.tuple [(.int 0), (.none : D)])])] := by simp []
  refine run_seq e2911 ?_
  obtain ⟨v2912, v2913, h2914, h⟩ := ob2 h
  have e2915 := tr_l_deal v2905 (.int 10) _ _ h2914
  obtain ⟨v2916, h2917, h⟩ := ob1 h
  obtain ⟨v2918, h2919, h⟩ := ob1 h
  have e2920 : (mRv (mPl (mOp gIx (mVar 4) (mPl (mOp gMod (mPl (mFz (mCall [.io, .b] 2 m_l_deal (mCons (mVar 0) (mCons (mPl (mC (.int 10))) mNil))))) (mPl (mC (.int 5)))))))) [.io v2905, .bor d2876, .val v2899, .val v2908, .own (.list [(.tuple [v2899, (.none : D)]), (.tuple [v2899, v2899]), (.tuple [(.int 0), v2899]), (.tuple [v2899, v2908]), (.tuple [(.int 0), (.none : D)])])] = .ok (.pl (.val v2918)) [.io v2913, .bor d2876, .val v2899, .val v2908, .own (.list [(.tuple [v2899, (.none : D)]), (.tuple [v2899, v2899]), (.tuple [(.int 0), v2899]), (.tuple [v2899, v2908]), (.tuple [(.int 0), (.none : D)])])] := by simp [e2915, h2917, h2919]
  obtain ⟨rfl, rfl⟩ := sinj2 h
  exact run_ret e2920 ⟨by simp [flR], by simp⟩
theorem tb_l_walk_1 (d2922 : D) (x3167 : D) (v3118 : D) (v3119 : D) (v3120 : D) (j3121 : Sl) (j3122 : Sl) (s0 : D × D × D) (h : p_l_walk_b1 x3167 v3118 v3119 v3120 = some s0) : ∃ ρ1, (tTupl (tsCons (tName 4) (tsCons (tName 5) tsNil))) x3167 [.bor d2922, .val v3118, .own v3119, .own v3120, j3121, j3122] = .ok () ρ1 ∧ PL.Run mb_l_walk_1 ρ1 (fun fl ρ' => (fl = .nx ∨ fl = .ct) ∧ (fun (s : D × D × D) (ρ : PL.Env) => ∃ (j3121 : Sl) (j3122 : Sl), ρ = [.bor d2922, .val s.1, .own s.2.1, .own s.2.2, j3121, j3122]) s0 ρ') := by
  unfold p_l_walk_b1 at h
  obtain ⟨v3168, v3169, h3170, h⟩ := ob2 h
  refine ⟨[.bor d2922, .val v3118, .own v3119, .own v3120, .val v3168, .val v3169], by simp [(tT2 h3170)], ?_⟩
  unfold mb_l_walk_1
  obtain ⟨v3171, v3172, h3173, h⟩ := ob2 h
  have e3174 : (mDrop (mMut 2 gAppend (mCons (mFz (mRv (mVar 1))) mNil))) [.bor d2922, .val v3118, .own v3119, .own v3120, .val v3168, .val v3169] = .ok .nx [.bor d2922, .val v3118, .own v3171, .own v3120, .val v3168, .val v3169] := by simp [h3173, (mutP_lst h3173)]
  refine run_seq e3174 ?_
  obtain ⟨v3194, h3196, h⟩ := ob1 h
  have e3195 : (mDrop (mMut 3 gAppend (mCons (mAndV (mOp gLe (mVar 4) (mVar 1)) (mOrV (mOp gIs (mVar 5) (mPl (mC .none))) (mOp gLe (mVar 1) (mVar 5)))) mNil))) [.bor d2922, .val v3118, .own v3171, .own v3120, .val v3168, .val v3169] = .ok .nx [.bor d2922, .val v3118, .own v3171, .own v3194, .val v3168, .val v3169] := by
    obtain ⟨v3175, h3176, h3196⟩ := ob1 h3196
    obtain ⟨b3177, h3178, h3196⟩ := ob1 h3196
    rcases b3177 with _ | _
    · rw [if_neg Bool.false_ne_true] at h3196
      obtain ⟨v3191, v3192, h3193, h3196⟩ := ob2 h3196
      obtain rfl := Option.some.inj h3196
      simp [h3176, h3178, h3193, (mutP_lst h3193)]
    · rw [if_pos rfl] at h3196
      obtain ⟨v3179, h3180, h3196⟩ := ob1 h3196
      obtain ⟨b3181, h3182, h3196⟩ := ob1 h3196
      rcases b3181 with _ | _
      · rw [if_neg Bool.false_ne_true] at h3196
        obtain ⟨v3186, h3187, h3196⟩ := ob1 h3196
        obtain ⟨v3188, v3189, h3190, h3196⟩ := ob2 h3196
        obtain rfl := Option.some.inj h3196
        simp [h3176, h3178, h3180, h3182, h3187, h3190, (mutP_lst h3190)]
      · rw [if_pos rfl] at h3196
        obtain ⟨v3183, v3184, h3185, h3196⟩ := ob2 h3196
        obtain rfl := Option.some.inj h3196
        simp [h3176, h3178, h3180, h3182, h3185, (mutP_lst h3185)]
  refine run_seq e3195 ?_
  obtain ⟨v3197, h3198, h⟩ := ob1 h
  obtain ⟨v3199, h3200, h⟩ := ob1 h
  obtain ⟨v3201, h3202, h⟩ := ob1 h
  obtain ⟨v3203, h3204, h⟩ := ob1 h
  have e3205 : (mSet 1 (mOpX gAdd (mVar 1) (mPl (mN gInt1 (mCons (mPl (mOp gIx (mVar 3) (mPl (mNegU (mC (.int 1)))))) mNil))))) [.bor d2922, .val v3118, .own v3171, .own v3194, .val v3168, .val v3169] = .ok .nx [.bor d2922, .val v3203, .own v3171, .own v3194, .val v3168, .val v3169] := by simp [h3198, h3200, h3202, (addV_eq h3204)]
  obtain rfl := Option.some.inj h
  exact run_end e3205 ⟨.inl rfl, .val v3168, .val v3169, rfl⟩
theorem tr_l_walk (d2922 : D) (d2923 : D) (r : D) (h : p_l_walk d2922 d2923 = some r) : ∃ (z1 : Sl), evalD [.b, .v] 4 m_l_walk [.bor d2922, .val d2923] = some ((.fr r), [.bor d2922, z1]) := by
  unfold p_l_walk at h
  have e0 : PL.Run m_l_walk [.bor d2922, .val d2923, .un, .un, .un, .un] fun fl ρ' => ∃ (z1 : Sl), flR fl ρ' = some (.fr r) ∧ ρ'.take 2 = [.bor d2922, z1] := by
    unfold m_l_walk
    have e3071 : (mSet 2 (mLst mNil)) [.bor d2922, .val d2923, .un, .un, .un, .un] = .ok .nx [.bor d2922, .val d2923, .own (.list []), .un, .un, .un] := by simp []
    refine run_seq e3071 ?_
    have e3072 : (mSet 3 (mLst mNil)) [.bor d2922, .val d2923, .own (.list []), .un, .un, .un] = .ok .nx [.bor d2922, .val d2923, .own (.list []), .own (.list []), .un, .un] := by simp []
    refine run_seq e3072 ?_
    obtain ⟨v3073, h3074, h⟩ := ob1 h
    obtain ⟨q3075, x3076, h3077, h⟩ := ob2 h
    have e3078 : (mIter (mPl (mFz (mFr (mUn gRevs (mVar 0)))))) [.bor d2922, .val d2923, .own (.list []), .own (.list []), .un, .un] = .ok x3076 [.bor d2922, .val d2923, .own (.list []), .own (.list []), .un, .un] := by simp [h3074, h3077]
    obtain ⟨v3206, v3207, v3208, h3211, h⟩ := ob3 h
    obtain ⟨_, e3212, j3209, j3210, rfl⟩ := run_for_nx e3078 (foldP_run (fun (s : D × D × D) (ρ : PL.Env) => ∃ (j3121 : Sl) (j3122 : Sl), ρ = [.bor d2922, .val s.1, .own s.2.1, .own s.2.2, j3121, j3122]) (t := (tTupl (tsCons (tName 4) (tsCons (tName 5) tsNil)))) (b := mb_l_walk_1) (fun x s ρ s0 hi hf => by obtain ⟨j3121, j3122, rfl⟩ := hi; exact tb_l_walk_1 d2922 x s.1 s.2.1 s.2.2 j3121 j3122 s0 hf) x3076 (d2923, (PyData.list []), (PyData.list [])) _ (v3206, v3207, v3208) ⟨.un, .un, rfl⟩ h3211)
    refine run_seq e3212 ?_
    obtain ⟨v3213, h3214, h⟩ := ob1 h
    obtain ⟨v3215, h3216, h⟩ := ob1 h
    have e3217 : (mLst (mCons (mFz (mFr (mUn gRevs (mVar 2)))) (mCons (mFz (mFr (mUn gRevs (mVar 3)))) mNil))) [.bor d2922, .val v3206, .own v3207, .own v3208, j3209, j3210] = .ok (.fr (.list [v3213, v3215])) [.bor d2922, .val v3206, .own v3207, .own v3208, j3209, j3210] := by simp [h3214, h3216]
    obtain rfl := Option.some.inj h
    exact run_ret e3217 ⟨.val v3206, by simp [flR], by simp⟩
  obtain ⟨fl, ρ', e0, z1, e1, e2⟩ := e0
  exact ⟨z1, run_evalD (m := m_l_walk) ⟨fl, ρ', e0, e1, e2⟩⟩
theorem tc_l_alike_1 (n : Nat) (rec0 : D → D → Option (D)) (ih : ∀ (d3218 : D) (d3219 : D) (r : D) (h : rec0 d3218 d3219 = some r), evalD [.b, .b] 2 (m_l_alike n) [.bor d3218, .bor d3219] = some ((.pl (.val r)), [.bor d3218, .bor d3219])) (d3218 : D) (d3219 : D) (x3356 : D) (y : D) (h : p_l_alike_c1 rec0 x3356 = some y) : ∃ ρ1 ρ2 ρ3, (tTupl (tsCons (tName 2) (tsCons (tName 3) tsNil))) x3356 [.bor d3218, .bor d3219, .un, .un] = .ok () ρ1 ∧ mYes ρ1 = .ok true ρ2 ∧ (mFz (mCall [.b, .b] 2 (m_l_alike n) (mCons (mVar 2) (mCons (mVar 3) mNil)))) ρ2 = .ok y ρ3 ∧ (fun (ρ : PL.Env) => ρ = [.bor d3218, .bor d3219, .un, .un]) (wipeE ρ3 [2, 3]) := by
  unfold p_l_alike_c1 at h
  obtain ⟨v3357, v3358, h3359, h⟩ := ob2 h
  obtain ⟨v3360, h3361, h⟩ := ob1 h
  have e3362 := ih v3357 v3358 _ h3361
  obtain rfl := Option.some.inj h
  exact ⟨[.bor d3218, .bor d3219, .val v3357, .val v3358], [.bor d3218, .bor d3219, .val v3357, .val v3358], [.bor d3218, .bor d3219, .val v3357, .val v3358], by simp [(tT2 h3359), e3362], by simp [(tT2 h3359), e3362], by simp [(tT2 h3359), e3362], by simp⟩
theorem tr_l_alike : ∀ (n : Nat) (d3218 : D) (d3219 : D) (r : D) (h : p_l_alike n d3218 d3219 = some r), evalD [.b, .b] 2 (m_l_alike n) [.bor d3218, .bor d3219] = some ((.pl (.val r)), [.bor d3218, .bor d3219])
  | 0, _, _, _, h => by exact nomatch h
  | n + 1, d3218, d3219, r, h => by
    have ih := tr_l_alike n
    unfold p_l_alike at h
    refine run_evalD (m := (m_l_alike (n + 1))) ?_
    show PL.Run (m_l_alike (n + 1)) [.bor d3218, .bor d3219, .un, .un] _
    unfold m_l_alike
    obtain ⟨v3315, h3316, h⟩ := ob1 h
    obtain ⟨b3317, h3318, h⟩ := ob1 h
    have e3319 : (mTr (mPl (mUn (gIsi ["list", "tuple"]) (mVar 1)))) [.bor d3218, .bor d3219, .un, .un] = .ok b3317 [.bor d3218, .bor d3219, .un, .un] := by simp [h3316, h3318]
    rcases b3317 with _ | _
    · rw [if_neg Bool.false_ne_true] at h
      refine run_seq_if_f e3319 ?_
      refine run_seq_skip ?_
      obtain ⟨v3371, h3372, h⟩ := ob1 h
      obtain ⟨b3373, h3374, h⟩ := ob1 h
      have e3375 : (mB (mOp gIs (mVar 1) (mPl (mC .none)))) [.bor d3218, .bor d3219, .un, .un] = .ok b3373 [.bor d3218, .bor d3219, .un, .un] := by simp [h3372, h3374]
      rcases b3373 with _ | _
      · rw [if_neg Bool.false_ne_true] at h
        refine run_seq_if_f e3375 ?_
        refine run_seq_skip ?_
        obtain ⟨v3379, h3380, h⟩ := ob1 h
        obtain ⟨b3381, h3382, h⟩ := ob1 h
        have e3383 : (mTr (mPl (mUn (gIsi ["bool", "str"]) (mVar 1)))) [.bor d3218, .bor d3219, .un, .un] = .ok b3381 [.bor d3218, .bor d3219, .un, .un] := by simp [h3380, h3382]
        rcases b3381 with _ | _
        · rw [if_neg Bool.false_ne_true] at h
          refine run_seq_if_f e3383 ?_
          refine run_seq_skip ?_
          obtain ⟨v3407, h3409, h⟩ := ob1 h
          have e3408 : (mRv (mPl (mAndV (mUn (gIsi ["int"]) (mVar 0)) (mAndV (mNotV (mUn (gIsi ["bool"]) (mVar 0))) (mOp gEq (mVar 0) (mVar 1)))))) [.bor d3218, .bor d3219, .un, .un] = .ok (.pl (.val v3407)) [.bor d3218, .bor d3219, .un, .un] := by
            obtain ⟨v3397, h3398, h3409⟩ := ob1 h3409
            obtain ⟨b3399, h3400, h3409⟩ := ob1 h3409
            rcases b3399 with _ | _
            · rw [if_neg Bool.false_ne_true] at h3409
              obtain rfl := Option.some.inj h3409
              simp [h3398, h3400]
            · rw [if_pos rfl] at h3409
              obtain ⟨v3401, h3402, h3409⟩ := ob1 h3409
              obtain ⟨b3403, h3404, h3409⟩ := ob1 h3409
              rcases b3403 with _ | _
              · rw [if_neg Bool.false_ne_true] at h3409
                obtain ⟨v3405, h3406, h3409⟩ := ob1 h3409
                obtain rfl := Option.some.inj h3409
                simp [h3398, h3400, h3402, h3404, h3406]
              · rw [if_pos rfl] at h3409
                obtain rfl := Option.some.inj h3409
                simp [h3398, h3400, h3402, h3404]
          obtain rfl := Option.some.inj h
          exact run_ret e3408 ⟨by simp [flR], by simp⟩
        · rw [if_pos rfl] at h
          refine run_seq_if_t e3383 ?_
          obtain ⟨v3394, h3396, h⟩ := ob1 h
          have e3395 : (mRv (mPl (mAndV (mOp gEq (mPl (mUn (gIsi ["bool"]) (mVar 0))) (mPl (mUn (gIsi ["bool"]) (mVar 1)))) (mOp gEq (mVar 0) (mVar 1))))) [.bor d3218, .bor d3219, .un, .un] = .ok (.pl (.val v3394)) [.bor d3218, .bor d3219, .un, .un] := by
            obtain ⟨v3384, h3385, h3396⟩ := ob1 h3396
            obtain ⟨v3386, h3387, h3396⟩ := ob1 h3396
            obtain ⟨v3388, h3389, h3396⟩ := ob1 h3396
            obtain ⟨b3390, h3391, h3396⟩ := ob1 h3396
            rcases b3390 with _ | _
            · rw [if_neg Bool.false_ne_true] at h3396
              obtain rfl := Option.some.inj h3396
              simp [h3385, h3387, h3389, h3391]
            · rw [if_pos rfl] at h3396
              obtain ⟨v3392, h3393, h3396⟩ := ob1 h3396
              obtain rfl := Option.some.inj h3396
              simp [h3385, h3387, h3389, h3391, h3393]
          obtain rfl := Option.some.inj h
          exact run_seq_ret e3395 ⟨by simp [flR], by simp⟩
      · rw [if_pos rfl] at h
        refine run_seq_if_t e3375 ?_
        obtain ⟨v3376, h3377, h⟩ := ob1 h
        have e3378 : (mRv (mPl (mOp gIs (mVar 0) (mPl (mC .none))))) [.bor d3218, .bor d3219, .un, .un] = .ok (.pl (.val v3376)) [.bor d3218, .bor d3219, .un, .un] := by simp [h3377]
        obtain rfl := Option.some.inj h
        exact run_seq_ret e3378 ⟨by simp [flR], by simp⟩
    · rw [if_pos rfl] at h
      refine run_seq_if_t e3319 ?_
      refine run_seq_assoc ?_
      obtain ⟨b3332, h3334, h⟩ := ob1 h
      have e3333 : (mOr (mB (mOp gNe (mPl (mUn (gIsi ["list"]) (mVar 0))) (mPl (mUn (gIsi ["list"]) (mVar 1))))) (mNot (mTr (mPl (mUn (gIsi ["list", "tuple"]) (mVar 0)))))) [.bor d3218, .bor d3219, .un, .un] = .ok b3332 [.bor d3218, .bor d3219, .un, .un] := by
        obtain ⟨v3320, h3321, h3334⟩ := ob1 h3334
        obtain ⟨v3322, h3323, h3334⟩ := ob1 h3334
        obtain ⟨v3324, h3325, h3334⟩ := ob1 h3334
        obtain ⟨b3326, h3327, h3334⟩ := ob1 h3334
        rcases b3326 with _ | _
        · rw [if_neg Bool.false_ne_true] at h3334
          obtain ⟨v3328, h3329, h3334⟩ := ob1 h3334
          obtain ⟨b3330, h3331, h3334⟩ := ob1 h3334
          obtain rfl := Option.some.inj h3334
          simp [h3321, h3323, h3325, h3327, h3329, h3331]
        · rw [if_pos rfl] at h3334
          obtain rfl := Option.some.inj h3334
          simp [h3321, h3323, h3325, h3327]
      rcases b3332 with _ | _
      · rw [if_neg Bool.false_ne_true] at h
        refine run_seq_if_f e3333 ?_
        refine run_seq_skip ?_
        refine run_seq_assoc ?_
        obtain ⟨v3336, h3337, h⟩ := ob1 h
        obtain ⟨v3338, h3339, h⟩ := ob1 h
        obtain ⟨v3340, h3341, h⟩ := ob1 h
        obtain ⟨b3342, h3343, h⟩ := ob1 h
        have e3344 : (mB (mOp gNe (mPl (mN gLen (mCons (mVar 0) mNil))) (mPl (mN gLen (mCons (mVar 1) mNil))))) [.bor d3218, .bor d3219, .un, .un] = .ok b3342 [.bor d3218, .bor d3219, .un, .un] := by simp [h3337, h3339, h3341, h3343]
        rcases b3342 with _ | _
        · rw [if_neg Bool.false_ne_true] at h
          refine run_seq_if_f e3344 ?_
          refine run_seq_skip ?_
          obtain ⟨x3346, h3347, h⟩ := ob1 h
          have e3348 := zipP_ok (f := (mVar 0)) (g := (mVar 1)) (ρ := [.bor d3218, .bor d3219, .un, .un]) (ρ1 := [.bor d3218, .bor d3219, .un, .un]) (ρ2 := [.bor d3218, .bor d3219, .un, .un]) (p := (.slot 0)) (q := (.slot 1)) (d := d3218) (e := d3219) (by simp []) (by simp []) (by simp) (by simp) h3347
          obtain ⟨x3363, h3364, h⟩ := ob1 h
          obtain ⟨r3366, e3365, r3367⟩ := mapT_run (fun (ρ : PL.Env) => ρ = [.bor d3218, .bor d3219, .un, .un]) (fi := (mZip (mVar 0) (mVar 1))) (t := (tTupl (tsCons (tName 2) (tsCons (tName 3) tsNil)))) (vs := [2, 3]) (c := mYes) (fe := (mFz (mCall [.b, .b] 2 (m_l_alike n) (mCons (mVar 2) (mCons (mVar 3) mNil))))) (ρ0 := [.bor d3218, .bor d3219, .un, .un]) (ρ1 := [.bor d3218, .bor d3219, .un, .un]) (by simp [e3348]) (by simp) h3364 (fun x ρ y hi hf => by subst hi; exact tc_l_alike_1 n (p_l_alike n) ih d3218 d3219 x y hf)
          subst r3367
          obtain ⟨v3368, h3369, h⟩ := ob1 h
          have e3370 : (mRv (mPl (mN gAll (mCons (mPl (mFz (mLc (mZip (mVar 0) (mVar 1)) (tTupl (tsCons (tName 2) (tsCons (tName 3) tsNil))) [2, 3] mYes (mFz (mCall [.b, .b] 2 (m_l_alike n) (mCons (mVar 2) (mCons (mVar 3) mNil))))))) mNil)))) [.bor d3218, .bor d3219, .un, .un] = .ok (.pl (.val v3368)) [.bor d3218, .bor d3219, .un, .un] := by simp [e3348, e3365, h3369]
          obtain rfl := Option.some.inj h
          exact run_seq_ret e3370 ⟨by simp [flR], by simp⟩
        · rw [if_pos rfl] at h
          refine run_seq_if_t e3344 ?_
          have e3345 : (mRv (mPl (mC (.bool false)))) [.bor d3218, .bor d3219, .un, .un] = .ok (.pl (.val (.bool false))) [.bor d3218, .bor d3219, .un, .un] := by simp []
          obtain rfl := Option.some.inj h
          exact run_seq_ret e3345 ⟨by simp [flR], by simp⟩
      · rw [if_pos rfl] at h
        refine run_seq_if_t e3333 ?_
        have e3335 : (mRv (mPl (mC (.bool false)))) [.bor d3218, .bor d3219, .un, .un] = .ok (.pl (.val (.bool false))) [.bor d3218, .bor d3219, .un, .un] := by simp []
        obtain rfl := Option.some.inj h
        exact run_seq_ret e3335 ⟨by simp [flR], by simp⟩
theorem tb_l_near_crew_1 (v3480 : D) (x3524 : D) (v3509 : D) (v3510 : D) (j3511 : Sl) (s0 : D × D) (h : p_l_near_crew_b1 v3480 x3524 v3509 v3510 = some s0) : ∃ ρ1, (tName 3) x3524 [.io v3509, .own v3510, .val v3480, j3511] = .ok () ρ1 ∧ PL.Run mb_l_near_crew_1 ρ1 (fun fl ρ' => (fl = .nx ∨ fl = .ct) ∧ (fun (s : D × D) (ρ : PL.Env) => ∃ (j3511 : Sl), ρ = [.io s.1, .own s.2, .val v3480, j3511]) s0 ρ') := by
  unfold p_l_near_crew_b1 at h
  refine ⟨[.io v3509, .own v3510, .val v3480, .val x3524], by simp [], ?_⟩
  unfold mb_l_near_crew_1
  obtain ⟨v3525, v3526, h3527, h⟩ := ob2 h
  have e3528 := tr_l_said v3509 v3480 _ _ h3527
  obtain ⟨v3529, v3530, h3531, h⟩ := ob2 h
  have e3532 : (mDrop (mMut 1 gAppend (mCons (mFz (mCall [.io, .b] 3 m_l_said (mCons (mVar 0) (mCons (mVar 2) mNil)))) mNil))) [.io v3509, .own v3510, .val v3480, .val x3524] = .ok .nx [.io v3526, .own v3529, .val v3480, .val x3524] := by simp [e3528, h3531, (mutP_lst h3531)]
  obtain rfl := Option.some.inj h
  exact run_end e3532 ⟨.inl rfl, .val x3524, rfl⟩
theorem tr_l_near_crew (d3410 : D) (r : D) (v3539 : D) (h : p_l_near_crew d3410 = some (r, v3539)) : evalD [.io] 3 m_l_near_crew [.io d3410] = some ((.fr r), [.io v3539]) := by
  unfold p_l_near_crew at h
  refine run_evalD (m := m_l_near_crew) ?_
  show PL.Run m_l_near_crew [.io d3410, .un, .un, .un] _
  unfold m_l_near_crew
  have e3475 : (mSet 1 (mLst mNil)) [.io d3410, .un, .un, .un] = .ok .nx [.io d3410, .own (.list []), .un, .un] := by simp []
  refine run_seq e3475 ?_
  obtain ⟨v3476, v3477, h3478, h⟩ := ob2 h
  have e3479 := tr_l_deal d3410 (.int 3) _ _ h3478
  obtain ⟨v3480, h3481, h⟩ := ob1 h
  have e3482 : (mSet 2 (mRv (mPl (mOp gIx (mPl (mFz (mLst (mCons (mC (.int 2)) (mCons (mC (.int 4)) (mCons (mC (.int 12)) mNil)))))) (mPl (mFz (mCall [.io, .b] 2 m_l_deal (mCons (mVar 0) (mCons (mPl (mC (.int 3))) mNil))))))))) [.io d3410, .own (.list []), .un, .un] = .ok .nx [.io v3477, .own (.list []), .val v3480, .un] := by simp [e3479, h3481]
  refine run_seq e3482 ?_
  obtain ⟨v3483, v3484, h3485, h⟩ := ob2 h
  have e3486 := tr_l_deal v3477 (.int 5) _ _ h3485
  obtain ⟨v3487, v3488, h3489, h⟩ := ob2 h
  have e3490 := tr_l_deal v3484 (.int 21) _ _ h3489
  obtain ⟨v3491, v3492, h3493, h⟩ := ob2 h
  have e3494 := tr_l_deal v3488 (.int 2) _ _ h3493
  obtain ⟨v3495, h3496, h⟩ := ob1 h
  obtain ⟨x3497, h3498, h⟩ := ob1 h
  have e3499 : (mRng1 (mOp gIx (mPl (mFz (mLst (mCons (mFz (mCall [.io, .b] 2 m_l_deal (mCons (mVar 0) (mCons (mPl (mC (.int 5))) mNil)))) (mCons (mFz (mCall [.io, .b] 2 m_l_deal (mCons (mVar 0) (mCons (mPl (mC (.int 21))) mNil)))) mNil))))) (mPl (mFz (mCall [.io, .b] 2 m_l_deal (mCons (mVar 0) (mCons (mPl (mC (.int 2))) mNil))))))) [.io v3477, .own (.list []), .val v3480, .un] = .ok x3497 [.io v3492, .own (.list []), .val v3480, .un] := by simp [e3486, e3490, e3494, h3496, h3498]
  obtain ⟨v3533, v3534, h3536, h⟩ := ob2 h
  obtain ⟨_, e3537, j3535, rfl⟩ := run_for_nx e3499 (foldP_run (fun (s : D × D) (ρ : PL.Env) => ∃ (j3511 : Sl), ρ = [.io s.1, .own s.2, .val v3480, j3511]) (t := (tName 3)) (b := mb_l_near_crew_1) (fun x s ρ s0 hi hf => by obtain ⟨j3511, rfl⟩ := hi; exact tb_l_near_crew_1 v3480 x s.1 s.2 j3511 s0 hf) x3497 (v3492, (PyData.list [])) _ (v3533, v3534) ⟨.un, rfl⟩ h3536)
  refine run_seq e3537 ?_
  have e3538 : (mRv (mVar 1)) [.io v3533, .own v3534, .val v3480, j3535] = .ok (.pl (.slot 1)) [.io v3533, .own v3534, .val v3480, j3535] := by simp []
  obtain ⟨rfl, rfl⟩ := sinj2 h
  exact run_ret e3538 ⟨by simp [flR], by simp⟩
theorem tb_l_stretched_1 (d3540 : D) (x3729 : D) (v3692 : D) (j3693 : Sl) (s0 : D) (h : p_l_stretched_b1 x3729 v3692 = some s0) : ∃ ρ1, (tName 2) x3729 [.bor d3540, .own v3692, j3693] = .ok () ρ1 ∧ PL.Run mb_l_stretched_1 ρ1 (fun fl ρ' => (fl = .nx ∨ fl = .ct) ∧ (fun (s : D) (ρ : PL.Env) => ∃ (j3693 : Sl), ρ = [.bor d3540, .own s, j3693]) s0 ρ') := by
  unfold p_l_stretched_b1 at h
  refine ⟨[.bor d3540, .own v3692, .val x3729], by simp [], ?_⟩
  unfold mb_l_stretched_1
  obtain ⟨b3746, h3748, h⟩ := ob1 h
  have e3747 : (mAnd (mB (mOp gNe (mVar 1) (mPl (mFz (mLst mNil))))) (mB (mOp gEq (mPl (mOp gIx (mPl (mOp gIx (mVar 1) (mPl (mNegU (mC (.int 1)))))) (mPl (mC (.int 1))))) (mPl (mOp gSub' (mVar 2) (mPl (mC (.int 1)))))))) [.bor d3540, .own v3692, .val x3729] = .ok b3746 [.bor d3540, .own v3692, .val x3729] := by
    obtain ⟨v3730, h3731, h3748⟩ := ob1 h3748
    obtain ⟨b3732, h3733, h3748⟩ := ob1 h3748
    rcases b3732 with _ | _
    · rw [if_neg Bool.false_ne_true] at h3748
      obtain rfl := Option.some.inj h3748
      simp [h3731, h3733]
    · rw [if_pos rfl] at h3748
      obtain ⟨v3734, h3735, h3748⟩ := ob1 h3748
      obtain ⟨v3736, h3737, h3748⟩ := ob1 h3748
      obtain ⟨v3738, h3739, h3748⟩ := ob1 h3748
      obtain ⟨v3740, h3741, h3748⟩ := ob1 h3748
      obtain ⟨v3742, h3743, h3748⟩ := ob1 h3748
      obtain ⟨b3744, h3745, h3748⟩ := ob1 h3748
      obtain rfl := Option.some.inj h3748
      simp [h3731, h3733, h3735, h3737, h3739, h3741, h3743, h3745]
  rcases b3746 with _ | _
  · rw [if_neg Bool.false_ne_true] at h
    refine run_if_f e3747 ?_
    obtain ⟨v3758, v3759, h3760, h⟩ := ob2 h
    have e3761 : (mDrop (mMut 1 gAppend (mCons (mTup (mCons (mFz (mRv (mVar 2))) (mCons (mFz (mRv (mVar 2))) mNil))) mNil))) [.bor d3540, .own v3692, .val x3729] = .ok .nx [.bor d3540, .own v3758, .val x3729] := by simp [h3760, (mutP_lst h3760)]
    obtain rfl := Option.some.inj h
    exact run_end e3761 ⟨.inl rfl, .val x3729, rfl⟩
  · rw [if_pos rfl] at h
    refine run_if_t e3747 ?_
    obtain ⟨v3749, h3750, h⟩ := ob1 h
    obtain ⟨v3751, h3752, h⟩ := ob1 h
    obtain ⟨v3753, h3754, h⟩ := ob1 h
    obtain ⟨v3755, h3756, h⟩ := ob1 h
    have e3757 : (mSetIx 1 (mTup (mCons (mOp gIx (mPl (mOp gIx (mVar 1) (mPl (mNegU (mC (.int 1)))))) (mPl (mC (.int 0)))) (mCons (mFz (mRv (mVar 2))) mNil))) (mNegU (mC (.int 1)))) [.bor d3540, .own v3692, .val x3729] = .ok .nx [.bor d3540, .own v3755, .val x3729] := by simp [h3750, h3752, h3754, h3756]
    obtain rfl := Option.some.inj h
    exact run_end e3757 ⟨.inl rfl, .val x3729, rfl⟩
theorem tr_l_stretched (d3540 : D) (r : D) (h : p_l_stretched d3540 = some r) : evalD [.b] 2 m_l_stretched [.bor d3540] = some ((.fr r), [.bor d3540]) := by
  unfold p_l_stretched at h
  refine run_evalD (m := m_l_stretched) ?_
  show PL.Run m_l_stretched [.bor d3540, .un, .un] _
  unfold m_l_stretched
  have e3654 : (mSet 1 (mLst mNil)) [.bor d3540, .un, .un] = .ok .nx [.bor d3540, .own (.list []), .un] := by simp []
  refine run_seq e3654 ?_
  obtain ⟨q3655, x3656, h3657, h⟩ := ob2 h
  have e3658 : (mIter (mVar 0)) [.bor d3540, .own (.list []), .un] = .ok x3656 [.bor d3540, .own (.list []), .un] := by simp [h3657]
  obtain ⟨v3762, h3764, h⟩ := ob1 h
  obtain ⟨_, e3765, j3763, rfl⟩ := run_for_nx e3658 (foldP_run (fun (s : D) (ρ : PL.Env) => ∃ (j3693 : Sl), ρ = [.bor d3540, .own s, j3693]) (t := (tName 2)) (b := mb_l_stretched_1) (fun x s ρ s0 hi hf => by obtain ⟨j3693, rfl⟩ := hi; exact tb_l_stretched_1 d3540 x s j3693 s0 hf) x3656 (.list []) _ v3762 ⟨.un, rfl⟩ h3764)
  refine run_seq e3765 ?_
  have e3766 : (mRv (mVar 1)) [.bor d3540, .own v3762, j3763] = .ok (.pl (.slot 1)) [.bor d3540, .own v3762, j3763] := by simp []
  obtain rfl := Option.some.inj h
  exact run_ret e3766 ⟨by simp [flR], by simp⟩
theorem tc_l_due_1 (d3767 : D) (x3872 : D) (y : D) (h : p_l_due_c1 d3767 x3872 = some y) : ∃ ρ1 ρ2 ρ3, (tName 4) x3872 [.bor d3767, .un, .un, .un, .un, .un] = .ok () ρ1 ∧ mYes ρ1 = .ok true ρ2 ∧ (mFz (mOpX gAdd (mVar 4) (mPl (mMeth gCount (mPl (mOp gIx (mPl (mFz (mCall [.b, .v] 4 m_l_walk (mCons (mVar 0) (mCons (mPl (mFz (mRv (mVar 4)))) mNil))))) (mPl (mC (.int 1))))) (mCons (mPl (mC (.bool true))) mNil))))) ρ2 = .ok y ρ3 ∧ (fun (ρ : PL.Env) => ρ = [.bor d3767, .un, .un, .un, .un, .un]) (wipeE ρ3 [4]) := by
  unfold p_l_due_c1 at h
  obtain ⟨v3873, h3874, h⟩ := ob1 h
  obtain ⟨z3876, e3875⟩ := tr_l_walk d3767 x3872 _ h3874
  obtain ⟨v3877, h3878, h⟩ := ob1 h
  obtain ⟨v3879, h3880, h⟩ := ob1 h
  obtain ⟨v3881, h3882, h⟩ := ob1 h
  obtain ⟨v3883, h3884, h⟩ := ob1 h
  obtain rfl := Option.some.inj h
  exact ⟨[.bor d3767, .un, .un, .un, .val x3872, .un], [.bor d3767, .un, .un, .un, .val x3872, .un], [.bor d3767, .un, .un, .un, .val x3872, .un], by simp [e3875, h3878, h3880, h3882, (addV_eq h3884)], by simp [e3875, h3878, h3880, h3882, (addV_eq h3884)], by simp [e3875, h3878, h3880, h3882, (addV_eq h3884)], by simp⟩
theorem tc_l_due_2 (d3767 : D) (x3885 : List D) (x3898 : D) (o : Option D) (h : p_l_due_c2 x3885 x3898 = some o) : ∃ ρ1 ρ2, (tName 5) x3898 [.bor d3767, .own (.list x3885), .un, .un, .un, .un] = .ok () ρ1 ∧ lcQ (mB (mOp gNotIn (mVar 5) (mVar 1))) (mFz (mRv (mVar 5))) [5] (fun (ρ : PL.Env) => ρ = [.bor d3767, .own (.list x3885), .un, .un, .un, .un]) ρ1 ρ2 o := by
  unfold p_l_due_c2 at h
  obtain ⟨v3899, h3900, h⟩ := ob1 h
  obtain ⟨b3901, h3902, h⟩ := ob1 h
  rcases b3901 with _ | _
  · rw [if_neg Bool.false_ne_true] at h
    obtain rfl := Option.some.inj h
    exact ⟨[.bor d3767, .own (.list x3885), .un, .un, .un, .val x3898], [.bor d3767, .own (.list x3885), .un, .un, .un, .val x3898], by simp [h3900, h3902], by simp [h3900, h3902], by simp⟩
  · rw [if_pos rfl] at h
    obtain rfl := Option.some.inj h
    exact ⟨[.bor d3767, .own (.list x3885), .un, .un, .un, .val x3898], [.bor d3767, .own (.list x3885), .un, .un, .un, .val x3898], by simp [h3900, h3902], [.bor d3767, .own (.list x3885), .un, .un, .un, .val x3898], by simp [h3900, h3902], by simp [h3900, h3902], by simp⟩
theorem tc_l_due_3 (d3767 : D) (x3885 : List D) (x3903 : List D) (x3922 : D) (o : Option D) (h : p_l_due_c3 x3885 x3922 = some o) : ∃ ρ1 ρ2, (tName 4) x3922 [.bor d3767, .own (.list x3885), .own (.list x3903), .un, .un, .un] = .ok () ρ1 ∧ lcQ (mB (mOp gEq (mPl (mOp gIx (mVar 1) (mVar 4))) (mPl (mOp gIx (mVar 1) (mPl (mFz (mOpX gAdd (mVar 4) (mPl (mC (.int 1)))))))))) (mFz (mRv (mVar 4))) [4] (fun (ρ : PL.Env) => ρ = [.bor d3767, .own (.list x3885), .own (.list x3903), .un, .un, .un]) ρ1 ρ2 o := by
  unfold p_l_due_c3 at h
  obtain ⟨v3923, h3924, h⟩ := ob1 h
  obtain ⟨v3925, h3926, h⟩ := ob1 h
  obtain ⟨v3927, h3928, h⟩ := ob1 h
  obtain ⟨v3929, h3930, h⟩ := ob1 h
  obtain ⟨b3931, h3932, h⟩ := ob1 h
  rcases b3931 with _ | _
  · rw [if_neg Bool.false_ne_true] at h
    obtain rfl := Option.some.inj h
    exact ⟨[.bor d3767, .own (.list x3885), .own (.list x3903), .un, .val x3922, .un], [.bor d3767, .own (.list x3885), .own (.list x3903), .un, .val x3922, .un], by simp [h3924, (addV_eq h3926), h3928, h3930, h3932], by simp [h3924, (addV_eq h3926), h3928, h3930, h3932], by simp⟩
  · rw [if_pos rfl] at h
    obtain rfl := Option.some.inj h
    exact ⟨[.bor d3767, .own (.list x3885), .own (.list x3903), .un, .val x3922, .un], [.bor d3767, .own (.list x3885), .own (.list x3903), .un, .val x3922, .un], by simp [h3924, (addV_eq h3926), h3928, h3930, h3932], [.bor d3767, .own (.list x3885), .own (.list x3903), .un, .val x3922, .un], by simp [h3924, (addV_eq h3926), h3928, h3930, h3932], by simp [h3924, (addV_eq h3926), h3928, h3930, h3932], by simp⟩
theorem tr_l_due (d3767 : D) (r : D) (h : p_l_due d3767 = some r) : evalD [.b] 5 m_l_due [.bor d3767] = some ((.fr r), [.bor d3767]) := by
  unfold p_l_due at h
  refine run_evalD (m := m_l_due) ?_
  show PL.Run m_l_due [.bor d3767, .un, .un, .un, .un, .un] _
  unfold m_l_due
  obtain ⟨x3857, h3858, h⟩ := ob1 h
  obtain ⟨x3885, h3886, h⟩ := ob1 h
  obtain ⟨r3888, e3887, r3889⟩ := mapT_run (fun (ρ : PL.Env) => ρ = [.bor d3767, .un, .un, .un, .un, .un]) (fi := (mRng1 (mC (.int 62)))) (t := (tName 4)) (vs := [4]) (c := mYes) (fe := (mFz (mOpX gAdd (mVar 4) (mPl (mMeth gCount (mPl (mOp gIx (mPl (mFz (mCall [.b, .v] 4 m_l_walk (mCons (mVar 0) (mCons (mPl (mFz (mRv (mVar 4)))) mNil))))) (mPl (mC (.int 1))))) (mCons (mPl (mC (.bool true))) mNil)))))) (ρ0 := [.bor d3767, .un, .un, .un, .un, .un]) (ρ1 := [.bor d3767, .un, .un, .un, .un, .un]) (by simp [h3858]) (by simp) h3886 (fun x ρ y hi hf => by subst hi; exact tc_l_due_1 d3767 x y hf)
  subst r3889
  have e3890 : (mSet 1 (mLc (mRng1 (mC (.int 62))) (tName 4) [4] mYes (mFz (mOpX gAdd (mVar 4) (mPl (mMeth gCount (mPl (mOp gIx (mPl (mFz (mCall [.b, .v] 4 m_l_walk (mCons (mVar 0) (mCons (mPl (mFz (mRv (mVar 4)))) mNil))))) (mPl (mC (.int 1))))) (mCons (mPl (mC (.bool true))) mNil))))))) [.bor d3767, .un, .un, .un, .un, .un] = .ok .nx [.bor d3767, .own (.list x3885), .un, .un, .un, .un] := by simp [h3858, e3887]
  refine run_seq e3890 ?_
  obtain ⟨x3891, h3892, h⟩ := ob1 h
  obtain ⟨x3903, h3904, h⟩ := ob1 h
  obtain ⟨r3906, e3905, r3907⟩ := filT_run (fun (ρ : PL.Env) => ρ = [.bor d3767, .own (.list x3885), .un, .un, .un, .un]) (fi := (mRng1 (mC (.int 60)))) (t := (tName 5)) (vs := [5]) (c := (mB (mOp gNotIn (mVar 5) (mVar 1)))) (fe := (mFz (mRv (mVar 5)))) (ρ0 := [.bor d3767, .own (.list x3885), .un, .un, .un, .un]) (ρ1 := [.bor d3767, .own (.list x3885), .un, .un, .un, .un]) (by simp [h3892]) (by simp) h3904 (fun x ρ o hi hf => by subst hi; exact tc_l_due_2 d3767 x3885 x o hf)
  subst r3907
  have e3908 : (mSet 2 (mLc (mRng1 (mC (.int 60))) (tName 5) [5] (mB (mOp gNotIn (mVar 5) (mVar 1))) (mFz (mRv (mVar 5))))) [.bor d3767, .own (.list x3885), .un, .un, .un, .un] = .ok .nx [.bor d3767, .own (.list x3885), .own (.list x3903), .un, .un, .un] := by simp [h3892, e3905]
  refine run_seq e3908 ?_
  obtain ⟨x3909, h3910, h⟩ := ob1 h
  obtain ⟨x3933, h3934, h⟩ := ob1 h
  obtain ⟨r3936, e3935, r3937⟩ := filT_run (fun (ρ : PL.Env) => ρ = [.bor d3767, .own (.list x3885), .own (.list x3903), .un, .un, .un]) (fi := (mRng1 (mC (.int 60)))) (t := (tName 4)) (vs := [4]) (c := (mB (mOp gEq (mPl (mOp gIx (mVar 1) (mVar 4))) (mPl (mOp gIx (mVar 1) (mPl (mFz (mOpX gAdd (mVar 4) (mPl (mC (.int 1))))))))))) (fe := (mFz (mRv (mVar 4)))) (ρ0 := [.bor d3767, .own (.list x3885), .own (.list x3903), .un, .un, .un]) (ρ1 := [.bor d3767, .own (.list x3885), .own (.list x3903), .un, .un, .un]) (by simp [h3910]) (by simp) h3934 (fun x ρ o hi hf => by subst hi; exact tc_l_due_3 d3767 x3885 x3903 x o hf)
  subst r3937
  have e3938 : (mSet 3 (mLc (mRng1 (mC (.int 60))) (tName 4) [4] (mB (mOp gEq (mPl (mOp gIx (mVar 1) (mVar 4))) (mPl (mOp gIx (mVar 1) (mPl (mFz (mOpX gAdd (mVar 4) (mPl (mC (.int 1)))))))))) (mFz (mRv (mVar 4))))) [.bor d3767, .own (.list x3885), .own (.list x3903), .un, .un, .un] = .ok .nx [.bor d3767, .own (.list x3885), .own (.list x3903), .own (.list x3933), .un, .un] := by simp [h3910, e3935]
  refine run_seq e3938 ?_
  obtain ⟨v3939, h3940, h⟩ := ob1 h
  have e3941 := tr_l_stretched (.list x3903) _ h3940
  obtain ⟨v3942, h3943, h⟩ := ob1 h
  have e3944 := tr_l_stretched (.list x3933) _ h3943
  have e3945 : (mLst (mCons (mFz (mCall [.b] 2 m_l_stretched (mCons (mVar 2) mNil))) (mCons (mFz (mCall [.b] 2 m_l_stretched (mCons (mVar 3) mNil))) mNil))) [.bor d3767, .own (.list x3885), .own (.list x3903), .own (.list x3933), .un, .un] = .ok (.fr (.list [v3939, v3942])) [.bor d3767, .own (.list x3885), .own (.list x3903), .own (.list x3933), .un, .un] := by simp [e3941, e3944]
  obtain rfl := Option.some.inj h
  exact run_ret e3945 ⟨by simp [flR], by simp⟩
theorem tc_l_moved_1 (d3946 : D) (d3947 : D) (x3984 : D) (y : D) (h : p_l_moved_c1 d3947 x3984 = some y) : ∃ ρ1 ρ2 ρ3, (tTupl (tsCons (tName 2) (tsCons (tName 3) tsNil))) x3984 [.bor d3946, .bor d3947, .un, .un] = .ok () ρ1 ∧ mYes ρ1 = .ok true ρ2 ∧ (mTup (mCons (mFz (mOpX gAdd (mVar 2) (mVar 1))) (mCons (mFz (mOpX gAdd (mVar 3) (mVar 1))) mNil))) ρ2 = .ok y ρ3 ∧ (fun (ρ : PL.Env) => ρ = [.bor d3946, .bor d3947, .un, .un]) (wipeE ρ3 [2, 3]) := by
  unfold p_l_moved_c1 at h
  obtain ⟨v3985, v3986, h3987, h⟩ := ob2 h
  obtain ⟨v3988, h3989, h⟩ := ob1 h
  obtain ⟨v3990, h3991, h⟩ := ob1 h
  obtain rfl := Option.some.inj h
  exact ⟨[.bor d3946, .bor d3947, .val v3985, .val v3986], [.bor d3946, .bor d3947, .val v3985, .val v3986], [.bor d3946, .bor d3947, .val v3985, .val v3986], by simp [(tT2 h3987), (addV_eq h3989), (addV_eq h3991)], by simp [(tT2 h3987), (addV_eq h3989), (addV_eq h3991)], by simp [(tT2 h3987), (addV_eq h3989), (addV_eq h3991)], by simp⟩
theorem tr_l_moved (d3946 : D) (d3947 : D) (r : D) (h : p_l_moved d3946 d3947 = some r) : evalD [.b, .b] 2 m_l_moved [.bor d3946, .bor d3947] = some ((.fr r), [.bor d3946, .bor d3947]) := by
  unfold p_l_moved at h
  refine run_evalD (m := m_l_moved) ?_
  show PL.Run m_l_moved [.bor d3946, .bor d3947, .un, .un] _
  unfold m_l_moved
  obtain ⟨q3973, x3974, h3975, h⟩ := ob2 h
  obtain ⟨x3992, h3993, h⟩ := ob1 h
  obtain ⟨r3995, e3994, r3996⟩ := mapT_run (fun (ρ : PL.Env) => ρ = [.bor d3946, .bor d3947, .un, .un]) (fi := (mIter (mVar 0))) (t := (tTupl (tsCons (tName 2) (tsCons (tName 3) tsNil)))) (vs := [2, 3]) (c := mYes) (fe := (mTup (mCons (mFz (mOpX gAdd (mVar 2) (mVar 1))) (mCons (mFz (mOpX gAdd (mVar 3) (mVar 1))) mNil)))) (ρ0 := [.bor d3946, .bor d3947, .un, .un]) (ρ1 := [.bor d3946, .bor d3947, .un, .un]) (by simp [h3975]) (by simp) h3993 (fun x ρ y hi hf => by subst hi; exact tc_l_moved_1 d3946 d3947 x y hf)
  subst r3996
  have e3997 : (mLc (mIter (mVar 0)) (tTupl (tsCons (tName 2) (tsCons (tName 3) tsNil))) [2, 3] mYes (mTup (mCons (mFz (mOpX gAdd (mVar 2) (mVar 1))) (mCons (mFz (mOpX gAdd (mVar 3) (mVar 1))) mNil)))) [.bor d3946, .bor d3947, .un, .un] = .ok (.fr (.list x3992)) [.bor d3946, .bor d3947, .un, .un] := by simp [h3975, e3994]
  obtain rfl := Option.some.inj h
  exact run_ret e3997 ⟨by simp [flR], by simp⟩
theorem tc_l_counted_1 (d3998 : D) (x4037 : D) (y : D) (h : p_l_counted_c1 x4037 = some y) : ∃ ρ1 ρ2 ρ3, (tTupl (tsCons (tName 1) (tsCons (tName 2) tsNil))) x4037 [.bor d3998, .un, .un] = .ok () ρ1 ∧ mYes ρ1 = .ok true ρ2 ∧ (mOp gSub' (mPl (mFz (mOpX gAdd (mVar 2) (mPl (mC (.int 1)))))) (mVar 1)) ρ2 = .ok y ρ3 ∧ (fun (ρ : PL.Env) => ρ = [.bor d3998, .un, .un]) (wipeE ρ3 [1, 2]) := by
  unfold p_l_counted_c1 at h
  obtain ⟨v4038, v4039, h4040, h⟩ := ob2 h
  obtain ⟨v4041, h4042, h⟩ := ob1 h
  obtain ⟨v4043, h4044, h⟩ := ob1 h
  obtain rfl := Option.some.inj h
  exact ⟨[.bor d3998, .val v4038, .val v4039], [.bor d3998, .val v4038, .val v4039], [.bor d3998, .val v4038, .val v4039], by simp [(tT2 h4040), (addV_eq h4042), h4044], by simp [(tT2 h4040), (addV_eq h4042), h4044], by simp [(tT2 h4040), (addV_eq h4042), h4044], by simp⟩
theorem tr_l_counted (d3998 : D) (r : D) (h : p_l_counted d3998 = some r) : evalD [.b] 2 m_l_counted [.bor d3998] = some ((.pl (.val r)), [.bor d3998]) := by
  unfold p_l_counted at h
  refine run_evalD (m := m_l_counted) ?_
  show PL.Run m_l_counted [.bor d3998, .un, .un] _
  unfold m_l_counted
  obtain ⟨q4026, x4027, h4028, h⟩ := ob2 h
  obtain ⟨x4045, h4046, h⟩ := ob1 h
  obtain ⟨r4048, e4047, r4049⟩ := mapT_run (fun (ρ : PL.Env) => ρ = [.bor d3998, .un, .un]) (fi := (mIter (mVar 0))) (t := (tTupl (tsCons (tName 1) (tsCons (tName 2) tsNil)))) (vs := [1, 2]) (c := mYes) (fe := (mOp gSub' (mPl (mFz (mOpX gAdd (mVar 2) (mPl (mC (.int 1)))))) (mVar 1))) (ρ0 := [.bor d3998, .un, .un]) (ρ1 := [.bor d3998, .un, .un]) (by simp [h4028]) (by simp) h4046 (fun x ρ y hi hf => by subst hi; exact tc_l_counted_1 d3998 x y hf)
  subst r4049
  obtain ⟨v4050, h4051, h⟩ := ob1 h
  have e4052 : (mRv (mPl (mN gSum (mCons (mPl (mFz (mLc (mIter (mVar 0)) (tTupl (tsCons (tName 1) (tsCons (tName 2) tsNil))) [1, 2] mYes (mOp gSub' (mPl (mFz (mOpX gAdd (mVar 2) (mPl (mC (.int 1)))))) (mVar 1))))) mNil)))) [.bor d3998, .un, .un] = .ok (.pl (.val v4050)) [.bor d3998, .un, .un] := by simp [h4028, e4047, h4051]
  obtain rfl := Option.some.inj h
  exact run_ret e4052 ⟨by simp [flR], by simp⟩
theorem tb_law_1 (d4053 : List Int) (x6316 : D) (v6341 : D) (v6321 : D) (v6326 : D) (v6344 : D) (j5861 : Sl) (j5862 : Sl) (j5863 : Sl) (j5864 : Sl) (j5865 : Sl) (j5866 : Sl) (x6400 : D) (v6373 : D) (j6374 : Sl) (j6375 : Sl) (s0 : D) (h : p_law_b1 v6344 x6400 v6373 = some s0) : ∃ ρ1, (tTupl (tsCons (tName 7) (tsCons (tName 8) tsNil))) x6400 [.scr d4053, .val x6316, .own v6341, .val v6321, .own v6326, .val v6344, .own v6373, j6374, j6375, j5861, j5862, j5863, j5864, j5865, .un, j5866, .un, .un] = .ok () ρ1 ∧ PL.Run mb_law_1 ρ1 (fun fl ρ' => (fl = .nx ∨ fl = .ct) ∧ (fun (s : D) (ρ : PL.Env) => ∃ (j6374 : Sl) (j6375 : Sl), ρ = [.scr d4053, .val x6316, .own v6341, .val v6321, .own v6326, .val v6344, .own s, j6374, j6375, j5861, j5862, j5863, j5864, j5865, .un, j5866, .un, .un]) s0 ρ') := by
  unfold p_law_b1 at h
  obtain ⟨v6401, v6402, h6403, h⟩ := ob2 h
  refine ⟨[.scr d4053, .val x6316, .own v6341, .val v6321, .own v6326, .val v6344, .own v6373, .val v6401, .val v6402, j5861, j5862, j5863, j5864, j5865, .un, j5866, .un, .un], by simp [(tT2 h6403)], ?_⟩
  unfold mb_law_1
  obtain ⟨v6418, h6420, h⟩ := ob1 h
  have e6419 : (mDrop (mMut 6 gAppend (mCons (mTup (mCons (mFz (mOpX gAdd (mVar 7) (mVar 5))) (mCons (mIf (mB (mOp gIs (mVar 8) (mPl (mC .none)))) (mC .none) (mFz (mOpX gAdd (mVar 8) (mVar 5)))) mNil))) mNil))) [.scr d4053, .val x6316, .own v6341, .val v6321, .own v6326, .val v6344, .own v6373, .val v6401, .val v6402, j5861, j5862, j5863, j5864, j5865, .un, j5866, .un, .un] = .ok .nx [.scr d4053, .val x6316, .own v6341, .val v6321, .own v6326, .val v6344, .own v6418, .val v6401, .val v6402, j5861, j5862, j5863, j5864, j5865, .un, j5866, .un, .un] := by
    obtain ⟨v6404, h6405, h6420⟩ := ob1 h6420
    obtain ⟨v6406, h6407, h6420⟩ := ob1 h6420
    obtain ⟨b6408, h6409, h6420⟩ := ob1 h6420
    rcases b6408 with _ | _
    · rw [if_neg Bool.false_ne_true] at h6420
      obtain ⟨v6413, h6414, h6420⟩ := ob1 h6420
      obtain ⟨v6415, v6416, h6417, h6420⟩ := ob2 h6420
      obtain rfl := Option.some.inj h6420
      simp [(addV_eq h6405), h6407, h6409, (addV_eq h6414), h6417, (mutP_lst h6417)]
    · rw [if_pos rfl] at h6420
      obtain ⟨v6410, v6411, h6412, h6420⟩ := ob2 h6420
      obtain rfl := Option.some.inj h6420
      simp [(addV_eq h6405), h6407, h6409, h6412, (mutP_lst h6412)]
  obtain rfl := Option.some.inj h
  exact run_end e6419 ⟨.inl rfl, .val v6401, .val v6402, rfl⟩
theorem tc_law_1 (d4053 : List Int) (x6316 : D) (v6341 : D) (v6321 : D) (v6326 : D) (v6344 : D) (v6421 : D) (j6422 : Sl) (j6423 : Sl) (j5861 : Sl) (j5862 : Sl) (j5863 : Sl) (j5864 : Sl) (j5865 : Sl) (j5866 : Sl) (x6436 : D) (o : Option D) (h : p_law_c1 x6436 = some o) : ∃ ρ1 ρ2, (tName 17) x6436 [.scr d4053, .val x6316, .own v6341, .val v6321, .own v6326, .val v6344, .own v6421, j6422, j6423, j5861, j5862, j5863, j5864, j5865, .un, j5866, .un, .un] = .ok () ρ1 ∧ lcQ (mB (mOp gIs (mPl (mOp gIx (mVar 17) (mPl (mC (.int 1))))) (mPl (mC .none)))) (mFz (mRv (mVar 17))) [17] (fun (ρ : PL.Env) => ρ = [.scr d4053, .val x6316, .own v6341, .val v6321, .own v6326, .val v6344, .own v6421, j6422, j6423, j5861, j5862, j5863, j5864, j5865, .un, j5866, .un, .un]) ρ1 ρ2 o := by
  unfold p_law_c1 at h
  obtain ⟨v6437, h6438, h⟩ := ob1 h
  obtain ⟨v6439, h6440, h⟩ := ob1 h
  obtain ⟨b6441, h6442, h⟩ := ob1 h
  rcases b6441 with _ | _
  · rw [if_neg Bool.false_ne_true] at h
    obtain rfl := Option.some.inj h
    exact ⟨[.scr d4053, .val x6316, .own v6341, .val v6321, .own v6326, .val v6344, .own v6421, j6422, j6423, j5861, j5862, j5863, j5864, j5865, .un, j5866, .un, .val x6436], [.scr d4053, .val x6316, .own v6341, .val v6321, .own v6326, .val v6344, .own v6421, j6422, j6423, j5861, j5862, j5863, j5864, j5865, .un, j5866, .un, .val x6436], by simp [h6438, h6440, h6442], by simp [h6438, h6440, h6442], by simp⟩
  · rw [if_pos rfl] at h
    obtain rfl := Option.some.inj h
    exact ⟨[.scr d4053, .val x6316, .own v6341, .val v6321, .own v6326, .val v6344, .own v6421, j6422, j6423, j5861, j5862, j5863, j5864, j5865, .un, j5866, .un, .val x6436], [.scr d4053, .val x6316, .own v6341, .val v6321, .own v6326, .val v6344, .own v6421, j6422, j6423, j5861, j5862, j5863, j5864, j5865, .un, j5866, .un, .val x6436], by simp [h6438, h6440, h6442], [.scr d4053, .val x6316, .own v6341, .val v6321, .own v6326, .val v6344, .own v6421, j6422, j6423, j5861, j5862, j5863, j5864, j5865, .un, j5866, .un, .val x6436], by simp [h6438, h6440, h6442], by simp [h6438, h6440, h6442], by simp⟩
theorem tc_law_2 (d4053 : List Int) (x6316 : D) (v6341 : D) (v6321 : D) (v6326 : D) (v6344 : D) (v6421 : D) (j6546 : Sl) (j6547 : Sl) (v6448 : D) (v6652 : D) (v6653 : D) (v6655 : D) (v6661 : D) (v6666 : D) (v6672 : D) (v6675 : D) (j6552 : Sl) (x6695 : D) (y : D) (h : p_law_c2 x6695 = some y) : ∃ ρ1 ρ2 ρ3, (tName 16) x6695 [.scr d4053, .bor x6316, .bor v6341, .bor v6321, .bor v6326, .bor v6344, .bor v6421, (blkS j6546), (blkS j6547), .bor v6448, .bor v6652, .bor v6653, .bor v6655, .bor (.list [v6661, v6666]), .bor (.list [v6672, v6675]), (blkS j6552), .un, .un] = .ok () ρ1 ∧ mYes ρ1 = .ok true ρ2 ∧ (mFz (mCall [.b] 2 m_l_counted (mCons (mVar 16) mNil))) ρ2 = .ok y ρ3 ∧ (fun (ρ : PL.Env) => ρ = [.scr d4053, .bor x6316, .bor v6341, .bor v6321, .bor v6326, .bor v6344, .bor v6421, (blkS j6546), (blkS j6547), .bor v6448, .bor v6652, .bor v6653, .bor v6655, .bor (.list [v6661, v6666]), .bor (.list [v6672, v6675]), (blkS j6552), .un, .un]) (wipeE ρ3 [16]) := by
  unfold p_law_c2 at h
  obtain ⟨v6696, h6697, h⟩ := ob1 h
  have e6698 := tr_l_counted x6695 _ h6697
  obtain rfl := Option.some.inj h
  exact ⟨[.scr d4053, .bor x6316, .bor v6341, .bor v6321, .bor v6326, .bor v6344, .bor v6421, (blkS j6546), (blkS j6547), .bor v6448, .bor v6652, .bor v6653, .bor v6655, .bor (.list [v6661, v6666]), .bor (.list [v6672, v6675]), (blkS j6552), .val x6695, .un], [.scr d4053, .bor x6316, .bor v6341, .bor v6321, .bor v6326, .bor v6344, .bor v6421, (blkS j6546), (blkS j6547), .bor v6448, .bor v6652, .bor v6653, .bor v6655, .bor (.list [v6661, v6666]), .bor (.list [v6672, v6675]), (blkS j6552), .val x6695, .un], [.scr d4053, .bor x6316, .bor v6341, .bor v6321, .bor v6326, .bor v6344, .bor v6421, (blkS j6546), (blkS j6547), .bor v6448, .bor v6652, .bor v6653, .bor v6655, .bor (.list [v6661, v6666]), .bor (.list [v6672, v6675]), (blkS j6552), .val x6695, .un], by simp [e6698], by simp [e6698], by simp [e6698], by simp⟩
theorem tb_law_2 (d4053 : List Int) (x6316 : D) (v6341 : D) (v6321 : D) (v6326 : D) (v6344 : D) (v6421 : D) (v6448 : D) (x6651 : D) (j6546 : Sl) (j6547 : Sl) (j6548 : Sl) (j6549 : Sl) (j6550 : Sl) (j6551 : Sl) (j6552 : Sl) (o : Ct (Unit) (D)) (h : p_law_b2 v6326 v6448 x6651 = some o) : ∃ ρ1, (tTupl (tsCons (tName 10) (tsCons (tName 11) tsNil))) x6651 [.scr d4053, .val x6316, .own v6341, .val v6321, .own v6326, .val v6344, .val v6421, j6546, j6547, .val v6448, j6548, j6549, j6550, j6551, .un, j6552, .un, .un] = .ok () ρ1 ∧ PL.Run mb_law_2 ρ1 ((ctQ (fun (s : Unit) (ρ : PL.Env) => ∃ (j6546 : Sl) (j6547 : Sl) (j6548 : Sl) (j6549 : Sl) (j6550 : Sl) (j6551 : Sl) (j6552 : Sl), ρ = [.scr d4053, .val x6316, .own v6341, .val v6321, .own v6326, .val v6344, .val v6421, j6546, j6547, .val v6448, j6548, j6549, j6550, j6551, .un, j6552, .un, .un]) (fun (r : D) (fl : Fl) (_ : PL.Env) => fl = .rt (.pl (.val r))) o)) := by
  unfold p_law_b2 at h
  obtain ⟨v6652, v6653, h6654, h⟩ := ob2 h
  refine ⟨[.scr d4053, .val x6316, .own v6341, .val v6321, .own v6326, .val v6344, .val v6421, j6546, j6547, .val v6448, .val v6652, .val v6653, j6550, j6551, .un, j6552, .un, .un], by simp [(tT2 h6654)], ?_⟩
  unfold mb_law_2
  obtain ⟨v6655, h6656, h⟩ := ob1 h
  have e6657 := tr_table_of v6652 _ h6656
  have e6658 : (mSet 12 (mCall [.b] 2 m_table_of (mCons (mVar 10) mNil))) [.scr d4053, .val x6316, .own v6341, .val v6321, .own v6326, .val v6344, .val v6421, j6546, j6547, .val v6448, .val v6652, .val v6653, j6550, j6551, .un, j6552, .un, .un] = .ok .nx [.scr d4053, .val x6316, .own v6341, .val v6321, .own v6326, .val v6344, .val v6421, j6546, j6547, .val v6448, .val v6652, .val v6653, .own v6655, j6551, .un, j6552, .un, .un] := by simp [e6657]
  refine run_seq e6658 ?_
  obtain ⟨v6659, h6660, h⟩ := ob1 h
  obtain ⟨v6661, h6662, h⟩ := ob1 h
  have e6663 := tr_l_moved v6659 v6653 _ h6662
  obtain ⟨v6664, h6665, h⟩ := ob1 h
  obtain ⟨v6666, h6667, h⟩ := ob1 h
  have e6668 := tr_l_moved v6664 v6653 _ h6667
  have e6669 : (mSet 13 (mLst (mCons (mFz (mCall [.b, .b] 2 m_l_moved (mCons (mPl (mOp gIx (mVar 4) (mPl (mC (.int 0))))) (mCons (mVar 11) mNil)))) (mCons (mFz (mCall [.b, .b] 2 m_l_moved (mCons (mPl (mOp gIx (mVar 4) (mPl (mC (.int 1))))) (mCons (mVar 11) mNil)))) mNil)))) [.scr d4053, .val x6316, .own v6341, .val v6321, .own v6326, .val v6344, .val v6421, j6546, j6547, .val v6448, .val v6652, .val v6653, .own v6655, j6551, .un, j6552, .un, .un] = .ok .nx [.scr d4053, .val x6316, .own v6341, .val v6321, .own v6326, .val v6344, .val v6421, j6546, j6547, .val v6448, .val v6652, .val v6653, .own v6655, .own (.list [v6661, v6666]), .un, j6552, .un, .un] := by simp [h6660, e6663, h6665, e6668]
  refine run_seq e6669 ?_
  obtain ⟨u6670, h6671, h⟩ := ob1 h
  obtain ⟨v6672, h6673, h⟩ := ob1 h
  have e6674 := tr_never_comes v6655 _ h6673
  obtain ⟨v6675, h6676, h⟩ := ob1 h
  have e6677 := tr_folds v6655 _ h6676
  obtain ⟨u6678, h6679, h⟩ := ob1 h
  have e6680 : (mLstZ (mCons (mNew [.b] 4 m_never_comes (mCons (mVar 12) mNil)) (mCons (mNew [.b] 5 m_folds (mCons (mVar 12) mNil)) mNil))) [.scr d4053, .bor x6316, .bor v6341, .bor v6321, .bor v6326, .bor v6344, .bor v6421, (blkS j6546), (blkS j6547), .bor v6448, .bor v6652, .bor v6653, .bor v6655, .bor (.list [v6661, v6666]), .un, (blkS j6552), .un, .un] = .ok (.list [v6672, v6675]) [.scr d4053, .bor x6316, .bor v6341, .bor v6321, .bor v6326, .bor v6344, .bor v6421, (blkS j6546), (blkS j6547), .bor v6448, .bor v6652, .bor v6653, .bor v6655, .bor (.list [v6661, v6666]), .un, (blkS j6552), .un, .un] := by simp [(gNolE_eq h6671), e6674, e6677, (jP_eq h6679)]
  refine run_junk (ρb := [.scr d4053, .bor x6316, .bor v6341, .bor v6321, .bor v6326, .bor v6344, .bor v6421, (blkS j6546), (blkS j6547), .bor v6448, .bor v6652, .bor v6653, .bor v6655, .bor (.list [v6661, v6666]), .un, (blkS j6552), .un, .un]) (by simp) e6680 (by simp) ?_
  show PL.Run _ [.scr d4053, .bor x6316, .bor v6341, .bor v6321, .bor v6326, .bor v6344, .bor v6421, (blkS j6546), (blkS j6547), .bor v6448, .bor v6652, .bor v6653, .bor v6655, .bor (.list [v6661, v6666]), .bor (.list [v6672, v6675]), (blkS j6552), .un, .un] _
  obtain ⟨v6681, h6682, h⟩ := ob1 h
  have e6683 := tr_l_alike 8 (.list [v6672, v6675]) (.list [v6661, v6666]) _ h6682
  obtain ⟨b6684, h6685, h⟩ := ob1 h
  have e6686 : (mNot (mTr (mPl (mFz (mCall [.b, .b] 2 (m_l_alike 8) (mCons (mVar 14) (mCons (mVar 13) mNil))))))) [.scr d4053, .bor x6316, .bor v6341, .bor v6321, .bor v6326, .bor v6344, .bor v6421, (blkS j6546), (blkS j6547), .bor v6448, .bor v6652, .bor v6653, .bor v6655, .bor (.list [v6661, v6666]), .bor (.list [v6672, v6675]), (blkS j6552), .un, .un] = .ok (!b6684) [.scr d4053, .bor x6316, .bor v6341, .bor v6321, .bor v6326, .bor v6344, .bor v6421, (blkS j6546), (blkS j6547), .bor v6448, .bor v6652, .bor v6653, .bor v6655, .bor (.list [v6661, v6666]), .bor (.list [v6672, v6675]), (blkS j6552), .un, .un] := by simp [e6683, h6685]
  rcases b6684 with _ | _
  · rw [if_neg Bool.false_ne_true] at h
    refine run_seq_if_t e6686 ?_
    have e6687 : (mRv (mPl (mC (.bool false)))) [.scr d4053, .bor x6316, .bor v6341, .bor v6321, .bor v6326, .bor v6344, .bor v6421, (blkS j6546), (blkS j6547), .bor v6448, .bor v6652, .bor v6653, .bor v6655, .bor (.list [v6661, v6666]), .bor (.list [v6672, v6675]), (blkS j6552), .un, .un] = .ok (.pl (.val (.bool false))) [.scr d4053, .bor x6316, .bor v6341, .bor v6321, .bor v6326, .bor v6344, .bor v6421, (blkS j6546), (blkS j6547), .bor v6448, .bor v6652, .bor v6653, .bor v6655, .bor (.list [v6661, v6666]), .bor (.list [v6672, v6675]), (blkS j6552), .un, .un] := by simp []
    refine run_seq_ret e6687 (.inr ⟨_, rfl, rfl, rfl, ?_⟩)
    obtain rfl := Option.some.inj h
    exact id ⟨trivial, rfl⟩
  · rw [if_pos rfl] at h
    refine run_seq_if_f e6686 ?_
    refine run_seq_skip ?_
    obtain ⟨q6688, x6689, h6690, h⟩ := ob2 h
    obtain ⟨x6699, h6700, h⟩ := ob1 h
    obtain ⟨r6702, e6701, r6703⟩ := mapT_run (fun (ρ : PL.Env) => ρ = [.scr d4053, .bor x6316, .bor v6341, .bor v6321, .bor v6326, .bor v6344, .bor v6421, (blkS j6546), (blkS j6547), .bor v6448, .bor v6652, .bor v6653, .bor v6655, .bor (.list [v6661, v6666]), .bor (.list [v6672, v6675]), (blkS j6552), .un, .un]) (fi := (mIter (mVar 14))) (t := (tName 16)) (vs := [16]) (c := mYes) (fe := (mFz (mCall [.b] 2 m_l_counted (mCons (mVar 16) mNil)))) (ρ0 := [.scr d4053, .bor x6316, .bor v6341, .bor v6321, .bor v6326, .bor v6344, .bor v6421, (blkS j6546), (blkS j6547), .bor v6448, .bor v6652, .bor v6653, .bor v6655, .bor (.list [v6661, v6666]), .bor (.list [v6672, v6675]), (blkS j6552), .un, .un]) (ρ1 := [.scr d4053, .bor x6316, .bor v6341, .bor v6321, .bor v6326, .bor v6344, .bor v6421, (blkS j6546), (blkS j6547), .bor v6448, .bor v6652, .bor v6653, .bor v6655, .bor (.list [v6661, v6666]), .bor (.list [v6672, v6675]), (blkS j6552), .un, .un]) (by simp [h6690]) (by simp) h6700 (fun x ρ y hi hf => by subst hi; exact tc_law_2 d4053 x6316 v6341 v6321 v6326 v6344 v6421 j6546 j6547 v6448 v6652 v6653 v6655 v6661 v6666 v6672 v6675 j6552 x y hf)
    subst r6703
    have e6704 : (mSet 15 (mLc (mIter (mVar 14)) (tName 16) [16] mYes (mFz (mCall [.b] 2 m_l_counted (mCons (mVar 16) mNil))))) [.scr d4053, .bor x6316, .bor v6341, .bor v6321, .bor v6326, .bor v6344, .bor v6421, (blkS j6546), (blkS j6547), .bor v6448, .bor v6652, .bor v6653, .bor v6655, .bor (.list [v6661, v6666]), .bor (.list [v6672, v6675]), (blkS j6552), .un, .un] = .ok .nx [.scr d4053, .bor x6316, .bor v6341, .bor v6321, .bor v6326, .bor v6344, .bor v6421, (blkS j6546), (blkS j6547), .bor v6448, .bor v6652, .bor v6653, .bor v6655, .bor (.list [v6661, v6666]), .bor (.list [v6672, v6675]), .own (.list x6699), .un, .un] := by simp [h6690, e6701]
    refine run_seq e6704 ?_
    obtain ⟨b6725, h6727, h⟩ := ob1 h
    have e6726 : (mOr (mB (mOp gNe (mPl (mOp gIx (mVar 15) (mPl (mC (.int 0))))) (mPl (mFz (mOpX gAdd (mPl (mOp gIx (mVar 15) (mPl (mC (.int 1))))) (mVar 9)))))) (mB (mOp gNe (mPl (mOp gIx (mPl (mOp gIx (mVar 12) (mPl (mNegU (mC (.int 1)))))) (mPl (mC (.int 1))))) (mVar 9)))) [.scr d4053, .bor x6316, .bor v6341, .bor v6321, .bor v6326, .bor v6344, .bor v6421, (blkS j6546), (blkS j6547), .bor v6448, .bor v6652, .bor v6653, .bor v6655, .bor (.list [v6661, v6666]), .bor (.list [v6672, v6675]), .own (.list x6699), .un, .un] = .ok b6725 [.scr d4053, .bor x6316, .bor v6341, .bor v6321, .bor v6326, .bor v6344, .bor v6421, (blkS j6546), (blkS j6547), .bor v6448, .bor v6652, .bor v6653, .bor v6655, .bor (.list [v6661, v6666]), .bor (.list [v6672, v6675]), .own (.list x6699), .un, .un] := by
      obtain ⟨v6705, h6706, h6727⟩ := ob1 h6727
      obtain ⟨v6707, h6708, h6727⟩ := ob1 h6727
      obtain ⟨v6709, h6710, h6727⟩ := ob1 h6727
      obtain ⟨v6711, h6712, h6727⟩ := ob1 h6727
      obtain ⟨b6713, h6714, h6727⟩ := ob1 h6727
      rcases b6713 with _ | _
      · rw [if_neg Bool.false_ne_true] at h6727
        obtain ⟨v6715, h6716, h6727⟩ := ob1 h6727
        obtain ⟨v6717, h6718, h6727⟩ := ob1 h6727
        obtain ⟨v6719, h6720, h6727⟩ := ob1 h6727
        obtain ⟨v6721, h6722, h6727⟩ := ob1 h6727
        obtain ⟨b6723, h6724, h6727⟩ := ob1 h6727
        obtain rfl := Option.some.inj h6727
        simp [h6706, h6708, (addV_eq h6710), h6712, h6714, h6716, h6718, h6720, h6722, h6724]
      · rw [if_pos rfl] at h6727
        obtain rfl := Option.some.inj h6727
        simp [h6706, h6708, (addV_eq h6710), h6712, h6714]
    rcases b6725 with _ | _
    · rw [if_neg Bool.false_ne_true] at h
      refine run_seq_if_f e6726 ?_
      refine run_seq_skip ?_
      refine run_end (m := mSkip) (fl := .nx) rfl (.inl ⟨rfl, ⟨_, rfl⟩, (jP_eq h6679), rfl, by simp, ?_⟩)
      show PL.Run _ [.scr d4053, .val x6316, .own v6341, .val v6321, .own v6326, .val v6344, .val v6421, (exS (j6546) ((blkS j6546))), (exS (j6547) ((blkS j6547))), .val v6448, .val v6652, .val v6653, .own v6655, .own (.list [v6661, v6666]), .un, (exS (j6552) (.own (.list x6699))), .un, .un] _
      obtain ⟨v6729, h6730, h⟩ := ob1 h
      have e6731 := tr_never_comes v6655 _ h6730
      obtain ⟨v6732, h6733, h⟩ := ob1 h
      have e6734 := tr_folds v6655 _ h6733
      obtain ⟨v6735, h6736, h⟩ := ob1 h
      have e6737 := tr_l_alike 8 (.list [v6729, v6732]) (.list [v6661, v6666]) _ h6736
      obtain ⟨b6738, h6739, h⟩ := ob1 h
      have e6740 : (mNot (mTr (mPl (mFz (mCall [.b, .b] 2 (m_l_alike 8) (mCons (mPl (mFz (mLst (mCons (mFz (mCall [.b] 4 m_never_comes (mCons (mVar 12) mNil))) (mCons (mFz (mCall [.b] 5 m_folds (mCons (mVar 12) mNil))) mNil))))) (mCons (mVar 13) mNil))))))) [.scr d4053, .val x6316, .own v6341, .val v6321, .own v6326, .val v6344, .val v6421, (exS (j6546) ((blkS j6546))), (exS (j6547) ((blkS j6547))), .val v6448, .val v6652, .val v6653, .own v6655, .own (.list [v6661, v6666]), .un, (exS (j6552) (.own (.list x6699))), .un, .un] = .ok (!b6738) [.scr d4053, .val x6316, .own v6341, .val v6321, .own v6326, .val v6344, .val v6421, (exS (j6546) ((blkS j6546))), (exS (j6547) ((blkS j6547))), .val v6448, .val v6652, .val v6653, .own v6655, .own (.list [v6661, v6666]), .un, (exS (j6552) (.own (.list x6699))), .un, .un] := by simp [e6731, e6734, e6737, h6739]
      rcases b6738 with _ | _
      · rw [if_neg Bool.false_ne_true] at h
        refine run_if_t e6740 ?_
        have e6741 : (mRv (mPl (mC (.bool false)))) [.scr d4053, .val x6316, .own v6341, .val v6321, .own v6326, .val v6344, .val v6421, (exS (j6546) ((blkS j6546))), (exS (j6547) ((blkS j6547))), .val v6448, .val v6652, .val v6653, .own v6655, .own (.list [v6661, v6666]), .un, (exS (j6552) (.own (.list x6699))), .un, .un] = .ok (.pl (.val (.bool false))) [.scr d4053, .val x6316, .own v6341, .val v6321, .own v6326, .val v6344, .val v6421, (exS (j6546) ((blkS j6546))), (exS (j6547) ((blkS j6547))), .val v6448, .val v6652, .val v6653, .own v6655, .own (.list [v6661, v6666]), .un, (exS (j6552) (.own (.list x6699))), .un, .un] := by simp []
        obtain rfl := Option.some.inj h
        exact run_ret e6741 ⟨trivial, rfl⟩
      · rw [if_pos rfl] at h
        refine run_if_f e6740 ?_
        obtain rfl := Option.some.inj h
        exact run_end (m := mSkip) (fl := .nx) rfl ⟨.inl rfl, (exS (j6546) ((blkS j6546))), (exS (j6547) ((blkS j6547))), .val v6652, .val v6653, .own v6655, .own (.list [v6661, v6666]), (exS (j6552) (.own (.list x6699))), rfl⟩
    · rw [if_pos rfl] at h
      refine run_seq_if_t e6726 ?_
      have e6728 : (mRv (mPl (mC (.bool false)))) [.scr d4053, .bor x6316, .bor v6341, .bor v6321, .bor v6326, .bor v6344, .bor v6421, (blkS j6546), (blkS j6547), .bor v6448, .bor v6652, .bor v6653, .bor v6655, .bor (.list [v6661, v6666]), .bor (.list [v6672, v6675]), .own (.list x6699), .un, .un] = .ok (.pl (.val (.bool false))) [.scr d4053, .bor x6316, .bor v6341, .bor v6321, .bor v6326, .bor v6344, .bor v6421, (blkS j6546), (blkS j6547), .bor v6448, .bor v6652, .bor v6653, .bor v6655, .bor (.list [v6661, v6666]), .bor (.list [v6672, v6675]), .own (.list x6699), .un, .un] := by simp []
      refine run_seq_ret e6728 (.inr ⟨_, rfl, rfl, rfl, ?_⟩)
      obtain rfl := Option.some.inj h
      exact id ⟨trivial, rfl⟩
theorem tb_law_3 (d4053 : List Int) (x6316 : D) (j5853 : Sl) (j5854 : Sl) (j5855 : Sl) (j5856 : Sl) (j5857 : Sl) (j5858 : Sl) (j5859 : Sl) (j5860 : Sl) (j5861 : Sl) (j5862 : Sl) (j5863 : Sl) (j5864 : Sl) (j5865 : Sl) (j5866 : Sl) (o : Ct (Unit) (D)) (h : p_law_b3 d4053 x6316 = some o) : ∃ ρ1, (tName 1) x6316 [.scr d4053, j5853, j5854, j5855, j5856, j5857, j5858, j5859, j5860, j5861, j5862, j5863, j5864, j5865, .un, j5866, .un, .un] = .ok () ρ1 ∧ PL.Run mb_law_3 ρ1 ((ctQ (fun (s : Unit) (ρ : PL.Env) => ∃ (j5853 : Sl) (j5854 : Sl) (j5855 : Sl) (j5856 : Sl) (j5857 : Sl) (j5858 : Sl) (j5859 : Sl) (j5860 : Sl) (j5861 : Sl) (j5862 : Sl) (j5863 : Sl) (j5864 : Sl) (j5865 : Sl) (j5866 : Sl), ρ = [.scr d4053, j5853, j5854, j5855, j5856, j5857, j5858, j5859, j5860, j5861, j5862, j5863, j5864, j5865, .un, j5866, .un, .un]) (fun (r : D) (fl : Fl) (_ : PL.Env) => fl = .rt (.pl (.val r))) o)) := by
  unfold p_law_b3 at h
  refine ⟨[.scr d4053, .val x6316, j5854, j5855, j5856, j5857, j5858, j5859, j5860, j5861, j5862, j5863, j5864, j5865, .un, j5866, .un, .un], by simp [], ?_⟩
  unfold mb_law_3
  obtain ⟨v6317, h6318, h⟩ := ob1 h
  have e6319 := tr_l_tin d4053 x6316 _ h6318
  have e6320 : (mSet 2 (mCall [.s, .b] 1 m_l_tin (mCons (mVar 0) (mCons (mVar 1) mNil)))) [.scr d4053, .val x6316, j5854, j5855, j5856, j5857, j5858, j5859, j5860, j5861, j5862, j5863, j5864, j5865, .un, j5866, .un, .un] = .ok .nx [.scr d4053, .val x6316, .own v6317, j5855, j5856, j5857, j5858, j5859, j5860, j5861, j5862, j5863, j5864, j5865, .un, j5866, .un, .un] := by simp [e6319]
  refine run_seq e6320 ?_
  obtain ⟨v6321, v6322, h6323, h⟩ := ob2 h
  have e6324 := tr_l_near_crew v6317 _ _ h6323
  have e6325 : (mSet 3 (mCall [.io] 3 m_l_near_crew (mCons (mVar 2) mNil))) [.scr d4053, .val x6316, .own v6317, j5855, j5856, j5857, j5858, j5859, j5860, j5861, j5862, j5863, j5864, j5865, .un, j5866, .un, .un] = .ok .nx [.scr d4053, .val x6316, .own v6322, .own v6321, j5856, j5857, j5858, j5859, j5860, j5861, j5862, j5863, j5864, j5865, .un, j5866, .un, .un] := by simp [e6324]
  refine run_seq e6325 ?_
  obtain ⟨v6326, h6327, h⟩ := ob1 h
  have e6328 := tr_l_due v6321 _ h6327
  have e6329 : (mSet 4 (mCall [.b] 5 m_l_due (mCons (mVar 3) mNil))) [.scr d4053, .val x6316, .own v6322, .own v6321, j5856, j5857, j5858, j5859, j5860, j5861, j5862, j5863, j5864, j5865, .un, j5866, .un, .un] = .ok .nx [.scr d4053, .val x6316, .own v6322, .own v6321, .own v6326, j5857, j5858, j5859, j5860, j5861, j5862, j5863, j5864, j5865, .un, j5866, .un, .un] := by simp [e6328]
  refine run_seq e6329 ?_
  obtain ⟨v6330, v6331, h6332, h⟩ := ob2 h
  have e6333 := tr_l_deal v6322 (.int 9) _ _ h6332
  obtain ⟨v6334, h6335, h⟩ := ob1 h
  obtain ⟨v6336, v6337, h6338, h⟩ := ob2 h
  have e6339 := tr_l_deal v6331 v6334 _ _ h6338
  obtain ⟨v6340, v6341, h6342, h⟩ := ob2 h
  have e6343 := tr_l_deal v6337 (.int 3) _ _ h6342
  obtain ⟨v6344, h6345, h⟩ := ob1 h
  have e6346 : (mSet 5 (mRv (mPl (mOp gIx (mPl (mFz (mLst (mCons (mC (.int 1)) (mCons (mFz (mCall [.io, .b] 2 m_l_deal (mCons (mVar 2) (mCons (mPl (mC (.int 9))) mNil)))) (mCons (mFz (mCall [.io, .b] 2 m_l_deal (mCons (mVar 2) (mCons (mPl (mOp gPow (mPl (mC (.int 10))) (mPl (mC (.int 29))))) mNil)))) mNil)))))) (mPl (mFz (mCall [.io, .b] 2 m_l_deal (mCons (mVar 2) (mCons (mPl (mC (.int 3))) mNil))))))))) [.scr d4053, .val x6316, .own v6322, .own v6321, .own v6326, j5857, j5858, j5859, j5860, j5861, j5862, j5863, j5864, j5865, .un, j5866, .un, .un] = .ok .nx [.scr d4053, .val x6316, .own v6341, .own v6321, .own v6326, .val v6344, j5858, j5859, j5860, j5861, j5862, j5863, j5864, j5865, .un, j5866, .un, .un] := by simp [e6333, h6335, e6339, e6343, h6345]
  refine run_seq e6346 ?_
  have e6347 : (mSet 6 (mLst mNil)) [.scr d4053, .val x6316, .own v6341, .own v6321, .own v6326, .val v6344, j5858, j5859, j5860, j5861, j5862, j5863, j5864, j5865, .un, j5866, .un, .un] = .ok .nx [.scr d4053, .val x6316, .own v6341, .own v6321, .own v6326, .val v6344, .own (.list []), j5859, j5860, j5861, j5862, j5863, j5864, j5865, .un, j5866, .un, .un] := by simp []
  refine run_seq e6347 ?_
  obtain ⟨q6348, x6349, h6350, h⟩ := ob2 h
  have e6351 : (mIter (mPl (mFz (mRv (mVar 3))))) [.scr d4053, .val x6316, .own v6341, .own v6321, .own v6326, .val v6344, .own (.list []), j5859, j5860, j5861, j5862, j5863, j5864, j5865, .un, j5866, .un, .un] = .ok x6349 [.scr d4053, .val x6316, .own v6341, .val v6321, .own v6326, .val v6344, .own (.list []), j5859, j5860, j5861, j5862, j5863, j5864, j5865, .un, j5866, .un, .un] := by simp [h6350]
  obtain ⟨v6421, h6424, h⟩ := ob1 h
  obtain ⟨_, e6425, j6422, j6423, rfl⟩ := run_for_nx e6351 (foldP_run (fun (s : D) (ρ : PL.Env) => ∃ (j6374 : Sl) (j6375 : Sl), ρ = [.scr d4053, .val x6316, .own v6341, .val v6321, .own v6326, .val v6344, .own s, j6374, j6375, j5861, j5862, j5863, j5864, j5865, .un, j5866, .un, .un]) (t := (tTupl (tsCons (tName 7) (tsCons (tName 8) tsNil)))) (b := mb_law_1) (fun x s ρ s0 hi hf => by obtain ⟨j6374, j6375, rfl⟩ := hi; exact tb_law_1 d4053 x6316 v6341 v6321 v6326 v6344 j5861 j5862 j5863 j5864 j5865 j5866 x s j6374 j6375 s0 hf) x6349 (.list []) _ v6421 ⟨j5859, j5860, rfl⟩ h6424)
  refine run_seq e6425 ?_
  obtain ⟨q6426, x6427, h6428, h⟩ := ob2 h
  obtain ⟨x6443, h6444, h⟩ := ob1 h
  obtain ⟨r6446, e6445, r6447⟩ := filT_run (fun (ρ : PL.Env) => ρ = [.scr d4053, .val x6316, .own v6341, .val v6321, .own v6326, .val v6344, .own v6421, j6422, j6423, j5861, j5862, j5863, j5864, j5865, .un, j5866, .un, .un]) (fi := (mIter (mPl (mFz (mRv (mVar 3)))))) (t := (tName 17)) (vs := [17]) (c := (mB (mOp gIs (mPl (mOp gIx (mVar 17) (mPl (mC (.int 1))))) (mPl (mC .none))))) (fe := (mFz (mRv (mVar 17)))) (ρ0 := [.scr d4053, .val x6316, .own v6341, .val v6321, .own v6326, .val v6344, .own v6421, j6422, j6423, j5861, j5862, j5863, j5864, j5865, .un, j5866, .un, .un]) (ρ1 := [.scr d4053, .val x6316, .own v6341, .val v6321, .own v6326, .val v6344, .own v6421, j6422, j6423, j5861, j5862, j5863, j5864, j5865, .un, j5866, .un, .un]) (by simp [h6428]) (by simp) h6444 (fun x ρ o hi hf => by subst hi; exact tc_law_1 d4053 x6316 v6341 v6321 v6326 v6344 v6421 j6422 j6423 j5861 j5862 j5863 j5864 j5865 j5866 x o hf)
  subst r6447
  obtain ⟨v6448, h6449, h⟩ := ob1 h
  have e6450 : (mSet 9 (mRv (mPl (mN gLen (mCons (mPl (mFz (mLc (mIter (mPl (mFz (mRv (mVar 3))))) (tName 17) [17] (mB (mOp gIs (mPl (mOp gIx (mVar 17) (mPl (mC (.int 1))))) (mPl (mC .none)))) (mFz (mRv (mVar 17)))))) mNil))))) [.scr d4053, .val x6316, .own v6341, .val v6321, .own v6326, .val v6344, .own v6421, j6422, j6423, j5861, j5862, j5863, j5864, j5865, .un, j5866, .un, .un] = .ok .nx [.scr d4053, .val x6316, .own v6341, .val v6321, .own v6326, .val v6344, .own v6421, j6422, j6423, .val v6448, j5862, j5863, j5864, j5865, .un, j5866, .un, .un] := by simp [h6428, e6445, h6449]
  refine run_seq e6450 ?_
  obtain ⟨q6451, x6452, h6453, h⟩ := ob2 h
  have e6454 : (mIter (mPl (mFz (mLst (mCons (mTup (mCons (mFz (mRv (mVar 3))) (mCons (mC (.int 0)) mNil))) (mCons (mTup (mCons (mFz (mRv (mVar 6))) (mCons (mFz (mRv (mVar 5))) mNil))) mNil)))))) [.scr d4053, .val x6316, .own v6341, .val v6321, .own v6326, .val v6344, .own v6421, j6422, j6423, .val v6448, j5862, j5863, j5864, j5865, .un, j5866, .un, .un] = .ok x6452 [.scr d4053, .val x6316, .own v6341, .val v6321, .own v6326, .val v6344, .val v6421, j6422, j6423, .val v6448, j5862, j5863, j5864, j5865, .un, j5866, .un, .un] := by simp [h6453]
  obtain ⟨o6751, h6749, h⟩ := obct0 h
  have e6750 := forP_run (fun (s : Unit) (ρ : PL.Env) => ∃ (j6546 : Sl) (j6547 : Sl) (j6548 : Sl) (j6549 : Sl) (j6550 : Sl) (j6551 : Sl) (j6552 : Sl), ρ = [.scr d4053, .val x6316, .own v6341, .val v6321, .own v6326, .val v6344, .val v6421, j6546, j6547, .val v6448, j6548, j6549, j6550, j6551, .un, j6552, .un, .un]) (fun (r : D) (fl : Fl) (_ : PL.Env) => fl = .rt (.pl (.val r))) (t := (tTupl (tsCons (tName 10) (tsCons (tName 11) tsNil)))) (b := mb_law_2) (fun x s ρ o hi hf => by obtain ⟨j6546, j6547, j6548, j6549, j6550, j6551, j6552, rfl⟩ := hi; exact tb_law_2 d4053 x6316 v6341 v6321 v6326 v6344 v6421 v6448 x j6546 j6547 j6548 j6549 j6550 j6551 j6552 o hf) x6452 () _ o6751 ⟨j6422, j6423, j5862, j5863, j5864, j5865, j5866, rfl⟩ h6749
  rcases h with ⟨r, rfl, h⟩ | ⟨rfl, h⟩
  · refine run_ct (run_for e6454 e6750) (fun t fl ρ' ho hf hq => ?_) (fun s ρ' ho hi => nomatch ho)
    cases ho
    cases h
    exact ⟨hf, hq⟩
  · refine run_ct (run_for e6454 e6750) (fun t fl ρ' ho hf hq => nomatch ho) (fun s ρ' ho hi => ?_)
    cases ho
    obtain ⟨j6742, j6743, j6744, j6745, j6746, j6747, j6748, rfl⟩ := hi
    obtain rfl := Option.some.inj h
    exact ⟨.inl rfl, .val x6316, .own v6341, .val v6321, .own v6326, .val v6344, .val v6421, j6742, j6743, .val v6448, j6744, j6745, j6746, j6747, j6748, rfl⟩
theorem tr_law (d4053 : List Int) (r : D) (h : p_law d4053 = some r) : ∃ ρ, m_law [.scr d4053, .un, .un, .un, .un, .un, .un, .un, .un, .un, .un, .un, .un, .un, .un, .un, .un, .un] = .ok (.rt (.pl (.val r))) ρ := by
  unfold p_law at h
  have e0 : PL.Run m_law [.scr d4053, .un, .un, .un, .un, .un, .un, .un, .un, .un, .un, .un, .un, .un, .un, .un, .un, .un] (fun fl _ => fl = .rt (.pl (.val r))) := by
    unfold m_law
    obtain ⟨v5411, h5412, h⟩ := ob1 h
    obtain ⟨v5413, h5414, h⟩ := ob1 h
    obtain ⟨x5415, h5416, h⟩ := ob1 h
    have e5417 : (mRng1 (mN gMax2 (mCons (mPl (mC (.int 1))) (mCons (mPl (mN gMin2 (mCons (mPl (mC (.int 10))) (mCons (mPl (mLenS 0)) mNil)))) mNil)))) [.scr d4053, .un, .un, .un, .un, .un, .un, .un, .un, .un, .un, .un, .un, .un, .un, .un, .un, .un] = .ok x5415 [.scr d4053, .un, .un, .un, .un, .un, .un, .un, .un, .un, .un, .un, .un, .un, .un, .un, .un, .un] := by simp [h5412, h5414, h5416]
    obtain ⟨o6769, h6766, h⟩ := obct0 h
    have e6767 := forP_run (fun (s : Unit) (ρ : PL.Env) => ∃ (j5853 : Sl) (j5854 : Sl) (j5855 : Sl) (j5856 : Sl) (j5857 : Sl) (j5858 : Sl) (j5859 : Sl) (j5860 : Sl) (j5861 : Sl) (j5862 : Sl) (j5863 : Sl) (j5864 : Sl) (j5865 : Sl) (j5866 : Sl), ρ = [.scr d4053, j5853, j5854, j5855, j5856, j5857, j5858, j5859, j5860, j5861, j5862, j5863, j5864, j5865, .un, j5866, .un, .un]) (fun (r : D) (fl : Fl) (_ : PL.Env) => fl = .rt (.pl (.val r))) (t := (tName 1)) (b := mb_law_3) (fun x s ρ o hi hf => by obtain ⟨j5853, j5854, j5855, j5856, j5857, j5858, j5859, j5860, j5861, j5862, j5863, j5864, j5865, j5866, rfl⟩ := hi; exact tb_law_3 d4053 x j5853 j5854 j5855 j5856 j5857 j5858 j5859 j5860 j5861 j5862 j5863 j5864 j5865 j5866 o hf) x5415 () _ o6769 ⟨.un, .un, .un, .un, .un, .un, .un, .un, .un, .un, .un, .un, .un, .un, rfl⟩ h6766
    rcases h with ⟨r, rfl, h⟩ | ⟨rfl, h⟩
    · refine run_seq_ct (run_for e5417 e6767) (fun t fl ρ' ho hf hq => ?_) (fun s ρ' ho hi => nomatch ho)
      cases ho
      cases h
      exact hq
    · refine run_seq_ct (run_for e5417 e6767) (fun t fl ρ' ho hf hq => nomatch ho) (fun s ρ' ho hi => ?_)
      cases ho
      obtain ⟨j6752, j6753, j6754, j6755, j6756, j6757, j6758, j6759, j6760, j6761, j6762, j6763, j6764, j6765, rfl⟩ := hi
      have e6768 : (mRv (mPl (mC (.bool true)))) [.scr d4053, j6752, j6753, j6754, j6755, j6756, j6757, j6758, j6759, j6760, j6761, j6762, j6763, j6764, .un, j6765, .un, .un] = .ok (.pl (.val (.bool true))) [.scr d4053, j6752, j6753, j6754, j6755, j6756, j6757, j6758, j6759, j6760, j6761, j6762, j6763, j6764, .un, j6765, .un, .un] := by simp []
      obtain rfl := Option.some.inj h
      exact run_ret e6768 rfl
  obtain ⟨fl, ρ', e0, e1⟩ := e0
  exact ⟨ρ', by rw [e0, e1]⟩
end Y
namespace PL
open PySem PySem.Spec L2 RT RZ
section
variable {α β : Type} (ρ ρ' : PL.Env) (i j : Nat) (d e : D) (ds es : List D) (x y : Int) (b : Bool)
@[simp] theorem q_tru_b : truD (.bool b) = some b := Eq.trans rfl rfl
@[simp] theorem q_tru_l : truD (.list ds) = some (!ds.isEmpty) := Eq.trans rfl rfl
@[simp] theorem q_tru_i : truD (.int x) = some (x != 0) := Eq.trans rfl rfl
@[simp] theorem q_tru_n : truD .none = some false := Eq.trans rfl rfl
@[simp] theorem q_add_i : gAdd (.int x) (.int y) = some (false, .int (x + y)) := Eq.trans rfl rfl
@[simp] theorem q_add_l : gAdd (.list ds) (.list es) = if ds.length + es.length ≤ 100000 then some (true, .list (ds ++ es)) else none := Eq.trans rfl rfl
@[simp] theorem q_mul_i : gMul (.int x) (.int y) = if cMulW x y = true then some (false, .int (x * y)) else none := Eq.trans rfl rfl
@[simp] theorem q_on0 (f : Int → Int → D) : onInts0 f (.int x) (.int y) = some (f x y) := Eq.trans rfl rfl
@[simp] theorem q_onIB (f : Int → Int → Bool) : onIB f (.int x) (.int y) = some (.bool (f x y)) := Eq.trans rfl rfl
@[simp] theorem q_onIBb (f : Int → Int → Bool) : onIB f (.bool b) (.int y) = some (.bool (f (if b then 1 else 0) y)) := Eq.trans rfl rfl
@[simp] theorem q_on (c : Int → Int → Bool) (f : Int → Int → D) : onInts c f (.int x) (.int y) = if c x y = true then some (f x y) else none := Eq.trans rfl rfl
@[simp] theorem q_ix_l : gIx (.list ds) (.int x) = atI ds x := Eq.trans rfl rfl
@[simp] theorem q_ix_t : gIx (.tuple ds) (.int x) = atI ds x := Eq.trans rfl rfl
@[simp] theorem q_is_n : gIs d .none = some (.bool (isNone d)) := Eq.trans rfl rfl
@[simp] theorem q_not_n : gNot d .none = some (.bool (!isNone d)) := Eq.trans rfl rfl
@[simp] theorem q_is_b : gIs (.bool b) (.bool c) = some (.bool (decide (b = c))) := Eq.trans rfl rfl
@[simp] theorem q_not_b : gNot (.bool b) (.bool c) = some (.bool (!decide (b = c))) := Eq.trans rfl rfl
@[simp] theorem q_isNone_n : isNone .none = true := Eq.trans rfl rfl
@[simp] theorem q_isNone_i : isNone (.int x) = false := Eq.trans rfl rfl
@[simp] theorem q_isNone_b : isNone (.bool b) = false := Eq.trans rfl rfl
@[simp] theorem q_isNone_l : isNone (.list ds) = false := Eq.trans rfl rfl
@[simp] theorem q_isNone_t : isNone (.tuple ds) = false := Eq.trans rfl rfl
@[simp] theorem q_isNone_s (s : Str) : isNone (.str s) = false := Eq.trans rfl rfl
@[simp] theorem q_isNone_d (kv : List (D × D)) : isNone (.dict kv) = false := Eq.trans rfl rfl
@[simp] theorem q_eq_ii : gEq (.int x) (.int y) = some (.bool (x == y)) := Eq.trans rfl rfl
@[simp] theorem q_ne_ii : gNe (.int x) (.int y) = some (.bool (!(x == y))) := Eq.trans rfl rfl
@[simp] theorem q_eq_bb (c : Bool) : gEq (.bool b) (.bool c) = some (.bool (b == c)) := Eq.trans rfl rfl
@[simp] theorem q_ne_bb (c : Bool) : gNe (.bool b) (.bool c) = some (.bool (!(b == c))) := Eq.trans rfl rfl
@[simp] theorem q_len_l : gLen [.list ds] = some (.int ds.length) := Eq.trans rfl rfl
@[simp] theorem q_len_t : gLen [.tuple ds] = some (.int ds.length) := Eq.trans rfl rfl
@[simp] theorem q_abs : gAbs [.int x] = some (.int (if x < 0 then -x else x)) := Eq.trans rfl rfl
@[simp] theorem q_max2 : gMax2 [.int x, .int y] = some (.int (if y > x then y else x)) := Eq.trans rfl rfl
@[simp] theorem q_min2 : gMin2 [.int x, .int y] = some (.int (if y < x then y else x)) := Eq.trans rfl rfl
@[simp] theorem q_int1_i : gInt1 [.int x] = some (.int x) := Eq.trans rfl rfl
@[simp] theorem q_int1_b : gInt1 [.bool b] = some (.int (if b then 1 else 0)) := Eq.trans rfl rfl
@[simp] theorem q_list_l : gList [.list ds] = some (.list ds) := Eq.trans rfl rfl
@[simp] theorem q_list_t : gList [.tuple ds] = some (.list ds) := Eq.trans rfl rfl
@[simp] theorem q_tuple_l : gTuple [.list ds] = some (.tuple ds) := Eq.trans rfl rfl
@[simp] theorem q_all : gAll [.list ds] = (bools ds).map fun bs => .bool (bs.all id) := Eq.trans rfl rfl
@[simp] theorem q_revs : gRevs (.list ds) = some (.list ds.reverse) := Eq.trans rfl rfl
@[simp] theorem q_append : gAppend ds [d] = if ds.length < 100000 then some (ds ++ [d], .none) else none := Eq.trans rfl rfl
@[simp] theorem q_isi (Ts : List String) : gIsi Ts d = some (.bool (Ts.any fun T => isTy (tyD d) T)) := Eq.trans rfl rfl
@[simp] theorem q_tyD_n : tyD .none = "NoneType" := Eq.trans rfl rfl
@[simp] theorem q_tyD_b : tyD (.bool b) = "bool" := Eq.trans rfl rfl
@[simp] theorem q_tyD_i : tyD (.int x) = "int" := Eq.trans rfl rfl
@[simp] theorem q_tyD_s (s : Str) : tyD (.str s) = "str" := Eq.trans rfl rfl
@[simp] theorem q_tyD_l : tyD (.list ds) = "list" := Eq.trans rfl rfl
@[simp] theorem q_tyD_t : tyD (.tuple ds) = "tuple" := Eq.trans rfl rfl
@[simp] theorem q_tyD_d (kv : List (D × D)) : tyD (.dict kv) = "dict" := Eq.trans rfl rfl
@[simp] theorem q_isTy (t T : String) : isTy t T = if T = "int" then (t == "int" || t == "bool") else t == T := by
  unfold isTy
  split
  · rfl
  · rename_i h; rw [if_neg (fun z => h z)]
@[simp] theorem q_items_l : itemsD (.list ds) = some (false, ds) := Eq.trans rfl rfl
@[simp] theorem q_items_t : itemsD (.tuple ds) = some (true, ds) := Eq.trans rfl rfl
@[simp] theorem q_atom_i : atom (.int x) = true := Eq.trans rfl rfl
@[simp] theorem q_atom_b : atom (.bool b) = true := Eq.trans rfl rfl
@[simp] theorem q_atom_n : atom .none = true := Eq.trans rfl rfl
@[simp] theorem q_isL : isL (.list ds) = some (.list ds) := Eq.trans rfl rfl
@[simp] theorem v_isbI (c : Bool) : gIs (.int x) (.bool c) = some (.bool false) := Eq.trans rfl rfl
@[simp] theorem v_isbN (c : Bool) : gIs .none (.bool c) = some (.bool false) := Eq.trans rfl rfl
@[simp] theorem v_isbS (s : Str) (c : Bool) : gIs (.str s) (.bool c) = some (.bool false) := Eq.trans rfl rfl
@[simp] theorem v_isbL (c : Bool) : gIs (.list ds) (.bool c) = some (.bool false) := Eq.trans rfl rfl
@[simp] theorem v_isbT (c : Bool) : gIs (.tuple ds) (.bool c) = some (.bool false) := Eq.trans rfl rfl
@[simp] theorem v_isbD (k : List (D × D)) (c : Bool) : gIs (.dict k) (.bool c) = some (.bool false) := Eq.trans rfl rfl
@[simp] theorem v_notbI (c : Bool) : gNot (.int x) (.bool c) = some (.bool true) := Eq.trans rfl rfl
@[simp] theorem v_tup2 : tup2 (.tuple [d, e]) = some (d, e) := Eq.trans rfl rfl
@[simp] theorem v_tup3 (f : D) : tup3 (.tuple [d, e, f]) = some (d, e, f) := Eq.trans rfl rfl
@[simp] theorem v_ixP : ixP (.int x) = some x := Eq.trans rfl rfl
@[simp] theorem v_atP_i : atP (.int x) = some () := Eq.trans rfl rfl
@[simp] theorem v_atP_b : atP (.bool b) = some () := Eq.trans rfl rfl
@[simp] theorem v_atP_n : atP .none = some () := Eq.trans rfl rfl
@[simp] theorem v_negP : negP (.int x) = some (.int (-x)) := Eq.trans rfl rfl
@[simp] theorem v_rng1P : rng1P (.int x) = if small62 x = true then some (rngD 0 x) else none := Eq.trans rfl rfl
@[simp] theorem v_rng2P : rng2P (.int x) (.int y) = if (small62 x && small62 y) = true then some (rngD x y) else none := Eq.trans rfl rfl
@[simp] theorem v_lrgP : lrgP (.int x) = if (decide (-100000 ≤ x) && decide (x ≤ 100000)) = true then some (.list (rngD 0 x)) else none := Eq.trans rfl rfl
@[simp] theorem v_dict1P : dict1P (.int x) d = some (.dict [(.int x, d)]) := Eq.trans rfl rfl
@[simp] theorem v_rngdP : rngdP (.int x) (.int y) = if (small62 x && small62 y) = true then some (rngdD x y) else none := Eq.trans rfl rfl
@[simp] theorem v_addV : addV (.int x) (.int y) = some (.int (x + y)) := Eq.trans rfl rfl
@[simp] theorem v_addF : addF (.list ds) (.list es) = if ds.length + es.length ≤ 100000 then some (.list (ds ++ es)) else none := by
  unfold addF; rw [q_add_l]; by_cases h : ds.length + es.length ≤ 100000 <;> simp only [h, if_true, if_false]
@[simp] theorem v_mulV : mulV (.int x) (.int y) = if cMulW x y = true then some (.int (x * y)) else none := by
  unfold mulV; rw [q_mul_i]; by_cases h : cMulW x y = true
  · rw [if_pos h, if_pos h]
  · rw [if_neg h, if_neg h]
@[simp] theorem v_slF (l h : Option Int) : slF (.list ds) l h = some (.list (cutD ds l h)) := Eq.trans rfl rfl
@[simp] theorem v_sl (l h : Option Int) : sliceD (.list ds) l h = some (true, .list (cutD ds l h)) := Eq.trans rfl rfl
@[simp] theorem v_slW (l h : Option Int) : slW (.list ds) l h = some (.list (cutD ds l h)) := Eq.trans rfl rfl
@[simp] theorem v_sliceW (l h : Option Int) : sliceW (.list ds) l h = some (false, .list (cutD ds l h)) := Eq.trans rfl rfl
@[simp] theorem v_mutP (g : List D → List D → Option (List D × D)) (as : List D) : mutP g (.list ds) as = (g ds as).map fun nr => (.list nr.1, nr.2) := Eq.trans rfl rfl
@[simp] theorem v_setP : setP (.list ds) (.int x) e = (ixN ds.length x).map fun i => .list (ds.set i e) := Eq.trans rfl rfl
@[simp] theorem v_ixSP (ns : List Int) : ixSP ns (.int x) = (atI ns x).map .int := Eq.trans rfl rfl
@[simp] theorem v_gAddI : gAddI (.int x) (.int y) = some (.int (x + y)) := Eq.trans rfl rfl
@[simp] theorem v_sorted : gSorted [.list ds] = (nums ds).map fun ns => .list ((sortI ns).map .int) := Eq.trans rfl rfl
@[simp] theorem v_neg_c : negP (.int x) = some (.int (-x)) := Eq.trans rfl rfl
@[simp] theorem v_bind1 {α γ : Type} (f : α → Option γ) (x : α) : bind1 (some x) f = f x := Eq.trans rfl rfl
@[simp] theorem v_bind1n {α γ : Type} (f : α → Option γ) : bind1 none f = none := Eq.trans rfl rfl
@[simp] theorem v_bind2 {α1 α2 γ : Type} (f : α1 → α2 → Option γ) (x1 : α1) (x2 : α2) : bind2 (some (x1, x2)) f = f x1 x2 := Eq.trans rfl rfl
@[simp] theorem v_bind2n {α1 α2 γ : Type} (f : α1 → α2 → Option γ) : bind2 none f = none := Eq.trans rfl rfl
@[simp] theorem v_bind3 {α1 α2 α3 γ : Type} (f : α1 → α2 → α3 → Option γ) (x1 : α1) (x2 : α2) (x3 : α3) : bind3 (some (x1, x2, x3)) f = f x1 x2 x3 := Eq.trans rfl rfl
@[simp] theorem v_bind3n {α1 α2 α3 γ : Type} (f : α1 → α2 → α3 → Option γ) : bind3 none f = none := Eq.trans rfl rfl
@[simp] theorem v_bind4 {α1 α2 α3 α4 γ : Type} (f : α1 → α2 → α3 → α4 → Option γ) (x1 : α1) (x2 : α2) (x3 : α3) (x4 : α4) : bind4 (some (x1, x2, x3, x4)) f = f x1 x2 x3 x4 := Eq.trans rfl rfl
@[simp] theorem v_bind4n {α1 α2 α3 α4 γ : Type} (f : α1 → α2 → α3 → α4 → Option γ) : bind4 none f = none := Eq.trans rfl rfl
@[simp] theorem v_bind5 {α1 α2 α3 α4 α5 γ : Type} (f : α1 → α2 → α3 → α4 → α5 → Option γ) (x1 : α1) (x2 : α2) (x3 : α3) (x4 : α4) (x5 : α5) : bind5 (some (x1, x2, x3, x4, x5)) f = f x1 x2 x3 x4 x5 := Eq.trans rfl rfl
@[simp] theorem v_bind5n {α1 α2 α3 α4 α5 γ : Type} (f : α1 → α2 → α3 → α4 → α5 → Option γ) : bind5 none f = none := Eq.trans rfl rfl
@[simp] theorem v_bind6 {α1 α2 α3 α4 α5 α6 γ : Type} (f : α1 → α2 → α3 → α4 → α5 → α6 → Option γ) (x1 : α1) (x2 : α2) (x3 : α3) (x4 : α4) (x5 : α5) (x6 : α6) : bind6 (some (x1, x2, x3, x4, x5, x6)) f = f x1 x2 x3 x4 x5 x6 := Eq.trans rfl rfl
@[simp] theorem v_bind6n {α1 α2 α3 α4 α5 α6 γ : Type} (f : α1 → α2 → α3 → α4 → α5 → α6 → Option γ) : bind6 none f = none := Eq.trans rfl rfl
@[simp] theorem v_bind7 {α1 α2 α3 α4 α5 α6 α7 γ : Type} (f : α1 → α2 → α3 → α4 → α5 → α6 → α7 → Option γ) (x1 : α1) (x2 : α2) (x3 : α3) (x4 : α4) (x5 : α5) (x6 : α6) (x7 : α7) : bind7 (some (x1, x2, x3, x4, x5, x6, x7)) f = f x1 x2 x3 x4 x5 x6 x7 := Eq.trans rfl rfl
@[simp] theorem v_bind7n {α1 α2 α3 α4 α5 α6 α7 γ : Type} (f : α1 → α2 → α3 → α4 → α5 → α6 → α7 → Option γ) : bind7 none f = none := Eq.trans rfl rfl
@[simp] theorem v_bind8 {α1 α2 α3 α4 α5 α6 α7 α8 γ : Type} (f : α1 → α2 → α3 → α4 → α5 → α6 → α7 → α8 → Option γ) (x1 : α1) (x2 : α2) (x3 : α3) (x4 : α4) (x5 : α5) (x6 : α6) (x7 : α7) (x8 : α8) : bind8 (some (x1, x2, x3, x4, x5, x6, x7, x8)) f = f x1 x2 x3 x4 x5 x6 x7 x8 := Eq.trans rfl rfl
@[simp] theorem v_bind8n {α1 α2 α3 α4 α5 α6 α7 α8 γ : Type} (f : α1 → α2 → α3 → α4 → α5 → α6 → α7 → α8 → Option γ) : bind8 none f = none := Eq.trans rfl rfl
@[simp] theorem v_bind9 {α1 α2 α3 α4 α5 α6 α7 α8 α9 γ : Type} (f : α1 → α2 → α3 → α4 → α5 → α6 → α7 → α8 → α9 → Option γ) (x1 : α1) (x2 : α2) (x3 : α3) (x4 : α4) (x5 : α5) (x6 : α6) (x7 : α7) (x8 : α8) (x9 : α9) : bind9 (some (x1, x2, x3, x4, x5, x6, x7, x8, x9)) f = f x1 x2 x3 x4 x5 x6 x7 x8 x9 := Eq.trans rfl rfl
@[simp] theorem v_bind9n {α1 α2 α3 α4 α5 α6 α7 α8 α9 γ : Type} (f : α1 → α2 → α3 → α4 → α5 → α6 → α7 → α8 → α9 → Option γ) : bind9 none f = none := Eq.trans rfl rfl
@[simp] theorem v_bind10 {α1 α2 α3 α4 α5 α6 α7 α8 α9 α10 γ : Type} (f : α1 → α2 → α3 → α4 → α5 → α6 → α7 → α8 → α9 → α10 → Option γ) (x1 : α1) (x2 : α2) (x3 : α3) (x4 : α4) (x5 : α5) (x6 : α6) (x7 : α7) (x8 : α8) (x9 : α9) (x10 : α10) : bind10 (some (x1, x2, x3, x4, x5, x6, x7, x8, x9, x10)) f = f x1 x2 x3 x4 x5 x6 x7 x8 x9 x10 := Eq.trans rfl rfl
@[simp] theorem v_bind10n {α1 α2 α3 α4 α5 α6 α7 α8 α9 α10 γ : Type} (f : α1 → α2 → α3 → α4 → α5 → α6 → α7 → α8 → α9 → α10 → Option γ) : bind10 none f = none := Eq.trans rfl rfl
@[simp] theorem v_ctB0 { T γ : Type} (g : T → Option γ) (f : Unit → Option γ) : ctB0 (some (.nx ())) g f = f () := Eq.trans rfl rfl
@[simp] theorem v_ctB0r { T γ : Type} (g : T → Option γ) (f : Unit → Option γ) (t : T) : ctB0 (some (.rt t)) g f = g t := Eq.trans rfl rfl
@[simp] theorem v_ctB1 {α1 T γ : Type} (g : T → Option γ) (f : α1 → Option γ) (x1 : α1) : ctB1 (some (.nx x1)) g f = f x1 := Eq.trans rfl rfl
@[simp] theorem v_ctB1r {α1 T γ : Type} (g : T → Option γ) (f : α1 → Option γ) (t : T) : ctB1 (some (.rt t)) g f = g t := Eq.trans rfl rfl
@[simp] theorem v_ctB2 {α1 α2 T γ : Type} (g : T → Option γ) (f : α1 → α2 → Option γ) (x1 : α1) (x2 : α2) : ctB2 (some (.nx (x1, x2))) g f = f x1 x2 := Eq.trans rfl rfl
@[simp] theorem v_ctB2r {α1 α2 T γ : Type} (g : T → Option γ) (f : α1 → α2 → Option γ) (t : T) : ctB2 (some (.rt t)) g f = g t := Eq.trans rfl rfl
@[simp] theorem v_ctB3 {α1 α2 α3 T γ : Type} (g : T → Option γ) (f : α1 → α2 → α3 → Option γ) (x1 : α1) (x2 : α2) (x3 : α3) : ctB3 (some (.nx (x1, x2, x3))) g f = f x1 x2 x3 := Eq.trans rfl rfl
@[simp] theorem v_ctB3r {α1 α2 α3 T γ : Type} (g : T → Option γ) (f : α1 → α2 → α3 → Option γ) (t : T) : ctB3 (some (.rt t)) g f = g t := Eq.trans rfl rfl
@[simp] theorem v_ctB4 {α1 α2 α3 α4 T γ : Type} (g : T → Option γ) (f : α1 → α2 → α3 → α4 → Option γ) (x1 : α1) (x2 : α2) (x3 : α3) (x4 : α4) : ctB4 (some (.nx (x1, x2, x3, x4))) g f = f x1 x2 x3 x4 := Eq.trans rfl rfl
@[simp] theorem v_ctB4r {α1 α2 α3 α4 T γ : Type} (g : T → Option γ) (f : α1 → α2 → α3 → α4 → Option γ) (t : T) : ctB4 (some (.rt t)) g f = g t := Eq.trans rfl rfl
@[simp] theorem v_ctB5 {α1 α2 α3 α4 α5 T γ : Type} (g : T → Option γ) (f : α1 → α2 → α3 → α4 → α5 → Option γ) (x1 : α1) (x2 : α2) (x3 : α3) (x4 : α4) (x5 : α5) : ctB5 (some (.nx (x1, x2, x3, x4, x5))) g f = f x1 x2 x3 x4 x5 := Eq.trans rfl rfl
@[simp] theorem v_ctB5r {α1 α2 α3 α4 α5 T γ : Type} (g : T → Option γ) (f : α1 → α2 → α3 → α4 → α5 → Option γ) (t : T) : ctB5 (some (.rt t)) g f = g t := Eq.trans rfl rfl
@[simp] theorem v_ctB6 {α1 α2 α3 α4 α5 α6 T γ : Type} (g : T → Option γ) (f : α1 → α2 → α3 → α4 → α5 → α6 → Option γ) (x1 : α1) (x2 : α2) (x3 : α3) (x4 : α4) (x5 : α5) (x6 : α6) : ctB6 (some (.nx (x1, x2, x3, x4, x5, x6))) g f = f x1 x2 x3 x4 x5 x6 := Eq.trans rfl rfl
@[simp] theorem v_ctB6r {α1 α2 α3 α4 α5 α6 T γ : Type} (g : T → Option γ) (f : α1 → α2 → α3 → α4 → α5 → α6 → Option γ) (t : T) : ctB6 (some (.rt t)) g f = g t := Eq.trans rfl rfl
@[simp] theorem v_ctB7 {α1 α2 α3 α4 α5 α6 α7 T γ : Type} (g : T → Option γ) (f : α1 → α2 → α3 → α4 → α5 → α6 → α7 → Option γ) (x1 : α1) (x2 : α2) (x3 : α3) (x4 : α4) (x5 : α5) (x6 : α6) (x7 : α7) : ctB7 (some (.nx (x1, x2, x3, x4, x5, x6, x7))) g f = f x1 x2 x3 x4 x5 x6 x7 := Eq.trans rfl rfl
@[simp] theorem v_ctB7r {α1 α2 α3 α4 α5 α6 α7 T γ : Type} (g : T → Option γ) (f : α1 → α2 → α3 → α4 → α5 → α6 → α7 → Option γ) (t : T) : ctB7 (some (.rt t)) g f = g t := Eq.trans rfl rfl
@[simp] theorem v_ctB8 {α1 α2 α3 α4 α5 α6 α7 α8 T γ : Type} (g : T → Option γ) (f : α1 → α2 → α3 → α4 → α5 → α6 → α7 → α8 → Option γ) (x1 : α1) (x2 : α2) (x3 : α3) (x4 : α4) (x5 : α5) (x6 : α6) (x7 : α7) (x8 : α8) : ctB8 (some (.nx (x1, x2, x3, x4, x5, x6, x7, x8))) g f = f x1 x2 x3 x4 x5 x6 x7 x8 := Eq.trans rfl rfl
@[simp] theorem v_ctB8r {α1 α2 α3 α4 α5 α6 α7 α8 T γ : Type} (g : T → Option γ) (f : α1 → α2 → α3 → α4 → α5 → α6 → α7 → α8 → Option γ) (t : T) : ctB8 (some (.rt t)) g f = g t := Eq.trans rfl rfl
@[simp] theorem v_ctB9 {α1 α2 α3 α4 α5 α6 α7 α8 α9 T γ : Type} (g : T → Option γ) (f : α1 → α2 → α3 → α4 → α5 → α6 → α7 → α8 → α9 → Option γ) (x1 : α1) (x2 : α2) (x3 : α3) (x4 : α4) (x5 : α5) (x6 : α6) (x7 : α7) (x8 : α8) (x9 : α9) : ctB9 (some (.nx (x1, x2, x3, x4, x5, x6, x7, x8, x9))) g f = f x1 x2 x3 x4 x5 x6 x7 x8 x9 := Eq.trans rfl rfl
@[simp] theorem v_ctB9r {α1 α2 α3 α4 α5 α6 α7 α8 α9 T γ : Type} (g : T → Option γ) (f : α1 → α2 → α3 → α4 → α5 → α6 → α7 → α8 → α9 → Option γ) (t : T) : ctB9 (some (.rt t)) g f = g t := Eq.trans rfl rfl
end
theorem bools_map (f : D → Bool) : ∀ ds : List D, bools (ds.map fun d => .bool (f d)) = some (ds.map f)
  | [] => rfl
  | d :: ds => by
    show (bools (ds.map fun d => .bool (f d))).map (f d :: ·) = _
    rw [bools_map f ds]; rfl
theorem nums_ints : ∀ ns : List Int, nums (ns.map PyData.int) = some ns
  | [] => rfl
  | n :: ns => by
    show (nums (ns.map PyData.int)).map (n :: ·) = _
    rw [nums_ints ns]; rfl
/-! ### loops by what holds -/
theorem foldP_inv {S : Type} {f : D → S → Option S} (I : List D → S → Prop) : ∀ (xs done : List D) (s : S), I done s →
    (∀ pre x s, x ∈ xs → pre.length < done.length + xs.length → I pre s → ∃ s', f x s = some s' ∧ I (pre ++ [x]) s') → ∃ s', foldP f xs s = some s' ∧ I (done ++ xs) s'
  | [], done, s, h0, _ => ⟨s, rfl, by rw [List.append_nil]; exact h0⟩
  | x :: xs, done, s, h0, hs => by
    obtain ⟨s1, e1, h1⟩ := hs done x s List.mem_cons_self (by rw [List.length_cons]; omega) h0
    obtain ⟨s', e2, h2⟩ := foldP_inv I xs (done ++ [x]) s1 h1 fun pre y s hy hl => hs pre y s (List.mem_cons_of_mem _ hy) (by rw [List.length_append, List.length_cons, List.length_nil] at hl; rw [List.length_cons]; omega)
    refine ⟨s', ?_, by rw [List.append_assoc] at h2; exact h2⟩
    show (f x s).bind _ = _
    rw [e1]; exact e2
/-- a fold by its invariant over what is done -/
theorem foldP_by {S : Type} {f : D → S → Option S} (I : List D → S → Prop) {xs : List D} {s : S} (h0 : I [] s)
    (hs : ∀ pre x s, x ∈ xs → pre.length < xs.length → I pre s → ∃ s', f x s = some s' ∧ I (pre ++ [x]) s') : ∃ s', foldP f xs s = some s' ∧ I xs s' := by
  have := foldP_inv I xs [] s h0 (fun pre x s hx hl => hs pre x s hx (by simpa using hl))
  simpa using this
theorem forP_inv {S T : Type} {f : D → S → Option (Ct S T)} (I : List D → S → Prop) : ∀ (xs done : List D) (s : S), I done s →
    (∀ pre x s, x ∈ xs → pre.length < done.length + xs.length → I pre s → ∃ s', f x s = some (.nx s') ∧ I (pre ++ [x]) s') → ∃ s', forP f xs s = some (.nx s') ∧ I (done ++ xs) s'
  | [], done, s, h0, _ => ⟨s, rfl, by rw [List.append_nil]; exact h0⟩
  | x :: xs, done, s, h0, hs => by
    obtain ⟨s1, e1, h1⟩ := hs done x s List.mem_cons_self (by rw [List.length_cons]; omega) h0
    obtain ⟨s', e2, h2⟩ := forP_inv I xs (done ++ [x]) s1 h1 fun pre y s hy hl => hs pre y s (List.mem_cons_of_mem _ hy) (by rw [List.length_append, List.length_cons, List.length_nil] at hl; rw [List.length_cons]; omega)
    refine ⟨s', ?_, by rw [List.append_assoc] at h2; exact h2⟩
    show (f x s).bind _ = _
    rw [e1]; exact e2
/-- a loop that is never left, by its invariant -/
theorem forP_by {S T : Type} {f : D → S → Option (Ct S T)} (I : List D → S → Prop) {xs : List D} {s : S} (h0 : I [] s)
    (hs : ∀ pre x s, x ∈ xs → pre.length < xs.length → I pre s → ∃ s', f x s = some (.nx s') ∧ I (pre ++ [x]) s') : ∃ s', forP f xs s = some (.nx s') ∧ I xs s' := by
  have := forP_inv I xs [] s h0 (fun pre x s hx hl => hs pre x s hx (by simpa using hl))
  simpa using this
theorem mapP_of {f : D → Option D} {φ : D → D} : ∀ {xs : List D}, (∀ x ∈ xs, f x = some (φ x)) → mapP f xs = some (xs.map φ)
  | [], _ => rfl
  | x :: xs, h => by
    show (f x).bind _ = _
    rw [h x List.mem_cons_self, Option.bind_some, mapP_of fun y hy => h y (List.mem_cons_of_mem _ hy)]; rfl
theorem mapT_of {f : D → Option D} {φ : D → D} {xs : List D} (hl : xs.length ≤ 100000) (h : ∀ x ∈ xs, f x = some (φ x)) : mapT f xs = some (xs.map φ) := by
  unfold mapT
  rw [mapP_of h, Option.bind_some, if_pos (by rw [List.length_map]; exact hl)]
theorem filP_of {f : D → Option (Option D)} {φ : D → Option D} : ∀ {xs : List D}, (∀ x ∈ xs, f x = some (φ x)) → filP f xs = some (xs.filterMap φ)
  | [], _ => rfl
  | x :: xs, h => by
    show (f x).bind _ = _
    rw [h x List.mem_cons_self, Option.bind_some, filP_of fun y hy => h y (List.mem_cons_of_mem _ hy), Option.bind_some, List.filterMap_cons]
    cases φ x <;> rfl
theorem filT_of {f : D → Option (Option D)} {φ : D → Option D} {xs : List D} (hl : xs.length ≤ 100000) (h : ∀ x ∈ xs, f x = some (φ x)) : filT f xs = some (xs.filterMap φ) := by
  unfold filT
  rw [filP_of h, Option.bind_some, if_pos (Nat.le_trans (List.length_filterMap_le _ _) hl)]
/-- the same, typed: the things gone through are written -/
theorem mapT_enc {α : Type} {f : D → Option D} {e : α → D} {φ : α → D} {xs : List α} (hl : xs.length ≤ 100000) (h : ∀ x ∈ xs, f (e x) = some (φ x)) : mapT f (xs.map e) = some (xs.map φ) := by
  have key : ∀ ys : List α, (∀ x ∈ ys, f (e x) = some (φ x)) → mapP f (ys.map e) = some (ys.map φ) := by
    intro ys
    induction ys with
    | nil => intro _; rfl
    | cons y ys ih =>
      intro h
      show (f (e y)).bind _ = _
      rw [h y List.mem_cons_self, Option.bind_some, ih fun z hz => h z (List.mem_cons_of_mem _ hz)]; rfl
  unfold mapT
  rw [key xs h, Option.bind_some, if_pos (by rw [List.length_map]; exact hl)]
theorem foldP_enc {α S : Type} {f : D → S → Option S} {e : α → D} (I : List α → S → Prop) {xs : List α} {s : S} (h0 : I [] s)
    (hs : ∀ pre x post s, xs = pre ++ x :: post → I pre s → ∃ s', f (e x) s = some s' ∧ I (pre ++ [x]) s') : ∃ s', foldP f (xs.map e) s = some s' ∧ I xs s' := by
  have key : ∀ (ys done : List α) (s : S), xs = done ++ ys → I done s → ∃ s', foldP f (ys.map e) s = some s' ∧ I xs s' := by
    intro ys
    induction ys with
    | nil => intro done s hx hi; rw [List.append_nil] at hx; subst hx; exact ⟨s, rfl, hi⟩
    | cons y ys ih =>
      intro done s hx hi
      obtain ⟨s1, e1, h1⟩ := hs done y ys s hx hi
      obtain ⟨s', e2, h2⟩ := ih (done ++ [y]) s1 (by rw [hx, List.append_assoc]; rfl) h1
      refine ⟨s', ?_, h2⟩
      show (f (e y) s).bind _ = _
      rw [e1]; exact e2
  exact key xs [] s rfl h0
theorem forP_enc {α S T : Type} {f : D → S → Option (Ct S T)} {e : α → D} (I : List α → S → Prop) {xs : List α} {s : S} (h0 : I [] s)
    (hs : ∀ pre x post s, xs = pre ++ x :: post → I pre s → ∃ s', f (e x) s = some (.nx s') ∧ I (pre ++ [x]) s') : ∃ s', forP f (xs.map e) s = some (.nx s') ∧ I xs s' := by
  have key : ∀ (ys done : List α) (s : S), xs = done ++ ys → I done s → ∃ s', forP f (ys.map e) s = some (.nx s') ∧ I xs s' := by
    intro ys
    induction ys with
    | nil => intro done s hx hi; rw [List.append_nil] at hx; subst hx; exact ⟨s, rfl, hi⟩
    | cons y ys ih =>
      intro done s hx hi
      obtain ⟨s1, e1, h1⟩ := hs done y ys s hx hi
      obtain ⟨s', e2, h2⟩ := ih (done ++ [y]) s1 (by rw [hx, List.append_assoc]; rfl) h1
      refine ⟨s', ?_, h2⟩
      show (f (e y) s).bind _ = _
      rw [e1]; exact e2
  exact key xs [] s rfl h0
end PL
namespace PL
open PySem PySem.Spec L2 RT RZ
section
variable (d e x : D) (ds es fs : List D) (ks : List (D × D)) (i j : Int)
@[simp] theorem v_ixA_d : gIxA (.dict ks) (.int i) = lookD ks i := Eq.trans rfl rfl
@[simp] theorem v_ixA_l : gIxA (.list ds) (.int i) = atI ds i := Eq.trans rfl rfl
@[simp] theorem v_isDct : isDct (.dict ks) = some () := Eq.trans rfl rfl
@[simp] theorem v_get2 : get2D (.dict ks) (.int i) x = some ((lookD ks i).getD x) := Eq.trans rfl rfl
@[simp] theorem v_dputP : dputP (.dict ks) (.int i) x = if ks.length < 100000 then some (.dict (putD ks i x)) else none := Eq.trans rfl rfl
@[simp] theorem v_sortedA_d : gSortedA [.dict ks] = (keyInts ks).map fun ns => .list ((sortI ns).map .int) := Eq.trans rfl rfl
@[simp] theorem v_sortedA_l : gSortedA [.list ds] = (nums ds).map fun ns => .list ((sortI ns).map .int) := Eq.trans rfl rfl
@[simp] theorem v_sortSet : gSortSet (.list ds) = if ds.length ≤ 4000 then (nums ds).map fun ns => .list ((uniqI ns).map .int) else none := Eq.trans rfl rfl
@[simp] theorem v_zip3P : zip3P (.list ds) (.list es) (.list fs) = some (z3 ds es fs) := Eq.trans rfl rfl
end
end PL
namespace Y
open PySem PL L2
/-! ### tables as what holds at each company -/
abbrev Tab := List (Int × Int)
def lvF : Int → Tab → Int → Int
  | m, [], _ => m
  | m, p :: r, c => if p.1 ≤ c then lvF p.2 r c else m
def lv (t : Tab) (c : Int) : Int := lvF 0 t c
/-- rising beyond a -/
def Rise : Int → Tab → Prop
  | _, [] => True
  | a, p :: r => a < p.1 ∧ Rise p.1 r
theorem Rise.mono {a b : Int} : ∀ {t : Tab}, Rise a t → b ≤ a → Rise b t
  | [], _, _ => trivial
  | p :: r, h, hb => ⟨by have := h.1; omega, h.2⟩
theorem Rise.all {a : Int} : ∀ {t : Tab}, Rise a t → ∀ p ∈ t, a < p.1
  | [], _, _, hp => by cases hp
  | q :: r, h, p, hp => by
    rcases List.mem_cons.mp hp with rfl | hp
    · exact h.1
    · have := h.2.all p hp
      have := h.1
      omega
theorem lvF_low {a : Int} : ∀ {t : Tab} {m c : Int}, Rise a t → c ≤ a → lvF m t c = m
  | [], _, _, _, _ => rfl
  | p :: r, m, c, h, hc => by
    have h1 := h.1
    unfold lvF
    rw [if_neg (by omega)]
/-- rising beyond a, each many from nought on and unlike the one ahead -/
def Can : Int → Int → Tab → Prop
  | _, _, [] => True
  | a, l, p :: r => a < p.1 ∧ l ≠ p.2 ∧ 0 ≤ p.2 ∧ Can p.1 p.2 r
theorem Can.rise : ∀ {t : Tab} {a l : Int}, Can a l t → Rise a t
  | [], _, _, _ => trivial
  | _ :: _, _, _, h => ⟨h.1, Can.rise h.2.2.2⟩
theorem can_one : ∀ {r r' : Tab} {a m : Int}, Can a m r → Can a m r' → (∀ c, a ≤ c → lvF m r c = lvF m r' c) → r = r'
  | [], [], _, _, _, _, _ => rfl
  | [], q :: s, a, m, _, h', e => by
    have e1 := e q.1 (by have := h'.1; omega)
    unfold lvF at e1
    rw [if_pos (Int.le_refl _), lvF_low h'.2.2.2.rise (Int.le_refl _)] at e1
    exact absurd e1 h'.2.1
  | p :: r, [], a, m, h, _, e => by
    have e1 := e p.1 (by have := h.1; omega)
    unfold lvF at e1
    rw [if_pos (Int.le_refl _), lvF_low h.2.2.2.rise (Int.le_refl _)] at e1
    exact absurd e1.symm h.2.1
  | p :: r, q :: s, a, m, h, h', e => by
    have hp := h.1
    have hq := h'.1
    have ep := e p.1 (by omega)
    have eq := e q.1 (by omega)
    simp only [lvF] at ep eq
    rw [if_pos (Int.le_refl _), lvF_low h.2.2.2.rise (Int.le_refl _)] at ep
    rw [if_pos (Int.le_refl (q.1)), lvF_low h'.2.2.2.rise (Int.le_refl _)] at eq
    rcases Int.lt_trichotomy p.1 q.1 with hl | hl | hl
    · rw [if_neg (by omega)] at ep
      exact absurd ep.symm h.2.1
    · rw [if_pos (by omega), lvF_low h'.2.2.2.rise (by omega)] at ep
      have : p = q := Prod.ext hl ep
      subst this
      refine congrArg _ (can_one h.2.2.2 h'.2.2.2 fun c hc => ?_)
      have := e c (by omega)
      simp only [lvF] at this
      rwa [if_pos hc, if_pos hc] at this
    · rw [if_neg (by omega)] at eq
      exact absurd eq h'.2.1
/-- a table -/
def IsTab (t : Tab) : Prop := ∃ m r, t = (0, m) :: r ∧ 0 ≤ m ∧ Can 0 m r
theorem lv_head (m : Int) (r : Tab) {c : Int} (hc : 0 ≤ c) : lv ((0, m) :: r) c = lvF m r c := by
  show (if (0 : Int) ≤ c then lvF m r c else 0) = _
  rw [if_pos hc]
theorem tab_one {t t' : Tab} (h : IsTab t) (h' : IsTab t') (e : ∀ c, 0 ≤ c → lv t c = lv t' c) : t = t' := by
  obtain ⟨m, r, rfl, _, k⟩ := h
  obtain ⟨m', r', rfl, _, k'⟩ := h'
  have e0 := e 0 (Int.le_refl _)
  rw [lv_head _ _ (Int.le_refl _), lv_head _ _ (Int.le_refl _), lvF_low k.rise (Int.le_refl _), lvF_low k'.rise (Int.le_refl _)] at e0
  subst e0
  rw [can_one k k' fun c hc => by rw [← lv_head m r hc, ← lv_head m r' hc]; exact e c hc]
structure TabOf (t : Tab) (f : Int → Int) : Prop where
  tab : IsTab t
  at_ : ∀ c, 0 ≤ c → lv t c = f c
theorem TabOf.one {t t' : Tab} {f : Int → Int} (h : TabOf t f) (h' : TabOf t' f) : t = t' := tab_one h.tab h'.tab fun c hc => by rw [h.at_ c hc, h'.at_ c hc]
theorem TabOf.congr {t : Tab} {f g : Int → Int} (h : TabOf t f) (e : ∀ c, 0 ≤ c → f c = g c) : TabOf t g := ⟨h.tab, fun c hc => by rw [h.at_ c hc, e c hc]⟩
theorem lvF_nn : ∀ {t : Tab} {m a l : Int}, Can a l t → 0 ≤ m → ∀ c, 0 ≤ lvF m t c
  | [], _, _, _, _, hm, _ => hm
  | p :: r, m, a, l, h, hm, c => by
    unfold lvF
    split
    · exact lvF_nn h.2.2.2 h.2.2.1 c
    · exact hm
theorem IsTab.nn {t : Tab} (h : IsTab t) (c : Int) : 0 ≤ lv t c := by
  obtain ⟨m, r, rfl, hm, k⟩ := h
  show 0 ≤ (if (0 : Int) ≤ c then lvF m r c else 0)
  split
  · exact lvF_nn k hm c
  · omega
theorem TabOf.nn {t : Tab} {f : Int → Int} (h : TabOf t f) {c : Int} (hc : 0 ≤ c) : 0 ≤ f c := by rw [← h.at_ c hc]; exact h.tab.nn c
/-- at an index -/
theorem lvF_ix : ∀ {t : Tab} {a m c : Int} (i : Nat) (hi : i < t.length), Rise a t → t[i].1 ≤ c → (∀ h : i + 1 < t.length, c < t[i + 1].1) → lvF m t c = t[i].2
  | [], _, _, _, _, hi, _, _, _ => by simp at hi
  | p :: r, a, m, c, 0, _, h, h1, h2 => by
    have h1' : p.1 ≤ c := h1
    show (if p.1 ≤ c then lvF p.2 r c else m) = p.2
    rw [if_pos h1']
    cases r with
    | nil => rfl
    | cons q s =>
      have : c < q.1 := h2 (by simp)
      show (if q.1 ≤ c then _ else _) = _
      rw [if_neg (by omega)]
  | p :: r, a, m, c, i + 1, hi, h, h1, h2 => by
    have hi' : i < r.length := by simpa using hi
    have hr : p.1 < r[i].1 := h.2.all _ (List.getElem_mem hi')
    have h1' : r[i].1 ≤ c := h1
    show (if p.1 ≤ c then lvF p.2 r c else m) = r[i].2
    rw [if_pos (by omega)]
    exact lvF_ix i hi' h.2 h1' fun hx => h2 (by simpa using hx)
theorem lv_ix {t : Tab} {a c : Int} (i : Nat) (hi : i < t.length) (h : Rise a t) (h1 : t[i].1 ≤ c) (h2 : ∀ h : i + 1 < t.length, c < t[i + 1].1) : lv t c = t[i].2 := lvF_ix i hi h h1 h2
theorem IsTab.rise {t : Tab} (h : IsTab t) : Rise (-1) t := by
  obtain ⟨m, r, rfl, _, k⟩ := h
  exact ⟨by show (-1 : Int) < 0; omega, k.rise⟩
theorem IsTab.ne {t : Tab} (h : IsTab t) : 0 < t.length := by
  obtain ⟨m, r, rfl, _, _⟩ := h
  simp
theorem IsTab.head {t : Tab} (h : IsTab t) : (t[0]'h.ne).1 = 0 := by
  obtain ⟨m, r, rfl, _, _⟩ := h
  rfl
theorem Rise.lt {a : Int} : ∀ {t : Tab} {i j : Nat} (hj : j < t.length) (hij : i < j), Rise a t → (t[i]'(by omega)).1 < t[j].1
  | [], _, _, hj, _, _ => by simp at hj
  | p :: r, 0, j + 1, hj, _, h => by
    have hj' : j < r.length := by simpa using hj
    exact h.2.all r[j] (List.getElem_mem hj')
  | p :: r, i + 1, j + 1, hj, hij, h => Rise.lt (t := r) (by simpa using hj) (by omega) h.2
  | p :: r, i, 0, _, hij, _ => by omega
theorem Rise.le {a : Int} {t : Tab} {i j : Nat} (hj : j < t.length) (hij : i ≤ j) (h : Rise a t) : (t[i]'(by omega)).1 ≤ t[j].1 := by
  rcases Nat.lt_or_eq_of_le hij with h1 | h1
  · exact Int.le_of_lt (h.lt hj h1)
  · subst h1; exact Int.le_refl _
/-- steps at which nothing changes left out -/
def lvl : Option Int → Tab → Tab
  | _, [] => []
  | l, p :: r => if l = some p.2 then lvl l r else p :: lvl (some p.2) r
theorem lvl_can : ∀ {t : Tab} {a l : Int}, Rise a t → (∀ p ∈ t, 0 ≤ p.2) → Can a l (lvl (some l) t)
  | [], _, _, _, _ => trivial
  | p :: r, a, l, h, hn => by
    have hn' : ∀ q ∈ r, 0 ≤ q.2 := fun q hq => hn q (List.mem_cons_of_mem _ hq)
    have hp := h.1
    unfold lvl
    split
    · exact lvl_can (h.2.mono (by omega)) hn'
    · rename_i hne
      exact ⟨hp, fun e => hne (by rw [e]), hn p List.mem_cons_self, lvl_can h.2 hn'⟩
theorem lvl_lv : ∀ {t : Tab} {a m c : Int}, Rise a t → lvF m (lvl (some m) t) c = lvF m t c
  | [], _, _, _, _ => rfl
  | p :: r, a, m, c, h => by
    unfold lvl
    split
    · rename_i e
      have e : m = p.2 := Option.some.inj e
      rw [lvl_lv h.2]
      show _ = (if p.1 ≤ c then lvF p.2 r c else m)
      split
      · rw [e]
      · rename_i hc
        exact lvF_low h.2 (by omega)
    · show (if p.1 ≤ c then lvF p.2 (lvl (some p.2) r) c else m) = (if p.1 ≤ c then lvF p.2 r c else m)
      rw [lvl_lv h.2]
theorem lvl_tab {m : Int} {r : Tab} (hm : 0 ≤ m) (h : Rise 0 r) (hn : ∀ p ∈ r, 0 ≤ p.2) : TabOf (lvl none ((0, m) :: r)) (lv ((0, m) :: r)) := by
  have e : lvl none ((0, m) :: r) = (0, m) :: lvl (some m) r := by
    show (if (none : Option Int) = some m then lvl none r else (0, m) :: lvl (some m) r) = _
    rw [if_neg (fun z => nomatch z)]
  rw [e]
  refine ⟨⟨m, _, rfl, hm, lvl_can h hn⟩, fun c hc => ?_⟩
  rw [lv_head _ _ hc, lv_head _ _ hc, lvl_lv h]
/-- what holds at points, nothing changing between them -/
def ptsT (f : Int → Int) (ps : List Int) : Tab := ps.map fun c => (c, f c)
theorem ptsT_rise {f : Int → Int} : ∀ {ps : List Int} {a : Int}, (a :: ps).Pairwise (· < ·) → Rise a (ptsT f ps)
  | [], _, _ => trivial
  | p :: ps, a, h => by
    obtain ⟨h1, h2⟩ := List.pairwise_cons.mp h
    exact ⟨h1 p List.mem_cons_self, ptsT_rise h2⟩
theorem ptsT_lv {f : Int → Int} : ∀ {ps : List Int} {a c : Int}, (a :: ps).Pairwise (· < ·) → a ≤ c → (∀ p ∈ a :: ps, p ≤ c → (∀ q ∈ a :: ps, p < q → c < q) → f c = f p) → lvF (f a) (ptsT f ps) c = f c
  | [], a, c, _, hc, h => (h a List.mem_cons_self hc (by simp)).symm
  | p :: ps, a, c, hs, hc, h => by
    obtain ⟨h1, h2⟩ := List.pairwise_cons.mp hs
    show (if p ≤ c then lvF (f p) (ptsT f ps) c else f a) = f c
    split
    · rename_i hp
      refine ptsT_lv h2 hp fun q hq hqc hn => h q (List.mem_cons_of_mem _ hq) hqc fun z hz hzq => ?_
      rcases List.mem_cons.mp hz with rfl | hz
      · have := h1 q hq
        omega
      · exact hn z hz hzq
    · rename_i hp
      refine (h a List.mem_cons_self hc fun q hq hqa => ?_).symm
      rcases List.mem_cons.mp hq with rfl | hq
      · omega
      · have : p ≤ q := by
          rcases List.mem_cons.mp hq with rfl | hq
          · omega
          · have := (List.pairwise_cons.mp h2).1 q hq
            omega
        omega
theorem pts_tab {f : Int → Int} {ps : List Int} (hs : (0 :: ps).Pairwise (· < ·)) (hn : ∀ p ∈ 0 :: ps, 0 ≤ f p) (h : ∀ c, 0 ≤ c → ∀ p ∈ 0 :: ps, p ≤ c → (∀ q ∈ 0 :: ps, p < q → c < q) → f c = f p) :
    TabOf (lvl none (ptsT f (0 :: ps))) f := by
  have e : ptsT f (0 :: ps) = (0, f 0) :: ptsT f ps := rfl
  rw [e]
  refine (lvl_tab (hn 0 List.mem_cons_self) (ptsT_rise hs) fun p hp => ?_).congr fun c hc => ?_
  · obtain ⟨q, hq, rfl⟩ := List.mem_map.mp hp
    exact hn q (List.mem_cons_of_mem _ hq)
  · rw [lv_head _ _ hc]
    exact ptsT_lv hs hc fun p hp hpc hq => h c hc p hp hpc hq
/-- a while loop by its invariant -/
theorem whP_by {S T : Type} {c : S → Option Bool} {f : S → Option (Ct S T)} (I : S → Prop) (m : S → Nat) (Q : S → Prop)
    (hs : ∀ s, I s → (c s = some false ∧ Q s) ∨ (c s = some true ∧ ∃ s', f s = some (.nx s') ∧ I s' ∧ m s' < m s)) : ∀ (n : Nat) (s : S), I s → m s < n → ∃ s', whP c f n s = some (.nx s') ∧ Q s'
  | 0, s, _, h => by omega
  | n + 1, s, hi, h => by
    rcases hs s hi with ⟨h1, h2⟩ | ⟨h1, s', h2, h3, h4⟩
    · exact ⟨s, by simp [whP, h1], h2⟩
    · obtain ⟨s2, e, q⟩ := whP_by I m Q hs n s' h3 (by omega)
      exact ⟨s2, by simp [whP, h1, h2, e], q⟩
end Y
namespace Y
open PySem PL L2
/-! ### dicts of numbers, typed -/
abbrev Dct := List (Int × Int)
def dcL (kv : Dct) : List (D × D) := kv.map fun p => (.int p.1, .int p.2)
def dcD (kv : Dct) : D := .dict (dcL kv)
@[simp] theorem dcL_len (kv : Dct) : (dcL kv).length = kv.length := by simp [dcL]
def lookI : Dct → Int → Option Int
  | [], _ => none
  | p :: r, i => if p.1 = i then some p.2 else lookI r i
def keysI (kv : Dct) : List Int := kv.map (·.1)
def sumI (kv : Dct) (c : Int) : Int := (kv.map fun p => if p.1 ≤ c then p.2 else 0).sum
def updI (kv : Dct) (k : Int) (f : Int → Int) : Dct := match kv with
  | [] => [(k, f 0)]
  | p :: r => if p.1 = k then (p.1, f p.2) :: r else p :: updI r k f
theorem look_dc : ∀ (kv : Dct) (i : Int), lookD (dcL kv) i = (lookI kv i).map PyData.int
  | [], _ => rfl
  | p :: r, i => by
    show (if decide (p.1 = i) = true then some (PyData.int p.2) else lookD (dcL r) i) = (if p.1 = i then some p.2 else lookI r i).map PyData.int
    rw [look_dc r i]
    by_cases h : p.1 = i <;> simp [h]
theorem getD_dc (kv : Dct) (i : Int) : (lookD (dcL kv) i).getD (.int 0) = .int ((lookI kv i).getD 0) := by
  rw [look_dc]
  cases lookI kv i <;> rfl
theorem any_dc : ∀ (kv : Dct) (k : Int), ((dcL kv).any fun p => isKI p.1 k) = decide (k ∈ keysI kv)
  | [], _ => rfl
  | p :: r, k => by
    show (decide (p.1 = k) || (dcL r).any fun p => isKI p.1 k) = decide (k ∈ p.1 :: keysI r)
    rw [any_dc r k]
    by_cases h : p.1 = k
    · simp [h]
    · have h' : ¬ k = p.1 := fun z => h z.symm
      simp [h, h']
theorem map_dc (k v : Int) : ∀ (kv : Dct), k ∉ keysI kv → (dcL kv).map (fun p => if isKI p.1 k = true then (p.1, PyData.int v) else p) = dcL kv
  | [], _ => rfl
  | p :: r, h => by
    have h1 : ¬ p.1 = k := fun z => h (by rw [← z]; exact List.mem_cons_self)
    have h2 : k ∉ keysI r := fun z => h (List.mem_cons_of_mem _ z)
    have ih := map_dc k v r h2
    show (if decide (p.1 = k) = true then (PyData.int p.1, PyData.int v) else (.int p.1, .int p.2)) :: (dcL r).map _ = _
    rw [ih]
    simp [h1]
    rfl
theorem put_dc (f : Int → Int) : ∀ (kv : Dct) (k : Int), (keysI kv).Nodup → putD (dcL kv) k (.int (f ((lookI kv k).getD 0))) = dcL (updI kv k f)
  | [], k, _ => rfl
  | p :: r, k, hn => by
    obtain ⟨h1, h2⟩ := List.nodup_cons.mp hn
    unfold putD
    rw [any_dc]
    by_cases h : p.1 = k
    · have hm : k ∈ keysI (p :: r) := by rw [← h]; exact List.mem_cons_self
      rw [decide_eq_true hm, if_pos rfl]
      have e : lookI (p :: r) k = some p.2 := by show (if p.1 = k then some p.2 else _) = _; rw [if_pos h]
      rw [e]
      show (if decide (p.1 = k) = true then (PyData.int p.1, PyData.int (f p.2)) else (.int p.1, .int p.2)) :: (dcL r).map _ = dcL (if p.1 = k then (p.1, f p.2) :: r else p :: updI r k f)
      rw [if_pos (decide_eq_true h), if_pos h, map_dc k _ r (by rw [← h]; exact h1)]
      rfl
    · have e : lookI (p :: r) k = lookI r k := by show (if p.1 = k then some p.2 else _) = _; rw [if_neg h]
      have e2 : updI (p :: r) k f = p :: updI r k f := by show (if p.1 = k then _ else _) = _; rw [if_neg h]
      have ih := put_dc f r k h2
      unfold putD at ih
      rw [any_dc] at ih
      rw [e, e2]
      have hk : ¬ k = p.1 := fun z => h z.symm
      by_cases hm : k ∈ keysI r
      · rw [decide_eq_true hm, if_pos rfl] at ih
        have hm' : k ∈ keysI (p :: r) := List.mem_cons_of_mem _ hm
        rw [decide_eq_true hm', if_pos rfl]
        show (if decide (p.1 = k) = true then (PyData.int p.1, _) else (PyData.int p.1, PyData.int p.2)) :: (dcL r).map _ = (PyData.int p.1, PyData.int p.2) :: dcL (updI r k f)
        rw [ih]
        simp [h]
      · rw [decide_eq_false hm, if_neg Bool.false_ne_true] at ih
        have hm' : k ∉ keysI (p :: r) := fun z => by
          rcases List.mem_cons.mp z with z | z
          · exact hk z
          · exact hm z
        rw [decide_eq_false hm', if_neg Bool.false_ne_true]
        show (PyData.int p.1, PyData.int p.2) :: (dcL r ++ _) = (PyData.int p.1, PyData.int p.2) :: dcL (updI r k f)
        rw [ih]
theorem sum_upd (d : Int) (c : Int) : ∀ (kv : Dct) (k : Int), sumI (updI kv k (· + d)) c = sumI kv c + if k ≤ c then d else 0
  | [], k => by
    show (if k ≤ c then 0 + d else 0) + 0 = 0 + _
    split <;> omega
  | p :: r, k => by
    have ih := sum_upd d c r k
    show sumI (if p.1 = k then (p.1, p.2 + d) :: r else p :: updI r k (· + d)) c = (if p.1 ≤ c then p.2 else 0) + sumI r c + _
    by_cases h : p.1 = k
    · rw [if_pos h]
      show (if p.1 ≤ c then p.2 + d else 0) + sumI r c = _
      rw [h]
      split <;> omega
    · rw [if_neg h]
      show (if p.1 ≤ c then p.2 else 0) + sumI (updI r k (· + d)) c = _
      rw [ih]
      omega
theorem upd_mem (f : Int → Int) (k j : Int) : ∀ (kv : Dct), j ∈ keysI (updI kv k f) ↔ j = k ∨ j ∈ keysI kv
  | [] => by show j ∈ [k] ↔ j = k ∨ j ∈ []; simp
  | p :: r => by
    have ih := upd_mem f k j r
    show j ∈ keysI (if p.1 = k then (p.1, f p.2) :: r else p :: updI r k f) ↔ j = k ∨ j ∈ p.1 :: keysI r
    by_cases h : p.1 = k
    · rw [if_pos h]
      show j ∈ p.1 :: keysI r ↔ _
      rw [List.mem_cons, h]
      constructor
      · rintro (z | z)
        · exact .inl z
        · exact .inr (.inr z)
      · rintro (z | z | z)
        · exact .inl z
        · exact .inl z
        · exact .inr z
    · rw [if_neg h]
      show j ∈ p.1 :: keysI (updI r k f) ↔ _
      rw [List.mem_cons, List.mem_cons, ih]
      constructor
      · rintro (z | z | z)
        · exact .inr (.inl z)
        · exact .inl z
        · exact .inr (.inr z)
      · rintro (z | z | z)
        · exact .inr (.inl z)
        · exact .inl z
        · exact .inr (.inr z)
theorem upd_nodup (f : Int → Int) (k : Int) : ∀ (kv : Dct), (keysI kv).Nodup → (keysI (updI kv k f)).Nodup
  | [], _ => by show [k].Nodup; simp
  | p :: r, h => by
    obtain ⟨h1, h2⟩ := List.nodup_cons.mp h
    show (keysI (if p.1 = k then (p.1, f p.2) :: r else p :: updI r k f)).Nodup
    by_cases he : p.1 = k
    · rw [if_pos he]; exact h
    · rw [if_neg he]
      refine List.nodup_cons.mpr ⟨fun z => ?_, upd_nodup f k r h2⟩
      rcases (upd_mem f k p.1 r).mp z with z | z
      · exact he z
      · exact h1 z
theorem upd_len (f : Int → Int) (k : Int) : ∀ (kv : Dct), (updI kv k f).length ≤ kv.length + 1
  | [] => Nat.le_refl _
  | p :: r => by
    have := upd_len f k r
    show (if p.1 = k then (p.1, f p.2) :: r else p :: updI r k f).length ≤ _
    split
    · simp
    · simp; omega
/-- between keys nothing changes -/
theorem sum_const {a x : Int} (hax : a ≤ x) : ∀ (kv : Dct), (∀ k ∈ keysI kv, k ≤ a ∨ x < k) → sumI kv x = sumI kv a
  | [], _ => rfl
  | p :: r, h => by
    have ih := sum_const hax r fun k hk => h k (List.mem_cons_of_mem _ hk)
    have hp := h p.1 List.mem_cons_self
    show (if p.1 ≤ x then p.2 else 0) + sumI r x = (if p.1 ≤ a then p.2 else 0) + sumI r a
    rw [ih]
    rcases hp with hp | hp
    · rw [if_pos (by omega), if_pos hp]
    · rw [if_neg (by omega), if_neg (by omega)]
theorem sum_step {a x : Int} (hax : a < x) : ∀ (kv : Dct), (keysI kv).Nodup → (∀ k ∈ keysI kv, k ≤ a ∨ x ≤ k) → sumI kv x = sumI kv a + (lookI kv x).getD 0
  | [], _, _ => by show (0 : Int) = 0 + 0; omega
  | p :: r, hn, h => by
    obtain ⟨h1, h2⟩ := List.nodup_cons.mp hn
    have hp := h p.1 List.mem_cons_self
    have hr : ∀ k ∈ keysI r, k ≤ a ∨ x ≤ k := fun k hk => h k (List.mem_cons_of_mem _ hk)
    show (if p.1 ≤ x then p.2 else 0) + sumI r x = (if p.1 ≤ a then p.2 else 0) + sumI r a + (if p.1 = x then some p.2 else lookI r x).getD 0
    by_cases he : p.1 = x
    · have : sumI r x = sumI r a := sum_const (by omega) r fun k hk => by
        rcases hr k hk with z | z
        · exact .inl z
        · refine .inr (Int.lt_iff_le_and_ne.mpr ⟨z, fun e => h1 (show p.1 ∈ keysI r by rw [he, e]; exact hk)⟩)
      rw [if_pos he, this, if_pos (by omega), if_neg (by omega)]
      show p.2 + sumI r a = 0 + sumI r a + p.2
      omega
    · rw [if_neg he, sum_step hax r h2 hr]
      rcases hp with hp | hp
      · rw [if_pos (by omega), if_pos hp]; omega
      · rw [if_neg (by omega), if_neg (by omega)]; omega
theorem sum_low {c : Int} : ∀ (kv : Dct), (∀ k ∈ keysI kv, c < k) → sumI kv c = 0
  | [], _ => rfl
  | p :: r, h => by
    have ih := sum_low r fun k hk => h k (List.mem_cons_of_mem _ hk)
    show (if p.1 ≤ c then p.2 else 0) + sumI r c = 0
    rw [ih, if_neg (by have := h p.1 List.mem_cons_self; omega)]
    omega
theorem keys_dc : ∀ (kv : Dct), keyInts (dcL kv) = some (keysI kv)
  | [] => rfl
  | p :: r => by
    show (keyInts (dcL r)).map (p.1 :: ·) = _
    rw [keys_dc r]; rfl
theorem sorted_lt {ns : List Int} (h : ns.Nodup) : (sortI ns).Pairwise (· < ·) := by
  have h1 := sortI_le ns
  have h2 : (sortI ns).Nodup := (sortI_perm ns).nodup_iff.mpr h
  exact (List.pairwise_and_iff.mpr ⟨h1, h2⟩).imp fun ⟨x, y⟩ => by omega
/-- the points of a dict's changes -/
def ptsOf (kv : Dct) : List Int := (sortI (keysI kv)).filter fun k => decide (0 < k)
theorem dct_tab {kv : Dct} (hn : (keysI kv).Nodup) (h0 : ∀ c, 0 ≤ c → 0 ≤ sumI kv c) : TabOf (lvl none (ptsT (sumI kv) (0 :: ptsOf kv))) (sumI kv) := by
  refine pts_tab ?_ (fun p hp => h0 p ?_) fun c hc p hp hpc hq => ?_
  · refine List.pairwise_cons.mpr ⟨fun q hq => ?_, ((sorted_lt hn).sublist List.filter_sublist)⟩
    have := (List.mem_filter.mp hq).2
    simpa using this
  · rcases List.mem_cons.mp hp with rfl | hp
    · omega
    · have := (List.mem_filter.mp hp).2
      simp at this
      omega
  · refine sum_const hpc kv fun k hk => ?_
    by_cases hkp : k ≤ p
    · exact .inl hkp
    · refine .inr (hq k (List.mem_cons_of_mem _ (List.mem_filter.mpr ⟨(sortI_perm _).mem_iff.mpr hk, ?_⟩)) (by omega))
      have : 0 ≤ p := by
        rcases List.mem_cons.mp hp with rfl | hp
        · omega
        · have := (List.mem_filter.mp hp).2
          simp at this
          omega
      simp; omega
end Y
namespace Y
open PySem PL L2
theorem filMap_congr {α β : Type} {f g : α → Option β} : ∀ {xs : List α}, (∀ x ∈ xs, f x = g x) → xs.filterMap f = xs.filterMap g
  | [], _ => rfl
  | x :: xs, h => by
    rw [List.filterMap_cons, List.filterMap_cons, h x List.mem_cons_self, filMap_congr fun y hy => h y (List.mem_cons_of_mem _ hy)]
abbrev Say := Int × Option Int
def mostD : Option Int → D
  | none => .none
  | some m => .int m
@[simp] theorem mostD_none : mostD none = .none := rfl
@[simp] theorem mostD_some (m : Int) : mostD (some m) = .int m := rfl
def sayD (s : Say) : D := .tuple [.int s.1, mostD s.2]
theorem sayD_mk (l : Int) (m : Option Int) : sayD (l, m) = .tuple [.int l, mostD m] := rfl
def okSay (s : Say) : Prop := 0 ≤ s.1 ∧ ∀ m, s.2 = some m → s.1 ≤ m
def rowD (r : List Say) : List D := r.map sayD
@[simp] theorem rowD_len (r : List Say) : (rowD r).length = r.length := by simp [rowD]
theorem rowD_rev (r : List Say) : (rowD r).reverse = rowD r.reverse := by simp [rowD]
theorem rowD_drop (r : List Say) (i : Nat) : (rowD r).drop i = rowD (r.drop i) := by simp [rowD]
theorem row_item (s : Say) (h : okSay s) : p_is_row_b1 (sayD s) = some (.nx ()) := by
  obtain ⟨l, m⟩ := s
  obtain ⟨h1, h2⟩ := h
  simp only at h1
  have h3 : ¬ l < 0 := by omega
  unfold p_is_row_b1
  cases m with
  | none => simp [sayD, h3]
  | some m =>
    have := h2 m rfl
    simp only at this
    have h4 : ¬ m < l := by omega
    simp [sayD, h3, h4]
theorem pe_is_row {d : D} {k : Bool} {r : List Say} (hd : itemsD d = some (k, rowD r)) (h : ∀ s ∈ r, okSay s) : p_is_row d = some (.bool true) := by
  have loop := forP_enc (f := fun x _ => p_is_row_b1 x) (T := D) (e := sayD) (xs := r) (s := ()) (fun _ _ => True) trivial (by
    rintro pre s post ⟨⟩ rfl -
    exact ⟨(), row_item s (h s (by simp)), trivial⟩)
  obtain ⟨⟨⟩, e, -⟩ := loop
  have e' : forP (T := D) (fun x _ => p_is_row_b1 x) (rowD r) () = some (.nx ()) := e
  unfold p_is_row
  cases d <;> simp [itemsD] at hd <;> simp [hd.2, e']
theorem pe_need_row {d : D} {k : Bool} {r : List Say} (hd : itemsD d = some (k, rowD r)) (h : ∀ s ∈ r, okSay s) : p_need_row d = some .none := by
  unfold p_need_row
  simp [pe_is_row hd h]
theorem len_row {d : D} {k : Bool} {r : List Say} (hd : itemsD d = some (k, rowD r)) : gLen [d] = some (.int r.length) := by
  cases d <;> simp [itemsD] at hd <;> simp [hd.2]
def intsD (is : List Int) : List D := is.map PyData.int
def boolsD (bs : List Bool) : List D := bs.map PyData.bool
@[simp] theorem intsD_len (is : List Int) : (intsD is).length = is.length := by simp [intsD]
@[simp] theorem boolsD_len (is : List Bool) : (boolsD is).length = is.length := by simp [boolsD]
theorem cut_from (ds : List D) (i : Nat) (h : i ≤ ds.length) : cutD ds (some (i : Int)) none = ds.drop i := by
  unfold cutD
  rw [HT.sIx_nat, HT.sIx_none, Nat.min_eq_left h]
  exact List.take_of_length_le (by simp)
theorem ix_nat {ds : List D} {i : Nat} {d : D} (h : ds[i]? = some d) : atI ds (i : Int) = some d := atI_nat h
theorem rng_mem {lo hi : Int} {d : D} (h : d ∈ rngD lo hi) : ∃ i : Int, d = .int i ∧ lo ≤ i ∧ i < hi := by
  unfold rngD at h
  obtain ⟨k, hk, rfl⟩ := List.mem_map.mp h
  rw [List.mem_range] at hk
  exact ⟨_, rfl, by omega, by omega⟩
theorem rng_len (lo hi : Int) : (rngD lo hi).length = (hi - lo).toNat := by simp [rngD]
/-- range of a length -/
theorem rng_nat (n : Nat) : rngD 0 (n : Int) = (List.range n).map fun (i : Nat) => .int (i : Int) := by
  unfold rngD
  simp
theorem map_range_get {α : Type} {f : Nat → α} {xs : List α} (n : Nat) (hl : xs.length = n) (h : ∀ i, i < n → xs[i]? = some (f i)) : (List.range n).map f = xs := by
  apply List.ext_getElem?
  intro i
  by_cases hi : i < n
  · rw [List.getElem?_map, List.getElem?_range hi, h i hi]; rfl
  · rw [List.getElem?_eq_none (by simp; omega), List.getElem?_eq_none (by omega)]
theorem small_nat {n : Nat} (h : n ≤ 100000) : small62 (n : Int) = true := by simp [small62]; omega
def trueS (s : Say) (c : Int) : Bool := decide (s.1 ≤ c) && (match s.2 with
  | none => true
  | some m => decide (c ≤ m))
def b2i (b : Bool) : Int := if b then 1 else 0
def tot : List Say → Int → Int
  | [], c => c
  | s :: r, c => tot r c + b2i (trueS s (tot r c))
theorem tot_ge : ∀ (r : List Say) (c : Int), c ≤ tot r c
  | [], c => Int.le_refl c
  | s :: r, c => by
    have := tot_ge r c
    show c ≤ tot r c + b2i (trueS s (tot r c))
    have : 0 ≤ b2i (trueS s (tot r c)) := by unfold b2i; split <;> omega
    omega
def wordsL : List Say → Int → List Bool
  | [], _ => []
  | s :: r, c => trueS s (tot r c) :: wordsL r c
def heardL : List Say → Int → List Int
  | [], _ => []
  | s :: r, c => tot r c :: heardL r c
theorem wordsL_len : ∀ (r : List Say) (c : Int), (wordsL r c).length = r.length
  | [], _ => rfl
  | _ :: r, c => by show (wordsL r c).length + 1 = _; rw [wordsL_len r c]; rfl
theorem heardL_len : ∀ (r : List Say) (c : Int), (heardL r c).length = r.length
  | [], _ => rfl
  | _ :: r, c => by show (heardL r c).length + 1 = _; rw [heardL_len r c]; rfl
theorem lwalk_step (s : Say) (c : Int) (es ss : List D) (h1 : es.length < 100000) (h2 : ss.length < 100000) :
    p_l_walk_b1 (sayD s) (.int c) (.list es) (.list ss) = some (.int (c + b2i (trueS s c)), .list (es ++ [.int c]), .list (ss ++ [.bool (trueS s c)])) := by
  have la : ∀ b : D, atI (ss ++ [b]) (-1) = some b := fun b => atI_last _ _
  obtain ⟨l, m⟩ := s
  unfold p_l_walk_b1
  by_cases h : l ≤ c
  · cases m with
    | none => simp [sayD, trueS, h, h1, h2, la, b2i]
    | some m => by_cases h3 : c ≤ m <;> simp [sayD, trueS, h, h3, h1, h2, la, b2i]
  · simp [sayD, trueS, h, h1, h2, la, b2i]
theorem pe_l_walk (r : List Say) (c : Int) (hr : r.length ≤ 90000) : p_l_walk (.list (rowD r)) (.int c) = some (.list [.list (intsD (heardL r c)), .list (boolsD (wordsL r c))]) := by
  obtain ⟨s', e, h⟩ := foldP_enc (f := fun x (s : D × D × D) => p_l_walk_b1 x s.1 s.2.1 s.2.2) (e := sayD) (xs := r.reverse) (s := (.int c, .list [], .list []))
    (fun done s => s = (.int (tot done.reverse c), .list (intsD (heardL done.reverse c)).reverse, .list (boolsD (wordsL done.reverse c)).reverse)) rfl (by
    rintro pre s post _ hx rfl
    have hl : pre.length < r.length := by
      have := congrArg List.length hx
      simp at this; omega
    refine ⟨_, lwalk_step s _ _ _ (by simp [heardL_len]; omega) (by simp [wordsL_len]; omega), ?_⟩
    rw [List.reverse_append]
    simp [tot, heardL, wordsL, intsD, boolsD])
  rw [List.reverse_reverse] at h
  have e' : foldP (fun x (s : D × D × D) => p_l_walk_b1 x s.1 s.2.1 s.2.2) (rowD r).reverse (.int c, .list [], .list []) = some s' := by rw [rowD_rev]; exact e
  subst h
  unfold p_l_walk
  simp [e']
theorem tot_mono : ∀ (r : List Say) (c d : Int), c ≤ d → tot r c ≤ tot r d
  | [], c, d, h => h
  | s :: r, c, d, h => by
    have := tot_mono r c d h
    show tot r c + b2i (trueS s (tot r c)) ≤ tot r d + b2i (trueS s (tot r d))
    rcases Int.lt_or_eq_of_le this with h1 | h1
    · unfold b2i
      split <;> split <;> omega
    · rw [h1]; omega
def TinOk (t : D) (n : Nat) : Prop := ∃ a b c : Int, t = .list [.int a, .int b, .int c] ∧ 0 ≤ a ∧ b.natAbs < 2 ^ 200 ∧ 0 ≤ c ∧ c ≤ n
theorem TinOk.mono {t : D} {n m : Nat} (h : TinOk t n) (hm : n ≤ m) : TinOk t m := by
  obtain ⟨a, b, c, e, h1, h2, h3, h4⟩ := h
  exact ⟨a, b, c, e, h1, h2, h3, by omega⟩
theorem log_lt {x : Nat} {k : Nat} (h : x < 2 ^ k) (hk : 0 < k) : x.log2 < k := PySem.Flt.log2_lt_of hk h
theorem natAbs_mul_lt {i j : Int} {a b : Nat} (ha : i.natAbs < 2 ^ a) (hb : j.natAbs < 2 ^ b) : (i * j).natAbs < 2 ^ (a + b) := wide_lt ha hb
theorem natAbs_add_lt {i j : Int} {a : Nat} (ha : i.natAbs < 2 ^ a) (hb : j.natAbs < 2 ^ a) : (i + j).natAbs < 2 ^ (a + 1) := by
  have : (i + j).natAbs ≤ i.natAbs + j.natAbs := Int.natAbs_add_le i j
  rw [Nat.pow_succ]; omega
theorem pow_ok {i j : Int} (h0 : 0 ≤ j) (h1 : j ≤ 64) (h : i.natAbs < 2 ^ 250) : cPowW i j = true := by
  simp only [cPowW, Bool.and_eq_true, decide_eq_true_eq]
  exact ⟨⟨h0, h1⟩, Nat.lt_trans (log_lt h (by decide)) (by decide)⟩
theorem mulW_ok {i j : Int} {a b : Nat} (ha : i.natAbs < 2 ^ a) (hb : j.natAbs < 2 ^ b) (h0 : 0 < a) (h1 : 0 < b) (h : a + b ≤ 1000000) : cMulW i j = true := by
  simp only [cMulW, decide_eq_true_eq]
  exact wide_mul ha hb h0 h1 h
theorem divW_ok {i j : Int} {b : Nat} (h : 0 < j) (hb : j.natAbs < 2 ^ b) (h0 : 0 < b) (h9 : b ≤ 9000) : cDivW i j = true := by
  simp only [cDivW, Bool.and_eq_true, decide_eq_true_eq]
  exact wide_div (i := i) h hb h0 h9
theorem mod_ok {i j : Int} (h : 0 < j) : cMod i j = true := by simp [cMod, h]
theorem mod_rng (x : Int) {w : Int} (h : 0 < w) : 0 ≤ x % w ∧ x % w < w := ⟨Int.emod_nonneg _ (by omega), Int.emod_lt_of_pos _ h⟩
def mixB (b c : Int) : Int := ((b + 9576890767 * c) ^ 3 % 100000000000000000000000000000000000133 + 32452843 * c) ^ 5 % 10000000000000000000000000000000000000121
theorem pe_deal (t : D) (n : Nat) (w : Int) (ht : TinOk t n) (hn : n < 2 ^ 40) (hw : 0 < w) (hw2 : w < 2 ^ 200) :
    ∃ r t', p_l_deal t (.int w) = some (.int r, t') ∧ 0 ≤ r ∧ r < w ∧ TinOk t' (n + 1) := by
  obtain ⟨a, b, c, rfl, ha, hb, hc, hcn⟩ := ht
  have hw3 : w.natAbs < 2 ^ 200 := by omega
  have e0 : ∀ x y z : D, atI [x, y, z] 0 = some x := fun _ _ _ => rfl
  have e1 : ∀ x y z : D, atI [x, y, z] 1 = some y := fun _ _ _ => rfl
  have e2 : ∀ x y z : D, atI [x, y, z] 2 = some z := fun _ _ _ => rfl
  have i0 : ixN 3 0 = some 0 := rfl
  have i2 : ixN 3 2 = some 2 := rfl
  by_cases h : 0 < a
  · refine ⟨a % w, .list [.int (a / w), .int b, .int c], ?_, (mod_rng a hw).1, (mod_rng a hw).2, _, b, c, rfl, Int.ediv_nonneg ha (by omega), hb, hc, by omega⟩
    unfold p_l_deal
    simp [e0, i0, h, mod_ok hw, divW_ok (i := a) hw hw3 (by omega) (by omega)]
  · have hc' : (c + 1).natAbs < 2 ^ 41 := by omega
    have k1 : (9576890767 * (c + 1)).natAbs < 2 ^ (34 + 41) := natAbs_mul_lt (by decide) hc'
    have k2 : (b + 9576890767 * (c + 1)).natAbs < 2 ^ (200 + 1) := natAbs_add_lt hb (Nat.lt_trans k1 (by decide))
    have m1 : (0 : Int) < 100000000000000000000000000000000000133 := by decide
    have r1 := mod_rng ((b + 9576890767 * (c + 1)) ^ 3) m1
    have k3 : (((b + 9576890767 * (c + 1)) ^ 3) % 100000000000000000000000000000000000133).natAbs < 2 ^ 200 := by
      have : (100000000000000000000000000000000000133 : Int) < 2 ^ 200 := by decide
      omega
    have k4 : (32452843 * (c + 1)).natAbs < 2 ^ (25 + 41) := natAbs_mul_lt (by decide) hc'
    have k5 := natAbs_add_lt k3 (Nat.lt_trans k4 (by decide))
    have e5 : ((32452843 : Int)).natAbs < 2 ^ 25 := by decide
    have e9 : ((9576890767 : Int)).natAbs < 2 ^ 34 := by decide
    have q1 : cMulW 9576890767 (c + 1) = true := mulW_ok e9 hc' (by omega) (by omega) (by omega)
    have q2 : cPowW (b + 9576890767 * (c + 1)) 3 = true := pow_ok (by omega) (by omega) (Nat.lt_of_lt_of_le k2 (Nat.pow_le_pow_right (by omega) (by omega)))
    have q3 : cMulW 32452843 (c + 1) = true := mulW_ok e5 hc' (by omega) (by omega) (by omega)
    have q4 : cPowW ((b + 9576890767 * (c + 1)) ^ 3 % 100000000000000000000000000000000000133 + 32452843 * (c + 1)) 5 = true := pow_ok (by omega) (by omega) (Nat.lt_of_lt_of_le k5 (Nat.pow_le_pow_right (by omega) (by omega)))
    have q5 : cPowW 10 38 = true := pow_ok (by omega) (by omega) (by decide)
    have q6 : cPowW 10 40 = true := pow_ok (by omega) (by omega) (by decide)
    have q7 : ∀ i : Int, cDivW i 65536 = true := fun i => divW_ok (b := 17) (by omega) (by decide) (by omega) (by omega)
    refine ⟨mixB b (c + 1) / 65536 % w, .list [.int a, .int b, .int (c + 1)], ?_, (mod_rng _ hw).1, (mod_rng _ hw).2, a, b, c + 1, rfl, ha, hb, by omega, by omega⟩
    unfold p_l_deal
    simp [e0, e1, e2, i0, i2, h, q1, q2, q3, q4, q5, q6, q7, mod_ok hw, mod_ok m1, mod_ok (show (0 : Int) < 10000000000000000000000000000000000000121 by decide), mixB]
def okB (B : Int) (s : Say) : Prop := okSay s ∧ s.1 < B ∧ ∀ m, s.2 = some m → m < B
theorem okB.mono {B C : Int} {s : Say} (h : okB B s) (hc : B ≤ C) : okB C s := ⟨h.1, by have := h.2.1; omega, fun m hm => by have := h.2.2 m hm; omega⟩
/-- an item of a written list at a drawn place -/
theorem at_mem {ds : List D} {i : Int} (h0 : 0 ≤ i) (h1 : i < ds.length) : ∃ d, atI ds i = some d ∧ d ∈ ds := by
  obtain ⟨k, rfl⟩ := Int.eq_ofNat_of_zero_le h0
  have h : k < ds.length := by omega
  exact ⟨ds[k], ix_nat (List.getElem?_eq_getElem h), List.getElem_mem h⟩
theorem pe_said (t : D) (n : Nat) (w : Int) (ht : TinOk t n) (hn : n + 3 < 2 ^ 40) (hw : 0 < w) (hw2 : w < 2 ^ 199) :
    ∃ s t', p_l_said t (.int w) = some (sayD s, t') ∧ okB (w + w) s ∧ TinOk t' (n + 3) := by
  obtain ⟨r1, t1, e1, a1, b1, k1⟩ := pe_deal t n w ht (by omega) hw (by omega)
  obtain ⟨r2, t2, e2, a2, b2, k2⟩ := pe_deal t1 (n + 1) w k1 (by omega) hw (by omega)
  obtain ⟨r3, t3, e3, a3, b3, k3⟩ := pe_deal t2 (n + 1 + 1) 10 k2 (by omega) (by omega) (by decide)
  obtain ⟨d, ed, hd⟩ := at_mem (ds := [sayD (r1, none), sayD (r1, some r1), sayD (0, some r1), sayD (r1, some (r1 + r2)), sayD (0, none)]) (i := r3 % 5) (by omega) (by simp; omega)
  have key : ∃ s, d = sayD s ∧ okB (w + w) s := by
    simp only [List.mem_cons, List.not_mem_nil, or_false] at hd
    rcases hd with rfl | rfl | rfl | rfl | rfl
    · exact ⟨_, rfl, ⟨a1, by simp⟩, by simp only; omega, by intro m hm; cases hm⟩
    · exact ⟨_, rfl, ⟨a1, by simp⟩, by simp only; omega, by intro m hm; cases hm; omega⟩
    · exact ⟨_, rfl, ⟨by simp, by simpa using a1⟩, by simp only; omega, by intro m hm; cases hm; omega⟩
    · exact ⟨_, rfl, ⟨a1, by simp; omega⟩, by simp only; omega, by intro m hm; cases hm; omega⟩
    · exact ⟨_, rfl, ⟨by simp, by simp⟩, by simp only; omega, by intro m hm; cases hm⟩
  obtain ⟨s, rfl, hs⟩ := key
  simp only [sayD_mk, mostD_none, mostD_some] at ed
  refine ⟨s, t3, ?_, hs, k3⟩
  unfold p_l_said
  simp [e1, e2, e3, mod_ok, ed]
theorem atI_scr {ns : List Int} {k : Nat} (h : k < ns.length) : atI ns (k : Int) = some (ns[k]'h) := atI_nat (List.getElem?_eq_getElem h)
theorem pe_tin (ns : List Int) (k : Nat) (hk : k ≤ 63) : ∃ t, p_l_tin ns (.int k) = some t ∧ TinOk t 0 := by
  have q5 : cPowW 10 18 = true := pow_ok (by omega) (by omega) (by decide)
  have q6 : cPowW 10 37 = true := pow_ok (by omega) (by omega) (by decide)
  have m0 : (0 : Int) < 10000000000000000000000000000000000043 := by decide
  have core : ∀ cell : Int, TinOk (.list [.int (if (if cell < 0 then -cell else cell) - 1000000000000000000 > 0 then (if cell < 0 then -cell else cell) - 1000000000000000000 else 0), .int (cell % 10000000000000000000000000000000000043 * 64 + k), .int 0]) 0 := by
    intro cell
    have m := mod_rng cell m0
    refine ⟨_, _, _, rfl, ?_, ?_, by omega, by omega⟩
    · split <;> omega
    · have : (10000000000000000000000000000000000043 : Int) * 64 + 64 < 2 ^ 200 := by decide
      omega
  have q7 : ∀ cell : Int, cMulW (cell % 10000000000000000000000000000000000043) 64 = true := by
    intro cell
    have m := mod_rng cell m0
    exact mulW_ok (a := 200) (b := 7) (by
      have : (10000000000000000000000000000000000043 : Int) < 2 ^ 200 := by decide
      omega) (by decide) (by omega) (by omega) (by omega)
  by_cases h : k < ns.length
  · refine ⟨_, ?_, core ns[k]⟩
    unfold p_l_tin
    simp [h, atI_scr h, q5, q6, q7 ns[k], mod_ok m0]
  · refine ⟨_, ?_, core 0⟩
    unfold p_l_tin
    have := q7 0
    simp at this
    simp [h, q5, q6, this, mod_ok m0]
def shiftS (s : Say) (b : Int) : Say := (s.1 + b, s.2.map (· + b))
theorem shift_ok {s : Say} {b : Int} (h : okSay s) (hb : 0 ≤ b) : okSay (shiftS s b) := by
  obtain ⟨l, m⟩ := s
  obtain ⟨h1, h2⟩ := h
  refine ⟨by simp only [shiftS]; simp only at h1; omega, ?_⟩
  intro m' hm'
  cases m with
  | none => simp [shiftS] at hm'
  | some x =>
    have := h2 x rfl
    simp [shiftS] at hm'
    simp only [shiftS]
    simp only at this
    omega
def stepD (p : Int × Int) : D := .tuple [.int p.1, .int p.2]
/-- a thing that may be a step -/
def stepOk : D → Option (Int × Int)
  | .tuple [.int c, .int m] => if 0 ≤ c ∧ 0 ≤ m then some (c, m) else none
  | _ => none
theorem stepOk_some {x : D} {p : Int × Int} (h : stepOk x = some p) : x = stepD p ∧ 0 ≤ p.1 ∧ 0 ≤ p.2 := by
  unfold stepOk at h
  split at h
  · split at h
    · cases h
      rename_i hh
      exact ⟨rfl, hh.1, hh.2⟩
    · cases h
  · cases h
theorem stepOk_D {p : Int × Int} (h1 : 0 ≤ p.1) (h2 : 0 ≤ p.2) : stepOk (stepD p) = some p := by
  show (if 0 ≤ p.1 ∧ 0 ≤ p.2 then some (p.1, p.2) else none) = _
  rw [if_pos ⟨h1, h2⟩]
def lvD : Option Int → D
  | none => .none
  | some l => .int l
/-- one turn of is_table -/
def goOk (a : Int) (l : Option Int) (p : Int × Int) : Bool := decide (a < p.1) && !(l == some p.2)
theorem eq_lv_i (m : Int) (l : Option Int) : gEq (.int m) (lvD l) = some (.bool (l == some m)) := by
  cases l with
  | none => rfl
  | some l =>
    show some (PyData.bool (m == l)) = _
    have : (some l == some m) = (l == m) := rfl
    rw [this, BEq.comm]
theorem eq_lv_b (b : Bool) (l : Option Int) : ∃ z, gEq (.bool b) (lvD l) = some (.bool z) := by
  cases l with
  | none => exact ⟨_, rfl⟩
  | some l => exact ⟨_, rfl⟩
theorem table_turn (x : D) (a : Int) (l : Option Int) (ha : -1 ≤ a) : p_is_table_b1 x (.int a) (lvD l) = some (match stepOk x with
    | some p => if goOk a l p = true then .nx (.int p.1, .int p.2) else .rt (.bool false)
    | none => .rt (.bool false)) := by
  cases x with
  | tuple ds =>
    match ds with
    | [] => rfl
    | [_] =>
      unfold p_is_table_b1
      simp [stepOk]
    | _ :: _ :: _ :: r =>
      unfold p_is_table_b1
      have hl : ¬ ((r.length : Int) + 1 + 1 + 1 = 2) := by omega
      simp [stepOk, hl]
    | [c, m] =>
      cases c with
      | int c =>
        cases m with
        | int m =>
          unfold p_is_table_b1
          simp only [stepOk]
          by_cases h1 : c ≤ a
          · have h2 : ¬ a < c := by omega
            by_cases h3 : 0 ≤ c ∧ 0 ≤ m
            · simp [h1, h3, goOk, h2]
            · simp [h1, h3]
          · have h2 : a < c := by omega
            have h0 : 0 ≤ c := by omega
            by_cases h3 : m < 0
            · have h4 : ¬ (0 ≤ m) := by omega
              simp [h1, h3, h4]
            · have h4 : 0 ≤ m := by omega
              cases h5 : (l == some m) with
              | true => simp [h1, h3, h0, h4, eq_lv_i, h5, goOk]
              | false => simp [h1, h3, h0, h4, eq_lv_i, h5, goOk, h2]
        | bool b =>
          unfold p_is_table_b1
          obtain ⟨z, hz⟩ := eq_lv_b b l
          by_cases h1 : c ≤ a
          · simp [stepOk, h1]
          · cases z <;> cases b <;> simp [stepOk, h1, hz]
        | _ =>
          unfold p_is_table_b1
          by_cases h1 : c ≤ a <;> simp [stepOk, h1]
      | bool b =>
        unfold p_is_table_b1
        by_cases h1 : (if b = true then (1 : Int) else 0) ≤ a
        · simp [stepOk, h1]
        · cases b <;> simp [stepOk, h1]
      | _ =>
        unfold p_is_table_b1
        simp [stepOk]
  | _ => rfl
/-- a whole list: all steps, rising, changing -/
def goT : List D → Int → Option Int → Bool
  | [], _, _ => true
  | x :: xs, a, l => match stepOk x with
    | some p => goOk a l p && goT xs p.1 (some p.2)
    | none => false
theorem forP_nx {S T : Type} {f : D → S → Option (Ct S T)} {x : D} {xs : List D} {s s' : S} (h : f x s = some (.nx s')) : forP f (x :: xs) s = forP f xs s' := by
  show (f x s).bind _ = _
  rw [h]; rfl
theorem forP_rt {S T : Type} {f : D → S → Option (Ct S T)} {x : D} {xs : List D} {s : S} {t : T} (h : f x s = some (.rt t)) : forP f (x :: xs) s = some (.rt t) := by
  show (f x s).bind _ = _
  rw [h]; rfl
theorem table_loop : ∀ (xs : List D) (a : Int) (l : Option Int), -1 ≤ a → (goT xs a l = true → ∃ s, forP (fun x (s : D × D) => p_is_table_b1 x s.1 s.2) xs (.int a, lvD l) = some (.nx s)) ∧
    (goT xs a l = false → forP (fun x (s : D × D) => p_is_table_b1 x s.1 s.2) xs (.int a, lvD l) = some (.rt (.bool false)))
  | [], a, l, _ => ⟨fun _ => ⟨_, rfl⟩, fun h => by cases h⟩
  | x :: xs, a, l, ha => by
    have tt := table_turn x a l ha
    unfold goT
    cases hs : stepOk x with
    | none =>
      rw [hs] at tt
      exact ⟨fun h => (by cases h), fun _ => forP_rt (f := fun x (s : D × D) => p_is_table_b1 x s.1 s.2) tt⟩
    | some p =>
      obtain ⟨_, h1, h2⟩ := stepOk_some hs
      rw [hs] at tt
      cases hg : goOk a l p with
      | false =>
        simp only [hg] at tt
        exact ⟨fun h => (by simp [hg] at h), fun _ => forP_rt (f := fun x (s : D × D) => p_is_table_b1 x s.1 s.2) tt⟩
      | true =>
        simp only [hg] at tt
        have := table_loop xs p.1 (some p.2) (by omega)
        rw [forP_nx (f := fun x (s : D × D) => p_is_table_b1 x s.1 s.2) (s' := (.int p.1, .int p.2)) tt]
        simp only [hg, Bool.true_and]
        exact this
def head0 : List D → Bool
  | x :: _ => match stepOk x with
    | some p => p.1 == 0
    | none => false
  | [] => false
/-- is_table -/
def tblB : D → Bool
  | .list (x :: xs) => goT (x :: xs) (-1) none && head0 (x :: xs)
  | _ => false
theorem pe_is_table (d : D) : p_is_table d = some (.bool (tblB d)) := by
  cases d with
  | list ds =>
    cases ds with
    | nil => rfl
    | cons x xs =>
      obtain ⟨k1, k2⟩ := table_loop (x :: xs) (-1) none (by omega)
      have e0 : lvD none = .none := rfl
      rw [e0] at k1 k2
      unfold p_is_table
      cases h : goT (x :: xs) (-1) none with
      | false =>
        have k := k2 h
        simp [k, tblB, h]
      | true =>
        obtain ⟨s, k⟩ := k1 h
        obtain ⟨s1, s2⟩ := s
        have hs : ∃ p, stepOk x = some p := by
          unfold goT at h
          cases hs : stepOk x with
          | none => rw [hs] at h; cases h
          | some p => exact ⟨p, rfl⟩
        obtain ⟨p, hs⟩ := hs
        obtain ⟨rfl, h1, h2⟩ := stepOk_some hs
        have a0 : ∀ (y : D) (ys : List D), atI (y :: ys) 0 = some y := fun _ _ => ix_nat (i := 0) rfl
        simp only [stepD] at k h hs
        simp [k, tblB, h, head0, hs, a0, stepD]
  | _ => rfl
def fallOk : Int → List (Int × Int) → Bool
  | _, [] => true
  | m, p :: r => !(decide (p.2 < m - 1)) && fallOk p.2 r
theorem rows_loop : ∀ (ps : List (Int × Int)) (m : Int), (fallOk m ps = true → ∃ s, forP (fun x s => p_is_rows_b1 x s) (ps.map stepD) (.int m) = some (.nx s)) ∧ (fallOk m ps = false → forP (fun x s => p_is_rows_b1 x s) (ps.map stepD) (.int m) = some (.rt (.bool false)))
  | [], m => ⟨fun _ => ⟨_, rfl⟩, fun h => by cases h⟩
  | p :: r, m => by
    have b : p_is_rows_b1 (stepD p) (.int m) = some (if p.2 < m - 1 then .rt (.bool false) else .nx (.int p.2)) := by
      unfold p_is_rows_b1
      by_cases h : p.2 < m - 1 <;> simp [stepD, h]
    unfold fallOk
    by_cases h : p.2 < m - 1
    · rw [if_pos h] at b
      exact ⟨fun z => (by simp [h] at z), fun _ => forP_rt (f := fun x s => p_is_rows_b1 x s) b⟩
    · rw [if_neg h] at b
      have := rows_loop r p.2
      have e := forP_nx (f := fun x s => p_is_rows_b1 x s) (xs := r.map stepD) b
      rw [List.map_cons, e]
      simp only [h, decide_false, Bool.not_false, Bool.true_and]
      exact this
def tabL (t : Tab) : List D := t.map stepD
def tabD (t : Tab) : D := .list (tabL t)
@[simp] theorem tabL_len (t : Tab) : (tabL t).length = t.length := by simp [tabL]
/-- levelled -/
theorem levelled_turn (p : Int × Int) (done : Tab) (hl : done.length < 100000) : p_levelled_b1 (stepD p) (tabD done) = some (tabD (if done.getLast?.map (·.2) = some p.2 then done else done ++ [p])) := by
  unfold p_levelled_b1
  rcases List.eq_nil_or_concat done with rfl | ⟨q, l, rfl⟩
  · simp [stepD, tabD, tabL]
  · have la : atI (tabL (q ++ [l])) (-1) = some (stepD l) := by
      unfold tabL
      rw [List.map_append]
      exact atI_last _ _
    have ne : (tabL (q ++ [l])).isEmpty = false := by simp [tabL]
    have gl : (q ++ [l]).getLast?.map (·.2) = some l.2 := by simp
    simp only [List.concat_eq_append] at *
    rw [gl]
    by_cases he : l.2 = p.2
    · rw [if_pos (by rw [he])]
      unfold tabD
      simp only [stepD] at la
      simp only [stepD, v_tup2, v_bind2, q_tru_l, ne, Bool.not_false, v_bind1, if_true, v_negP, q_ix_l, la, q_ix_t, show atI [PyData.int l.1, .int l.2] 1 = some (.int l.2) from rfl, q_ne_ii, asBool]
      simp [he]
    · rw [if_neg (by intro z; exact he (Option.some.inj z))]
      unfold tabD
      simp only [stepD] at la
      have hl' : (tabL (q ++ [l])).length < 100000 := by simpa using hl
      simp only [stepD, v_tup2, v_bind2, q_tru_l, ne, Bool.not_false, v_bind1, if_true, v_negP, q_ix_l, la, q_ix_t, show atI [PyData.int l.1, .int l.2] 1 = some (.int l.2) from rfl, q_ne_ii, asBool, v_mutP, q_append, hl']
      simp [he, tabL, stepD]
theorem lvl_snoc (p : Int × Int) : ∀ (t : Tab) (l : Option Int), lvl l (t ++ [p]) = if ((lvl l t).getLast?.map (·.2)).or l = some p.2 then lvl l t else lvl l t ++ [p]
  | [], l => by
    show (if l = some p.2 then lvl l [] else p :: lvl (some p.2) []) = if ((lvl l []).getLast?.map (·.2)).or l = some p.2 then lvl l [] else lvl l [] ++ [p]
    have e : lvl l [] = [] := rfl
    have e2 : lvl (some p.2) [] = [] := rfl
    rw [e, e2]
    have e3 : ((([] : Tab).getLast?.map (·.2)).or l) = l := by simp
    rw [e3]
    rfl
  | q :: t, l => by
    show (if l = some q.2 then lvl l (t ++ [p]) else q :: lvl (some q.2) (t ++ [p])) = if ((if l = some q.2 then lvl l t else q :: lvl (some q.2) t).getLast?.map (·.2)).or l = some p.2 then (if l = some q.2 then lvl l t else q :: lvl (some q.2) t) else (if l = some q.2 then lvl l t else q :: lvl (some q.2) t) ++ [p]
    split
    · rename_i h
      exact lvl_snoc p t l
    · rename_i h
      rw [lvl_snoc p t (some q.2)]
      have : ((q :: lvl (some q.2) t).getLast?.map (·.2)).or l = ((lvl (some q.2) t).getLast?.map (·.2)).or (some q.2) := by
        cases hh : lvl (some q.2) t with
        | nil => simp
        | cons a r => simp [List.getLast?_cons_cons, List.getLast?_cons]
      rw [this]
      split
      · rfl
      · rfl
theorem lvl_len : ∀ (t : Tab) (l : Option Int), (lvl l t).length ≤ t.length
  | [], _ => Nat.le_refl _
  | p :: t, l => by
    show (if l = some p.2 then lvl l t else p :: lvl (some p.2) t).length ≤ _
    split
    · have := lvl_len t l
      simp; omega
    · have := lvl_len t (some p.2)
      simp; omega
theorem pe_levelled (t : Tab) (hl : t.length ≤ 90000) : p_levelled (tabD t) = some (tabD (lvl none t)) := by
  obtain ⟨s', e, q⟩ := foldP_enc (f := fun x s => p_levelled_b1 x s) (e := stepD) (xs := t) (s := .list []) (fun done s => s = tabD (lvl none done)) rfl (by
    rintro pre x post s hx rfl
    have hlen : pre.length < t.length := by rw [hx]; simp
    have := lvl_len pre none
    refine ⟨_, levelled_turn x _ (by omega), ?_⟩
    rw [lvl_snoc, Option.or_none])
  subst q
  have e' : foldP (fun x s => p_levelled_b1 x s) (tabL t) (.list []) = some (tabD (lvl none t)) := e
  unfold p_levelled tabD
  simp only [q_items_l, v_bind2, e', v_bind1]
  rfl
def wb : List Say → Int → Int
  | [], w => w
  | s :: r, w => wb r (if s.1 < w ∧ (∀ m, s.2 = some m → w ≤ m + 1) then w - 1 else w)
theorem wb_iff : ∀ (r : List Say) (w c : Int), wb r w ≤ c ↔ w ≤ tot r c
  | [], _, _ => Iff.rfl
  | s :: r, w, c => by
    show wb r _ ≤ c ↔ w ≤ tot r c + b2i (trueS s (tot r c))
    rw [wb_iff r]
    obtain ⟨l, m⟩ := s
    cases m with
    | none =>
      have e : (∀ x : Int, (none : Option Int) = some x → w ≤ x + 1) ↔ True := ⟨fun _ => trivial, fun _ x h => by cases h⟩
      simp only [e, and_true]
      by_cases h : l < w
      · rw [if_pos h]
        by_cases h2 : l ≤ tot r c <;> simp [trueS, b2i, h2] <;> omega
      · rw [if_neg h]
        by_cases h2 : l ≤ tot r c <;> simp [trueS, b2i, h2] <;> omega
    | some m =>
      have e : (∀ x : Int, some m = some x → w ≤ x + 1) ↔ w ≤ m + 1 := ⟨fun h => h m rfl, fun h x hx => by cases hx; exact h⟩
      simp only [e]
      by_cases h : l < w ∧ w ≤ m + 1
      · rw [if_pos h]
        by_cases h2 : l ≤ tot r c <;> by_cases h3 : tot r c ≤ m <;> simp [trueS, b2i, h2, h3] <;> omega
      · rw [if_neg h]
        by_cases h2 : l ≤ tot r c <;> by_cases h3 : tot r c ≤ m <;> simp [trueS, b2i, h2, h3] <;> omega
theorem wb_nn : ∀ (r : List Say) (w : Int), (∀ s ∈ r, okSay s) → 0 ≤ w → 0 ≤ wb r w
  | [], _, _, h => h
  | s :: r, w, ho, h => by
    refine wb_nn r _ (fun t ht => ho t (List.mem_cons_of_mem _ ht)) ?_
    have := (ho s List.mem_cons_self).1
    split
    · rename_i hh; have := hh.1; omega
    · exact h
theorem wb_turn (s : Say) (w : Int) : p_wish_behind_b1 (sayD s) (.int w) = some (.int (if s.1 < w ∧ (∀ m, s.2 = some m → w ≤ m + 1) then w - 1 else w)) := by
  obtain ⟨l, m⟩ := s
  unfold p_wish_behind_b1
  cases m with
  | none => by_cases h : l < w <;> simp [sayD, h]
  | some m => by_cases h : l < w <;> by_cases h2 : w ≤ m + 1 <;> simp [sayD, h, h2]
theorem pe_wish_behind {d : D} {k : Bool} {r : List Say} (w : Int) (hd : itemsD d = some (k, rowD r)) : p_wish_behind d (.int w) = some (.int (wb r w)) := by
  have key : ∀ (r : List Say) (w : Int), foldP (fun x s => p_wish_behind_b1 x s) (rowD r) (.int w) = some (.int (wb r w)) := by
    intro r
    induction r with
    | nil => intro w; rfl
    | cons s r ih =>
      intro w
      show (p_wish_behind_b1 (sayD s) (.int w)).bind _ = _
      rw [wb_turn, Option.bind_some]
      exact ih _
  unfold p_wish_behind
  rw [hd, v_bind2, key, v_bind1]
/-- the stretch of companies by which s is true in front of r -/
def cw (r : List Say) (s : Say) : Option Say := match s.2 with
  | none => some (wb r s.1, none)
  | some m => if wb r (m + 1) ≤ wb r s.1 then none else some (wb r s.1, some (wb r (m + 1) - 1))
def optD : Option Say → D
  | none => .none
  | some s => sayD s
theorem pe_companies_within {d : D} {k : Bool} {r : List Say} (s : Say) (hd : itemsD d = some (k, rowD r)) : p_companies_within d (sayD s) = some (optD (cw r s)) := by
  obtain ⟨l, m⟩ := s
  cases m with
  | none =>
    unfold p_companies_within
    simp [sayD, pe_wish_behind _ hd, cw, optD, p_stretch_to]
  | some m =>
    unfold p_companies_within
    by_cases h : wb r (m + 1) ≤ wb r l <;> simp [sayD, pe_wish_behind _ hd, cw, optD, p_stretch_to, h]
theorem cw_true (r : List Say) (s : Say) (c : Int) : (match cw r s with | none => 0 | some t => b2i (trueS t c)) = b2i (trueS s (tot r c)) := by
  obtain ⟨l, m⟩ := s
  have h1 := wb_iff r l c
  cases m with
  | none =>
    show b2i (trueS (wb r l, none) c) = _
    by_cases h : wb r l ≤ c
    · simp [trueS, b2i, h, h1.mp h]
    · have : ¬ l ≤ tot r c := fun z => h (h1.mpr z)
      simp [trueS, b2i, h, this]
  | some m =>
    have h2 := wb_iff r (m + 1) c
    have e2 : (wb r (m + 1) ≤ c) ↔ ¬ tot r c ≤ m := by rw [h2]; omega
    show (match (if wb r (m + 1) ≤ wb r l then none else some (wb r l, some (wb r (m + 1) - 1))) with | none => 0 | some t => b2i (trueS t c)) = _
    by_cases h : wb r (m + 1) ≤ wb r l
    · rw [if_pos h]
      by_cases ha : l ≤ tot r c
      · have := h1.mpr ha
        have : ¬ tot r c ≤ m := e2.mp (by omega)
        simp [trueS, b2i, this]
      · simp [trueS, b2i, ha]
    · rw [if_neg h]
      by_cases ha : l ≤ tot r c
      · have hx := h1.mpr ha
        by_cases hb : tot r c ≤ m
        · have : ¬ wb r (m + 1) ≤ c := fun z => (e2.mp z) hb
          have : c ≤ wb r (m + 1) - 1 := by omega
          simp [trueS, b2i, ha, hb, hx, this]
        · have := e2.mpr hb
          have : ¬ c ≤ wb r (m + 1) - 1 := by omega
          simp [trueS, b2i, hb, this]
      · have hx : ¬ wb r l ≤ c := fun z => ha (h1.mp z)
        simp [trueS, b2i, ha, hx]
/-- of each person, front first -/
def soc : List Say → List (Option Say)
  | [] => []
  | s :: r => cw r s :: soc r
theorem soc_len : ∀ r : List Say, (soc r).length = r.length
  | [] => rfl
  | s :: r => by show (soc r).length + 1 = _; rw [soc_len r]; rfl
theorem soc_get : ∀ (r : List Say) (i : Nat) (h : i < r.length), (soc r)[i]? = some (cw (r.drop (i + 1)) r[i])
  | [], _, h => by simp at h
  | s :: r, 0, _ => rfl
  | s :: r, i + 1, h => by
    show (soc r)[i]? = _
    rw [soc_get r i (by simpa using h)]; rfl
theorem sliceW_row {d : D} {k : Bool} {ds : List D} (hd : itemsD d = some (k, ds)) (lo hi : Option Int) : ∃ b e, sliceW d lo hi = some (b, e) ∧ itemsD e = some (k, cutD ds lo hi) := by
  cases d with
  | list xs => cases hd; exact ⟨_, _, rfl, rfl⟩
  | tuple xs =>
    cases hd
    by_cases h : HT.sIx ds.length 0 lo = 0 ∧ HT.sIx ds.length ds.length hi = ds.length
    · refine ⟨true, .tuple ds, if_pos h, ?_⟩
      have : cutD ds lo hi = ds := by
        unfold cutD
        rw [h.1, h.2]
        simp
      rw [this]; rfl
    · exact ⟨false, .tuple (cutD ds lo hi), if_neg h, rfl⟩
  | _ => cases hd
theorem ix_row {d : D} {k : Bool} {ds : List D} (hd : itemsD d = some (k, ds)) (i : Int) : gIx d (.int i) = atI ds i := by
  cases d <;> cases hd <;> rfl
theorem pe_said_of_company {d : D} {k : Bool} {r : List Say} (hd : itemsD d = some (k, rowD r)) (hr : r.length ≤ 90000) : p_said_of_company d = some (.list ((soc r).map optD)) := by
  have mp : mapT (p_said_of_company_c1 d) ((List.range r.length).map fun (i : Nat) => PyData.int (i : Int)) = some ((List.range r.length).map fun i => optD (cw (r.drop (i + 1)) (r.getD i (0, none)))) :=
    mapT_enc (by simp; omega) fun i hi => by
      rw [List.mem_range] at hi
      obtain ⟨b, e, h1, h2⟩ := sliceW_row hd (some ((i + 1 : Nat) : Int)) none
      rw [cut_from _ (i + 1) (by simp; omega), rowD_drop] at h2
      have ha : atI (rowD r) (i : Int) = some (sayD r[i]) := ix_nat (by unfold rowD; rw [List.getElem?_map, List.getElem?_eq_getElem hi]; rfl)
      unfold p_said_of_company_c1
      simp only [v_addV, v_bind1, v_ixP, show ((i : Int) + 1) = ((i + 1 : Nat) : Int) by omega, h1, v_bind2, ix_row hd, ha, pe_companies_within r[i] h2]
      rw [List.getD_eq_getElem?_getD, List.getElem?_eq_getElem hi]; rfl
  have e2 : ((List.range r.length).map fun i => optD (cw (r.drop (i + 1)) (r.getD i (0, none)))) = (soc r).map optD :=
    map_range_get r.length (by rw [List.length_map, soc_len]) fun i hi => by
      rw [List.getElem?_map, soc_get r i hi, List.getD_eq_getElem?_getD, List.getElem?_eq_getElem hi]; rfl
  have sm : small62 (r.length : Int) = true := small_nat (by omega)
  unfold p_said_of_company
  simp only [len_row hd, v_bind1, v_rng1P, sm, if_true, rng_nat, mp, e2]
def cntS (ss : List Say) (c : Int) : Int := (ss.map fun s => b2i (trueS s c)).sum
def socS (r : List Say) : List Say := (soc r).filterMap id
theorem tot_cnt : ∀ (r : List Say) (c : Int), tot r c = c + cntS (socS r) c
  | [], c => by show c = c + 0; omega
  | s :: r, c => by
    have ih := tot_cnt r c
    have h := cw_true r s c
    show tot r c + b2i (trueS s (tot r c)) = c + cntS ((cw r s :: soc r).filterMap id) c
    rw [← h, List.filterMap_cons]
    cases hh : cw r s with
    | none => show tot r c + 0 = c + cntS (socS r) c; omega
    | some t =>
      show tot r c + b2i (trueS t c) = c + (b2i (trueS t c) + cntS (socS r) c)
      omega
/-- changes_by -/
def chg (kv : Dct) (s : Say) : Dct := match s.2 with
  | none => updI kv s.1 (· + 1)
  | some l => updI (updI kv s.1 (· + 1)) (l + 1) (· + (-1))
theorem chg_nodup {kv : Dct} (s : Say) (h : (keysI kv).Nodup) : (keysI (chg kv s)).Nodup := by
  obtain ⟨f, l⟩ := s
  cases l with
  | none => exact upd_nodup _ _ _ h
  | some l => exact upd_nodup _ _ _ (upd_nodup _ _ _ h)
theorem chg_len (kv : Dct) (s : Say) : (chg kv s).length ≤ kv.length + 2 := by
  obtain ⟨f, l⟩ := s
  cases l with
  | none => have := upd_len (· + 1) f kv; show (updI kv f (· + 1)).length ≤ _; omega
  | some l =>
    have h1 := upd_len (· + 1) f kv
    have h2 := upd_len (· + (-1)) (l + 1) (updI kv f (· + 1))
    show (updI (updI kv f (· + 1)) (l + 1) (· + (-1))).length ≤ _
    omega
theorem chg_mem (kv : Dct) (s : Say) (j : Int) : j ∈ keysI (chg kv s) ↔ (j = s.1 ∨ ∃ l, s.2 = some l ∧ j = l + 1) ∨ j ∈ keysI kv := by
  obtain ⟨f, l⟩ := s
  cases l with
  | none =>
    show j ∈ keysI (updI _ _ _) ↔ _
    rw [upd_mem]
    simp
  | some l =>
    show j ∈ keysI (updI _ _ _) ↔ _
    rw [upd_mem, upd_mem]
    simp only [Option.some.injEq, exists_eq_left']
    constructor
    · rintro (z | z | z)
      · exact .inl (.inr z)
      · exact .inl (.inl z)
      · exact .inr z
    · rintro ((z | z) | z)
      · exact .inr (.inl z)
      · exact .inl z
      · exact .inr (.inr z)
theorem chg_sum (kv : Dct) (s : Say) (c : Int) (h : ∀ l, s.2 = some l → s.1 ≤ l + 1) : sumI (chg kv s) c = sumI kv c + b2i (trueS s c) := by
  obtain ⟨f, l⟩ := s
  cases l with
  | none =>
    show sumI (updI _ _ _) c = _
    rw [sum_upd]
    by_cases h1 : f ≤ c <;> simp [h1, trueS, b2i]
  | some l =>
    have := h l rfl
    simp only at this
    show sumI (updI _ _ _) c = _
    rw [sum_upd, sum_upd]
    by_cases h1 : f ≤ c <;> by_cases h2 : c ≤ l <;> simp [h1, h2, trueS, b2i] <;> omega
theorem chg_turn (kv : Dct) (s : Say) (hn : (keysI kv).Nodup) (hl : kv.length < 90000) : p_changes_by_b1 (sayD s) (dcD kv) = some (dcD (chg kv s)) := by
  obtain ⟨f, l⟩ := s
  have l1 := upd_len (· + 1) f kv
  have p1 := put_dc (· + 1) kv f hn
  have n1 := upd_nodup (· + 1) f kv hn
  have k0 : kv.length < 100000 := by omega
  have k1 : (updI kv f (· + 1)).length < 100000 := by omega
  cases l with
  | none =>
    unfold p_changes_by_b1 dcD
    simp only [sayD, mostD_none, v_tup2, v_bind2, v_isDct, v_bind1, v_get2, getD_dc, v_addV, v_dputP, dcL_len, k0, if_true, p1, q_not_n, q_isNone_n, Bool.not_true, asBool, Bool.false_eq_true, if_false]
    rfl
  | some l =>
    have p2 := put_dc (· + (-1)) (updI kv f (· + 1)) (l + 1) n1
    unfold p_changes_by_b1 dcD
    simp only [sayD, mostD_some, v_tup2, v_bind2, v_isDct, v_bind1, v_get2, getD_dc, v_addV, v_dputP, dcL_len, k0, k1, if_true, p1, q_not_n, q_isNone_i, Bool.not_false, asBool]
    simp only [q_on0, v_bind1, v_dputP, dcL_len, k1, if_true, Int.sub_eq_add_neg, p2]
    rfl
theorem pe_changes_by (ss : List Say) (hl : ss.length ≤ 40000) (h : ∀ s ∈ ss, ∀ l, s.2 = some l → s.1 ≤ l + 1) : ∃ kv : Dct, p_changes_by (.list (rowD ss)) = some (dcD kv) ∧ (keysI kv).Nodup ∧ kv.length ≤ 2 * ss.length ∧ (∀ c, sumI kv c = cntS ss c) ∧
    ∀ j, j ∈ keysI kv ↔ ∃ s ∈ ss, j = s.1 ∨ ∃ l, s.2 = some l ∧ j = l + 1 := by
  obtain ⟨s', e, kv, rfl, q1, q2, q3, q4⟩ := foldP_enc (f := fun x s => p_changes_by_b1 x s) (e := sayD) (xs := ss) (s := .dict [])
    (fun done s => ∃ kv : Dct, s = dcD kv ∧ (keysI kv).Nodup ∧ kv.length ≤ 2 * done.length ∧ (∀ c, sumI kv c = cntS done c) ∧ ∀ j, j ∈ keysI kv ↔ ∃ s ∈ done, j = s.1 ∨ ∃ l, s.2 = some l ∧ j = l + 1)
    ⟨[], rfl, List.nodup_nil, by simp, fun _ => rfl, by simp [keysI]⟩ (by
      rintro pre x post s hx ⟨kv, rfl, q1, q2, q3, q4⟩
      have hlen : pre.length < ss.length := by rw [hx]; simp
      have hxm : x ∈ ss := by rw [hx]; simp
      have l2 := chg_len kv x
      refine ⟨_, chg_turn kv x q1 (by omega), chg kv x, rfl, chg_nodup x q1, by simp; omega, fun c => ?_, fun j => ?_⟩
      · rw [chg_sum kv x c (h x hxm), q3 c]
        unfold cntS
        rw [List.map_append, List.sum_append]
        simp
      · rw [chg_mem, q4 j]
        simp only [List.mem_append, List.mem_singleton]
        constructor
        · rintro (z | ⟨s, hs, z⟩)
          · exact ⟨x, .inr rfl, z⟩
          · exact ⟨s, .inl hs, z⟩
        · rintro ⟨s, hs | rfl, z⟩
          · exact .inr ⟨s, hs, z⟩
          · exact .inl z)
  have e' : foldP (fun x s => p_changes_by_b1 x s) (rowD ss) (.dict []) = some (dcD kv) := e
  refine ⟨kv, ?_, q1, q2, q3, q4⟩
  unfold p_changes_by
  simp only [q_items_l, v_bind2, e', v_bind1]
/-- added_up -/
theorem ptsT_snoc (f : Int → Int) (ps : List Int) (x : Int) : tabL (ptsT f ps) ++ [stepD (x, f x)] = tabL (ptsT f (ps ++ [x])) := by simp [tabL, ptsT]
theorem pe_added_up {kv : Dct} (hn : (keysI kv).Nodup) (hk : ∀ k ∈ keysI kv, 0 ≤ k) (hl : kv.length ≤ 80000) (h0 : ∀ c, 0 ≤ c → 0 ≤ sumI kv c) :
    ∃ t, p_added_up (dcD kv) = some (tabD t) ∧ TabOf t (sumI kv) ∧ t.length ≤ kv.length + 1 := by
  have s0 : sumI kv 0 = (lookI kv 0).getD 0 := by
    rw [sum_step (a := -1) (x := 0) (by omega) kv hn fun k hk' => .inr (hk k hk'), sum_low kv fun k hk' => by have := hk k hk'; omega]
    omega
  have slt := sorted_lt hn
  have sperm := sortI_perm (keysI kv)
  have slen : (sortI (keysI kv)).length = kv.length := by rw [sperm.length_eq]; simp [keysI]
  obtain ⟨s', e, a, rfl, -, -, -⟩ := foldP_enc (f := fun x (s : D × D) => p_added_up_b1 (dcD kv) x s.1 s.2) (e := PyData.int) (xs := sortI (keysI kv)) (s := (.int (sumI kv 0), .list [stepD (0, sumI kv 0)]))
    (fun done s => ∃ a : Int, s = (.int (sumI kv a), .list (tabL (ptsT (sumI kv) (0 :: done.filter fun k => decide (0 < k))))) ∧ 0 ≤ a ∧ (∀ d ∈ done, d ≤ a) ∧ (a = 0 ∨ a ∈ done))
    ⟨0, rfl, Int.le_refl _, by simp, .inl rfl⟩ (by
      rintro pre x post s hx ⟨a, rfl, ha, hd, hor⟩
      have hxm : x ∈ keysI kv := sperm.mem_iff.mp (by rw [hx]; simp)
      have hx0 := hk x hxm
      rw [hx] at slt
      obtain ⟨_, slt2, slt3⟩ := List.pairwise_append.mp slt
      have hlx : ∀ d ∈ pre, d < x := fun d hd => slt3 d hd x List.mem_cons_self
      have hlen : pre.length < kv.length := by
        have := congrArg List.length hx
        rw [slen] at this; simp at this; omega
      by_cases hpos : 0 < x
      · have hax : a < x := by
          rcases hor with z | z
          · omega
          · exact hlx a z
        have hs := sum_step hax kv hn fun k hk' => by
          have hk2 : k ∈ pre ++ x :: post := by rw [← hx]; exact sperm.mem_iff.mpr hk'
          rcases List.mem_append.mp hk2 with z | z
          · exact .inl (hd k z)
          · rcases List.mem_cons.mp z with rfl | z
            · exact .inr (Int.le_refl _)
            · exact .inr (Int.le_of_lt ((List.pairwise_cons.mp slt2).1 k z))
        have hlk : ∃ v, lookI kv x = some v := by
          have : ∀ kv : Dct, x ∈ keysI kv → ∃ v, lookI kv x = some v := by
            intro kv
            induction kv with
            | nil => intro h; cases h
            | cons p r ih =>
              intro h
              show ∃ v, (if p.1 = x then some p.2 else lookI r x) = some v
              by_cases hp : p.1 = x
              · rw [if_pos hp]; exact ⟨_, rfl⟩
              · rw [if_neg hp]
                rcases List.mem_cons.mp h with z | z
                · exact absurd z.symm hp
                · exact ih z
          exact this kv hxm
        obtain ⟨v, hv⟩ := hlk
        rw [hv] at hs
        have hs : sumI kv x = sumI kv a + v := hs
        have ll : (tabL (ptsT (sumI kv) (0 :: pre.filter fun k => decide (0 < k)))).length < 100000 := by
          have := List.length_filter_le (fun k => decide (0 < k)) pre
          simp [ptsT]; omega
        refine ⟨(.int (sumI kv x), .list (tabL (ptsT (sumI kv) (0 :: (pre ++ [x]).filter fun k => decide (0 < k))))), ?_, x, rfl, by omega, ?_, .inr (by simp)⟩
        · have fx : (0 :: (pre ++ [x]).filter fun k => decide (0 < k)) = (0 :: pre.filter fun k => decide (0 < k)) ++ [x] := by
            simp [List.filter_append, hpos]
          rw [fx, ← ptsT_snoc]
          show p_added_up_b1 (dcD kv) (.int x) (.int (sumI kv a)) (.list _) = _
          have gg : gGt (.int x) (.int 0) = some (.bool (decide (x > 0))) := by simp
          unfold p_added_up_b1 dcD
          simp only [gg, v_bind1, asBool, decide_eq_true (show x > 0 from hpos), if_true, v_ixA_d, look_dc, hv, Option.map_some, v_gAddI, v_mutP, q_append, ll, v_bind2, ← hs]
          rfl
        · intro d hd'
          rcases List.mem_append.mp hd' with z | z
          · have := hlx d z; omega
          · simp at z; omega
      · have hx' : x = 0 := by omega
        refine ⟨(.int (sumI kv a), .list (tabL (ptsT (sumI kv) (0 :: (pre ++ [x]).filter fun k => decide (0 < k))))), ?_, a, rfl, ha, ?_, ?_⟩
        · have fx : ((pre ++ [x]).filter fun k => decide (0 < k)) = pre.filter fun k => decide (0 < k) := by
            simp [List.filter_append, hpos]
          rw [fx]
          show p_added_up_b1 (dcD kv) (.int x) (.int (sumI kv a)) (.list _) = _
          have gg : gGt (.int x) (.int 0) = some (.bool (decide (x > 0))) := by simp
          unfold p_added_up_b1
          simp only [gg, v_bind1, asBool, decide_eq_false (show ¬ x > 0 from hpos), Bool.false_eq_true, if_false]
        · intro d hd'
          rcases List.mem_append.mp hd' with z | z
          · exact hd d z
          · simp at z; omega
        · rcases hor with z | z
          · exact .inl z
          · exact .inr (List.mem_append_left _ z))
  have e' : foldP (fun x (s : D × D) => p_added_up_b1 (dcD kv) x s.1 s.2) ((sortI (keysI kv)).map PyData.int) (.int (sumI kv 0), .list [stepD (0, sumI kv 0)]) = some (.int (sumI kv a), .list (tabL (ptsT (sumI kv) (0 :: ptsOf kv)))) := e
  have pl : (ptsOf kv).length ≤ kv.length := by
    have := List.length_filter_le (fun k => decide (0 < k)) (sortI (keysI kv))
    unfold ptsOf; omega
  have lev := pe_levelled (ptsT (sumI kv) (0 :: ptsOf kv)) (by simp [ptsT]; omega)
  unfold tabD at lev
  refine ⟨_, ?_, dct_tab hn h0, ?_⟩
  · unfold p_added_up dcD
    simp only [v_isDct, v_bind1, v_get2, getD_dc, ← s0, v_sortedA_d, keys_dc, Option.map_some, q_items_l, v_bind2]
    have e'' : foldP (fun x (s : D × D) => p_added_up_b1 (.dict (dcL kv)) x s.1 s.2) ((sortI (keysI kv)).map PyData.int) (.int (sumI kv 0), .list [.tuple [.int 0, .int (sumI kv 0)]]) = some (.int (sumI kv a), .list (tabL (ptsT (sumI kv) (0 :: ptsOf kv)))) := e'
    rw [e'']
    simp only [v_bind2, lev, v_bind1]
    rfl
  · have h1 := lvl_len (ptsT (sumI kv) (0 :: ptsOf kv)) none
    have h2 : (ptsT (sumI kv) (0 :: ptsOf kv)).length = (ptsOf kv).length + 1 := by simp [ptsT]
    omega
/-- the table of a row -/
def manyF (r : List Say) (c : Int) : Int := tot r c - c
theorem socS_ok : ∀ {r : List Say}, (∀ s ∈ r, okSay s) → ∀ s ∈ socS r, 0 ≤ s.1 ∧ ∀ l, s.2 = some l → s.1 ≤ l
  | [], _, s, hs => by cases hs
  | q :: r, ho, s, hs => by
    have hor : ∀ s ∈ r, okSay s := fun t ht => ho t (List.mem_cons_of_mem _ ht)
    have hs : s ∈ (cw r q :: soc r).filterMap id := hs
    rw [List.filterMap_cons] at hs
    have key : ∀ t, cw r q = some t → 0 ≤ t.1 ∧ ∀ l, t.2 = some l → t.1 ≤ l := by
      intro t ht
      have h0 := wb_nn r q.1 hor (ho q List.mem_cons_self).1
      unfold cw at ht
      split at ht
      · cases ht; exact ⟨h0, fun l hl => by cases hl⟩
      · split at ht
        · cases ht
        · cases ht
          refine ⟨h0, fun l hl => ?_⟩
          cases hl
          rename_i hh
          show wb r q.1 ≤ wb r _ - 1
          omega
    cases hh : cw r q with
    | none =>
      rw [hh] at hs
      exact socS_ok hor s hs
    | some t =>
      rw [hh] at hs
      rcases List.mem_cons.mp hs with rfl | hs
      · exact key _ hh
      · exact socS_ok hor s hs
theorem socS_len (r : List Say) : (socS r).length ≤ r.length := by
  have := List.length_filterMap_le id (soc r)
  rw [soc_len] at this
  exact this
theorem filt_soc : ∀ r : List Say, ((soc r).map optD).filterMap (fun d => if isNone d = true then none else some d) = rowD (socS r)
  | [] => rfl
  | s :: r => by
    have ih := filt_soc r
    show ((optD (cw r s) :: (soc r).map optD).filterMap _) = rowD ((cw r s :: soc r).filterMap id)
    rw [List.filterMap_cons, List.filterMap_cons]
    cases cw r s with
    | none => exact ih
    | some t =>
      show sayD t :: _ = sayD t :: rowD (socS r)
      rw [ih]
theorem pe_table_of {d : D} {k : Bool} {r : List Say} (hd : itemsD d = some (k, rowD r)) (ho : ∀ s ∈ r, okSay s) (hr : r.length ≤ 30000) :
    ∃ t, p_table_of d = some (tabD t) ∧ TabOf t (manyF r) ∧ t.length ≤ 2 * r.length + 1 := by
  have ok := socS_ok ho
  have sl := socS_len r
  obtain ⟨kv, e1, n1, l1, c1, m1⟩ := pe_changes_by (socS r) (by omega) fun s hs l hl => by have := (ok s hs).2 l hl; omega
  have mf : ∀ c, sumI kv c = manyF r c := fun c => by
    rw [c1 c]
    have := tot_cnt r c
    unfold manyF
    omega
  obtain ⟨t, e2, tt, tl⟩ := pe_added_up n1 (fun j hj => by
    obtain ⟨s, hs, z⟩ := (m1 j).mp hj
    have h1 := (ok s hs).1
    rcases z with z | ⟨l, hl, z⟩
    · omega
    · have := (ok s hs).2 l hl; omega) (by omega) (fun c hc => by
    rw [mf c]
    have := tot_ge r c
    unfold manyF
    omega)
  have ft : filT p_table_of_c1 ((soc r).map optD) = some (rowD (socS r)) := by
    rw [← filt_soc]
    refine filT_of (by rw [List.length_map, soc_len]; omega) fun x hx => ?_
    unfold p_table_of_c1
    simp only [q_not_n, v_bind1, asBool]
    cases isNone x <;> rfl
  refine ⟨t, ?_, tt.congr fun c _ => mf c, by omega⟩
  unfold p_table_of
  simp only [pe_need_row hd ho, v_bind1, pe_said_of_company hd (by omega), q_items_l, v_bind2, ft, e1, e2]
def RowsF (f : Int → Int) : Prop := ∀ c, 0 ≤ c → f c ≤ f (c + 1) + 1
theorem RowsF.mono {f : Int → Int} (h : RowsF f) {c d : Int} (hc : 0 ≤ c) (hd : c ≤ d) : c + f c ≤ d + f d := by
  obtain ⟨n, rfl⟩ : ∃ n : Nat, d = c + n := ⟨(d - c).toNat, by omega⟩
  clear hd
  induction n with
  | zero => simp
  | succ n ih =>
    have := h (c + n) (by omega)
    have e : c + ((n + 1 : Nat) : Int) = c + n + 1 := by omega
    rw [e]
    omega
theorem many_rows (r : List Say) : RowsF (manyF r) := fun c _ => by
  have := tot_mono r c (c + 1) (by omega)
  unfold manyF
  omega
theorem TabOf.rows {t : Tab} {f : Int → Int} (h : TabOf t f) (hf : RowsF f) : RowsF (lv t) := fun c hc => by
  rw [h.at_ c hc, h.at_ (c + 1) (by omega)]
  exact hf c hc
theorem goT_can : ∀ {r : Tab} {a l : Int}, Can a l r → 0 ≤ a → goT (tabL r) a (some l) = true
  | [], _, _, _, _ => rfl
  | p :: r, a, l, h, ha => by
    obtain ⟨h1, h2, h3, h4⟩ := h
    show (match stepOk (stepD p) with | some q => goOk a (some l) q && goT (tabL r) q.1 (some q.2) | none => false) = true
    rw [stepOk_D (by omega) h3]
    have h2' : ¬ l = p.2 := h2
    simp [goOk, h1, h2', goT_can h4 (by omega)]
theorem tab_tblB {t : Tab} (h : IsTab t) : tblB (tabD t) = true := by
  obtain ⟨m, r, rfl, hm, k⟩ := h
  show (goT (stepD (0, m) :: tabL r) (-1) none && head0 (stepD (0, m) :: tabL r)) = true
  have s0 : stepOk (stepD (0, m)) = some (0, m) := stepOk_D (Int.le_refl _) hm
  have e1 : goT (stepD (0, m) :: tabL r) (-1) none = true := by
    show (match stepOk (stepD (0, m)) with | some q => goOk (-1) none q && goT (tabL r) q.1 (some q.2) | none => false) = true
    rw [s0]
    simp [goOk, goT_can k (Int.le_refl _)]
  have e2 : head0 (stepD (0, m) :: tabL r) = true := by
    show (match stepOk (stepD (0, m)) with | some p => p.1 == 0 | none => false) = true
    rw [s0]; rfl
  rw [e1, e2]; rfl
theorem pe_is_table_t {t : Tab} (h : IsTab t) : p_is_table (tabD t) = some (.bool true) := by rw [pe_is_table, tab_tblB h]
theorem sum_ints (ns : List Int) : gSum [.list (ns.map PyData.int)] = some (.int ns.sum) := by
  show (nums (ns.map PyData.int)).map _ = _
  rw [nums_ints]; rfl
theorem fall_can : ∀ {r : Tab} {a m : Int}, Can a m r → (∀ c, a ≤ c → lvF m r c ≤ lvF m r (c + 1) + 1) → fallOk m r = true
  | [], _, _, _, _ => rfl
  | p :: r, a, m, h, k => by
    obtain ⟨h1, h2, h3, h4⟩ := h
    have k1 := k (p.1 - 1) (by omega)
    have e1 : lvF m (p :: r) (p.1 - 1) = m := by
      show (if p.1 ≤ p.1 - 1 then _ else m) = m
      rw [if_neg (by omega)]
    have e2 : lvF m (p :: r) (p.1 - 1 + 1) = p.2 := by
      show (if p.1 ≤ p.1 - 1 + 1 then lvF p.2 r (p.1 - 1 + 1) else m) = p.2
      rw [if_pos (by omega)]
      exact lvF_low h4.rise (by omega)
    rw [e1, e2] at k1
    have ih := fall_can h4 fun c hc => by
      have := k c (by omega)
      simp only [lvF] at this
      rwa [if_pos hc, if_pos (by omega)] at this
    show (!(decide (p.2 < m - 1)) && fallOk p.2 r) = true
    rw [ih, decide_eq_false (by omega)]
    rfl
theorem pe_is_rows_t {t : Tab} (h : IsTab t) (hr : RowsF (lv t)) : p_is_rows (tabD t) = some (.bool true) := by
  have f0 : fallOk 0 t = true := by
    obtain ⟨m, r, rfl, hm, k⟩ := h
    have := fall_can k fun c hc => by
      have := hr c hc
      rwa [lv_head _ _ hc, lv_head _ _ (by omega)] at this
    show (!(decide (m < 0 - 1)) && fallOk m r) = true
    rw [this, decide_eq_false (by omega)]
    rfl
  obtain ⟨s, k⟩ := (rows_loop t 0).1 f0
  have k' : forP (fun x s => p_is_rows_b1 x s) (tabL t) (.int 0) = some (.nx s) := k
  have e := pe_is_table_t h
  unfold tabD at e
  unfold p_is_rows tabD
  rw [e]
  simp only [v_bind1, q_tru_b, if_true, q_items_l, v_bind2, k', v_ctB1]
theorem pe_need_rows_table {t : Tab} (h : IsTab t) (hr : RowsF (lv t)) : p_need_rows_table (tabD t) = some .none := by
  unfold p_need_rows_table
  simp [pe_is_rows_t h hr]
theorem lay_bools : ∀ bs : List Bool, PyData.canLayAll0 (boolsD bs) = true
  | [] => by simp [boolsD, PyData.canLayAll0]
  | b :: bs => by
    have := lay_bools bs
    show PyData.canLayAll0 (.bool b :: boolsD bs) = true
    simp [PyData.canLayAll0, PyData.canLay0, this]
theorem dep_bools : ∀ bs : List Bool, PyData.depthAll (boolsD bs) = 0
  | [] => by simp [boolsD, PyData.depthAll]
  | b :: bs => by
    have := dep_bools bs
    show PyData.depthAll (.bool b :: boolsD bs) = 0
    simp [PyData.depthAll, PyData.depth, this]
theorem shaped_bools (bs : List Bool) : SeqAt.shaped (.list (boolsD bs)) = true := by
  simp [SeqAt.shaped, PyData.canLay0, PyData.depth, lay_bools, dep_bools]
theorem lay_ints : ∀ bs : List Int, PyData.canLayAll0 (intsD bs) = true
  | [] => by simp [intsD, PyData.canLayAll0]
  | b :: bs => by
    have := lay_ints bs
    show PyData.canLayAll0 (.int b :: intsD bs) = true
    simp [PyData.canLayAll0, PyData.canLay0, this]
theorem dep_ints : ∀ bs : List Int, PyData.depthAll (intsD bs) = 0
  | [] => by simp [intsD, PyData.depthAll]
  | b :: bs => by
    have := dep_ints bs
    show PyData.depthAll (.int b :: intsD bs) = 0
    simp [PyData.depthAll, PyData.depth, this]
theorem shaped_ints (bs : List Int) : SeqAt.shaped (.list (intsD bs)) = true := by
  simp [SeqAt.shaped, PyData.canLay0, PyData.depth, lay_ints, dep_ints]
theorem eqv_ints : ∀ bs : List Int, PyData.eqvAll (intsD bs) (intsD bs) = true
  | [] => by simp [intsD, PyData.eqvAll]
  | b :: bs => by
    have := eqv_ints bs
    show PyData.eqvAll (.int b :: intsD bs) (.int b :: intsD bs) = true
    simp [PyData.eqvAll, PyData.eqv, this]
theorem ne_ints (bs : List Int) : gNe (.list (intsD bs)) (.list (intsD bs)) = some (.bool false) := by
  simp [gNe, shaped_ints, PyData.eqv, eqv_ints]
theorem shaped_b (b : Bool) : (SeqAt.shaped (.bool b)) = true := rfl
theorem count_words : ∀ (r : List Say) (c : Int), ((boolsD (wordsL r c)).countP fun w => PyData.eqv w (.bool true) : Nat) + c = tot r c
  | [], c => by show ((0 : Nat) : Int) + c = c; omega
  | s :: r, c => by
    have ih := count_words r c
    show (((PyData.bool (trueS s (tot r c)) :: boolsD (wordsL r c)).countP fun w => PyData.eqv w (.bool true) : Nat) : Int) + c = tot r c + b2i (trueS s (tot r c))
    rw [List.countP_cons]
    cases trueS s (tot r c) <;> simp [PyData.eqv, b2i] <;> omega
theorem count_bools (bs : List Bool) : gCount (.list (boolsD bs)) [.bool true] = some (.int ((boolsD bs).countP fun w => PyData.eqv w (.bool true) : Nat)) := by
  simp [gCount, shaped_bools, shaped_b]
theorem bools_rep : ∀ n : Nat, bools (List.replicate n (.bool true)) = some (List.replicate n true)
  | 0 => rfl
  | n + 1 => by
    show (bools (List.replicate n (.bool true))).map (true :: ·) = _
    rw [bools_rep n]; rfl
theorem alike_int (n : Nat) (i : Int) : p_l_alike (n + 1) (.int i) (.int i) = some (.bool true) := by
  unfold p_l_alike
  simp
theorem zip_self (ds : List D) : ((ds.zip ds).map fun (x : D × D) => match x with | (d, e) => PyData.tuple [d, e]) = ds.map fun d => .tuple [d, d] := by
  induction ds with
  | nil => rfl
  | cons d ds ih =>
    rw [List.zip_cons_cons, List.map_cons, List.map_cons, ih]
theorem alike_items (n : Nat) (ds : List D) (h : ∀ d ∈ ds, p_l_alike n d d = some (.bool true)) (hl : ds.length ≤ 100000) : mapT (p_l_alike_c1 (p_l_alike n)) (ds.map fun d => .tuple [d, d]) = some (List.replicate ds.length (.bool true)) := by
  have := mapT_enc (f := p_l_alike_c1 (p_l_alike n)) (e := fun d => PyData.tuple [d, d]) (φ := fun _ => PyData.bool true) (xs := ds) hl fun d hd => by
    unfold p_l_alike_c1
    simp [h d hd]
  rw [this, List.map_const']
theorem alike_list (n : Nat) (ds : List D) (h : ∀ d ∈ ds, p_l_alike n d d = some (.bool true)) (hl : ds.length ≤ 100000) : p_l_alike (n + 1) (.list ds) (.list ds) = some (.bool true) := by
  have z : zipP (.list ds) (.list ds) = some (ds.map fun d => .tuple [d, d]) := by
    unfold zipP
    simp only [q_items_l, beq_self_eq_true, if_true, zip_self]
  unfold p_l_alike
  simp [z, alike_items n ds h hl, bools_rep]
theorem alike_tuple (n : Nat) (ds : List D) (h : ∀ d ∈ ds, p_l_alike n d d = some (.bool true)) (hl : ds.length ≤ 100000) : p_l_alike (n + 1) (.tuple ds) (.tuple ds) = some (.bool true) := by
  have z : zipP (.tuple ds) (.tuple ds) = some (ds.map fun d => .tuple [d, d]) := by
    unfold zipP
    simp only [q_items_t, beq_self_eq_true, if_true, zip_self]
  unfold p_l_alike
  simp [z, alike_items n ds h hl, bools_rep]
theorem lay_tab : ∀ t : Tab, PyData.canLayAll0 (tabL t) = true
  | [] => by simp [tabL, PyData.canLayAll0]
  | p :: t => by
    have := lay_tab t
    show PyData.canLayAll0 (stepD p :: tabL t) = true
    simp [PyData.canLayAll0, PyData.canLay0, this, stepD]
theorem dep_tab : ∀ t : Tab, PyData.depthAll (tabL t) ≤ 1
  | [] => by simp [tabL, PyData.depthAll]
  | p :: t => by
    have := dep_tab t
    show PyData.depthAll (stepD p :: tabL t) ≤ 1
    simp [PyData.depthAll, PyData.depth, stepD]
    omega
theorem shaped_tab (t : Tab) : SeqAt.shaped (tabD t) = true := by
  have := dep_tab t
  simp [SeqAt.shaped, tabD, PyData.canLay0, PyData.depth, lay_tab]
  omega
theorem alike_tab (n : Nat) (t : Tab) (hl : t.length ≤ 100000) : p_l_alike (n + 3) (tabD t) (tabD t) = some (.bool true) :=
  alike_list (n + 2) _ (fun d hd => by
    obtain ⟨p, _, rfl⟩ := List.mem_map.mp hd
    exact alike_tuple (n + 1) _ (fun e he => by
      simp only [List.mem_cons, List.not_mem_nil, or_false] at he
      rcases he with rfl | rfl <;> exact alike_int n _) (by simp)) (by simpa using hl)
structure Sm (w dep : Nat) (d : D) : Prop where
  lay : d.canLay0 = true
  ls : d.leavesShort 60 = true
  sh : PyData.showable d = true
  dp : d.depth ≤ dep
  wt : d.weight ≤ w
theorem Sm.mono {w dep w' dep' : Nat} {d : D} (h : Sm w dep d) (hw : w ≤ w') (hd : dep ≤ dep') : Sm w' dep' d := ⟨h.lay, h.ls, h.sh, Nat.le_trans h.dp hd, Nat.le_trans h.wt hw⟩
theorem Sm.shaped {w dep : Nat} {d : D} (h : Sm w dep d) (hd : dep ≤ 64) : SeqAt.shaped d = true := by
  have := h.dp
  simp [SeqAt.shaped, h.lay]; omega
def rngI (lo : Int) (n : Nat) : List Int := (List.range n).map fun (i : Nat) => lo + i
def upL : Int → Tab → List Int
  | _, [] => []
  | a, p :: r => (if a < p.2 then rngI (p.1 + a) (p.2 - a).toNat else []) ++ upL p.2 r
def dnL : Int → Tab → List Int
  | _, [] => []
  | a, p :: r => (if p.2 < a then [p.1 - 1] else []) ++ dnL p.2 r
def upS : Int → Tab → Tab
  | _, [] => []
  | a, p :: r => (if a < p.2 then [(p.1 + a, p.1 + p.2 - 1)] else []) ++ upS p.2 r
def lastL : Int → Tab → Int
  | a, [] => a
  | _, p :: r => lastL p.2 r
def strS (out : Tab) (n : Int) : Tab := match out.getLast? with
  | some q => if q.2 = n - 1 then out.dropLast ++ [(q.1, n)] else out ++ [(n, n)]
  | none => [(n, n)]
def strL (l : List Int) : Tab := l.foldl strS []
def cntT (t : Tab) : Int := (t.map fun q => q.2 + 1 - q.1).sum
theorem strS_snoc (t : Tab) (q : Int × Int) (n : Int) : strS (t ++ [q]) n = if q.2 = n - 1 then t ++ [(q.1, n)] else t ++ [q] ++ [(n, n)] := by
  unfold strS
  rw [List.getLast?_concat, List.dropLast_concat]
theorem tab_cases (t : Tab) : t = [] ∨ ∃ s q, t = s ++ [q] := by
  rcases List.eq_nil_or_concat t with h | ⟨s, q, h⟩
  · exact .inl h
  · exact .inr ⟨s, q, by simpa using h⟩
theorem cnt_snoc (t : Tab) (q : Int × Int) : cntT (t ++ [q]) = cntT t + (q.2 + 1 - q.1) := by
  simp [cntT]
theorem cnt_str (t : Tab) (n : Int) : cntT (strS t n) = cntT t + 1 := by
  rcases tab_cases t with rfl | ⟨s, q, rfl⟩
  · show cntT [(n, n)] = _
    simp [cntT]; omega
  · rw [strS_snoc]
    split
    · rename_i h
      rw [cnt_snoc, cnt_snoc]
      simp only
      omega
    · rw [cnt_snoc]
      simp only
      omega
theorem cnt_fold : ∀ (l : List Int) (t : Tab), cntT (l.foldl strS t) = cntT t + l.length
  | [], t => by simp
  | n :: l, t => by
    rw [List.foldl_cons, cnt_fold l, cnt_str]
    simp; omega
theorem cnt_strL (l : List Int) : cntT (strL l) = l.length := by
  have := cnt_fold l []
  show cntT (l.foldl strS []) = _
  rw [this]
  show 0 + (l.length : Int) = _
  omega
theorem str_len : ∀ (l : List Int) (t : Tab), (l.foldl strS t).length ≤ t.length + l.length
  | [], t => by simp
  | n :: l, t => by
    rw [List.foldl_cons]
    have := str_len l (strS t n)
    have h : (strS t n).length ≤ t.length + 1 := by
      rcases tab_cases t with rfl | ⟨s, q, rfl⟩
      · exact Nat.le_refl _
      · rw [strS_snoc]
        split <;> simp
    simp; omega
theorem strL_len (l : List Int) : (strL l).length ≤ l.length := by
  have := str_len l []
  simpa [strL] using this
/-- moved -/
def movT (b : Int) (t : Tab) : Tab := t.map fun q => (q.1 + b, q.2 + b)
theorem mov_str (b n : Int) (t : Tab) : movT b (strS t n) = strS (movT b t) (n + b) := by
  rcases tab_cases t with rfl | ⟨s, q, rfl⟩
  · rfl
  · have e : movT b (s ++ [q]) = movT b s ++ [(q.1 + b, q.2 + b)] := by simp [movT]
    rw [e, strS_snoc, strS_snoc]
    by_cases h : q.2 = n - 1
    · rw [if_pos h, if_pos (by show q.2 + b = n + b - 1; omega)]
      simp [movT]
    · rw [if_neg h, if_neg (by show ¬ q.2 + b = n + b - 1; omega)]
      simp [movT]
theorem mov_fold (b : Int) : ∀ (l : List Int) (t : Tab), movT b (l.foldl strS t) = (l.map (· + b)).foldl strS (movT b t)
  | [], _ => rfl
  | n :: l, t => by
    rw [List.foldl_cons, mov_fold b l, mov_str]; rfl
theorem mov_strL (b : Int) (l : List Int) : movT b (strL l) = strL (l.map (· + b)) := mov_fold b l []
theorem str_rng (lo : Int) : ∀ (n : Nat) (t : Tab), (∀ q, t.getLast? = some q → q.2 < lo - 1) → (rngI lo (n + 1)).foldl strS t = t ++ [(lo, lo + n)]
  | 0, t, h => by
    show strS t (lo + (0 : Nat)) = _
    rcases tab_cases t with rfl | ⟨s, q, rfl⟩
    · simp [strS]
    · have := h q (by simp)
      rw [strS_snoc, if_neg (by omega)]
      simp
  | n + 1, t, h => by
    have e : rngI lo (n + 2) = rngI lo (n + 1) ++ [lo + ((n + 1 : Nat) : Int)] := by simp [rngI, List.range_succ]
    rw [e, List.foldl_append, str_rng lo n t h]
    show strS (t ++ [(lo, lo + (n : Int))]) (lo + ((n + 1 : Nat) : Int)) = _
    rw [strS_snoc, if_pos (by show lo + (n : Int) = lo + ((n + 1 : Nat) : Int) - 1; omega)]
theorem up_str : ∀ (r : Tab) (c0 a : Int) (t : Tab), Can c0 a r → fallOk a r = true → (∀ q, t.getLast? = some q → q.2 < c0 + a) → (upL a r).foldl strS t = t ++ upS a r
  | [], _, _, t, _, _, _ => by simp [upL, upS]
  | p :: r, c0, a, t, h, f, hl => by
    obtain ⟨h1, h2, h3, h4⟩ := h
    have f' : (!(decide (p.2 < a - 1)) && fallOk p.2 r) = true := f
    rw [Bool.and_eq_true] at f'
    have f1 : ¬ p.2 < a - 1 := by simpa using f'.1
    unfold upL upS
    rw [List.foldl_append]
    by_cases hu : a < p.2
    · rw [if_pos hu, if_pos hu]
      obtain ⟨n, hn⟩ : ∃ n : Nat, (p.2 - a).toNat = n + 1 := ⟨(p.2 - a).toNat - 1, by omega⟩
      rw [hn, str_rng (p.1 + a) n t (fun q hq => by have := hl q hq; omega), up_str r p.1 p.2 _ h4 f'.2 (fun q hq => by
        rw [List.getLast?_concat] at hq
        cases hq
        show p.1 + a + (n : Int) < p.1 + p.2
        omega), List.append_assoc]
      have : p.1 + a + (n : Int) = p.1 + p.2 - 1 := by omega
      rw [this]
    · rw [if_neg hu, if_neg hu]
      show (upL p.2 r).foldl strS t = t ++ ([] ++ upS p.2 r)
      rw [up_str r p.1 p.2 t h4 f'.2 (fun q hq => by have := hl q hq; omega)]
      rfl
theorem mono_from : ∀ (r : Tab) (c0 a : Int), Can c0 a r → fallOk a r = true → ∀ c, c0 ≤ c → c0 + a ≤ c + lvF a r c
  | [], c0, a, _, _, c, hc => by show c0 + a ≤ c + a; omega
  | p :: r, c0, a, h, f, c, hc => by
    obtain ⟨h1, h2, h3, h4⟩ := h
    have f' : (!(decide (p.2 < a - 1)) && fallOk p.2 r) = true := f
    rw [Bool.and_eq_true] at f'
    have f1 : ¬ p.2 < a - 1 := by simpa using f'.1
    unfold lvF
    split
    · rename_i hp
      have := mono_from r p.1 p.2 h4 f'.2 c hp
      omega
    · omega
theorem rngI_mem {lo x : Int} {n : Nat} : x ∈ rngI lo n ↔ lo ≤ x ∧ x < lo + n := by
  unfold rngI
  rw [List.mem_map]
  constructor
  · rintro ⟨i, hi, rfl⟩
    rw [List.mem_range] at hi
    omega
  · intro h
    exact ⟨(x - lo).toNat, by rw [List.mem_range]; omega, by omega⟩
theorem rngI_up (lo : Int) (n : Nat) : (rngI lo n).Pairwise (· < ·) := by
  unfold rngI
  rw [List.pairwise_map]
  exact List.pairwise_lt_range.imp fun h => by omega
theorem up_low : ∀ (r : Tab) (c0 a : Int), Can c0 a r → fallOk a r = true → ∀ x ∈ upL a r, c0 + a < x
  | [], _, _, _, _, x, hx => by cases hx
  | p :: r, c0, a, h, f, x, hx => by
    obtain ⟨h1, h2, h3, h4⟩ := h
    have f' : (!(decide (p.2 < a - 1)) && fallOk p.2 r) = true := f
    rw [Bool.and_eq_true] at f'
    have f1 : ¬ p.2 < a - 1 := by simpa using f'.1
    unfold upL at hx
    rcases List.mem_append.mp hx with hx | hx
    · split at hx
      · rw [rngI_mem] at hx
        omega
      · cases hx
    · have := up_low r p.1 p.2 h4 f'.2 x hx
      omega
theorem up_up : ∀ (r : Tab) (c0 a : Int), Can c0 a r → fallOk a r = true → (upL a r).Pairwise (· < ·)
  | [], _, _, _, _ => .nil
  | p :: r, c0, a, h, f => by
    obtain ⟨h1, h2, h3, h4⟩ := h
    have f' : (!(decide (p.2 < a - 1)) && fallOk p.2 r) = true := f
    rw [Bool.and_eq_true] at f'
    unfold upL
    rw [List.pairwise_append]
    refine ⟨?_, up_up r p.1 p.2 h4 f'.2, fun x hx y hy => ?_⟩
    · split
      · exact rngI_up _ _
      · exact .nil
    · have := up_low r p.1 p.2 h4 f'.2 y hy
      split at hx
      · rw [rngI_mem] at hx
        omega
      · cases hx
theorem up_mem : ∀ (r : Tab) (c0 a : Int), Can c0 a r → fallOk a r = true → ∀ n, c0 + a ≤ n → (n ∈ upL a r ↔ ∀ c, c0 ≤ c → c + lvF a r c ≠ n)
  | [], c0, a, _, _, n, hn => by
    constructor
    · intro h; cases h
    · intro h
      exact absurd (show n - a + a = n by omega) (h (n - a) (by omega))
  | p :: r, c0, a, h, f, n, hn => by
    obtain ⟨h1, h2, h3, h4⟩ := h
    have f' : (!(decide (p.2 < a - 1)) && fallOk p.2 r) = true := f
    rw [Bool.and_eq_true] at f'
    have f1 : ¬ p.2 < a - 1 := by simpa using f'.1
    have low := up_low r p.1 p.2 h4 f'.2
    have mono := mono_from r p.1 p.2 h4 f'.2
    have lo : ∀ c, c < p.1 → lvF a (p :: r) c = a := fun c hc => by
      show (if p.1 ≤ c then _ else a) = a
      rw [if_neg (by omega)]
    have hi : ∀ c, p.1 ≤ c → lvF a (p :: r) c = lvF p.2 r c := fun c hc => by
      show (if p.1 ≤ c then lvF p.2 r c else a) = _
      rw [if_pos hc]
    have inn : n ∈ upL a (p :: r) ↔ (a < p.2 ∧ p.1 + a ≤ n ∧ n < p.1 + p.2) ∨ n ∈ upL p.2 r := by
      show n ∈ (if a < p.2 then rngI (p.1 + a) (p.2 - a).toNat else []) ++ upL p.2 r ↔ _
      rw [List.mem_append]
      by_cases hu : a < p.2
      · rw [if_pos hu, rngI_mem]
        constructor
        · rintro (h | h)
          · exact .inl ⟨hu, h.1, by omega⟩
          · exact .inr h
        · rintro (h | h)
          · exact .inl ⟨h.2.1, by omega⟩
          · exact .inr h
      · rw [if_neg hu]
        constructor
        · rintro (h | h)
          · cases h
          · exact .inr h
        · rintro (h | h)
          · exact absurd h.1 hu
          · exact .inr h
    rw [inn]
    rcases Decidable.em (n < (p.1 + a)) with k | k
    · constructor
      · rintro (h | h)
        · omega
        · have := low n h
          omega
      · intro h
        have := h (n - a) (by omega)
        rw [lo _ (by omega)] at this
        omega
    · rcases Decidable.em (n < (p.1 + p.2)) with k2 | k2
      · constructor
        · intro _ c hc
          rcases Decidable.em (c < p.1) with k3 | k3
          · rw [lo c k3]; omega
          · rw [hi c (by omega)]
            have := mono c (by omega)
            omega
        · intro _
          exact .inl ⟨by omega, by omega, k2⟩
      · have ih := up_mem r p.1 p.2 h4 f'.2 n (by omega)
        constructor
        · rintro (h | h)
          · omega
          · intro c hc
            rcases Decidable.em (c < p.1) with k3 | k3
            · rw [lo c k3]; omega
            · rw [hi c (by omega)]
              exact ih.mp h c (by omega)
        · intro h
          refine .inr (ih.mpr fun c hc => ?_)
          have := h c (by omega)
          rwa [hi c hc] at this
theorem dn_low : ∀ (r : Tab) (c0 a : Int), Can c0 a r → ∀ x ∈ dnL a r, c0 ≤ x
  | [], _, _, _, x, hx => by cases hx
  | p :: r, c0, a, h, x, hx => by
    obtain ⟨h1, h2, h3, h4⟩ := h
    unfold dnL at hx
    rcases List.mem_append.mp hx with hx | hx
    · split at hx
      · have : x = p.1 - 1 := by simpa using hx
        omega
      · cases hx
    · have := dn_low r p.1 p.2 h4 x hx
      omega
theorem dn_up : ∀ (r : Tab) (c0 a : Int), Can c0 a r → (dnL a r).Pairwise (· < ·)
  | [], _, _, _ => .nil
  | p :: r, c0, a, h => by
    obtain ⟨h1, h2, h3, h4⟩ := h
    unfold dnL
    rw [List.pairwise_append]
    refine ⟨?_, dn_up r p.1 p.2 h4, fun x hx y hy => ?_⟩
    · split
      · exact List.pairwise_singleton _ _
      · exact .nil
    · have := dn_low r p.1 p.2 h4 y hy
      split at hx
      · have : x = p.1 - 1 := by simpa using hx
        omega
      · cases hx
theorem dn_mem : ∀ (r : Tab) (c0 a : Int), Can c0 a r → fallOk a r = true → ∀ n, c0 ≤ n → (n ∈ dnL a r ↔ n + lvF a r n = n + 1 + lvF a r (n + 1))
  | [], c0, a, _, _, n, hn => by
    constructor
    · intro h; cases h
    · intro h
      have : n + a = n + 1 + a := h
      omega
  | p :: r, c0, a, h, f, n, hn => by
    obtain ⟨h1, h2, h3, h4⟩ := h
    have f' : (!(decide (p.2 < a - 1)) && fallOk p.2 r) = true := f
    rw [Bool.and_eq_true] at f'
    have f1 : ¬ p.2 < a - 1 := by simpa using f'.1
    have low := dn_low r p.1 p.2 h4
    have lo : ∀ c, c < p.1 → lvF a (p :: r) c = a := fun c hc => by
      show (if p.1 ≤ c then _ else a) = a
      rw [if_neg (by omega)]
    have hi : ∀ c, p.1 ≤ c → lvF a (p :: r) c = lvF p.2 r c := fun c hc => by
      show (if p.1 ≤ c then lvF p.2 r c else a) = _
      rw [if_pos hc]
    have inn : n ∈ dnL a (p :: r) ↔ (p.2 < a ∧ n = p.1 - 1) ∨ n ∈ dnL p.2 r := by
      show n ∈ (if p.2 < a then [p.1 - 1] else []) ++ dnL p.2 r ↔ _
      rw [List.mem_append]
      by_cases hu : p.2 < a
      · rw [if_pos hu]; simp [hu]
      · rw [if_neg hu]; simp [hu]
    rw [inn]
    rcases Int.lt_trichotomy n (p.1 - 1) with k | k | k
    · rw [lo n (by omega), lo (n + 1) (by omega)]
      constructor
      · rintro (h | h)
        · omega
        · have := low n h
          omega
      · intro h; omega
    · rw [lo n (by omega), hi (n + 1) (by omega), lvF_low h4.rise (by omega)]
      constructor
      · rintro (h | h)
        · omega
        · have := low n h
          omega
      · intro h
        exact .inl ⟨by omega, k⟩
    · rw [hi n (by omega), hi (n + 1) (by omega), ← dn_mem r p.1 p.2 h4 f'.2 n (by omega)]
      constructor
      · rintro (h | h)
        · omega
        · exact h
      · exact .inr
theorem up_dn : ∀ (r : Tab) (c0 a : Int), Can c0 a r → fallOk a r = true → ((upL a r).length : Int) + a = (dnL a r).length + lastL a r
  | [], _, a, _, _ => by simp [upL, dnL, lastL]
  | p :: r, c0, a, h, f => by
    obtain ⟨h1, h2, h3, h4⟩ := h
    have f' : (!(decide (p.2 < a - 1)) && fallOk p.2 r) = true := f
    rw [Bool.and_eq_true] at f'
    have f1 : ¬ p.2 < a - 1 := by simpa using f'.1
    have ih := up_dn r p.1 p.2 h4 f'.2
    unfold upL dnL lastL
    rw [List.length_append, List.length_append]
    by_cases hu : a < p.2
    · rw [if_pos hu, if_neg (by omega)]
      have : (rngI (p.1 + a) (p.2 - a).toNat).length = (p.2 - a).toNat := by simp [rngI]
      rw [this]
      simp only [List.length_nil]
      omega
    · rw [if_neg hu, if_pos (by omega)]
      simp only [List.length_nil, List.length_singleton]
      omega
theorem last_lv : ∀ (r : Tab) (a c : Int), (∀ p ∈ r, p.1 ≤ c) → lvF a r c = lastL a r
  | [], _, _, _ => rfl
  | p :: r, a, c, h => by
    unfold lvF lastL
    rw [if_pos (h p List.mem_cons_self)]
    exact last_lv r p.2 c fun q hq => h q (List.mem_cons_of_mem _ hq)
/-- two rising lists with the same numbers are one -/
theorem up_one : ∀ {xs ys : List Int}, xs.Pairwise (· < ·) → ys.Pairwise (· < ·) → (∀ n, n ∈ xs ↔ n ∈ ys) → xs = ys
  | [], [], _, _, _ => rfl
  | [], y :: ys, _, _, h => by have := (h y).mpr List.mem_cons_self; cases this
  | x :: xs, [], _, _, h => by have := (h x).mp List.mem_cons_self; cases this
  | x :: xs, y :: ys, hx, hy, h => by
    have hx' := List.pairwise_cons.mp hx
    have hy' := List.pairwise_cons.mp hy
    have e : x = y := by
      rcases List.mem_cons.mp ((h x).mp List.mem_cons_self) with e | e
      · exact e
      · rcases List.mem_cons.mp ((h y).mpr List.mem_cons_self) with e2 | e2
        · exact e2.symm
        · have := hy'.1 x e
          have := hx'.1 y e2
          omega
    subst e
    refine congrArg _ (up_one hx'.2 hy'.2 fun n => ?_)
    constructor
    · intro hn
      rcases List.mem_cons.mp ((h n).mp (List.mem_cons_of_mem _ hn)) with e | e
      · have := hx'.1 n hn
        omega
      · exact e
    · intro hn
      rcases List.mem_cons.mp ((h n).mpr (List.mem_cons_of_mem _ hn)) with e | e
      · have := hy'.1 n hn
        omega
      · exact e
theorem snoc_at (s : Tab) (q : Int × Int) : gIx (tabD (s ++ [q])) (.int (-1)) = some (stepD q) := by
  show atI (tabL (s ++ [q])) (-1) = _
  rw [show tabL (s ++ [q]) = tabL s ++ [stepD q] by simp [tabL]]
  exact atI_last _ _
theorem snoc_put (s : Tab) (q p : Int × Int) : setP (tabD (s ++ [q])) (.int (-1)) (stepD p) = some (tabD (s ++ [p])) := by
  have e : ∀ z : Int × Int, tabL (s ++ [z]) = tabL s ++ [stepD z] := fun z => by simp [tabL]
  show setP (.list (tabL (s ++ [q]))) _ _ = some (.list (tabL (s ++ [p])))
  rw [v_setP, e q, e p]
  have : ixN (tabL s ++ [stepD q]).length (-1) = some (tabL s).length := by
    rw [List.length_append, List.length_singleton]
    unfold ixN
    simp
    omega
  rw [this]
  simp
theorem app_tab {s : Tab} (p : Int × Int) (h : s.length < 100000) : mutP gAppend (tabD s) [stepD p] = some (tabD (s ++ [p]), .none) := by
  show mutP gAppend (.list (tabL s)) _ = _
  rw [v_mutP, q_append, if_pos (by simpa using h)]
  simp [tabD, tabL]
theorem ne_nilT (s : Tab) (q : Int × Int) : gNe (tabD (s ++ [q])) (.list []) = some (.bool true) := by
  have h := shaped_tab (s ++ [q])
  have h2 : SeqAt.shaped (.list []) = true := rfl
  show gNe (.list (tabL (s ++ [q]))) (.list []) = _
  have h3 : SeqAt.shaped (.list (tabL (s ++ [q]))) = true := h
  have e : ∃ x xs, tabL (s ++ [q]) = x :: xs := by
    cases s with
    | nil => exact ⟨_, _, rfl⟩
    | cons a s => exact ⟨_, _, rfl⟩
  obtain ⟨x, xs, e⟩ := e
  rw [e] at h3 ⊢
  simp [gNe, h3, h2, PyData.eqv, PyData.eqvAll]
theorem ne_nil0 : gNe (tabD []) (.list []) = some (.bool false) := ne_ints []
theorem stretched_turn (t : Tab) (n : Int) (ht : t.length < 100000) : p_l_stretched_b1 (.int n) (tabD t) = some (tabD (strS t n)) := by
  have asb : ∀ b, asBool (.bool b) = some b := fun _ => rfl
  have sb : gSub' (.int n) (.int 1) = some (.int (n - 1)) := Eq.trans rfl rfl
  have ng : negP (.int 1) = some (.int (-1)) := Eq.trans rfl rfl
  have ap := app_tab (n, n) ht
  have sp : stepD (n, n) = .tuple [.int n, .int n] := rfl
  rw [sp] at ap
  rcases tab_cases t with rfl | ⟨s, q, rfl⟩
  · unfold p_l_stretched_b1
    simp only [ne_nil0, v_bind1, asb, Bool.false_eq_true, if_false, ap, v_bind2]
    rfl
  · have i1 : gIx (stepD q) (.int 1) = some (.int q.2) := Eq.trans rfl rfl
    have i0 : gIx (stepD q) (.int 0) = some (.int q.1) := Eq.trans rfl rfl
    have pt := snoc_put s q (q.1, n)
    have sp2 : stepD (q.1, n) = .tuple [.int q.1, .int n] := rfl
    rw [sp2] at pt
    rw [strS_snoc]
    unfold p_l_stretched_b1
    simp only [ne_nilT, v_bind1, asb, if_true, ng, snoc_at, i1, sb, q_eq_ii, i0, pt, ap, v_bind2]
    by_cases h : q.2 = n - 1
    · simp [h]
    · simp [h]
theorem pe_stretched (l : List Int) (hl : l.length < 90000) : p_l_stretched (.list (intsD l)) = some (tabD (strL l)) := by
  obtain ⟨s', e, h⟩ := foldP_enc (f := fun x s => p_l_stretched_b1 x s) (e := PyData.int) (xs := l) (s := .list []) (fun done s => s = tabD (strL done)) rfl (by
    rintro pre x post _ hx rfl
    have hlen : pre.length < l.length := by rw [hx]; simp
    have := strL_len pre
    refine ⟨_, stretched_turn (strL pre) x (by omega), ?_⟩
    unfold strL
    rw [List.foldl_append]; rfl)
  subst h
  have e' : foldP (fun x s => p_l_stretched_b1 x s) (intsD l) (.list []) = some (tabD (strL l)) := e
  unfold p_l_stretched
  simp only [q_items_l, v_bind2, e', v_bind1]
theorem never_turn (t : Tab) (a : Int) (p : Int × Int) (ht : t.length < 100000) : p_never_comes_b1 (stepD p) (tabD t) (.int a) = some (tabD (if a < p.2 then t ++ [(p.1 + a, p.1 + p.2 - 1)] else t), .int p.2) := by
  have asb : ∀ b, asBool (.bool b) = some b := fun _ => rfl
  have ap := app_tab (p.1 + a, p.1 + p.2 - 1) ht
  have sp : stepD (p.1 + a, p.1 + p.2 - 1) = .tuple [.int (p.1 + a), .int (p.1 + p.2 - 1)] := rfl
  rw [sp] at ap
  have tp : tup2 (stepD p) = some (.int p.1, .int p.2) := Eq.trans rfl rfl
  have gt : gGt (.int p.2) (.int a) = some (.bool (decide (a < p.2))) := Eq.trans rfl rfl
  have sb : gSub' (.int (p.1 + p.2)) (.int 1) = some (.int (p.1 + p.2 - 1)) := Eq.trans rfl rfl
  unfold p_never_comes_b1
  simp only [tp, v_bind2, gt, v_bind1, asb, v_addV, sb, ap]
  by_cases h : a < p.2 <;> simp [h]
def upSn : Int → Tab → Int × Tab
  | a, [] => (a, [])
  | _, p :: r => upSn p.2 r
theorem upS_app : ∀ (r : Tab) (a : Int) (p : Int × Int), upS a (r ++ [p]) = upS a r ++ (if lastL a r < p.2 then [(p.1 + lastL a r, p.1 + p.2 - 1)] else [])
  | [], a, p => by
    show (if a < p.2 then [(p.1 + a, p.1 + p.2 - 1)] else []) ++ [] = _
    rw [List.append_nil]; rfl
  | q :: r, a, p => by
    show (if a < q.2 then [(q.1 + a, q.1 + q.2 - 1)] else []) ++ upS q.2 (r ++ [p]) = _
    rw [upS_app r q.2 p, ← List.append_assoc]; rfl
theorem dnL_app : ∀ (r : Tab) (a : Int) (p : Int × Int), dnL a (r ++ [p]) = dnL a r ++ (if p.2 < lastL a r then [p.1 - 1] else [])
  | [], a, p => by
    show (if p.2 < a then [p.1 - 1] else []) ++ [] = _
    rw [List.append_nil]; rfl
  | q :: r, a, p => by
    show (if q.2 < a then [q.1 - 1] else []) ++ dnL q.2 (r ++ [p]) = _
    rw [dnL_app r q.2 p, ← List.append_assoc]; rfl
theorem lastL_app : ∀ (r : Tab) (a : Int) (p : Int × Int), lastL a (r ++ [p]) = p.2
  | [], _, _ => rfl
  | _ :: r, _, p => lastL_app r _ p
theorem upS_len : ∀ (r : Tab) (a : Int), (upS a r).length ≤ r.length
  | [], _ => by simp [upS]
  | p :: r, a => by
    have := upS_len r p.2
    unfold upS
    rw [List.length_append]
    split <;> simp <;> omega
theorem dnL_len : ∀ (r : Tab) (a : Int), (dnL a r).length ≤ r.length
  | [], _ => by simp [dnL]
  | p :: r, a => by
    have := dnL_len r p.2
    unfold dnL
    rw [List.length_append]
    split <;> simp <;> omega
theorem pe_never (t : Tab) (h : IsTab t) (hr : RowsF (lv t)) (hl : t.length ≤ 90000) : p_never_comes (tabD t) = some (tabD (upS 0 t)) := by
  obtain ⟨s', e, hs⟩ := foldP_enc (f := fun x (s : D × D) => p_never_comes_b1 x s.1 s.2) (e := stepD) (xs := t) (s := (.list [], .int 0)) (fun done s => s = (tabD (upS 0 done), .int (lastL 0 done))) rfl (by
    rintro pre x post _ hx rfl
    have hlen : pre.length < t.length := by rw [hx]; simp
    have := upS_len pre 0
    refine ⟨_, never_turn (upS 0 pre) (lastL 0 pre) x (by omega), ?_⟩
    rw [upS_app, lastL_app]
    split <;> simp)
  subst hs
  have e' : foldP (fun x (s : D × D) => p_never_comes_b1 x s.1 s.2) (tabL t) (.list [], .int 0) = some (tabD (upS 0 t), .int (lastL 0 t)) := e
  unfold p_never_comes
  simp only [pe_need_rows_table h hr, v_bind1, show itemsD (tabD t) = some (false, tabL t) from rfl, v_bind2, e']
theorem folds_turn (t : Tab) (a : Int) (p : Int × Int) (ht : t.length < 100000) : p_folds_b1 (stepD p) (tabD t) (.int a) = some (tabD (if p.2 < a then strS t (p.1 - 1) else t), .int p.2) := by
  have asb : ∀ b, asBool (.bool b) = some b := fun _ => rfl
  have tp : tup2 (stepD p) = some (.int p.1, .int p.2) := Eq.trans rfl rfl
  have lt : gLt (.int p.2) (.int a) = some (.bool (decide (p.2 < a))) := Eq.trans rfl rfl
  have sb : gSub' (.int p.1) (.int 1) = some (.int (p.1 - 1)) := Eq.trans rfl rfl
  have sb2 : gSub' (.int p.1) (.int 2) = some (.int (p.1 - 2)) := Eq.trans rfl rfl
  have ng : negP (.int 1) = some (.int (-1)) := Eq.trans rfl rfl
  have ap := app_tab (p.1 - 1, p.1 - 1) ht
  have sp : ∀ x y : Int, stepD (x, y) = .tuple [.int x, .int y] := fun _ _ => rfl
  rw [sp] at ap
  unfold p_folds_b1
  simp only [tp, v_bind2, lt, v_bind1, asb, sb]
  by_cases h : p.2 < a
  · rw [if_pos h]
    simp only [h, decide_true, if_true]
    rcases tab_cases t with rfl | ⟨s, q, rfl⟩
    · have tn : truD (tabD []) = some false := Eq.trans rfl rfl
      simp only [tn, v_bind1, Bool.false_eq_true, if_false, v_bind2, ap]
      rfl
    · have tn : truD (tabD (s ++ [q])) = some true := by
        show truD (.list (tabL (s ++ [q]))) = _
        rw [q_tru_l]
        cases s <;> rfl
      have i1 : gIx (stepD q) (.int 1) = some (.int q.2) := Eq.trans rfl rfl
      have i0 : gIx (stepD q) (.int 0) = some (.int q.1) := Eq.trans rfl rfl
      have pp : mutP gPop (tabD (s ++ [q])) [] = some (tabD s, stepD q) := by
        show mutP gPop (.list (tabL (s ++ [q]))) [] = _
        rw [v_mutP, show tabL (s ++ [q]) = tabL s ++ [stepD q] by simp [tabL]]
        have : gPop (tabL s ++ [stepD q]) [] = some (tabL s, stepD q) := by
          unfold gPop
          simp
        rw [this]; rfl
      have ap2 := app_tab (s := s) (q.1, p.1 - 1) (by simp at ht; omega)
      rw [sp] at ap2
      rw [strS_snoc]
      simp only [tn, v_bind1, if_true, ng, snoc_at, i1, sb2, q_eq_ii, asb]
      by_cases k : q.2 = p.1 - 2
      · have k' : q.2 = p.1 - 1 - 1 := by omega
        rw [if_pos k']
        simp only [k, beq_self_eq_true, if_true, pp, v_bind2, i0, v_bind1, ap2]
      · have k' : ¬ q.2 = p.1 - 1 - 1 := by omega
        have kb : (q.2 == p.1 - 2) = false := by simp [k]
        rw [if_neg k']
        simp only [kb, Bool.false_eq_true, if_false, v_bind2, ap, v_bind1]
  · rw [if_neg h]
    simp only [h, decide_false, Bool.false_eq_true, if_false, v_bind1]
theorem pe_folds (t : Tab) (h : IsTab t) (hr : RowsF (lv t)) (hl : t.length ≤ 90000) : p_folds (tabD t) = some (tabD (strL (dnL 0 t))) := by
  obtain ⟨s', e, hs⟩ := foldP_enc (f := fun x (s : D × D) => p_folds_b1 x s.1 s.2) (e := stepD) (xs := t) (s := (.list [], .int 0)) (fun done s => s = (tabD (strL (dnL 0 done)), .int (lastL 0 done))) rfl (by
    rintro pre x post _ hx rfl
    have hlen : pre.length < t.length := by rw [hx]; simp
    have := dnL_len pre 0
    have := strL_len (dnL 0 pre)
    refine ⟨_, folds_turn (strL (dnL 0 pre)) (lastL 0 pre) x (by omega), ?_⟩
    rw [dnL_app, lastL_app]
    split
    · unfold strL
      rw [List.foldl_append]; rfl
    · simp)
  subst hs
  have e' : foldP (fun x (s : D × D) => p_folds_b1 x s.1 s.2) (tabL t) (.list [], .int 0) = some (tabD (strL (dnL 0 t)), .int (lastL 0 t)) := e
  unfold p_folds
  simp only [pe_need_rows_table h hr, v_bind1, show itemsD (tabD t) = some (false, tabL t) from rfl, v_bind2, e']
theorem fall_tab {t : Tab} (h : IsTab t) (hr : RowsF (lv t)) : ∃ m r, t = (0, m) :: r ∧ 0 ≤ m ∧ Can 0 m r ∧ fallOk m r = true := by
  obtain ⟨m, r, rfl, hm, k⟩ := h
  refine ⟨m, r, rfl, hm, k, fall_can k fun c hc => ?_⟩
  have := hr c hc
  rwa [lv_head _ _ hc, lv_head _ _ (by omega)] at this
theorem upT_str {t : Tab} (h : IsTab t) (hr : RowsF (lv t)) : strL (upL 0 t) = upS 0 t := by
  obtain ⟨m, r, rfl, hm, k, f⟩ := fall_tab h hr
  unfold strL
  show ((if (0 : Int) < m then rngI (0 + 0) (m - 0).toNat else []) ++ upL m r).foldl strS [] = (if (0 : Int) < m then [((0 : Int) + 0, (0 : Int) + m - 1)] else []) ++ upS m r
  rw [List.foldl_append]
  by_cases hu : 0 < m
  · rw [if_pos hu, if_pos hu]
    obtain ⟨n, hn⟩ : ∃ n : Nat, (m - 0).toNat = n + 1 := ⟨(m - 0).toNat - 1, by omega⟩
    rw [hn, str_rng (0 + 0) n [] (fun q hq => by cases hq), up_str r 0 m _ k f (fun q hq => by
      have : q = (0 + 0, 0 + 0 + (n : Int)) := by simpa using hq.symm
      rw [this]
      show (0 : Int) + 0 + (n : Int) < 0 + m
      omega)]
    have : (0 : Int) + 0 + (n : Int) = 0 + m - 1 := by omega
    rw [this]; rfl
  · rw [if_neg hu, if_neg hu]
    exact up_str r 0 m [] k f (fun q hq => by cases hq)
theorem upT_mem {t : Tab} (h : IsTab t) (hr : RowsF (lv t)) : (upL 0 t).Pairwise (· < ·) ∧ ∀ x, x ∈ upL 0 t ↔ 0 ≤ x ∧ ∀ c, 0 ≤ c → c + lv t c ≠ x := by
  obtain ⟨m, r, rfl, hm, k, f⟩ := fall_tab h hr
  have e : upL 0 ((0, m) :: r) = (if (0 : Int) < m then rngI (0 + 0) (m - 0).toNat else []) ++ upL m r := rfl
  have low := up_low r 0 m k f
  have mono := mono_from r 0 m k f
  have lvh : ∀ c, 0 ≤ c → lv ((0, m) :: r) c = lvF m r c := fun c hc => lv_head m r hc
  constructor
  · rw [e, List.pairwise_append]
    refine ⟨?_, up_up r 0 m k f, fun x hx y hy => ?_⟩
    · split
      · exact rngI_up _ _
      · exact .nil
    · have := low y hy
      split at hx
      · rw [rngI_mem] at hx
        omega
      · cases hx
  · intro x
    rw [e, List.mem_append]
    have inr : (x ∈ if (0 : Int) < m then rngI (0 + 0) (m - 0).toNat else []) ↔ 0 ≤ x ∧ x < m := by
      by_cases hu : 0 < m
      · rw [if_pos hu, rngI_mem]
        omega
      · rw [if_neg hu]
        constructor
        · intro z; cases z
        · intro z; omega
    rw [inr]
    rcases Decidable.em (x < m) with hx | hx
    · constructor
      · intro z
        have x0 : 0 ≤ x := by
          rcases z with z | z
          · exact z.1
          · have := low x z; omega
        refine ⟨x0, fun c hc => ?_⟩
        rw [lvh c hc]
        have := mono c hc
        omega
      · intro z
        exact .inl ⟨z.1, hx⟩
    · have ih := up_mem r 0 m k f x (by omega)
      constructor
      · rintro (z | z)
        · omega
        · refine ⟨by omega, fun c hc => ?_⟩
          rw [lvh c hc]
          exact ih.mp z c hc
      · intro z
        refine .inr (ih.mpr fun c hc => ?_)
        have := z.2 c hc
        rwa [lvh c hc] at this
theorem dnT_mem {t : Tab} (h : IsTab t) (hr : RowsF (lv t)) : (dnL 0 t).Pairwise (· < ·) ∧ ∀ x, x ∈ dnL 0 t ↔ 0 ≤ x ∧ x + lv t x = x + 1 + lv t (x + 1) := by
  obtain ⟨m, r, rfl, hm, k, f⟩ := fall_tab h hr
  have e : dnL 0 ((0, m) :: r) = dnL m r := by
    show (if m < 0 then [(0 : Int) - 1] else []) ++ dnL m r = _
    rw [if_neg (by omega)]; rfl
  have low := dn_low r 0 m k
  rw [e]
  refine ⟨dn_up r 0 m k, fun x => ?_⟩
  constructor
  · intro z
    have x0 := low x z
    rw [lv_head m r x0, lv_head m r (by omega)]
    exact ⟨x0, (dn_mem r 0 m k f x x0).mp z⟩
  · intro z
    have z2 := z.2
    rw [lv_head m r z.1, lv_head m r (by omega)] at z2
    exact (dn_mem r 0 m k f x z.1).mpr z2
theorem upT_dn {t : Tab} (h : IsTab t) (hr : RowsF (lv t)) : ((upL 0 t).length : Int) = (dnL 0 t).length + lastL 0 t := by
  obtain ⟨m, r, rfl, hm, k, f⟩ := fall_tab h hr
  have e : dnL 0 ((0, m) :: r) = dnL m r := by
    show (if m < 0 then [(0 : Int) - 1] else []) ++ dnL m r = _
    rw [if_neg (by omega)]; rfl
  have e2 : upL 0 ((0, m) :: r) = (if (0 : Int) < m then rngI (0 + 0) (m - 0).toNat else []) ++ upL m r := rfl
  have ud := up_dn r 0 m k f
  have el : lastL 0 ((0, m) :: r) = lastL m r := rfl
  rw [e, e2, el, List.length_append]
  by_cases hu : 0 < m
  · rw [if_pos hu]
    have : (rngI (0 + 0) (m - 0).toNat).length = (m - 0).toNat := by simp [rngI]
    rw [this]
    omega
  · rw [if_neg hu]
    simp only [List.length_nil]
    omega
def nearS (r : List Say) : Prop := ∀ s ∈ r, okSay s ∧ s.1 < 24 ∧ ∀ m, s.2 = some m → m < 24
def endsN : List Say → Nat
  | [] => 0
  | s :: r => (if s.2 = none then 1 else 0) + endsN r
theorem ends_le : ∀ r : List Say, endsN r ≤ r.length
  | [] => Nat.le_refl _
  | s :: r => by
    have := ends_le r
    unfold endsN
    rw [List.length_cons]
    split <;> omega
theorem tot_far : ∀ (r : List Say) (c : Int), nearS r → 24 ≤ c → tot r c = c + endsN r
  | [], c, _, _ => by show c = c + ((0 : Nat) : Int); omega
  | s :: r, c, h, hc => by
    have ih := tot_far r c (fun x hx => h x (List.mem_cons_of_mem _ hx)) hc
    obtain ⟨⟨o1, o2⟩, h1, h2⟩ := h s List.mem_cons_self
    have ge := tot_ge r c
    show tot r c + b2i (trueS s (tot r c)) = _
    obtain ⟨l, m⟩ := s
    unfold endsN
    cases m with
    | none =>
      have : trueS (l, none) (tot r c) = true := by
        simp only at h1
        simp [trueS]
        omega
      rw [this]
      simp [b2i]
      omega
    | some m =>
      have := h2 m rfl
      have : trueS (l, some m) (tot r c) = false := by
        simp [trueS]
        omega
      rw [this]
      simp [b2i]
      omega
theorem tot_neg : ∀ (r : List Say) (c : Int), (∀ s ∈ r, okSay s) → c < 0 → tot r c = c
  | [], _, _, _ => rfl
  | s :: r, c, h, hc => by
    have ih := tot_neg r c (fun x hx => h x (List.mem_cons_of_mem _ hx)) hc
    have o1 := (h s List.mem_cons_self).1
    show tot r c + b2i (trueS s (tot r c)) = _
    rw [ih]
    have : trueS s c = false := by
      unfold trueS
      rw [decide_eq_false (by omega)]; rfl
    rw [this]
    show c + 0 = c
    omega
theorem tot_shift (b : Int) : ∀ (r : List Say) (c : Int), tot (r.map fun s => shiftS s b) c = tot r (c - b) + b
  | [], c => by show c = c - b + b; omega
  | s :: r, c => by
    have ih := tot_shift b r c
    show tot (r.map fun s => shiftS s b) c + b2i (trueS (shiftS s b) (tot (r.map fun s => shiftS s b) c)) = tot r (c - b) + b2i (trueS s (tot r (c - b))) + b
    rw [ih]
    have : trueS (shiftS s b) (tot r (c - b) + b) = trueS s (tot r (c - b)) := by
      obtain ⟨l, m⟩ := s
      cases m with
      | none => simp [trueS, shiftS]
      | some m => simp [trueS, shiftS]
    rw [this]
    omega
def sumsN (r : List Say) : List Int := (List.range 62).map fun (j : Nat) => tot r (j : Int)
def missL (r : List Say) : List Int := ((List.range 60).filter fun (k : Nat) => !(sumsN r).any fun z => z == (k : Int)).map fun (k : Nat) => (k : Int)
def foldL (r : List Say) : List Int := ((List.range 60).filter fun (k : Nat) => tot r (k : Int) == tot r ((k : Int) + 1)).map fun (k : Nat) => (k : Int)
theorem up_map {p : Nat → Bool} (n : Nat) (b : Int) : ((((List.range n).filter p).map fun (k : Nat) => (k : Int)).map (· + b)).Pairwise (· < ·) := by
  rw [List.pairwise_map, List.pairwise_map]
  exact (List.Pairwise.sublist List.filter_sublist List.pairwise_lt_range).imp fun h => by omega
theorem gaps_up {t : Tab} {r : List Say} {b : Int} (h : IsTab t) (hr : RowsF (lv t)) (hb : 0 ≤ b) (hn : nearS r) (hl : r.length ≤ 21) (F : ∀ c, 0 ≤ c → c + lv t c = tot r (c - b) + b) : upL 0 t = (missL r).map (· + b) := by
  obtain ⟨p, m⟩ := upT_mem h hr
  have ok : ∀ s ∈ r, okSay s := fun s hs => (hn s hs).1
  have el := ends_le r
  refine up_one p (up_map 60 b) fun x => ?_
  rw [m x]
  have inn : x ∈ (missL r).map (· + b) ↔ ∃ k : Nat, k < 60 ∧ x = (k : Int) + b ∧ ∀ j : Nat, j < 62 → tot r (j : Int) ≠ (k : Int) := by
    constructor
    · intro hx
      obtain ⟨y, hy, rfl⟩ := List.mem_map.mp hx
      obtain ⟨k, hk, rfl⟩ := List.mem_map.mp hy
      obtain ⟨k1, k2⟩ := List.mem_filter.mp hk
      refine ⟨k, List.mem_range.mp k1, rfl, fun j hj e => ?_⟩
      have : (sumsN r).any (fun z => z == (k : Int)) = true := List.any_eq_true.mpr ⟨_, List.mem_map.mpr ⟨j, List.mem_range.mpr hj, rfl⟩, by simpa using e⟩
      rw [this] at k2
      cases k2
    · rintro ⟨k, k1, rfl, k2⟩
      refine List.mem_map.mpr ⟨_, List.mem_map.mpr ⟨k, List.mem_filter.mpr ⟨List.mem_range.mpr k1, ?_⟩, rfl⟩, rfl⟩
      have : (sumsN r).any (fun z => z == (k : Int)) = false := by
        rw [List.any_eq_false]
        intro z hz
        obtain ⟨j, hj, rfl⟩ := List.mem_map.mp hz
        have := k2 j (List.mem_range.mp hj)
        simpa using this
      rw [this]; rfl
  rw [inn]
  constructor
  · rintro ⟨x0, hx⟩
    have xb : b ≤ x := by
      rcases Decidable.em (b ≤ x) with z | z
      · exact z
      · exfalso
        have := hx x x0
        rw [F x x0, tot_neg r (x - b) ok (by omega)] at this
        omega
    have lt : x - b < 60 := by
      rcases Decidable.em (x - b < 60) with z | z
      · exact z
      · exfalso
        have := hx (x - endsN r) (by omega)
        rw [F _ (by omega), tot_far r _ hn (by omega)] at this
        omega
    refine ⟨(x - b).toNat, by omega, by omega, fun j hj e => ?_⟩
    have := hx ((j : Int) + b) (by omega)
    rw [F _ (by omega), show (j : Int) + b - b = j by omega, e] at this
    omega
  · rintro ⟨k, k1, rfl, k2⟩
    refine ⟨by omega, fun c hc e => ?_⟩
    rw [F c hc] at e
    rcases Decidable.em (c - b < 0) with z | z
    · rw [tot_neg r _ ok z] at e
      omega
    · have ge := tot_ge r (c - b)
      have := k2 (c - b).toNat (by omega)
      rw [show (((c - b).toNat : Nat) : Int) = c - b by omega] at this
      omega
theorem gaps_dn {t : Tab} {r : List Say} {b : Int} (h : IsTab t) (hr : RowsF (lv t)) (hb : 0 ≤ b) (hn : nearS r) (hl : r.length ≤ 21) (F : ∀ c, 0 ≤ c → c + lv t c = tot r (c - b) + b) : dnL 0 t = (foldL r).map (· + b) := by
  obtain ⟨p, m⟩ := dnT_mem h hr
  have ok : ∀ s ∈ r, okSay s := fun s hs => (hn s hs).1
  refine up_one p (up_map 60 b) fun x => ?_
  rw [m x]
  have inn : x ∈ (foldL r).map (· + b) ↔ ∃ k : Nat, k < 60 ∧ x = (k : Int) + b ∧ tot r (k : Int) = tot r ((k : Int) + 1) := by
    constructor
    · intro hx
      obtain ⟨y, hy, rfl⟩ := List.mem_map.mp hx
      obtain ⟨k, hk, rfl⟩ := List.mem_map.mp hy
      obtain ⟨k1, k2⟩ := List.mem_filter.mp hk
      exact ⟨k, List.mem_range.mp k1, rfl, by simpa using k2⟩
    · rintro ⟨k, k1, rfl, k2⟩
      exact List.mem_map.mpr ⟨_, List.mem_map.mpr ⟨k, List.mem_filter.mpr ⟨List.mem_range.mpr k1, by simpa using k2⟩, rfl⟩, rfl⟩
  rw [inn]
  constructor
  · rintro ⟨x0, hx⟩
    rw [F x x0, F (x + 1) (by omega)] at hx
    have hx' : tot r (x - b) = tot r (x - b + 1) := by
      rw [show x - b + 1 = x + 1 - b by omega]
      omega
    have xb : b ≤ x := by
      rcases Decidable.em (b ≤ x) with z | z
      · exact z
      · exfalso
        rw [tot_neg r (x - b) ok (by omega)] at hx'
        have := tot_ge r (x - b + 1)
        omega
    have lt : x - b < 60 := by
      rcases Decidable.em (x - b < 60) with z | z
      · exact z
      · exfalso
        rw [tot_far r _ hn (by omega), tot_far r _ hn (by omega)] at hx'
        omega
    refine ⟨(x - b).toNat, by omega, by omega, ?_⟩
    rw [show (((x - b).toNat : Nat) : Int) = x - b by omega]
    exact hx'
  · rintro ⟨k, k1, rfl, k2⟩
    refine ⟨by omega, ?_⟩
    rw [F _ (by omega), F _ (by omega), show (k : Int) + b - b = k by omega, show (k : Int) + b + 1 - b = (k : Int) + 1 by omega, k2]
theorem gaps_last {t : Tab} {r : List Say} {b : Int} (h : IsTab t) (hb : 0 ≤ b) (hn : nearS r) (F : ∀ c, 0 ≤ c → c + lv t c = tot r (c - b) + b) : lastL 0 t = endsN r := by
  obtain ⟨M, hM⟩ : ∃ M : Int, 0 ≤ M ∧ ∀ p ∈ t, p.1 ≤ M := by
    clear F h
    induction t with
    | nil => exact ⟨0, Int.le_refl _, fun p hp => by cases hp⟩
    | cons q t ih =>
      obtain ⟨M, h0, hM⟩ := ih
      refine ⟨if q.1 ≤ M then M else q.1, by split <;> omega, fun p hp => ?_⟩
      rcases List.mem_cons.mp hp with rfl | hp
      · split <;> omega
      · have := hM p hp
        split <;> omega
  have f := F (M + b + 24) (by omega)
  have l := last_lv t 0 (M + b + 24) fun p hp => by have := hM.2 p hp; omega
  have l' : lv t (M + b + 24) = lastL 0 t := l
  rw [l', tot_far r _ hn (by omega)] at f
  omega
theorem eqvI (x y : Int) : PyData.eqv (.int x) (.int y) = (x == y) := by simp [PyData.eqv]
theorem miss_p (S : List Int) (k : Nat) : p_l_due_c2 (intsD S) (.int (k : Int)) = some (if (!S.any fun z => z == (k : Int)) = true then some (.int (k : Int)) else none) := by
  have asb : ∀ b, asBool (.bool b) = some b := fun _ => rfl
  have e : gNotIn (.int (k : Int)) (.list (intsD S)) = some (.bool (!S.any fun z => z == (k : Int))) := by
    have h1 := shaped_ints S
    have h2 : SeqAt.shaped (.int (k : Int)) = true := rfl
    have h3 : ((intsD S).any fun z => PyData.eqv z (.int (k : Int))) = S.any fun z => z == (k : Int) := by
      rw [intsD, List.any_map]
      congr 1
    show (if (SeqAt.shaped (.int (k : Int)) && SeqAt.shaped (.list (intsD S))) = true then some (PyData.bool (!(intsD S).any fun z => PyData.eqv z (.int (k : Int)))) else none) = _
    rw [h1, h2, h3]; rfl
  unfold p_l_due_c2
  simp only [e, v_bind1, asb]
  cases (!S.any fun z => z == (k : Int)) <;> rfl
theorem sums_get (r : List Say) (j : Nat) (hj : j < 62) : atI (intsD (sumsN r)) (j : Int) = some (.int (tot r (j : Int))) := by
  refine ix_nat ?_
  rw [intsD, sumsN, List.map_map, List.getElem?_map, List.getElem?_range hj]; rfl
theorem fold_p (r : List Say) (k : Nat) (hk : k < 60) : p_l_due_c3 (intsD (sumsN r)) (.int (k : Int)) = some (if (tot r (k : Int) == tot r ((k : Int) + 1)) = true then some (.int (k : Int)) else none) := by
  have asb : ∀ b, asBool (.bool b) = some b := fun _ => rfl
  have a1 := sums_get r k (by omega)
  have a2 := sums_get r (k + 1) (by omega)
  rw [show ((k + 1 : Nat) : Int) = (k : Int) + 1 by omega] at a2
  unfold p_l_due_c3
  simp only [q_ix_l, a1, v_bind1, v_addV, a2, q_eq_ii, asb]
  cases (tot r (k : Int) == tot r ((k : Int) + 1)) <;> rfl
theorem filT_rng {f : D → Option (Option D)} {p : Nat → Bool} (n : Nat) (hn : n ≤ 90000) (h : ∀ k, k < n → f (.int ((k : Nat) : Int)) = some (if p k = true then some (.int (k : Int)) else none)) : filT f (rngD 0 (n : Int)) = some (intsD (((List.range n).filter p).map fun (k : Nat) => (k : Int))) := by
  rw [filT_of (φ := fun x => match x with
    | .int j => if p j.toNat = true then some (.int j) else none
    | _ => none) (by rw [rng_len]; omega)]
  · rw [rng_nat, List.filterMap_map, intsD, List.map_map]
    refine congrArg some ?_
    rw [← List.filterMap_eq_map, List.filterMap_filter]
    refine filMap_congr fun j hj => ?_
    simp
  · intro x hx
    rw [rng_nat] at hx
    obtain ⟨j, hj, rfl⟩ := List.mem_map.mp hx
    rw [List.mem_range] at hj
    rw [h j hj]
    simp
theorem pe_due (r : List Say) (hr : r.length ≤ 900) : p_l_due (.list (rowD r)) = some (.list [tabD (strL (missL r)), tabD (strL (foldL r))]) := by
  have m1 : mapT (p_l_due_c1 (.list (rowD r))) (rngD 0 62) = some (intsD (sumsN r)) := by
    have := mapT_enc (f := p_l_due_c1 (.list (rowD r))) (e := fun (j : Nat) => PyData.int (j : Int)) (φ := fun j => .int (tot r (j : Int))) (xs := List.range 62) (by simp) fun j hj => by
      have wk := pe_l_walk r (j : Int) (by omega)
      have a1 : atI [PyData.list (intsD (heardL r (j : Int))), .list (boolsD (wordsL r (j : Int)))] 1 = some (.list (boolsD (wordsL r (j : Int)))) := rfl
      have cb := count_bools (wordsL r (j : Int))
      have cw := count_words r (j : Int)
      unfold p_l_due_c1
      simp only [wk, v_bind1, q_ix_l, a1, q_isL, cb, v_addV, ← cw, Int.add_comm]
    rw [← rng_nat] at this
    refine Eq.trans this ?_
    rw [intsD, sumsN, List.map_map]; rfl
  have s1 : small62 62 = true := by decide
  have s2 : small62 60 = true := by decide
  have f1 : filT (p_l_due_c2 (intsD (sumsN r))) (rngD 0 60) = some (intsD (missL r)) := filT_rng 60 (by omega) fun k hk => miss_p (sumsN r) k
  have f2 : filT (p_l_due_c3 (intsD (sumsN r))) (rngD 0 60) = some (intsD (foldL r)) := filT_rng 60 (by omega) fun k hk => fold_p r k hk
  have l1 : (missL r).length ≤ 60 := by
    unfold missL
    rw [List.length_map]
    exact Nat.le_trans (List.length_filter_le _ _) (by simp)
  have l2 : (foldL r).length ≤ 60 := by
    unfold foldL
    rw [List.length_map]
    exact Nat.le_trans (List.length_filter_le _ _) (by simp)
  unfold p_l_due
  simp only [v_rng1P, s1, s2, if_true, v_bind1, m1, f1, f2, pe_stretched (missL r) (by omega), pe_stretched (foldL r) (by omega)]
theorem pe_moved (t : Tab) (b : Int) (hl : t.length ≤ 90000) : p_l_moved (tabD t) (.int b) = some (tabD (movT b t)) := by
  have m := mapT_enc (f := p_l_moved_c1 (.int b)) (e := stepD) (φ := fun q => stepD (q.1 + b, q.2 + b)) (xs := t) (by omega) fun q _ => by
    have tp : tup2 (stepD q) = some (.int q.1, .int q.2) := Eq.trans rfl rfl
    unfold p_l_moved_c1
    simp only [tp, v_bind2, v_addV, v_bind1]
    rfl
  have m' : mapT (p_l_moved_c1 (.int b)) (tabL t) = some (tabL (movT b t)) := by
    rw [show tabL t = t.map stepD from rfl, m, tabL, movT, List.map_map]; rfl
  unfold p_l_moved
  simp only [show itemsD (tabD t) = some (false, tabL t) from rfl, v_bind2, m', v_bind1]
  rfl
theorem pe_counted (t : Tab) (hl : t.length ≤ 90000) : p_l_counted (tabD t) = some (.int (cntT t)) := by
  have m := mapT_enc (f := p_l_counted_c1) (e := stepD) (φ := fun q => .int (q.2 + 1 - q.1)) (xs := t) (by omega) fun q _ => by
    have tp : tup2 (stepD q) = some (.int q.1, .int q.2) := Eq.trans rfl rfl
    have sb : gSub' (.int (q.2 + 1)) (.int q.1) = some (.int (q.2 + 1 - q.1)) := Eq.trans rfl rfl
    unfold p_l_counted_c1
    simp only [tp, v_bind2, v_addV, v_bind1, sb]
  have m' : mapT p_l_counted_c1 (tabL t) = some ((t.map fun q => q.2 + 1 - q.1).map PyData.int) := by
    rw [show tabL t = t.map stepD from rfl, m, List.map_map]; rfl
  unfold p_l_counted
  simp only [show itemsD (tabD t) = some (false, tabL t) from rfl, v_bind2, m', v_bind1, sum_ints]
  rfl
theorem nol_tab (t : Tab) : gNolE (tabD t) = some () := by
  have h : ∀ t : Tab, nolA (tabL t) = true := by
    intro t
    induction t with
    | nil => rfl
    | cons p t ih =>
      show nolA (stepD p :: tabL t) = true
      simp [nolA, nol, stepD, ih]
  unfold gNolE
  rw [if_pos (show nolE (tabD t) = true from h t)]
theorem alike_pair (s t : Tab) (hs : s.length ≤ 90000) (ht : t.length ≤ 90000) : p_l_alike 8 (.list [tabD s, tabD t]) (.list [tabD s, tabD t]) = some (.bool true) :=
  alike_list 7 _ (fun d hd => by
    simp only [List.mem_cons, List.not_mem_nil, or_false] at hd
    rcases hd with rfl | rfl
    · exact alike_tab 4 _ (by omega)
    · exact alike_tab 4 _ (by omega)) (by simp)
theorem told_turn (r q : List Say) (b : Int) (hb : 0 ≤ b) (hn : nearS r) (hl : r.length ≤ 21) (hq : ∀ s ∈ q, okSay s) (hql : q.length ≤ 21) (F : ∀ c, tot q c = tot r (c - b) + b) :
    p_law_b2 (.list [tabD (strL (missL r)), tabD (strL (foldL r))]) (.int (endsN r)) (.tuple [.list (rowD q), .int b]) = some (.nx ()) := by
  obtain ⟨t, e1, tt, tl⟩ := pe_table_of (d := .list (rowD q)) (k := false) rfl hq (by omega)
  have rr := tt.rows (many_rows q)
  have FF : ∀ c, 0 ≤ c → c + lv t c = tot r (c - b) + b := fun c hc => by
    rw [tt.at_ c hc, ← F c]
    unfold manyF
    omega
  have gu := gaps_up tt.tab rr hb hn hl FF
  have gd := gaps_dn tt.tab rr hb hn hl FF
  have gl := gaps_last tt.tab hb hn FF
  have us := upT_str tt.tab rr
  have ud := upT_dn tt.tab rr
  have ul := upS_len t 0
  have dl := dnL_len t 0
  have sl := strL_len (dnL 0 t)
  have lm : (strL (missL r)).length ≤ 60 := Nat.le_trans (strL_len _) (by
    unfold missL
    rw [List.length_map]
    exact Nat.le_trans (List.length_filter_le _ _) (by simp))
  have lf : (strL (foldL r)).length ≤ 60 := Nat.le_trans (strL_len _) (by
    unfold foldL
    rw [List.length_map]
    exact Nat.le_trans (List.length_filter_le _ _) (by simp))
  have m1 := pe_moved (strL (missL r)) b (by omega)
  have m2 := pe_moved (strL (foldL r)) b (by omega)
  rw [mov_strL, ← gu, us] at m1
  rw [mov_strL, ← gd] at m2
  have nv := pe_never t tt.tab rr (by omega)
  have fo := pe_folds t tt.tab rr (by omega)
  have al := alike_pair (upS 0 t) (strL (dnL 0 t)) (by omega) (by omega)
  have c1 := pe_counted (upS 0 t) (by omega)
  have c2 := pe_counted (strL (dnL 0 t)) (by omega)
  rw [← us, cnt_strL, us] at c1
  rw [cnt_strL] at c2
  have asb : ∀ b, asBool (.bool b) = some b := fun _ => rfl
  have jp : jP (jAll 1) (.list [tabD (upS 0 t), tabD (strL (dnL 0 t))]) = some () := by
    unfold jP
    rw [if_pos]
    simp [jAll, tabD]
    omega
  have mp : mapT p_law_c2 [tabD (upS 0 t), tabD (strL (dnL 0 t))] = some [.int ((upL 0 t).length : Int), .int ((dnL 0 t).length : Int)] := by
    unfold mapT mapP
    have e1 : p_law_c2 (tabD (upS 0 t)) = some (.int ((upL 0 t).length : Int)) := by
      unfold p_law_c2
      simp only [c1, v_bind1]
    have e2 : p_law_c2 (tabD (strL (dnL 0 t))) = some (.int ((dnL 0 t).length : Int)) := by
      unfold p_law_c2
      simp only [c2, v_bind1]
    simp [e1, e2, mapP]
  have ne : ∃ s p, t = s ++ [p] := by
    rcases tab_cases t with h | h
    · have := tt.tab.ne
      rw [h] at this
      simp at this
    · exact h
  obtain ⟨s, p, hp⟩ := ne
  have la : gIx (tabD t) (.int (-1)) = some (stepD p) := by rw [hp]; exact snoc_at s p
  have lp : p.2 = endsN r := by
    rw [← gl, hp, lastL_app]
  have i1 : gIx (stepD p) (.int 1) = some (.int (endsN r)) := by
    rw [← lp]
    exact Eq.trans rfl rfl
  have g0 : gIx (.list [tabD (strL (missL r)), tabD (strL (foldL r))]) (.int 0) = some (tabD (strL (missL r))) := Eq.trans rfl rfl
  have g1 : gIx (.list [tabD (strL (missL r)), tabD (strL (foldL r))]) (.int 1) = some (tabD (strL (foldL r))) := Eq.trans rfl rfl
  have h0 : gIx (.list [PyData.int ((upL 0 t).length : Int), .int ((dnL 0 t).length : Int)]) (.int 0) = some (.int ((upL 0 t).length : Int)) := Eq.trans rfl rfl
  have h1 : gIx (.list [PyData.int ((upL 0 t).length : Int), .int ((dnL 0 t).length : Int)]) (.int 1) = some (.int ((dnL 0 t).length : Int)) := Eq.trans rfl rfl
  have ng : negP (.int 1) = some (.int (-1)) := Eq.trans rfl rfl
  rw [gl] at ud
  unfold p_law_b2
  simp only [v_tup2, v_bind2, e1, v_bind1, g0, m1, g1, m2, nol_tab, nv, fo, jp, al, q_tru_b, if_true, q_items_l, mp, h0, h1, v_addV, ← ud, q_ne_ii, beq_self_eq_true, Bool.not_true, asb, Bool.false_eq_true, if_false, ng, la, i1]
theorem far_turn (b : Int) (s : Say) (out : List Say) (hl : out.length < 1000) : p_law_b1 (.int b) (sayD s) (.list (rowD out)) = some (.list (rowD (out ++ [shiftS s b]))) := by
  have asb : ∀ b, asBool (.bool b) = some b := fun _ => rfl
  have ap : mutP gAppend (.list (rowD out)) [sayD (shiftS s b)] = some (.list (rowD (out ++ [shiftS s b])), .none) := by
    rw [v_mutP, q_append, if_pos (by simp; omega)]
    simp [rowD]
  obtain ⟨l, m⟩ := s
  cases m with
  | none =>
    have e : sayD (shiftS (l, none) b) = .tuple [.int (l + b), .none] := rfl
    have i1 : gIs PyData.none (.none : D) = some (.bool true) := Eq.trans rfl rfl
    rw [e] at ap
    unfold p_law_b1
    simp only [show sayD (l, none) = .tuple [.int l, .none] from rfl, v_tup2, v_bind2, v_addV, v_bind1, i1, asb, if_true, ap]
  | some m =>
    have e : sayD (shiftS (l, some m) b) = .tuple [.int (l + b), .int (m + b)] := rfl
    have i1 : gIs (.int m) (.none : D) = some (.bool false) := Eq.trans rfl rfl
    rw [e] at ap
    unfold p_law_b1
    simp only [show sayD (l, some m) = .tuple [.int l, .int m] from rfl, v_tup2, v_bind2, v_addV, v_bind1, i1, asb, Bool.false_eq_true, if_false, ap]
theorem pe_far (b : Int) (r : List Say) (hl : r.length ≤ 900) : foldP (fun x s => p_law_b1 (.int b) x s) (rowD r) (.list []) = some (.list (rowD (r.map fun s => shiftS s b))) := by
  obtain ⟨s', e, h⟩ := foldP_enc (f := fun x s => p_law_b1 (.int b) x s) (e := sayD) (xs := r) (s := .list []) (fun done s => s = .list (rowD (done.map fun s => shiftS s b))) rfl (by
    rintro pre x post _ hx rfl
    have hlen : pre.length < r.length := by rw [hx]; simp
    refine ⟨_, far_turn b x _ (by simp; omega), ?_⟩
    simp)
  subst h
  exact e
theorem pe_ends : ∀ (r : List Say), r.length ≤ 900 → ∃ ds, filT p_law_c1 (rowD r) = some ds ∧ ds.length = endsN r := by
  intro r hr
  have asb : ∀ b, asBool (.bool b) = some b := fun _ => rfl
  have key := filT_of (f := p_law_c1) (φ := fun x => match x with
    | .tuple [_, .none] => some x
    | _ => none) (xs := rowD r) (by simp; omega) (by
    intro x hx
    obtain ⟨s, hs, rfl⟩ := List.mem_map.mp hx
    obtain ⟨l, m⟩ := s
    cases m with
    | none =>
      have : atI [PyData.int l, PyData.none] 1 = some .none := rfl
      unfold p_law_c1; simp [sayD, mostD, this, isNone]
    | some m =>
      have : atI [PyData.int l, PyData.int m] 1 = some (.int m) := rfl
      unfold p_law_c1; simp [sayD, mostD, this, isNone])
  refine ⟨_, key, ?_⟩
  clear key hr
  induction r with
  | nil => rfl
  | cons s r ih =>
    obtain ⟨l, m⟩ := s
    show ((sayD (l, m) :: rowD r).filterMap _).length = _
    cases m with
    | none =>
      rw [List.filterMap_cons]
      show _ + 1 = _
      rw [ih]
      simp [endsN]
      omega
    | some m =>
      rw [List.filterMap_cons]
      show ((rowD r).filterMap _).length = _
      rw [ih]
      simp [endsN]
theorem pe_nearS (t : D) (n : Nat) (ht : TinOk t n) (hn : n + 1000 < 2 ^ 40) : ∃ r t', p_l_near_crew t = some (.list (rowD r), t') ∧ nearS r ∧ r.length ≤ 21 ∧ TinOk t' (n + 100) := by
  obtain ⟨x1, t1, e1, a1, b1, k1⟩ := pe_deal t n 3 ht (by omega) (by omega) (by omega)
  obtain ⟨w, ew, w0, w1⟩ : ∃ w : Int, atI [PyData.int 2, .int 4, .int 12] x1 = some (.int w) ∧ 0 < w ∧ w ≤ 12 := by
    have : x1 = 0 ∨ x1 = 1 ∨ x1 = 2 := by omega
    rcases this with h | h | h
    · exact ⟨2, by rw [h]; rfl, by omega, by omega⟩
    · exact ⟨4, by rw [h]; rfl, by omega, by omega⟩
    · exact ⟨12, by rw [h]; rfl, by omega, by omega⟩
  obtain ⟨x2, t2, e2, a2, b2, k2⟩ := pe_deal t1 _ 5 k1 (by omega) (by omega) (by omega)
  obtain ⟨x3, t3, e3, a3, b3, k3⟩ := pe_deal t2 _ 21 k2 (by omega) (by omega) (by omega)
  obtain ⟨x4, t4, e4, a4, b4, k4⟩ := pe_deal t3 _ 2 k3 (by omega) (by omega) (by omega)
  obtain ⟨m, em, m0, m1⟩ : ∃ m : Int, atI [PyData.int x2, .int x3] x4 = some (.int m) ∧ 0 ≤ m ∧ m ≤ 20 := by
    have : x4 = 0 ∨ x4 = 1 := by omega
    rcases this with h | h
    · exact ⟨x2, by rw [h]; rfl, by omega, by omega⟩
    · exact ⟨x3, by rw [h]; rfl, by omega, by omega⟩
  have sm : small62 m = true := by simp [small62]; omega
  obtain ⟨⟨t5, l5⟩, e5, r, j, rfl, hr, hl, kj, hj⟩ := foldP_by (f := fun x (s : D × D) => p_l_near_crew_b1 (.int w) x s.1 s.2) (xs := rngD 0 m) (s := (t4, .list []))
    (fun done z => ∃ (r : List Say) (j : Nat), z.2 = .list (rowD r) ∧ nearS r ∧ r.length = done.length ∧ TinOk z.1 j ∧ j ≤ n + 4 + 3 * done.length) ⟨[], _, rfl, (fun s hs => by cases hs), rfl, k4, by simp⟩ (by
      rintro pre x ⟨z1, z2⟩ hx hlen ⟨r, j, rfl, hr, hl, kj, hj⟩
      rw [rng_len] at hlen
      obtain ⟨s, t', e, hs, k'⟩ := pe_said z1 j w kj (by omega) w0 (by omega)
      obtain ⟨o, o1, o2⟩ := hs
      have ap : mutP gAppend (.list (rowD r)) [sayD s] = some (.list (rowD (r ++ [s])), .none) := by
        rw [v_mutP, q_append, if_pos (by simp; omega)]
        simp [rowD]
      refine ⟨(t', .list (rowD (r ++ [s]))), ?_, r ++ [s], j + 3, rfl, fun u hu => ?_, by simp [hl], k', by simp; omega⟩
      · unfold p_l_near_crew_b1
        simp only [e, v_bind2, ap]
      · rcases List.mem_append.mp hu with h | h
        · exact hr u h
        · have : u = s := by simpa using h
          subst this
          exact ⟨o, by omega, fun m hm => by have := o2 m hm; omega⟩)
  rw [rng_len] at hl hj
  refine ⟨r, t5, ?_, hr, by omega, kj.mono (by omega)⟩
  unfold p_l_near_crew
  simp only [e1, v_bind2, q_ix_l, ew, v_bind1, e2, e3, e4, em, v_rng1P, sm, if_true, e5]
theorem law_step (ns : List Int) (k : Nat) (hk : k ≤ 63) : p_law_b3 ns (.int k) = some (.nx ()) := by
  obtain ⟨t, e, h⟩ := pe_tin ns k hk
  obtain ⟨r, t1, e1, hr, hl, k1⟩ := pe_nearS t 0 h (by omega)
  have ok : ∀ s ∈ r, okSay s := fun s hs => (hr s hs).1
  obtain ⟨x2, t2, e2, a2, b2, k2⟩ := pe_deal t1 _ 9 k1 (by omega) (by omega) (by omega)
  have pw : gPow (.int 10) (.int 29) = some (.int 100000000000000000000000000000) := by
    have q6 : cPowW 10 29 = true := pow_ok (by omega) (by omega) (by decide)
    simp [q6]
  obtain ⟨x3, t3, e3, a3, b3, k3⟩ := pe_deal t2 _ 100000000000000000000000000000 k2 (by omega) (by omega) (by omega)
  obtain ⟨x4, t4, e4, a4, b4, k4⟩ := pe_deal t3 _ 3 k3 (by omega) (by omega) (by omega)
  obtain ⟨b, eb, b0⟩ : ∃ b : Int, atI [PyData.int 1, .int x2, .int x3] x4 = some (.int b) ∧ 0 ≤ b := by
    have : x4 = 0 ∨ x4 = 1 ∨ x4 = 2 := by omega
    rcases this with h | h | h
    · exact ⟨1, by rw [h]; rfl, by omega⟩
    · exact ⟨x2, by rw [h]; rfl, by omega⟩
    · exact ⟨x3, by rw [h]; rfl, by omega⟩
  have du := pe_due r (by omega)
  have fa := pe_far b r (by omega)
  obtain ⟨ds, en, el⟩ := pe_ends r (by omega)
  have u1 := told_turn r r 0 (by omega) hr hl ok hl fun c => by simp
  have u2 := told_turn r (r.map fun s => shiftS s b) b b0 hr hl (fun s hs => by
    obtain ⟨u, hu, rfl⟩ := List.mem_map.mp hs
    exact shift_ok (ok u hu) b0) (by simpa using hl) fun c => tot_shift b r c
  have lp : forP (fun x (_ : Unit) => p_law_b2 (.list [tabD (strL (missL r)), tabD (strL (foldL r))]) (.int (endsN r)) x) [.tuple [.list (rowD r), .int 0], .tuple [.list (rowD (r.map fun s => shiftS s b)), .int b]] () = some (.nx ()) := by
    rw [forP_nx u1, forP_nx u2]; rfl
  unfold p_law_b3
  simp only [e, v_bind1, e1, v_bind2, du, e2, pw, e3, e4, q_ix_l, eb, q_items_l, fa, en, q_len_l, el, lp, v_ctB0]
theorem pe_law (ns : List Int) (hl : ns.length ≤ 63) : p_law ns = some (.bool true) := by
  obtain ⟨m, hm, hm1, hm2⟩ : ∃ m : Int, (if 1 < (if (ns.length : Int) < 10 then (ns.length : Int) else 10) then (if (ns.length : Int) < 10 then (ns.length : Int) else 10) else 1) = m ∧ 0 ≤ m ∧ m ≤ 63 := ⟨_, rfl, by split <;> (try split) <;> omega, by split <;> (try split) <;> omega⟩
  have sm : small62 m = true := by simp [small62]; omega
  obtain ⟨⟨⟩, e, -⟩ := forP_by (T := D) (f := fun x _ => p_law_b3 ns x) (xs := rngD 0 m) (s := ()) (fun _ _ => True) trivial (by
    rintro pre d ⟨⟩ hd - -
    obtain ⟨i, rfl, hi, hi2⟩ := rng_mem hd
    obtain ⟨k, rfl⟩ := Int.eq_ofNat_of_zero_le hi
    exact ⟨(), law_step ns k (by omega), trivial⟩)
  unfold p_law
  simp [hm, sm, e]
end Y
namespace Y
open PySem PL L2
theorem law_runs (ns : List Int) (hl : ns.length ≤ 63) : ∃ ρ, m_law (.scr ns :: List.replicate 17 .un) = .ok (.rt (.pl (.val (.bool true)))) ρ := tr_law ns _ (pe_law ns hl)
end Y
open PySem PySem.W PyProof.Rows
set_option maxHeartbeats 0 in
theorem PySem.Challenge.cw_boastrow_k10_never_comes_and_folds_holds : PySem.Challenge.rw_boastrow_k10_never_comes_and_folds.Holds := by
  w_on; o_law; k_head; (case hw => w_witness2)
  k_fill
  refine PL.walk_ofG (l := PySem.Challenge.rw_boastrow_k10_never_comes_and_folds) (n := 63) (k := 10) (x := "_law_script") (sp := fun w => PL.spD _ 1 17 Y.m_law) rfl (by decide) rfl ⟨rfl, by decide, by decide⟩ (fun w h Y => PySem.W.kIn_of Y) ?F (fun _ H a ns hl _ hS => let ⟨_, h⟩ := Y.law_runs ns hl; PL.law_true hS h)
  case F =>
    intro w mg fa h KX G hmg
    refine' Y.all_mk KX G hmg ?alevelled ?llevelled ?clevelled ?klevelled ?aadded_up ?ladded_up ?cadded_up ?kadded_up ?astretch_to ?lstretch_to ?cstretch_to ?kstretch_to ?awish_behind ?lwish_behind ?cwish_behind ?kwish_behind ?acompanies_within ?lcompanies_within ?ccompanies_within ?kcompanies_within ?asaid_of_company ?lsaid_of_company ?csaid_of_company ?ksaid_of_company ?achanges_by ?lchanges_by ?cchanges_by ?kchanges_by ?ais_row ?lis_row ?cis_row ?kis_row ?aneed_row ?lneed_row ?cneed_row ?kneed_row ?ais_table ?lis_table ?cis_table ?kis_table ?ais_rows ?lis_rows ?cis_rows ?kis_rows ?aneed_rows_table ?lneed_rows_table ?cneed_rows_table ?kneed_rows_table ?atable_of ?ltable_of ?ctable_of ?ktable_of ?anever_comes ?lnever_comes ?cnever_comes ?knever_comes ?afolds ?lfolds ?cfolds ?kfolds ?al_tin ?ll_tin ?cl_tin ?kl_tin ?al_deal ?ll_deal ?cl_deal ?kl_deal ?al_said ?ll_said ?cl_said ?kl_said ?al_walk ?ll_walk ?cl_walk ?kl_walk ?al_alike ?ll_alike ?cl_alike ?kl_alike ?al_near_crew ?ll_near_crew ?cl_near_crew ?kl_near_crew ?al_stretched ?ll_stretched ?cl_stretched ?kl_stretched ?al_due ?ll_due ?cl_due ?kl_due ?al_moved ?ll_moved ?cl_moved ?kl_moved ?al_counted ?ll_counted ?cl_counted ?kl_counted ?alaw ?llaw ?claw ?klaw ?zabs ?zall ?zbool ?zint ?zisinstance ?zlen ?zlist ?zmax ?zmin ?zrange ?zsorted ?zstr ?zsum ?ztuple ?zzip
    (case alevelled => k_is); (case llevelled => k_is); (case clevelled => k_is); (case klevelled => k_is); (case aadded_up => k_is); (case ladded_up => k_is); (case cadded_up => k_is); (case kadded_up => k_is); (case astretch_to => k_is); (case lstretch_to => k_is); (case cstretch_to => k_is); (case kstretch_to => k_is); (case awish_behind => k_is); (case lwish_behind => k_is); (case cwish_behind => k_is); (case kwish_behind => k_is); (case acompanies_within => k_is); (case lcompanies_within => k_is); (case ccompanies_within => k_is); (case kcompanies_within => k_is); (case asaid_of_company => k_is); (case lsaid_of_company => k_is); (case csaid_of_company => k_is); (case ksaid_of_company => k_is); (case achanges_by => k_is); (case lchanges_by => k_is); (case cchanges_by => k_is); (case kchanges_by => k_is); (case ais_row => k_is); (case lis_row => k_is); (case cis_row => k_is); (case kis_row => k_is); (case aneed_row => k_is); (case lneed_row => k_is); (case cneed_row => k_is); (case kneed_row => k_is); (case ais_table => k_is); (case lis_table => k_is); (case cis_table => k_is); (case kis_table => k_is); (case ais_rows => k_is); (case lis_rows => k_is); (case cis_rows => k_is); (case kis_rows => k_is); (case aneed_rows_table => k_is); (case lneed_rows_table => k_is); (case cneed_rows_table => k_is); (case kneed_rows_table => k_is); (case atable_of => k_is); (case ltable_of => k_is); (case ctable_of => k_is); (case ktable_of => k_is); (case anever_comes => k_is); (case lnever_comes => k_is); (case cnever_comes => k_is); (case knever_comes => k_is); (case afolds => k_is); (case lfolds => k_is); (case cfolds => k_is); (case kfolds => k_is); (case al_tin => k_is); (case ll_tin => k_is); (case cl_tin => k_is); (case kl_tin => k_is); (case al_deal => k_is); (case ll_deal => k_is); (case cl_deal => k_is); (case kl_deal => k_is); (case al_said => k_is); (case ll_said => k_is); (case cl_said => k_is); (case kl_said => k_is); (case al_walk => k_is); (case ll_walk => k_is); (case cl_walk => k_is); (case kl_walk => k_is); (case al_alike => k_is); (case ll_alike => k_is); (case cl_alike => k_is); (case kl_alike => k_is); (case al_near_crew => k_is); (case ll_near_crew => k_is); (case cl_near_crew => k_is); (case kl_near_crew => k_is); (case al_stretched => k_is); (case ll_stretched => k_is); (case cl_stretched => k_is); (case kl_stretched => k_is); (case al_due => k_is); (case ll_due => k_is); (case cl_due => k_is); (case kl_due => k_is); (case al_moved => k_is); (case ll_moved => k_is); (case cl_moved => k_is); (case kl_moved => k_is); (case al_counted => k_is); (case ll_counted => k_is); (case cl_counted => k_is); (case kl_counted => k_is); (case alaw => k_is); (case llaw => k_is); (case claw => k_is); (case klaw => k_is); (case zabs => k_is); (case zall => k_is); (case zbool => k_is); (case zint => k_is); (case zisinstance => k_is); (case zlen => k_is); (case zlist => k_is); (case zmax => k_is); (case zmin => k_is); (case zrange => k_is); (case zsorted => k_is); (case zstr => k_is); (case zsum => k_is); (case ztuple => k_is); (case zzip => k_is)
