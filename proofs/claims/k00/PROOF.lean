import PyProof.Rows.All
import Wide.All
import OpenK.AllK
import Wide.FinOn
import HandS.ForMost
import HandS.IsInst
import HandS.Wide
import HandS.Style
import HandS.SortInts
import HandS.More
import HandS.Rev
import HandS.Zip
import HandS.SetFor
import PyProof.EqAt
import HandS.Iter
import HandS.Conv
import HandS.Defaults
import PySem.Challenge.RW_boastrow_k00_what_rows_are
set_option Elab.async false
set_option linter.all false
set_option maxRecDepth 100000
/-! PL: readings over plain data. -/
namespace PL
open PySem PySem.Spec L2
abbrev D := PyData
/-! ### data that stand in a heap of frozen objects -/
def keyD : Key → D
  | .inl i => .int i
  | .inr s => .str s
mutual
inductive Rp (G : Hp) : V → D → Prop
  | non : Rp G .non .none
  | bl (b : Bool) : Rp G (.bl b) (.bool b)
  | int (i : Int) : Rp G (.int i) (.int i)
  | str (x : Str) : Rp G (.str x) (.str x)
  | lst {a : Addr} {xs : List V} {ds : List D} : G a = some (.lst xs) → RpA G xs ds → Rp G (.ref a) (.list ds)
  | tup {a : Addr} {xs : List V} {ds : List D} : G a = some (.tup xs) → RpA G xs ds → Rp G (.ref a) (.tuple ds)
  | dct {a : Addr} {es : List (Key × V)} {ks : List (D × D)} : G a = some (.dK es) → RpK G es ks → Rp G (.ref a) (.dict ks)
inductive RpA (G : Hp) : List V → List D → Prop
  | nil : RpA G [] []
  | cons {v : V} {vs : List V} {d : D} {ds : List D} : Rp G v d → RpA G vs ds → RpA G (v :: vs) (d :: ds)
inductive RpK (G : Hp) : List (Key × V) → List (D × D) → Prop
  | nil : RpK G [] []
  | cons {k : Key} {v : V} {es : List (Key × V)} {d : D} {ks : List (D × D)} : Rp G v d → RpK G es ks → RpK G ((k, v) :: es) ((keyD k, d) :: ks)
end
mutual
theorem Rp.mono {G G' : Hp} (e : Same G G') : ∀ {v : V} {d : D}, Rp G v d → Rp G' v d
  | _, _, .non => .non
  | _, _, .bl b => .bl b
  | _, _, .int i => .int i
  | _, _, .str x => .str x
  | _, _, .lst h r => .lst (e _ _ h) (RpA.mono e r)
  | _, _, .tup h r => .tup (e _ _ h) (RpA.mono e r)
  | _, _, .dct h r => .dct (e _ _ h) (RpK.mono e r)
theorem RpA.mono {G G' : Hp} (e : Same G G') : ∀ {vs : List V} {ds : List D}, RpA G vs ds → RpA G' vs ds
  | _, _, .nil => .nil
  | _, _, .cons h r => .cons (Rp.mono e h) (RpA.mono e r)
theorem RpK.mono {G G' : Hp} (e : Same G G') : ∀ {vs : List (Key × V)} {ds : List (D × D)}, RpK G vs ds → RpK G' vs ds
  | _, _, .nil => .nil
  | _, _, .cons h r => .cons (Rp.mono e h) (RpK.mono e r)
end
theorem RpA.length {G : Hp} : ∀ {vs : List V} {ds : List D}, RpA G vs ds → vs.length = ds.length
  | _, _, .nil => rfl
  | _, _, .cons _ r => by simp [RpA.length r]
theorem RpA.get {G : Hp} : ∀ {vs : List V} {ds : List D} {i : Nat} {d : D}, RpA G vs ds → ds[i]? = some d → ∃ v, vs[i]? = some v ∧ Rp G v d
  | _, _, _, _, .nil, h => by simp at h
  | _, _, 0, _, .cons h r, e => by
    simp at e; subst e; exact ⟨_, rfl, h⟩
  | _, _, i + 1, _, .cons h r, e => by
    have := RpA.get (i := i) r (by simpa using e)
    simpa using this
theorem RpA.get' {G : Hp} : ∀ {vs : List V} {ds : List D} {i : Nat} {v : V}, RpA G vs ds → vs[i]? = some v → ∃ d, ds[i]? = some d ∧ Rp G v d
  | _, _, _, _, .nil, h => by simp at h
  | _, _, 0, _, .cons h r, e => by
    simp at e; subst e; exact ⟨_, rfl, h⟩
  | _, _, i + 1, _, .cons h r, e => by
    have := RpA.get' (i := i) r (by simpa using e)
    simpa using this
theorem RpA.append {G : Hp} : ∀ {vs ws : List V} {ds es : List D}, RpA G vs ds → RpA G ws es → RpA G (vs ++ ws) (ds ++ es)
  | _, _, _, _, .nil, s => s
  | _, _, _, _, .cons h r, s => .cons h (RpA.append r s)
theorem RpA.one {G : Hp} {v : V} {d : D} (h : Rp G v d) : RpA G [v] [d] := .cons h .nil
theorem RpA.take {G : Hp} : ∀ {vs : List V} {ds : List D} (n : Nat), RpA G vs ds → RpA G (vs.take n) (ds.take n)
  | _, _, 0, _ => by simpa using RpA.nil
  | _, _, n + 1, .nil => by simpa using RpA.nil
  | _, _, n + 1, .cons h r => .cons h (RpA.take n r)
theorem RpA.drop {G : Hp} : ∀ {vs : List V} {ds : List D} (n : Nat), RpA G vs ds → RpA G (vs.drop n) (ds.drop n)
  | _, _, 0, r => r
  | _, _, n + 1, .nil => by simpa using RpA.nil
  | _, _, n + 1, .cons h r => RpA.drop n r
theorem RpA.set {G : Hp} {v : V} {d : D} (h : Rp G v d) : ∀ {vs : List V} {ds : List D} (n : Nat), RpA G vs ds → RpA G (vs.set n v) (ds.set n d)
  | _, _, _, .nil => .nil
  | _, _, 0, .cons _ r => .cons h r
  | _, _, n + 1, .cons q r => .cons q (RpA.set h n r)
theorem RpA.reverse {G : Hp} : ∀ {vs : List V} {ds : List D}, RpA G vs ds → RpA G vs.reverse ds.reverse
  | _, _, .nil => .nil
  | _, _, .cons h r => by
    rw [List.reverse_cons, List.reverse_cons]
    exact (RpA.reverse r).append (.one h)
theorem RpA.ints {G : Hp} : ∀ (ns : List Int), RpA G (ns.map V.int) (ns.map PyData.int)
  | [] => .nil
  | n :: r => .cons (.int n) (RpA.ints r)
theorem RpA.of_ints {G : Hp} : ∀ (ns : List Int) {vs : List V}, RpA G vs (ns.map PyData.int) → vs = ns.map V.int
  | [], _, .nil => rfl
  | n :: r, _, .cons (.int _) h => by rw [RpA.of_ints r h]; rfl
theorem RpA.of_bools {G : Hp} : ∀ (ns : List Bool) {vs : List V}, RpA G vs (ns.map PyData.bool) → vs = ns.map V.bl
  | [], _, .nil => rfl
  | n :: r, _, .cons (.bl _) h => by rw [RpA.of_bools r h]; rfl
/-- the object itself stands in H, what is in it in G -/
inductive Sh (G H : Hp) : V → D → Prop
  | non : Sh G H .non .none
  | bl (b : Bool) : Sh G H (.bl b) (.bool b)
  | int (i : Int) : Sh G H (.int i) (.int i)
  | str (x : Str) : Sh G H (.str x) (.str x)
  | lst {a : Addr} {xs : List V} {ds : List D} : H a = some (.lst xs) → RpA G xs ds → Sh G H (.ref a) (.list ds)
  | tup {a : Addr} {xs : List V} {ds : List D} : H a = some (.tup xs) → RpA G xs ds → Sh G H (.ref a) (.tuple ds)
  | dct {a : Addr} {es : List (Key × V)} {ks : List (D × D)} : H a = some (.dK es) → RpK G es ks → Sh G H (.ref a) (.dict ks)
theorem Rp.sh {G H : Hp} (e : Same G H) {v : V} {d : D} (h : Rp G v d) : Sh G H v d := by
  cases h with
  | non => exact .non
  | bl b => exact .bl b
  | int i => exact .int i
  | str x => exact .str x
  | lst h r => exact .lst (e _ _ h) r
  | tup h r => exact .tup (e _ _ h) r
  | dct h r => exact .dct (e _ _ h) r
theorem Sh.mono {G G' H H' : Hp} (e : Same G G') (f : Same H H') {v : V} {d : D} (h : Sh G H v d) : Sh G' H' v d := by
  cases h with
  | non => exact .non
  | bl b => exact .bl b
  | int i => exact .int i
  | str x => exact .str x
  | lst h r => exact .lst (f _ _ h) (r.mono e)
  | tup h r => exact .tup (f _ _ h) (r.mono e)
  | dct h r => exact .dct (f _ _ h) (r.mono e)
/-- only the very object is looked at -/
theorem Sh.at {G G' H H' : Hp} (e : Same G G') {v : V} {d : D} (f : ∀ a, v = .ref a → ∀ o, H a = some o → H' a = some o) (h : Sh G H v d) : Sh G' H' v d := by
  cases h with
  | non => exact .non
  | bl b => exact .bl b
  | int i => exact .int i
  | str x => exact .str x
  | lst h r => exact .lst (f _ rfl _ h) (r.mono e)
  | tup h r => exact .tup (f _ rfl _ h) (r.mono e)
  | dct h r => exact .dct (f _ rfl _ h) (r.mono e)
def atom : D → Bool
  | .none => true
  | .bool _ => true
  | .int _ => true
  | .str _ => true
  | _ => false
theorem Sh.atom {G H : Hp} {v : V} {d : D} (h : Sh G H v d) (a : atom d = true) (G' : Hp) : Rp G' v d := by
  cases h with
  | non => exact .non
  | bl b => exact .bl b
  | int i => exact .int i
  | str x => exact .str x
  | lst h r => cases a
  | tup h r => cases a
  | dct h r => cases a
/-- the object is frozen -/
theorem Sh.frozen {G H : Hp} {a : Addr} {d : D} (h : Sh G H (.ref a) d) (hn : G a = none) : ∃ G', Same G G' ∧ (∀ b, G' b ≠ none → G b ≠ none ∨ b = a) ∧ (∀ b o, G' b = some o → G b = some o ∨ H b = some o) ∧ Rp G' (.ref a) d := by
  have key : ∀ (o : HO), H a = some o → Same G (upd G a o) ∧ (∀ b, upd G a o b ≠ none → G b ≠ none ∨ b = a) ∧ (∀ b u, upd G a o b = some u → G b = some u ∨ H b = some u) := by
    intro o ho
    refine ⟨fun b u e => ?_, fun b e => ?_, fun b u e => ?_⟩
    · rw [upd_ne (ne_of_none e hn)]; exact e
    · by_cases hb : b = a
      · exact .inr hb
      · rw [upd_ne hb] at e; exact .inl e
    · by_cases hb : b = a
      · subst hb; rw [upd_same] at e; cases e; exact .inr ho
      · rw [upd_ne hb] at e; exact .inl e
  cases h with
  | lst h r => exact ⟨_, (key _ h).1, (key _ h).2.1, (key _ h).2.2, .lst upd_same (r.mono (key _ h).1)⟩
  | tup h r => exact ⟨_, (key _ h).1, (key _ h).2.1, (key _ h).2.2, .tup upd_same (r.mono (key _ h).1)⟩
  | dct h r => exact ⟨_, (key _ h).1, (key _ h).2.1, (key _ h).2.2, .dct upd_same (r.mono (key _ h).1)⟩
/-! ### the names' state -/
inductive Sl where
  | un | val (d : D) | own (d : D) | io (d : D) | bor (d : D) | scr (ns : List Int)
inductive Pl where
  | val (d : D) | slot (i : Nat)
inductive Rv where
  | pl (p : Pl) | fr (d : D)
abbrev Env := List Sl
inductive R (α : Type) where
  | stuck | ok (a : α) (ρ : Env)
abbrev M (α : Type) := Env → R α
structure Ctx where
  K : PySem.W.Frag
  G0 : Hp
  B : Hp
  A : Addr → Prop
  P : Nat → Option V
  S : Nat → Sl
def BorOk (K : PySem.W.Frag) (G B : Hp) (v : V) : Sl → Prop
  | .bor d => Sh G B v d
  | .scr ns => ∃ a, v = .ref a ∧ SqL K B a (ns.map V.int)
  | _ => True
def SlOk (C : Ctx) (G H : Hp) (i : Nat) (o : Option V) : Sl → Prop
  | .un => True
  | .val d => ∃ v, o = some v ∧ Rp G v d
  | .own d => ∃ a, o = some (.ref a) ∧ Sh G H (.ref a) d ∧ G a = none ∧ C.B a = none ∧ C.A a
  | .io d => ∃ a, o = some (.ref a) ∧ Sh G H (.ref a) d ∧ G a = none ∧ C.B a = none ∧ C.P i = some (.ref a)
  | .bor d => ∃ v, o = some v ∧ C.P i = some v ∧ C.S i = .bor d
  | .scr ns => ∃ v, o = some v ∧ C.P i = some v ∧ C.S i = .scr ns
def ownK : Sl → Bool
  | .own _ => true
  | .io _ => true
  | _ => false
def Own (σ : St) (ρ : Env) (i : Nat) (a : Addr) : Prop := σ[i]? = some (some (.ref a)) ∧ ∃ s, ρ[i]? = some s ∧ ownK s = true
structure StOk (C : Ctx) (G : Hp) (σ : St) (H : Hp) (ρ : Env) : Prop where
  gh : Same G H
  bh : Same C.B H
  g0 : Same C.G0 G
  fr : ∀ a, H a = none → C.A a
  ga : ∀ a, G a ≠ none → C.G0 a ≠ none ∨ C.A a
  wf : ∀ (i : Nat) (v : V), C.P i = some v → BorOk C.K C.G0 C.B v (C.S i)
  len : σ.length = ρ.length
  sl : ∀ (i : Nat) (s : Sl), ρ[i]? = some s → ∃ o, σ[i]? = some o ∧ SlOk C G H i o s
  ds : ∀ (i j : Nat) (a : Addr), Own σ ρ i a → Own σ ρ j a → i = j
theorem BorOk.mono {K : PySem.W.Frag} {G G' B B' : Hp} {v : V} {s : Sl} (e : Same G G') (f : Same B B') (h : BorOk K G B v s) : BorOk K G' B' v s := by
  cases s with
  | bor d => exact Sh.mono e f h
  | scr ns => obtain ⟨a, e1, q⟩ := h; exact ⟨a, e1, Same.seq f q⟩
  | _ => trivial
/-- what stood stands, what is frozen anew is new -/
structure Grow (G H G' H' : Hp) : Prop where
  g : Same G G'
  h : Same H H'
  gh : Same G' H'
  nw : ∀ a, G' a ≠ none → G a ≠ none ∨ H a = none
theorem Grow.refl {G H : Hp} (e : Same G H) : Grow G H G H := ⟨Same.refl _, Same.refl _, e, fun _ h => .inl h⟩
theorem Grow.new {G H : Hp} {p : Addr} {o : HO} (e : Same G H) (hp : H p = none) : Grow G H (upd G p o) (upd H p o) := by
  have gp : G p = none := e.free hp
  refine ⟨fun b u q => ?_, fun b u q => ?_, fun b u q => ?_, fun b q => ?_⟩
  · rw [upd_ne (ne_of_none q gp)]; exact q
  · rw [upd_ne (ne_of_none q hp)]; exact q
  · by_cases hb : b = p
    · subst hb; rw [upd_same] at q ⊢; exact q
    · rw [upd_ne hb] at q ⊢; exact e b u q
  · by_cases hb : b = p
    · subst hb; exact .inr hp
    · rw [upd_ne hb] at q; exact .inl q
/-- a new object that isn't frozen -/
theorem Grow.newF {G H : Hp} {p : Addr} {o : HO} (e : Same G H) (hp : H p = none) : Grow G H G (upd H p o) := by
  refine ⟨Same.refl _, fun b u q => ?_, fun b u q => ?_, fun b q => .inl q⟩
  · rw [upd_ne (ne_of_none q hp)]; exact q
  · rw [upd_ne (ne_of_none (e b u q) hp)]; exact e b u q
theorem Grow.trans {G H G1 H1 G2 H2 : Hp} (a : Grow G H G1 H1) (b : Grow G1 H1 G2 H2) : Grow G H G2 H2 :=
  ⟨a.g.trans b.g, a.h.trans b.h, b.gh, fun x hx => (b.nw x hx).elim (a.nw x) fun q => .inr (a.h.free q)⟩
theorem ne_none_of {H : Hp} {a : Addr} {o : HO} (h : H a = some o) : H a ≠ none := by rw [h]; intro z; cases z
theorem Sh.tracked {G H : Hp} {a : Addr} {d : D} (h : Sh G H (.ref a) d) : H a ≠ none := by
  cases h with
  | lst h r => exact ne_none_of h
  | tup h r => exact ne_none_of h
  | dct h r => exact ne_none_of h
theorem SlOk.grow {C : Ctx} {G H G' H' : Hp} (w : Grow G H G' H') {i : Nat} {o : Option V} {s : Sl} (h : SlOk C G H i o s) : SlOk C G' H' i o s := by
  have fz : ∀ {a : Addr}, H a ≠ none → G a = none → G' a = none := fun {a} h1 h2 => by
    cases q : G' a with
    | none => rfl
    | some u =>
      rcases w.nw a (ne_none_of q) with z | z
      · exact absurd h2 z
      · exact absurd z h1
  cases s with
  | un => trivial
  | val d => obtain ⟨v, e, r⟩ := h; exact ⟨v, e, r.mono w.g⟩
  | own d => obtain ⟨a, e, r, h1, h2, h3⟩ := h; exact ⟨a, e, r.mono w.g w.h, fz r.tracked h1, h2, h3⟩
  | io d => obtain ⟨a, e, r, h1, h2⟩ := h; exact ⟨a, e, r.mono w.g w.h, fz r.tracked h1, h2⟩
  | bor d => exact h
  | scr ns => exact h
theorem StOk.grow {C : Ctx} {G H G' H' : Hp} {σ : St} {ρ : Env} (S : StOk C G σ H ρ) (w : Grow G H G' H') : StOk C G' σ H' ρ where
  gh := w.gh
  bh := S.bh.trans w.h
  g0 := S.g0.trans w.g
  fr := fun a h => S.fr a (w.h.free h)
  ga := fun a h => (w.nw a h).elim (S.ga a) fun q => .inr (S.fr a q)
  wf := S.wf
  len := S.len
  sl := fun i s e => let ⟨o, e1, q⟩ := S.sl i s e; ⟨o, e1, q.grow w⟩
  ds := S.ds
end PL
namespace PL
open PySem PySem.Spec L2
abbrev St' := L2.St
def okP (G : Hp) (σ : L2.St) (v : V) : Pl → Prop
  | .val d => Rp G v d
  | .slot i => σ[i]? = some (some v)
def okR (C : Ctx) (G : Hp) (σ : L2.St) (H : Hp) (ρ : Env) (v : V) : Rv → Prop
  | .pl p => okP G σ v p
  | .fr d => ∃ a, v = .ref a ∧ Sh G H (.ref a) d ∧ G a = none ∧ C.B a = none ∧ C.A a ∧ ∀ i, ¬ Own σ ρ i a
inductive okPs (G : Hp) (σ : L2.St) : List V → List Pl → Prop
  | nil : okPs G σ [] []
  | cons {v : V} {vs : List V} {p : Pl} {ps : List Pl} : okP G σ v p → okPs G σ vs ps → okPs G σ (v :: vs) (p :: ps)
theorem okP.mono {G G' : Hp} {σ : L2.St} {v : V} (e : Same G G') : ∀ {p : Pl}, okP G σ v p → okP G' σ v p
  | .val _, h => Rp.mono e h
  | .slot _, h => h
theorem okPs.mono {G G' : Hp} {σ : L2.St} (e : Same G G') : ∀ {vs : List V} {ps : List Pl}, okPs G σ vs ps → okPs G' σ vs ps
  | _, _, .nil => .nil
  | _, _, .cons h r => .cons (h.mono e) (okPs.mono e r)
/-! ### readings -/
def RdV (K : PySem.W.Frag) (t : TE) (f : M D) : Prop := ∀ (C : Ctx) (G : Hp) (σ : L2.St) (H : Hp) (ρ : Env) (Q : VK), C.K = K → StOk C G σ H ρ → ∀ (d : D) (ρ' : Env), f ρ = .ok d ρ' →
  (∀ (v : V) (G' H' : Hp), Same G G' → StOk C G' σ H' ρ' → Rp G' v d → Q v H') → t σ H Q
def RdP (K : PySem.W.Frag) (t : TE) (f : M Pl) : Prop := ∀ (C : Ctx) (G : Hp) (σ : L2.St) (H : Hp) (ρ : Env) (Q : VK), C.K = K → StOk C G σ H ρ → ∀ (d : Pl) (ρ' : Env), f ρ = .ok d ρ' →
  (∀ (v : V) (G' H' : Hp), Same G G' → StOk C G' σ H' ρ' → okP G' σ v d → Q v H') → t σ H Q
def RdF (K : PySem.W.Frag) (t : TE) (f : M Rv) : Prop := ∀ (C : Ctx) (G : Hp) (σ : L2.St) (H : Hp) (ρ : Env) (Q : VK), C.K = K → StOk C G σ H ρ → ∀ (d : Rv) (ρ' : Env), f ρ = .ok d ρ' →
  (∀ (v : V) (G' H' : Hp), Same G G' → StOk C G' σ H' ρ' → okR C G' σ H' ρ' v d → Q v H') → t σ H Q
def RdT (K : PySem.W.Frag) (t : TT) (f : M Bool) : Prop := ∀ (C : Ctx) (G : Hp) (σ : L2.St) (H : Hp) (ρ : Env) (Q : Bool → Hp → Prop), C.K = K → StOk C G σ H ρ → ∀ (b : Bool) (ρ' : Env), f ρ = .ok b ρ' →
  (∀ (G' H' : Hp), Same G G' → StOk C G' σ H' ρ' → Q b H') → t σ H Q
def RdA (K : PySem.W.Frag) (t : TA) (f : M (List D)) : Prop := ∀ (C : Ctx) (G : Hp) (σ : L2.St) (H : Hp) (ρ : Env) (Q : List V → Hp → Prop), C.K = K → StOk C G σ H ρ → ∀ (ds : List D) (ρ' : Env), f ρ = .ok ds ρ' →
  (∀ (vs : List V) (G' H' : Hp), Same G G' → StOk C G' σ H' ρ' → RpA G' vs ds → Q vs H') → t σ H Q
def RdPs (K : PySem.W.Frag) (t : TA) (f : M (List Pl)) : Prop := ∀ (C : Ctx) (G : Hp) (σ : L2.St) (H : Hp) (ρ : Env) (Q : List V → Hp → Prop), C.K = K → StOk C G σ H ρ → ∀ (ds : List Pl) (ρ' : Env), f ρ = .ok ds ρ' →
  (∀ (vs : List V) (G' H' : Hp), Same G G' → StOk C G' σ H' ρ' → okPs G' σ vs ds → Q vs H') → t σ H Q
/-- an expression that gives data | a place or data | also a new object of its own -/
def PV (X : Cx) (e : Expr) (f : M D) : Prop := ∃ t, PE X e t ∧ RdV X.K t f
def PP (X : Cx) (e : Expr) (f : M Pl) : Prop := ∃ t, PE X e t ∧ RdP X.K t f
def PF (X : Cx) (e : Expr) (f : M Rv) : Prop := ∃ t, PE X e t ∧ RdF X.K t f
def PTt (X : Cx) (e : Expr) (f : M Bool) : Prop := ∃ t, PT X e t ∧ RdT X.K t f
def PWt (X : Cx) (e : Expr) (f : M Bool) : Prop := ∃ t, PW X e t ∧ RdT X.K t f
def PVs (X : Cx) (es : List Expr) (f : M (List D)) : Prop := ∃ t, PA X es t ∧ RdA X.K t f
def PPs (X : Cx) (es : List Expr) (f : M (List Pl)) : Prop := ∃ t, PA X es t ∧ RdPs X.K t f
/-! ### the words of the mirror -/
def bnd {α β : Type} (f : M α) (g : α → M β) : M β := fun ρ => match f ρ with
  | .stuck => .stuck
  | .ok a ρ' => g a ρ'
def ret {α : Type} (a : α) : M α := fun ρ => .ok a ρ
def ofO {α : Type} : Option α → M α
  | some a => ret a
  | none => fun _ => .stuck
theorem bnd_ok {α β : Type} {f : M α} {g : α → M β} {ρ ρ' : Env} {b : β} (h : bnd f g ρ = .ok b ρ') : ∃ a ρ1, f ρ = .ok a ρ1 ∧ g a ρ1 = .ok b ρ' := by
  unfold bnd at h
  cases q : f ρ with
  | stuck => rw [q] at h; cases h
  | ok a ρ1 => rw [q] at h; exact ⟨a, ρ1, rfl, h⟩
theorem ofO_ok {α : Type} {o : Option α} {a : α} {ρ ρ' : Env} (h : ofO o ρ = .ok a ρ') : o = some a ∧ ρ' = ρ := by
  cases o with
  | none => cases h
  | some b => cases h; exact ⟨rfl, rfl⟩
def mVar (i : Nat) : M Pl := fun ρ => match ρ[i]? with
  | some .un => .stuck
  | none => .stuck
  | some (.val d) => .ok (.val d) ρ
  | some _ => .ok (.slot i) ρ
def mC (d : D) : M D := ret d
/-- data taken from a place: an object of one's own is frozen -/
def mGet (i : Nat) : M D := fun ρ => match ρ[i]? with
  | some (.val d) => .ok d ρ
  | some (.own d) => .ok d (ρ.set i (.val d))
  | some (.bor d) => if atom d = true then .ok d ρ else .stuck
  | _ => .stuck
def mFz (f : M Rv) : M D := bnd f fun r => match r with
  | .fr d => ret d
  | .pl (.val d) => ret d
  | .pl (.slot i) => mGet i
def mPl (f : M D) : M Pl := bnd f fun d => ret (.val d)
def mRv (f : M Pl) : M Rv := bnd f fun p => ret (.pl p)
/-- what stands at a place -/
def rsv (ρ : Env) : Pl → Option D
  | .val d => some d
  | .slot i => match ρ[i]? with
    | some (.val d) => some d
    | some (.own d) => some d
    | some (.io d) => some d
    | some (.bor d) => some d
    | _ => none
def look (p : Pl) : M D := fun ρ => match rsv ρ p with
  | some d => .ok d ρ
  | none => .stuck
def lookAll : List Pl → M (List D)
  | [] => ret []
  | p :: ps => bnd (look p) fun d => bnd (lookAll ps) fun ds => ret (d :: ds)
def mOp {α : Type} (g : D → D → Option α) (fa fb : M Pl) : M α := bnd fa fun p => bnd fb fun q => bnd (look p) fun d => bnd (look q) fun e => ofO (g d e)
def mUn {α : Type} (g : D → Option α) (fa : M Pl) : M α := bnd fa fun p => bnd (look p) fun d => ofO (g d)
def mNil {α : Type} : M (List α) := ret []
def mCons {α : Type} (fa : M α) (fr : M (List α)) : M (List α) := bnd fa fun p => bnd fr fun q => ret (p :: q)
def mN {α : Type} (g : List D → Option α) (fs : M (List Pl)) : M α := bnd fs fun ps => bnd (lookAll ps) fun ds => ofO (g ds)
def mFr (f : M D) : M Rv := bnd f fun d => ret (.fr d)
def mTup (f : M (List D)) : M D := bnd f fun ds => if ds.length ≤ 100000 then ret (.tuple ds) else fun _ => .stuck
def mLst (f : M (List D)) : M Rv := bnd f fun ds => if ds.length ≤ 100000 then ret (.fr (.list ds)) else fun _ => .stuck
def asBool : D → Option Bool
  | .bool b => some b
  | _ => none
def mB (f : M D) : M Bool := bnd f fun d => ofO (asBool d)
def mIf {α : Type} (c : M Bool) (a b : M α) : M α := bnd c fun k => if k = true then a else b
def mNot (c : M Bool) : M Bool := bnd c fun k => ret (!k)
def mAnd (a b : M Bool) : M Bool := bnd a fun k => if k = true then b else ret false
def mOr (a b : M Bool) : M Bool := bnd a fun k => if k = true then ret true else b
def mBool (c : M Bool) : M D := bnd c fun k => ret (.bool k)
def mAndV (a b : M D) : M D := bnd (mB a) fun k => if k = true then b else ret (.bool false)
def mOrV (a b : M D) : M D := bnd (mB a) fun k => if k = true then ret (.bool true) else b
def mNotV (a : M D) : M D := bnd (mB a) fun k => ret (.bool (!k))
/-! ### places -/
section
variable {C : Ctx} {G H : Hp} {σ : L2.St} {ρ ρ' : Env} {v : V} {p : Pl} {d : D}
theorem StOk.get (S : StOk C G σ H ρ) {i : Nat} {s : Sl} (e : ρ[i]? = some s) (hv : σ[i]? = some (some v)) : SlOk C G H i (some v) s := by
  obtain ⟨o, e1, q⟩ := S.sl i s e
  rw [hv] at e1; cases e1; exact q
theorem StOk.bor (S : StOk C G σ H ρ) {i : Nat} (h1 : C.P i = some v) (h2 : C.S i = .bor d) : Sh G H v d := by
  have := S.wf i v h1
  rw [h2] at this
  exact Sh.mono S.g0 S.bh this
theorem rsv_ok (S : StOk C G σ H ρ) (h : okP G σ v p) (e : rsv ρ p = some d) : Sh G H v d := by
  cases p with
  | val d' =>
    cases e
    exact Rp.sh S.gh h
  | slot i =>
    have hv : σ[i]? = some (some v) := h
    simp only [rsv] at e
    cases q : ρ[i]? with
    | none => rw [q] at e; cases e
    | some s =>
      have k := S.get q hv
      rw [q] at e
      cases s with
      | un => cases e
      | scr ns => cases e
      | val d' => cases e; obtain ⟨_, z, r⟩ := k; cases z; exact r.sh S.gh
      | own d' => cases e; obtain ⟨a, e2, r, _⟩ := k; cases e2; exact r
      | io d' => cases e; obtain ⟨a, e2, r, _⟩ := k; cases e2; exact r
      | bor d' => cases e; obtain ⟨_, z, p1, p2⟩ := k; cases z; exact S.bor p1 p2
theorem look_ok (S : StOk C G σ H ρ) (h : okP G σ v p) (e : look p ρ = .ok d ρ') : Sh G H v d ∧ ρ' = ρ := by
  unfold look at e
  cases q : rsv ρ p with
  | none => rw [q] at e; cases e
  | some d' => rw [q] at e; cases e; exact ⟨rsv_ok S h q, rfl⟩
/-- one name is given another thing -/
theorem Own.tracked (S : StOk C G σ H ρ) {i : Nat} {a : Addr} (h : Own σ ρ i a) : H a ≠ none ∧ G a = none ∧ C.B a = none := by
  obtain ⟨h1, s, h2, h3⟩ := h
  have k := S.get h2 h1
  cases s with
  | own d => obtain ⟨b, e, r, x, y, _⟩ := k; cases e; exact ⟨r.tracked, x, y⟩
  | io d => obtain ⟨b, e, r, x, y⟩ := k; cases e; exact ⟨r.tracked, x, y.1⟩
  | un => cases h3
  | val d => cases h3
  | bor d => cases h3
  | scr d => cases h3
/-- an own object is frozen: the name holds data from now on -/
theorem StOk.freeze (S : StOk C G σ H ρ) {i : Nat} (e : ρ[i]? = some (.own d)) (hv : σ[i]? = some (some v)) :
    ∃ G', Same G G' ∧ StOk C G' σ H (ρ.set i (.val d)) ∧ Rp G' v d := by
  obtain ⟨a, e2, r, gn, bn, aa⟩ := S.get e hv
  cases e2
  obtain ⟨G', g1, g2, g3, g4⟩ := r.frozen gn
  have hi : i < ρ.length := (List.getElem?_eq_some_iff.mp e).1
  have dist : ∀ {j : Nat} {s : Sl} {b : Addr}, j ≠ i → ρ[j]? = some s → ownK s = true → σ[j]? = some (some (.ref b)) → b ≠ a := fun {j s b} hj q k hb z => by
    subst z
    exact hj (S.ds j i b ⟨hb, s, q, k⟩ ⟨hv, _, e, rfl⟩)
  have still : ∀ {b : Addr}, b ≠ a → G b = none → G' b = none := fun {b} hb hg => by
    cases q : G' b with
    | none => rfl
    | some u => exact ((g2 b (ne_none_of q)).elim (fun z => (z hg).elim) fun z => (hb z).elim)
  refine ⟨G', g1, ⟨?_, S.bh, S.g0.trans g1, S.fr, ?_, S.wf, ?_, ?_, ?_⟩, g4⟩
  · intro b u q
    exact (g3 b u q).elim (fun z => S.gh b u z) id
  · intro b q
    rcases g2 b q with z | z
    · exact S.ga b z
    · subst z; exact .inr aa
  · rw [List.length_set]; exact S.len
  · intro j s q
    by_cases hj : j = i
    · subst hj
      rw [List.getElem?_set_self hi] at q
      cases q
      exact ⟨_, hv, _, rfl, g4⟩
    · rw [List.getElem?_set_ne (fun z => hj z.symm)] at q
      obtain ⟨o, e1, k⟩ := S.sl j s q
      refine ⟨o, e1, ?_⟩
      cases s with
      | un => trivial
      | val d' => obtain ⟨w, e, r⟩ := k; exact ⟨w, e, r.mono g1⟩
      | own d' =>
        obtain ⟨b, e3, r, x, y, z⟩ := k
        subst e3
        exact ⟨b, rfl, r.mono g1 (Same.refl _), still (dist hj q rfl e1) x, y, z⟩
      | io d' =>
        obtain ⟨b, e3, r, x, y⟩ := k
        subst e3
        exact ⟨b, rfl, r.mono g1 (Same.refl _), still (dist hj q rfl e1) x, y⟩
      | bor d' => exact k
      | scr ns => exact k
  · intro j k b hj hk
    have sub : ∀ {m : Nat}, Own σ (ρ.set i (.val d)) m b → Own σ ρ m b := fun {m} ⟨x, s, y, z⟩ => by
      by_cases hm : m = i
      · subst hm
        rw [List.getElem?_set_self hi] at y
        cases y; cases z
      · rw [List.getElem?_set_ne (fun z => hm z.symm)] at y
        exact ⟨x, s, y, z⟩
    exact S.ds j k b (sub hj) (sub hk)
/-- a new object of nobody is frozen -/
theorem StOk.freezeF (S : StOk C G σ H ρ) {a : Addr} (r : Sh G H (.ref a) d) (gn : G a = none) (aa : C.A a) (no : ∀ i, ¬ Own σ ρ i a) :
    ∃ G', Same G G' ∧ StOk C G' σ H ρ ∧ Rp G' (.ref a) d := by
  obtain ⟨G', g1, g2, g3, g4⟩ := r.frozen gn
  have still : ∀ {b : Addr}, b ≠ a → G b = none → G' b = none := fun {b} hb hg => by
    cases q : G' b with
    | none => rfl
    | some u => exact ((g2 b (ne_none_of q)).elim (fun z => (z hg).elim) fun z => (hb z).elim)
  refine ⟨G', g1, ⟨?_, S.bh, S.g0.trans g1, S.fr, ?_, S.wf, S.len, ?_, S.ds⟩, g4⟩
  · intro b u q
    exact (g3 b u q).elim (fun z => S.gh b u z) id
  · intro b q
    rcases g2 b q with z | z
    · exact S.ga b z
    · subst z; exact .inr aa
  · intro j s q
    obtain ⟨o, e1, k⟩ := S.sl j s q
    refine ⟨o, e1, ?_⟩
    have dist : ∀ {b : Addr}, ownK s = true → o = some (.ref b) → b ≠ a := fun {b} hk e z => by
      subst z; subst e
      exact no j ⟨e1, s, q, hk⟩
    cases s with
    | un => trivial
    | val d' => obtain ⟨w, e, r⟩ := k; exact ⟨w, e, r.mono g1⟩
    | own d' =>
      obtain ⟨b, e3, r, x, y, z⟩ := k
      exact ⟨b, e3, r.mono g1 (Same.refl _), still (dist rfl e3) x, y, z⟩
    | io d' =>
      obtain ⟨b, e3, r, x, y⟩ := k
      exact ⟨b, e3, r.mono g1 (Same.refl _), still (dist rfl e3) x, y⟩
    | bor d' => exact k
    | scr ns => exact k
theorem mGet_ok (S : StOk C G σ H ρ) {i : Nat} (hv : σ[i]? = some (some v)) (e : mGet i ρ = .ok d ρ') : ∃ G', Same G G' ∧ StOk C G' σ H ρ' ∧ Rp G' v d := by
  unfold mGet at e
  cases q : ρ[i]? with
  | none => rw [q] at e; cases e
  | some s =>
    rw [q] at e
    cases s with
    | un => cases e
    | scr ns => cases e
    | io d' => cases e
    | val d' => cases e; obtain ⟨_, z, r⟩ := S.get q hv; cases z; exact ⟨G, Same.refl _, S, r⟩
    | own d' => cases e; exact S.freeze q hv
    | bor d' =>
      by_cases ha : atom d' = true
      · simp only [ha, if_true] at e
        cases e
        obtain ⟨_, z, p1, p2⟩ := S.get q hv
        cases z
        exact ⟨G, Same.refl _, S, (S.bor p1 p2).atom ha G⟩
      · simp only [ha, if_false] at e
        cases e
end
/-! ### expressions -/
section
variable {X : Cx} {e a b c : Expr} {es : List Expr} {pos : Pos} {f fa fb : M D} {g ga gb : M Pl} {k : M Rv}
theorem pp_name (i : Nat) {x : Str} (hN : X.N[i]? = some x := by rfl) (hv : Vis X.env.scope x := by first | exact Or.inl rfl | exact Or.inr (Or.inl rfl) | exact Or.inr (Or.inr rfl)) (hd : (x == ("__debug__" : Str)) = false := by decide)
    (hcd : (x == ("__classdict__" : Str)) = false := by decide) : PP X (.Name x pos) (mVar i) := by
  refine ⟨_, pe_var hN hv hd hcd, fun C G σ H ρ Q hK S d ρ' hf q => ?_⟩
  unfold mVar at hf
  cases r : ρ[i]? with
  | none => rw [r] at hf; cases hf
  | some s =>
    rw [r] at hf
    obtain ⟨o, e1, k⟩ := S.sl i s r
    cases s with
    | un => cases hf
    | val d' => cases hf; obtain ⟨v, rfl, rr⟩ := k; exact ⟨v, e1, q v G H (Same.refl _) S rr⟩
    | own d' => cases hf; obtain ⟨a, rfl, _⟩ := k; exact ⟨_, e1, q _ G H (Same.refl _) S e1⟩
    | io d' => cases hf; obtain ⟨a, rfl, _⟩ := k; exact ⟨_, e1, q _ G H (Same.refl _) S e1⟩
    | bor d' => cases hf; obtain ⟨v, rfl, _⟩ := k; exact ⟨_, e1, q _ G H (Same.refl _) S e1⟩
    | scr ns => cases hf; obtain ⟨v, rfl, _⟩ := k; exact ⟨_, e1, q _ G H (Same.refl _) S e1⟩
theorem pv_const {v : V} {d : D} (h : PE X e (tC v)) (r : ∀ G, Rp G v d) : PV X e (mC d) := ⟨_, h, fun C G σ H ρ Q hK S d' ρ' hf q => by
  cases hf
  exact q v G H (Same.refl _) S (r G)⟩
theorem pv_int {i : Int} {j : Nat} : PV X (.Constant (.int i) j pos) (mC (.int i)) := pv_const pe_int fun _ => .int i
theorem pv_bl {b : Bool} {j : Nat} : PV X (.Constant (.bool b) j pos) (mC (.bool b)) := pv_const pe_bl fun _ => .bl b
theorem pv_non {j : Nat} : PV X (.Constant .none j pos) (mC .none) := pv_const pe_non fun _ => .non
theorem pv_str {x : String} {j : Nat} : PV X (.Constant (.str x) j pos) (mC (.str x)) := pv_const pe_str fun _ => .str x
theorem pp_of (h : PV X e f) : PP X e (mPl f) := by
  obtain ⟨t, ht, r⟩ := h
  refine ⟨t, ht, fun C G σ H ρ Q hK S d ρ' hf q => ?_⟩
  obtain ⟨d', ρ1, h1, h2⟩ := bnd_ok hf
  cases h2
  exact r C G σ H ρ Q hK S d' _ h1 q
theorem pf_of (h : PP X e g) : PF X e (mRv g) := by
  obtain ⟨t, ht, r⟩ := h
  refine ⟨t, ht, fun C G σ H ρ Q hK S d ρ' hf q => ?_⟩
  obtain ⟨d', ρ1, h1, h2⟩ := bnd_ok hf
  cases h2
  exact r C G σ H ρ Q hK S d' _ h1 q
theorem pv_of (h : PF X e k) : PV X e (mFz k) := by
  obtain ⟨t, ht, r⟩ := h
  refine ⟨t, ht, fun C G σ H ρ Q hK S d ρ' hf q => ?_⟩
  obtain ⟨d', ρ1, h1, h2⟩ := bnd_ok hf
  refine r C G σ H ρ Q hK S d' ρ1 h1 fun v G1 H1 g1 S1 o => ?_
  cases d' with
  | fr d2 =>
    cases h2
    obtain ⟨a, rfl, rr, gn, bn, aa, no⟩ := o
    obtain ⟨G2, g2, S2, r2⟩ := S1.freezeF rr gn aa no
    exact q _ G2 H1 (g1.trans g2) S2 r2
  | pl p =>
    cases p with
    | val d2 => cases h2; exact q v G1 H1 g1 S1 o
    | slot i =>
      obtain ⟨G2, g2, S2, r2⟩ := mGet_ok S1 (show σ[i]? = some (some v) from o) h2
      exact q _ G2 H1 (g1.trans g2) S2 r2
/-- an operation upon two things that are looked at -/
def POpV (r : R2) (g : D → D → Option D) : Prop := ∀ (G H : Hp) (x y : V) (d e z : D) (Q : VK), Same G H → Sh G H x d → Sh G H y e → g d e = some z → (∀ v G' H', Grow G H G' H' → Rp G' v z → Q v H') → r x y H Q
def POpF (r : R2) (g : D → D → Option D) : Prop := ∀ (G H : Hp) (x y : V) (d e z : D) (Q : VK), Same G H → Sh G H x d → Sh G H y e → g d e = some z → (∀ p H', H p = none → Grow G H G H' → Sh G H' (.ref p) z → Q (.ref p) H') → r x y H Q
theorem fresh_ok {C : Ctx} {G H H' : Hp} {σ : L2.St} {ρ : Env} {p : Addr} {z : D} (S : StOk C G σ H ρ) (hp : H p = none) (w : Grow G H G H') (s : Sh G H' (.ref p) z) : okR C G σ H' ρ (.ref p) (.fr z) :=
  ⟨p, rfl, s, S.gh.free hp, S.bh.free hp, S.fr p hp, fun i o => (Own.tracked S o).1 hp⟩
theorem rd_op {r : R2} {g' : D → D → Option D} {ta tb : TE} (hp : POpV r g') (ha : RdP X.K ta ga) (hb : RdP X.K tb gb) : RdV X.K (tOp r ta tb) (mOp g' ga gb) := by
  intro C G σ H ρ Q hK S d ρ' hf q
  obtain ⟨p, ρ1, h1, hf2⟩ := bnd_ok hf
  obtain ⟨p2, ρ2, h2, hf3⟩ := bnd_ok hf2
  refine ha C G σ H ρ _ hK S p ρ1 h1 fun v1 G1 H1 g1 S1 o1 => ?_
  refine hb C G1 σ H1 ρ1 _ hK S1 p2 ρ2 h2 fun v2 G2 H2 g2 S2 o2 => ?_
  obtain ⟨d1, ρ3, h3, hf4⟩ := bnd_ok hf3
  obtain ⟨s1, rfl⟩ := look_ok S2 (o1.mono g2) h3
  obtain ⟨d2, ρ4, h4, hf5⟩ := bnd_ok hf4
  obtain ⟨s2, rfl⟩ := look_ok S2 o2 h4
  obtain ⟨e, rfl⟩ := ofO_ok hf5
  exact hp G2 H2 v1 v2 d1 d2 d Q S2.gh s1 s2 e fun v G' H' w r => q v G' H' ((g1.trans g2).trans w.g) (S2.grow w) r
theorem rd_opF {r : R2} {g' : D → D → Option D} {ta tb : TE} (hp : POpF r g') (ha : RdP X.K ta ga) (hb : RdP X.K tb gb) : RdF X.K (tOp r ta tb) (mFr (mOp g' ga gb)) := by
  intro C G σ H ρ Q hK S d ρ' hf q
  obtain ⟨d', ρ0, hf0, h0⟩ := bnd_ok hf
  cases h0
  obtain ⟨p, ρ1, h1, hf2⟩ := bnd_ok hf0
  obtain ⟨p2, ρ2, h2, hf3⟩ := bnd_ok hf2
  refine ha C G σ H ρ _ hK S p ρ1 h1 fun v1 G1 H1 g1 S1 o1 => ?_
  refine hb C G1 σ H1 ρ1 _ hK S1 p2 ρ2 h2 fun v2 G2 H2 g2 S2 o2 => ?_
  obtain ⟨d1, ρ3, h3, hf4⟩ := bnd_ok hf3
  obtain ⟨s1, rfl⟩ := look_ok S2 (o1.mono g2) h3
  obtain ⟨d2, ρ4, h4, hf5⟩ := bnd_ok hf4
  obtain ⟨s2, rfl⟩ := look_ok S2 o2 h4
  obtain ⟨e, rfl⟩ := ofO_ok hf5
  exact hp G2 H2 v1 v2 d1 d2 d' Q S2.gh s1 s2 e fun p H' hn w s => q _ G2 H' (g1.trans g2) (S2.grow w) (fresh_ok S2 hn w s)
theorem pv_op {op : Operator} {r : R2} {g' : D → D → Option D} (ho : OpR X (binaryOp op) r) (hp : POpV r g') (ha : PP X a ga) (hb : PP X b gb) : PV X (.BinOp a op b pos) (mOp g' ga gb) := by
  obtain ⟨ta, ha, ra⟩ := ha
  obtain ⟨tb, hb, rb⟩ := hb
  exact ⟨_, pe_op ho ha hb, rd_op hp ra rb⟩
theorem pf_op {op : Operator} {r : R2} {g' : D → D → Option D} (ho : OpR X (binaryOp op) r) (hp : POpF r g') (ha : PP X a ga) (hb : PP X b gb) : PF X (.BinOp a op b pos) (mFr (mOp g' ga gb)) := by
  obtain ⟨ta, ha, ra⟩ := ha
  obtain ⟨tb, hb, rb⟩ := hb
  exact ⟨_, pe_op ho ha hb, rd_opF hp ra rb⟩
theorem pv_cmp {op : CmpOp} {r : R2} {g' : D → D → Option D} (ho : OpR X (compareOp op) r) (hp : POpV r g') (ha : PP X a ga) (hb : PP X b gb) (hm : behindInMarks op b = false) : PV X (.Compare a [op] [b] pos) (mOp g' ga gb) := by
  obtain ⟨ta, ha, ra⟩ := ha
  obtain ⟨tb, hb, rb⟩ := hb
  exact ⟨_, pe_cmpR ho ha hb hm, rd_op hp ra rb⟩
theorem rd_test {t : TE} (h : RdV X.K t f) : RdT X.K (tTest t) (mB f) := by
  intro C G σ H ρ Q hK S k ρ' hf q
  obtain ⟨d, ρ1, h1, hf⟩ := bnd_ok hf
  obtain ⟨e, rfl⟩ := ofO_ok hf
  refine h C G σ H ρ _ hK S d _ h1 fun v G' H' g S' r => ?_
  cases d with
  | bool b' => cases e; cases r; exact ⟨_, rfl, q G' H' g S'⟩
  | _ => cases e
theorem pt_cmp' {op : CmpOp} {r : R2} {g' : D → D → Option D} (ho : OpR X (compareOp op) r) (hp : POpV r g') (ha : PP X a ga) (hb : PP X b gb) (hm : behindInMarks op b = false) : PTt X (.Compare a [op] [b] pos) (mB (mOp g' ga gb)) := by
  obtain ⟨ta, ha, ra⟩ := ha
  obtain ⟨tb, hb, rb⟩ := hb
  exact ⟨_, pt_cmpR ho ha hb hm, rd_test (rd_op hp ra rb)⟩
theorem ptt_val (h : PV X e f) (he : ∀ whole, isTrue e X.env whole = (do let v ← whole; standAt e.pos; holding [v] (truthy v)) := by intro _; rfl) : PTt X e (mB f) := by
  obtain ⟨t, ht, r⟩ := h
  exact ⟨_, pt_val ht he, rd_test r⟩
theorem pt_of {gT : M Bool} (h : PWt X e gT) : PTt X e gT := let ⟨t, h, r⟩ := h; ⟨t, h.pt, r⟩
variable {ma mb : M Bool} {rest : List Expr}
theorem pwt_and1 (h : PTt X a ma) : PWt X (.BoolOp .And [a] pos) ma := let ⟨t, h, r⟩ := h; ⟨t, pw_and1 h, r⟩
theorem pwt_or1 (h : PTt X a ma) : PWt X (.BoolOp .Or [a] pos) ma := let ⟨t, h, r⟩ := h; ⟨t, pw_or1 h, r⟩
theorem pwt_and (h : PTt X a ma) (h2 : PWt X (.BoolOp .And (b :: rest) pos) mb) : PWt X (.BoolOp .And (a :: b :: rest) pos) (mAnd ma mb) := by
  obtain ⟨t, h, r⟩ := h
  obtain ⟨u, h2, r2⟩ := h2
  refine ⟨_, pw_and h h2, fun C G σ H ρ Q hK S k ρ' hf q => ?_⟩
  obtain ⟨k1, ρ1, h1, hf⟩ := bnd_ok hf
  refine r C G σ H ρ _ hK S k1 ρ1 h1 fun G1 H1 g1 S1 => ?_
  cases k1 with
  | true => exact r2 C G1 σ H1 ρ1 _ hK S1 k ρ' hf fun G2 H2 g2 S2 => q G2 H2 (g1.trans g2) S2
  | false => cases hf; exact q G1 H1 g1 S1
theorem pwt_or (h : PTt X a ma) (h2 : PWt X (.BoolOp .Or (b :: rest) pos) mb) : PWt X (.BoolOp .Or (a :: b :: rest) pos) (mOr ma mb) := by
  obtain ⟨t, h, r⟩ := h
  obtain ⟨u, h2, r2⟩ := h2
  refine ⟨_, pw_or h h2, fun C G σ H ρ Q hK S k ρ' hf q => ?_⟩
  obtain ⟨k1, ρ1, h1, hf⟩ := bnd_ok hf
  refine r C G σ H ρ _ hK S k1 ρ1 h1 fun G1 H1 g1 S1 => ?_
  cases k1 with
  | false => exact r2 C G1 σ H1 ρ1 _ hK S1 k ρ' hf fun G2 H2 g2 S2 => q G2 H2 (g1.trans g2) S2
  | true => cases hf; exact q G1 H1 g1 S1
theorem ptt_not (h : PTt X a ma) : PTt X (.UnaryOp .Not a pos) (mNot ma) := by
  obtain ⟨t, h, r⟩ := h
  refine ⟨_, pt_not h, fun C G σ H ρ Q hK S k ρ' hf q => ?_⟩
  obtain ⟨k1, ρ1, h1, hf⟩ := bnd_ok hf
  cases hf
  exact r C G σ H ρ _ hK S k1 _ h1 fun G1 H1 g1 S1 => q G1 H1 g1 S1
/-- and, or, not as values: all but the last one truths -/
theorem rdB {t : TE} (r : RdV X.K t f) {C : Ctx} {G : Hp} {σ : L2.St} {H : Hp} {ρ ρ1 : Env} {k : Bool} {Q : VK} (hK : C.K = X.K) (S : StOk C G σ H ρ) (h1 : mB f ρ = .ok k ρ1) (q : ∀ G' H', Same G G' → StOk C G' σ H' ρ1 → Q (.bl k) H') : t σ H Q := by
  obtain ⟨d, ρ2, h2, h3⟩ := bnd_ok h1
  obtain ⟨e, rfl⟩ := ofO_ok h3
  refine r C G σ H ρ _ hK S d _ h2 fun v G' H' g S' rr => ?_
  cases d with
  | bool b' => cases e; cases rr; exact q G' H' g S'
  | _ => cases e
theorem pv_one {op : BoolOp} (h : PV X a fa) : PV X (.BoolOp op [a] pos) fa := let ⟨t, h, r⟩ := h; ⟨t, pe_one h, r⟩
theorem pv_and (h : PV X a fa) (h2 : PV X (.BoolOp .And (b :: rest) pos) fb) : PV X (.BoolOp .And (a :: b :: rest) pos) (mAndV fa fb) := by
  obtain ⟨t, h, r⟩ := h
  obtain ⟨u, h2, r2⟩ := h2
  refine ⟨_, pe_and h h2, fun C G σ H ρ Q hK S d ρ' hf q => ?_⟩
  obtain ⟨k, ρ1, h1, hf⟩ := bnd_ok hf
  refine rdB r hK S h1 fun G1 H1 g1 S1 => ⟨k, rfl, ?_⟩
  cases k with
  | true => rw [if_pos rfl]; exact r2 C G1 σ H1 ρ1 _ hK S1 d ρ' hf fun v G2 H2 g2 S2 => q v G2 H2 (g1.trans g2) S2
  | false => cases hf; rw [if_neg Bool.false_ne_true]; exact q _ G1 H1 g1 S1 (.bl _)
theorem pv_or (h : PV X a fa) (h2 : PV X (.BoolOp .Or (b :: rest) pos) fb) : PV X (.BoolOp .Or (a :: b :: rest) pos) (mOrV fa fb) := by
  obtain ⟨t, h, r⟩ := h
  obtain ⟨u, h2, r2⟩ := h2
  refine ⟨_, pe_or h h2, fun C G σ H ρ Q hK S d ρ' hf q => ?_⟩
  obtain ⟨k, ρ1, h1, hf⟩ := bnd_ok hf
  refine rdB r hK S h1 fun G1 H1 g1 S1 => ⟨k, rfl, ?_⟩
  cases k with
  | false => rw [if_neg Bool.false_ne_true]; exact r2 C G1 σ H1 ρ1 _ hK S1 d ρ' hf fun v G2 H2 g2 S2 => q v G2 H2 (g1.trans g2) S2
  | true => cases hf; rw [if_pos rfl]; exact q _ G1 H1 g1 S1 (.bl _)
theorem pv_not (h : PV X a fa) : PV X (.UnaryOp .Not a pos) (mNotV fa) := by
  obtain ⟨t, h, r⟩ := h
  refine ⟨_, pe_not h, fun C G σ H ρ Q hK S d ρ' hf q => ?_⟩
  obtain ⟨k, ρ1, h1, hf⟩ := bnd_ok hf
  cases hf
  exact rdB r hK S h1 fun G1 H1 g1 S1 => ⟨_, rfl, q _ G1 H1 g1 S1 (.bl _)⟩
theorem pv_if (hc : PTt X c ma) (ha : PV X a fa) (hb : PV X b fb) : PV X (.IfExp c a b pos) (mIf ma fa fb) := by
  obtain ⟨t, hc, rc⟩ := hc
  obtain ⟨u, ha, ra⟩ := ha
  obtain ⟨w, hb, rb⟩ := hb
  refine ⟨_, pe_ifExp hc ha hb, fun C G σ H ρ Q hK S d ρ' hf q => ?_⟩
  obtain ⟨k, ρ1, h1, hf⟩ := bnd_ok hf
  refine rc C G σ H ρ _ hK S k ρ1 h1 fun G1 H1 g1 S1 => ?_
  cases k with
  | true => rw [if_pos rfl]; exact ra C G1 σ H1 ρ1 _ hK S1 d ρ' hf fun v G2 H2 g2 S2 => q v G2 H2 (g1.trans g2) S2
  | false => rw [if_neg Bool.false_ne_true]; exact rb C G1 σ H1 ρ1 _ hK S1 d ρ' hf fun v G2 H2 g2 S2 => q v G2 H2 (g1.trans g2) S2
/-! ### lists of expressions, displays -/
theorem pvs_nil : PVs X [] mNil := ⟨_, pa_nil, fun C G σ H ρ Q hK S d ρ' hf q => by cases hf; exact q [] G H (Same.refl _) S .nil⟩
theorem pvs_cons {fs : M (List D)} (h : PV X e f) (hr : PVs X es fs) (hs : starEach (e :: es) X.env = (false, eval e X.env) :: starEach es X.env := by rfl) : PVs X (e :: es) (mCons f fs) := by
  obtain ⟨t, h, r⟩ := h
  obtain ⟨u, hr, rr⟩ := hr
  refine ⟨_, pa_cons h hr hs, fun C G σ H ρ Q hK S ds ρ' hf q => ?_⟩
  obtain ⟨d, ρ1, h1, hf⟩ := bnd_ok hf
  obtain ⟨ds', ρ2, h2, hf⟩ := bnd_ok hf
  cases hf
  refine r C G σ H ρ _ hK S d ρ1 h1 fun v G1 H1 g1 S1 o1 => ?_
  exact rr C G1 σ H1 ρ1 _ hK S1 ds' _ h2 fun vs G2 H2 g2 S2 o2 => q _ G2 H2 (g1.trans g2) S2 (.cons (o1.mono g2) o2)
theorem pps_nil' : PPs X [] mNil := ⟨_, pa_nil, fun C G σ H ρ Q hK S d ρ' hf q => by cases hf; exact q [] G H (Same.refl _) S .nil⟩
theorem pps_cons' {fs : M (List Pl)} (h : PP X e g) (hr : PPs X es fs) (hs : starEach (e :: es) X.env = (false, eval e X.env) :: starEach es X.env := by rfl) : PPs X (e :: es) (mCons g fs) := by
  obtain ⟨t, h, r⟩ := h
  obtain ⟨u, hr, rr⟩ := hr
  refine ⟨_, pa_cons h hr hs, fun C G σ H ρ Q hK S ds ρ' hf q => ?_⟩
  obtain ⟨d, ρ1, h1, hf⟩ := bnd_ok hf
  obtain ⟨ds', ρ2, h2, hf⟩ := bnd_ok hf
  cases hf
  refine r C G σ H ρ _ hK S d ρ1 h1 fun v G1 H1 g1 S1 o1 => ?_
  exact rr C G1 σ H1 ρ1 _ hK S1 ds' _ h2 fun vs G2 H2 g2 S2 o2 => q _ G2 H2 (g1.trans g2) S2 (.cons (o1.mono g2) o2)
theorem line_of {n : Nat} (h : n ≤ 100000) : n ≤ sizeLine := Nat.le_trans h (by decide)
theorem pv_tup {x1} {fs : M (List D)} (h : PVs X es fs) : PV X (.Tuple es x1 pos) (mTup fs) := by
  obtain ⟨t, h, r⟩ := h
  refine ⟨_, pe_tup h, fun C G σ H ρ Q hK S d ρ' hf q => ?_⟩
  obtain ⟨ds, ρ1, h1, hf⟩ := bnd_ok hf
  by_cases hl : ds.length ≤ 100000
  · rw [if_pos hl] at hf
    cases hf
    refine r C G σ H ρ _ hK S ds _ h1 fun vs G1 H1 g1 S1 o1 => ⟨by rw [o1.length]; exact line_of hl, fun p hp => ?_⟩
    have w : Grow G1 H1 (upd G1 p (.tup vs)) (upd H1 p (.tup vs)) := Grow.new S1.gh hp
    exact q _ _ _ (g1.trans w.g) (S1.grow w) (.tup upd_same (o1.mono w.g))
  · rw [if_neg hl] at hf
    cases hf
theorem pf_lst {fs : M (List D)} (h : PVs X es fs) : PF X (.List es pos) (mLst fs) := by
  obtain ⟨t, h, r⟩ := h
  refine ⟨_, pe_lst h, fun C G σ H ρ Q hK S d ρ' hf q => ?_⟩
  obtain ⟨ds, ρ1, h1, hf⟩ := bnd_ok hf
  by_cases hl : ds.length ≤ 100000
  · rw [if_pos hl] at hf
    cases hf
    refine r C G σ H ρ _ hK S ds _ h1 fun vs G1 H1 g1 S1 o1 => ⟨by rw [o1.length]; exact line_of hl, fun p hp => ?_⟩
    have w : Grow G1 H1 G1 (upd H1 p (.lst vs)) := Grow.newF S1.gh hp
    exact q _ _ _ g1 (S1.grow w) (fresh_ok S1 hp w (.lst upd_same o1))
  · rw [if_neg hl] at hf
    cases hf
/-! ### built-ins by values -/
inductive ShA (G H : Hp) : List V → List D → Prop
  | nil : ShA G H [] []
  | cons {v : V} {vs : List V} {d : D} {ds : List D} : Sh G H v d → ShA G H vs ds → ShA G H (v :: vs) (d :: ds)
theorem lookAll_ok {C : Ctx} {G H : Hp} {σ : L2.St} {ρ : Env} (S : StOk C G σ H ρ) : ∀ {vs : List V} {ps : List Pl} {ds : List D} {ρ' : Env}, okPs G σ vs ps → lookAll ps ρ = .ok ds ρ' → ShA G H vs ds ∧ ρ' = ρ
  | _, _, _, _, .nil, e => by cases e; exact ⟨.nil, rfl⟩
  | _, _, _, _, .cons h r, e => by
    obtain ⟨d, ρ1, h1, e⟩ := bnd_ok e
    obtain ⟨ds', ρ2, h2, e⟩ := bnd_ok e
    cases e
    obtain ⟨s1, rfl⟩ := look_ok S h h1
    obtain ⟨s2, rfl⟩ := lookAll_ok S r h2
    exact ⟨.cons s1 s2, rfl⟩
def PClV (r : List V → Hp → VK → Prop) (g : List D → Option D) : Prop := ∀ (G H : Hp) (vs : List V) (ds : List D) (z : D) (Q : VK), Same G H → ShA G H vs ds → g ds = some z → (∀ v G' H', Grow G H G' H' → Rp G' v z → Q v H') → r vs H Q
def PClF (r : List V → Hp → VK → Prop) (g : List D → Option D) : Prop := ∀ (G H : Hp) (vs : List V) (ds : List D) (z : D) (Q : VK), Same G H → ShA G H vs ds → g ds = some z → (∀ p H', H p = none → Grow G H G H' → Sh G H' (.ref p) z → Q (.ref p) H') → r vs H Q
theorem rd_cl {r : List V → Hp → VK → Prop} {g' : List D → Option D} {t : TA} {fs : M (List Pl)} (hp : PClV r g') (ha : RdPs X.K t fs) : RdV X.K (tCB r t) (mN g' fs) := by
  intro C G σ H ρ Q hK S d ρ' hf q
  obtain ⟨ps, ρ1, h1, hf2⟩ := bnd_ok hf
  refine ha C G σ H ρ _ hK S ps ρ1 h1 fun vs G1 H1 g1 S1 o1 => ?_
  obtain ⟨ds, ρ2, h2, hf3⟩ := bnd_ok hf2
  obtain ⟨s, rfl⟩ := lookAll_ok S1 o1 h2
  obtain ⟨e, rfl⟩ := ofO_ok hf3
  exact hp G1 H1 vs ds d Q S1.gh s e fun v G' H' w rr => q v G' H' (g1.trans w.g) (S1.grow w) rr
theorem rd_clF {r : List V → Hp → VK → Prop} {g' : List D → Option D} {t : TA} {fs : M (List Pl)} (hp : PClF r g') (ha : RdPs X.K t fs) : RdF X.K (tCB r t) (mFr (mN g' fs)) := by
  intro C G σ H ρ Q hK S d ρ' hf q
  obtain ⟨d', ρ0, hf0, h0⟩ := bnd_ok hf
  cases h0
  obtain ⟨ps, ρ1, h1, hf2⟩ := bnd_ok hf0
  refine ha C G σ H ρ _ hK S ps ρ1 h1 fun vs G1 H1 g1 S1 o1 => ?_
  obtain ⟨ds, ρ2, h2, hf3⟩ := bnd_ok hf2
  obtain ⟨s, rfl⟩ := lookAll_ok S1 o1 h2
  obtain ⟨e, rfl⟩ := ofO_ok hf3
  exact hp G1 H1 vs ds d' Q S1.gh s e fun p H' hn w rr => q _ G1 H' g1 (S1.grow w) (fresh_ok S1 hn w rr)
end
end PL
namespace PL
open PySem PySem.Spec L2
inductive Fl where
  | nx | rt (r : Rv) | bk | ct
def endAt (D : Ends) (C : Ctx) (G : Hp) (σ : L2.St) (H : Hp) (ρ : Env) : Fl → Prop
  | .nx => D.nx σ H
  | .bk => D.bk σ H
  | .ct => D.ct σ H
  | .rt r => ∀ v, okR C G σ H ρ v r → D.rt v H
def RdS (K : PySem.W.Frag) (t : TS) (f : M Fl) : Prop := ∀ (C : Ctx) (G : Hp) (σ : L2.St) (H : Hp) (ρ : Env) (D : Ends), C.K = K → StOk C G σ H ρ → ∀ (fl : Fl) (ρ' : Env), f ρ = .ok fl ρ' →
  (∀ (σ' : L2.St) (G' H' : Hp), Same G G' → StOk C G' σ' H' ρ' → endAt D C G' σ' H' ρ' fl) → t D σ H
def RdG (K : PySem.W.Frag) (g : TG) (ts : List Nat) (m : D → M Unit) : Prop := ∀ (C : Ctx) (G : Hp) (σ : L2.St) (H : Hp) (ρ : Env) (v : V) (d : D) (Q : L2.St → Hp → Prop), C.K = K → StOk C G σ H ρ → Rp G v d → ∀ (ρ' : Env), m d ρ = .ok () ρ' →
  (∀ (σ' : L2.St), StOk C G σ' H ρ' → (∀ vs, (∀ i ∈ ts, i ∈ vs) → wipe σ' vs = wipe σ vs) → Q σ' H) → g v σ H Q
def RdGs (K : PySem.W.Frag) (g : TGs) (ts : List Nat) (m : List D → M Unit) : Prop := ∀ (C : Ctx) (G : Hp) (σ : L2.St) (H : Hp) (ρ : Env) (vs : List V) (ds : List D) (Q : L2.St → Hp → Prop), C.K = K → StOk C G σ H ρ → RpA G vs ds → ∀ (ρ' : Env), m ds ρ = .ok () ρ' →
  (∀ (σ' : L2.St), StOk C G σ' H ρ' → (∀ vs, (∀ i ∈ ts, i ∈ vs) → wipe σ' vs = wipe σ vs) → Q σ' H) → g vs σ H Q
structure JOk (J : It) (B G1 : Hp) (ds : List D) : Prop where
  go : ∀ (i : Nat) (G H : Hp), Same B H → Same G1 G → Same G H → i < ds.length → J.go i H
  yld : ∀ (i : Nat) (G H : Hp) (x : V) (H' : Hp) (d : D), Same B H → Same G1 G → Same G H → ds[i]? = some d → J.yld i H x H' → ∃ G', Grow G H G' H' ∧ Rp G' x d
  stop : ∀ (G H : Hp), Same B H → Same G1 G → Same G H → J.stop ds.length H
def RdI (K : PySem.W.Frag) (wi : TI) (f : M (List D)) : Prop := ∀ (C : Ctx) (G : Hp) (σ : L2.St) (H : Hp) (ρ : Env) (R : It → Hp → Prop), C.K = K → StOk C G σ H ρ → ∀ (ds : List D) (ρ' : Env), f ρ = .ok ds ρ' →
  (∀ (J : It) (G' H' : Hp), Same G G' → StOk C G' σ H' ρ' → JOk J C.B G' ds → R J H') → wi σ H R
def PSt (X : Cx) (st : Stmt) (f : M Fl) : Prop := ∃ t, PS X st t ∧ RdS X.K t f
def PSts (X : Cx) (st : List Stmt) (f : M Fl) : Prop := ∃ t, PSs X st t ∧ RdS X.K t f
def PGt (X : Cx) (e : Expr) (ts : List Nat) (m : D → M Unit) : Prop := ∃ g, PG X e g ∧ RdG X.K g ts m
def PGts (X : Cx) (es : List Expr) (ts : List Nat) (m : List D → M Unit) : Prop := ∃ g, PGs X es g ∧ RdGs X.K g ts m
def PIt (X : Cx) (tg e : Expr) (f : M (List D)) : Prop := ∃ wi, PI X tg e wi ∧ RdI X.K wi f
/-! ### the mirror's statements -/
def setS (i : Nat) (s : Sl) : M Unit := fun ρ => if i < ρ.length then .ok () (ρ.set i s) else .stuck
def mSet (i : Nat) (f : M Rv) : M Fl := bnd f fun r => match r with
  | .fr d => bnd (setS i (.own d)) fun _ => ret .nx
  | .pl (.val d) => bnd (setS i (.val d)) fun _ => ret .nx
  | .pl (.slot j) => bnd (mGet j) fun d => bnd (setS i (.val d)) fun _ => ret .nx
def mSeq (a b : M Fl) : M Fl := bnd a fun fl => match fl with
  | .nx => b
  | fl => ret fl
def mSkip : M Fl := ret .nx
def mRet (f : M Rv) : M Fl := bnd f fun r => ret (.rt r)
def mRetN : M Fl := ret (.rt (.pl (.val .none)))
def mDrop {α : Type} (f : M α) : M Fl := bnd f fun _ => ret .nx
def mBrk : M Fl := ret .bk
def mCnt : M Fl := ret .ct
def mNever {α : Type} : M α := fun _ => .stuck
def tName (i : Nat) : D → M Unit := fun d => setS i (.val d)
def tsNil : List D → M Unit
  | [] => ret ()
  | _ => fun _ => .stuck
def tsCons (t : D → M Unit) (u : List D → M Unit) : List D → M Unit
  | d :: ds => bnd (t d) fun _ => u ds
  | _ => fun _ => .stuck
def tTupl (u : List D → M Unit) : D → M Unit
  | .tuple ds => u ds
  | _ => fun _ => .stuck
def mAsg (t : D → M Unit) (f : M D) : M Fl := bnd f fun d => bnd (t d) fun _ => ret .nx
def forGo (t : D → M Unit) (b : M Fl) : List D → M Fl
  | [] => ret .nx
  | d :: ds => bnd (t d) fun _ => bnd b fun fl => match fl with
    | .nx => forGo t b ds
    | .ct => forGo t b ds
    | .bk => ret .nx
    | .rt r => ret (.rt r)
def mFor (f : M (List D)) (t : D → M Unit) (b : M Fl) : M Fl := bnd f fun ds => forGo t b ds
def whGo (c : M Bool) (b : M Fl) : Nat → M Fl
  | 0 => fun _ => .stuck
  | n + 1 => bnd c fun k => if k = true then bnd b fun fl => match fl with
    | .nx => whGo c b n
    | .ct => whGo c b n
    | .bk => ret .nx
    | .rt r => ret (.rt r)
    else ret .nx
def mWhile (n : Env → Nat) (c : M Bool) (b : M Fl) : M Fl := fun ρ => whGo c b (n ρ) ρ
section
variable {C : Ctx} {G H : Hp} {σ : L2.St} {ρ ρ' : Env} {v : V} {p : Pl} {d : D}
theorem setS_ok {i : Nat} {s : Sl} {u : Unit} (h : setS i s ρ = .ok u ρ') : i < ρ.length ∧ ρ' = ρ.set i s := by
  unfold setS at h
  by_cases q : i < ρ.length
  · rw [if_pos q] at h; cases h; exact ⟨q, rfl⟩
  · rw [if_neg q] at h; cases h
/-- a name is given a thing -/
theorem StOk.put (S : StOk C G σ H ρ) {i : Nat} {s : Sl} (hi : i < ρ.length) (h : SlOk C G H i (some v) s) (ho : ownK s = true → ∀ (j : Nat) (a : Addr), v = .ref a → ¬ Own σ ρ j a) : StOk C G (σ.set i (some v)) H (ρ.set i s) := by
  have hs : i < σ.length := by rw [S.len]; exact hi
  have sub : ∀ {m : Nat} {b : Addr}, m ≠ i → Own (σ.set i (some v)) (ρ.set i s) m b → Own σ ρ m b := fun {m b} hm ⟨x, s', y, z⟩ => by
    rw [List.getElem?_set_ne (fun z => hm z.symm)] at x y
    exact ⟨x, s', y, z⟩
  have self : ∀ {b : Addr}, Own (σ.set i (some v)) (ρ.set i s) i b → v = .ref b ∧ ownK s = true := fun {b} ⟨x, s', y, z⟩ => by
    rw [List.getElem?_set_self hs] at x
    rw [List.getElem?_set_self hi] at y
    cases y
    exact ⟨Option.some.inj (Option.some.inj x), z⟩
  refine ⟨S.gh, S.bh, S.g0, S.fr, S.ga, S.wf, by rw [List.length_set, List.length_set]; exact S.len, fun j s' q => ?_, fun j k b hj hk => ?_⟩
  · by_cases hj : j = i
    · subst hj
      rw [List.getElem?_set_self hi] at q
      cases q
      exact ⟨some v, List.getElem?_set_self hs, h⟩
    · rw [List.getElem?_set_ne (fun z => hj z.symm)] at q ⊢
      exact S.sl j s' q
  · by_cases h1 : j = i
    · by_cases h2 : k = i
      · rw [h1, h2]
      · subst h1
        obtain ⟨e, z⟩ := self hj
        exact absurd (sub h2 hk) (ho z k b e)
    · by_cases h2 : k = i
      · subst h2
        obtain ⟨e, z⟩ := self hk
        exact absurd (sub h1 hj) (ho z j b e)
      · exact S.ds j k b (sub h1 hj) (sub h2 hk)
theorem StOk.putV (S : StOk C G σ H ρ) {i : Nat} (hi : i < ρ.length) (h : Rp G v d) : StOk C G (σ.set i (some v)) H (ρ.set i (.val d)) :=
  S.put hi ⟨v, rfl, h⟩ fun z => nomatch z
/-- an own object is changed in place -/
theorem StOk.mut (S : StOk C G σ H ρ) {i : Nat} {a : Addr} {o : HO} {s s' : Sl} (e : ρ[i]? = some s) (k : ownK s = true) (hv : σ[i]? = some (some (.ref a)))
    (h : (∃ d, s = .own d ∧ ∃ d', s' = .own d' ∧ Sh G (upd H a o) (.ref a) d') ∨ ∃ d, s = .io d ∧ ∃ d', s' = .io d' ∧ Sh G (upd H a o) (.ref a) d') : StOk C G σ (upd H a o) (ρ.set i s') := by
  have hi : i < ρ.length := (List.getElem?_eq_some_iff.mp e).1
  have own0 : Own σ ρ i a := ⟨hv, s, e, k⟩
  obtain ⟨tr, ga, ba⟩ := Own.tracked S own0
  have k' : ownK s' = true := by
    rcases h with ⟨_, _, _, rfl, _⟩ | ⟨_, _, _, rfl, _⟩ <;> rfl
  have nb : ∀ {b : Addr} {u : HO}, G b = some u → b ≠ a := fun {b u} q z => by subst z; rw [ga] at q; cases q
  have nbB : ∀ {b : Addr} {u : HO}, C.B b = some u → b ≠ a := fun {b u} q z => by subst z; rw [ba] at q; cases q
  have sub : ∀ {m : Nat} {b : Addr}, Own σ (ρ.set i s') m b → Own σ ρ m b := fun {m b} ⟨x, s2, y, z⟩ => by
    by_cases hm : m = i
    · subst hm
      exact ⟨x, s, e, k⟩
    · rw [List.getElem?_set_ne (fun z => hm z.symm)] at y
      exact ⟨x, s2, y, z⟩
  refine ⟨fun b u q => ?_, fun b u q => ?_, S.g0, fun b q => ?_, S.ga, S.wf, by rw [List.length_set]; exact S.len, fun j s2 q => ?_, fun j k b hj hk => S.ds j k b (sub hj) (sub hk)⟩
  · rw [upd_ne (nb q)]; exact S.gh b u q
  · rw [upd_ne (nbB q)]; exact S.bh b u q
  · by_cases hb : b = a
    · subst hb; rw [upd_same] at q; cases q
    · rw [upd_ne hb] at q; exact S.fr b q
  · by_cases hj : j = i
    · subst hj
      rw [List.getElem?_set_self hi] at q
      cases q
      obtain ⟨oo, e1, q1⟩ := S.sl j s e
      rw [hv] at e1
      cases e1
      refine ⟨_, hv, ?_⟩
      rcases h with ⟨d, rfl, d', rfl, sh⟩ | ⟨d, rfl, d', rfl, sh⟩
      · obtain ⟨b, e3, _, x, y, z⟩ := q1
        cases e3
        exact ⟨_, rfl, sh, x, y, z⟩
      · obtain ⟨b, e3, _, x, y⟩ := q1
        cases e3
        exact ⟨_, rfl, sh, x, y⟩
    · rw [List.getElem?_set_ne (fun z => hj z.symm)] at q
      obtain ⟨oo, e1, q1⟩ := S.sl j s2 q
      refine ⟨oo, e1, ?_⟩
      have far : ∀ {b : Addr}, oo = some (.ref b) → ownK s2 = true → b ≠ a := fun {b} e2 k2 z => by
        subst z; subst e2
        exact hj (S.ds j i _ ⟨e1, s2, q, k2⟩ own0)
      cases s2 with
      | un => trivial
      | val d' => exact q1
      | own d' =>
        obtain ⟨b, e3, r, x, y, z⟩ := q1
        refine ⟨b, e3, r.at (Same.refl _) fun c ec u hu => ?_, x, y, z⟩
        cases ec
        rw [upd_ne (far e3 rfl)]; exact hu
      | io d' =>
        obtain ⟨b, e3, r, x, y⟩ := q1
        refine ⟨b, e3, r.at (Same.refl _) fun c ec u hu => ?_, x, y⟩
        cases ec
        rw [upd_ne (far e3 rfl)]; exact hu
      | bor d' => exact q1
      | scr ns => exact q1
end
/-! ### statements -/
section
variable {X : Cx} {e a b c : Expr} {es : List Expr} {pos pos' : Pos} {f fa fb : M D} {g ga gb : M Pl} {k : M Rv} {st : Stmt} {sts us : List Stmt} {m m1 m2 : M Fl} {x : Str}
theorem psts_nil : PSts X [] mSkip := ⟨_, pss_nil, fun C G σ H ρ D hK S fl ρ' hf q => by cases hf; exact q σ G H (Same.refl _) S⟩
theorem psts_one (h : PSt X st m) : PSts X [st] m := let ⟨t, h, r⟩ := h; ⟨t, pss_one h, r⟩
theorem psts_cons (h : PSt X st m1) (h2 : PSts X sts m2) : PSts X (st :: sts) (mSeq m1 m2) := by
  obtain ⟨t, h, r⟩ := h
  obtain ⟨u, h2, r2⟩ := h2
  refine ⟨_, pss_cons h h2, fun C G σ H ρ D hK S fl ρ' hf q => ?_⟩
  obtain ⟨f1, ρ1, h1, hf2⟩ := bnd_ok hf
  refine r C G σ H ρ _ hK S f1 ρ1 h1 fun σ1 G1 H1 g1 S1 => ?_
  cases f1 with
  | nx => exact r2 C G1 σ1 H1 ρ1 D hK S1 fl ρ' hf2 fun σ2 G2 H2 g2 S2 => q σ2 G2 H2 (g1.trans g2) S2
  | rt w => cases hf2; exact q σ1 G1 H1 g1 S1
  | bk => cases hf2; exact q σ1 G1 H1 g1 S1
  | ct => cases hf2; exact q σ1 G1 H1 g1 S1
theorem pst_pass : PSt X (.Pass pos) mSkip := ⟨_, ps_pass, fun C G σ H ρ D hK S fl ρ' hf q => by cases hf; exact q σ G H (Same.refl _) S⟩
theorem pst_break : PSt X (.Break pos) mBrk := ⟨_, ps_break, fun C G σ H ρ D hK S fl ρ' hf q => by cases hf; exact q σ G H (Same.refl _) S⟩
theorem pst_continue : PSt X (.Continue pos) mCnt := ⟨_, ps_continue, fun C G σ H ρ D hK S fl ρ' hf q => by cases hf; exact q σ G H (Same.refl _) S⟩
theorem pst_never : PSt X st mNever := ⟨_, ps_never, fun C G σ H ρ D hK S fl ρ' hf q => by cases hf⟩
theorem pst_ret (h : PF X e k) : PSt X (.Return (some e) pos) (mRet k) := by
  obtain ⟨t, h, r⟩ := h
  refine ⟨_, ps_ret h, fun C G σ H ρ D hK S fl ρ' hf q => ?_⟩
  obtain ⟨w, ρ1, h1, hf2⟩ := bnd_ok hf
  cases hf2
  exact r C G σ H ρ _ hK S w _ h1 fun v G1 H1 g1 S1 o => q σ G1 H1 g1 S1 v o
theorem pst_retN : PSt X (.Return none pos) mRetN := ⟨_, ps_retN, fun C G σ H ρ D hK S fl ρ' hf q => by
  cases hf
  exact q σ G H (Same.refl _) S .non .non⟩
theorem pst_drop (h : PV X e f) (hs : swapsWith e none pos.line X.env = pure false := by rfl) : PSt X (.Expr e pos) (mDrop f) := by
  obtain ⟨t, h, r⟩ := h
  refine ⟨_, ps_expr h hs, fun C G σ H ρ D hK S fl ρ' hf q => ?_⟩
  obtain ⟨w, ρ1, h1, hf2⟩ := bnd_ok hf
  cases hf2
  exact r C G σ H ρ _ hK S w _ h1 fun v G1 H1 g1 S1 o => q σ G1 H1 g1 S1
theorem pst_if (hc : PTt X c mc) (ha : PSts X sts m1) (hb : PSts X us m2) : PSt X (.If c sts us pos) (mIf mc m1 m2) := by
  obtain ⟨t, hc, rc⟩ := hc
  obtain ⟨u, ha, ra⟩ := ha
  obtain ⟨w, hb, rb⟩ := hb
  refine ⟨_, ps_if hc ha hb, fun C G σ H ρ D hK S fl ρ' hf q => ?_⟩
  obtain ⟨k, ρ1, h1, hf2⟩ := bnd_ok hf
  refine rc C G σ H ρ _ hK S k ρ1 h1 fun G1 H1 g1 S1 => ?_
  cases k with
  | true => rw [if_pos rfl]; exact ra C G1 σ H1 ρ1 D hK S1 fl ρ' hf2 fun σ2 G2 H2 g2 S2 => q σ2 G2 H2 (g1.trans g2) S2
  | false => rw [if_neg Bool.false_ne_true]; exact rb C G1 σ H1 ρ1 D hK S1 fl ρ' hf2 fun σ2 G2 H2 g2 S2 => q σ2 G2 H2 (g1.trans g2) S2
/-- x = e -/
theorem rd_set {t : TE} {i : Nat} (r : RdF X.K t k) : RdS X.K (tAsg t (gName i)) (mSet i k) := by
  intro C G σ H ρ D hK S fl ρ' hf q
  obtain ⟨w, ρ1, h1, hf2⟩ := bnd_ok hf
  refine r C G σ H ρ _ hK S w ρ1 h1 fun v G1 H1 g1 S1 o => ?_
  show D.nx (σ.set i (some v)) H1
  cases w with
  | fr d =>
    obtain ⟨u, ρ2, h2, hf3⟩ := bnd_ok hf2
    cases hf3
    obtain ⟨hi, rfl⟩ := setS_ok h2
    obtain ⟨a, rfl, sh, x, y, z, no⟩ := o
    exact q _ G1 H1 g1 (S1.put hi ⟨a, rfl, sh, x, y, z⟩ fun _ j b eb ow => by cases eb; exact no j ow)
  | pl p =>
    cases p with
    | val d =>
      obtain ⟨u, ρ2, h2, hf3⟩ := bnd_ok hf2
      cases hf3
      obtain ⟨hi, rfl⟩ := setS_ok h2
      exact q _ G1 H1 g1 (S1.putV hi o)
    | slot j =>
      obtain ⟨d, ρ2, h2, hf3⟩ := bnd_ok hf2
      obtain ⟨u, ρ3, h3, hf4⟩ := bnd_ok hf3
      cases hf4
      obtain ⟨hi, rfl⟩ := setS_ok h3
      obtain ⟨G2, g2, S2, r2⟩ := mGet_ok S1 (show σ[j]? = some (some v) from o) h2
      exact q _ G2 H1 (g1.trans g2) (S2.putV hi r2)
theorem pst_set {i : Nat} (hN : X.N.Nodup) (h : PF X e k) (hi : X.N[i]? = some x := by rfl) (hx : Loc X.env.scope x := by first | exact Or.inl rfl | exact Or.inr rfl) (hs : swapsWith e (some (.Name x pos')) pos.line X.env = pure false := by rfl)
    (hf : X.fn x = true ∨ X.env.scope.names.lookup x = some .local := by first | exact .inl rfl | exact .inr rfl | assumption) : PSt X (.Assign [.Name x pos'] e pos) (mSet i k) := by
  obtain ⟨t, h, r⟩ := h
  exact ⟨_, ps_set hN hi hx h hs hf, rd_set r⟩
/-! ### targets -/
theorem wipe_set {i : Nat} {o : Option V} : ∀ {vs : List Nat} {σ : L2.St}, i ∈ vs → wipe (σ.set i o) vs = wipe σ vs
  | [], _, h => by cases h
  | v :: vs, σ, h => by
    show (wipe (σ.set i o) vs).set v none = (wipe σ vs).set v none
    by_cases hv : i ∈ vs
    · rw [wipe_set hv]
    · have e : i = v := by
        cases h with
        | head => rfl
        | tail _ h => exact absurd h hv
      subst e
      have k : ∀ {ws : List Nat} {τ : L2.St}, i ∉ ws → wipe (τ.set i o) ws = (wipe τ ws).set i o := by
        intro ws
        induction ws with
        | nil => intro τ _; rfl
        | cons w ws ih =>
          intro τ hn
          show (wipe (τ.set i o) ws).set w none = ((wipe τ ws).set w none).set i o
          rw [ih (fun z => hn (List.mem_cons_of_mem _ z)), List.set_comm _ _ (fun z => hn (by rw [z]; exact List.mem_cons_self))]
      rw [k hv, List.set_set]
theorem pgt_name {i : Nat} (hN : X.N.Nodup) (hi : X.N[i]? = some x := by rfl) (hx : Loc X.env.scope x := by first | exact Or.inl rfl | exact Or.inr rfl) (hf : X.fn x = true ∨ X.env.scope.names.lookup x = some .local := by first | exact .inl rfl | exact .inr rfl | assumption) : PGt X (.Name x pos) [i] (tName i) :=
  ⟨_, pg_name hN hi hx hf, fun C G σ H ρ v d Q hK S rr ρ' hm q => by
    obtain ⟨hi, rfl⟩ := setS_ok hm
    exact q _ (S.putV hi rr) fun vs hv => wipe_set (hv i List.mem_cons_self)⟩
theorem pgts_nil : PGts X [] [] tsNil := ⟨_, pgs_nil, fun C G σ H ρ vs ds Q hK S rr ρ' hm q => by
  cases rr with
  | nil => cases hm; exact ⟨rfl, q σ S fun _ _ => rfl⟩
  | cons => cases hm⟩
theorem pgts_cons {t : D → M Unit} {u : List D → M Unit} {ts us : List Nat} (h : PGt X e ts t) (h2 : PGts X es us u) (hs : (assignEach (e :: es) X.env).map (·.2) = assign e X.env :: (assignEach es X.env).map (·.2) := by rfl) : PGts X (e :: es) (ts ++ us) (tsCons t u) := by
  obtain ⟨g, h, r⟩ := h
  obtain ⟨g2, h2, r2⟩ := h2
  refine ⟨_, pgs_cons h h2 hs, fun C G σ H ρ vs ds Q hK S rr ρ' hm q => ?_⟩
  cases rr with
  | nil => cases hm
  | @cons v vs d ds hv hr =>
    obtain ⟨uu, ρ1, h1, hm2⟩ := bnd_ok hm
    exact ⟨v, vs, rfl, r C G σ H ρ v d _ hK S hv ρ1 h1 fun σ1 S1 w1 => r2 C G σ1 H ρ1 vs ds Q hK S1 hr ρ' hm2 fun σ2 S2 w2 => q σ2 S2 fun ws hw => (w2 ws fun i hi => hw i (List.mem_append_right _ hi)).trans (w1 ws fun i hi => hw i (List.mem_append_left _ hi))⟩
end
end PL
namespace PL
open PySem PySem.Spec L2
def isOwn (j : Nat) : M Unit := fun ρ => match ρ[j]? with
  | some (.own _) => .ok () ρ
  | some (.io _) => .ok () ρ
  | _ => .stuck
def setAt (j : Nat) (d k : D) : M Fl := fun ρ => match ρ[j]? with
  | some (.own (.list ds)) => match k with
    | .int n => match ixN ds.length n with
      | some i => .ok .nx (ρ.set j (.own (.list (ds.set i d))))
      | none => .stuck
    | _ => .stuck
  | some (.io (.list ds)) => match k with
    | .int n => match ixN ds.length n with
      | some i => .ok .nx (ρ.set j (.io (.list (ds.set i d))))
      | none => .stuck
    | _ => .stuck
  | _ => .stuck
def mSetIx (j : Nat) (fe fi : M D) : M Fl := bnd fe fun d => bnd (isOwn j) fun _ => bnd fi fun k => setAt j d k
theorem isOwn_ok {C : Ctx} {G H : Hp} {σ : L2.St} {ρ ρ' : Env} {j : Nat} {u : Unit} (S : StOk C G σ H ρ) (h : isOwn j ρ = .ok u ρ') : ∃ a, σ[j]? = some (some (.ref a)) ∧ ρ' = ρ := by
  unfold isOwn at h
  cases q : ρ[j]? with
  | none => rw [q] at h; cases h
  | some s =>
    rw [q] at h
    obtain ⟨o, e1, q1⟩ := S.sl j s q
    cases s with
    | own d => cases h; obtain ⟨a, rfl, _⟩ := q1; exact ⟨a, e1, rfl⟩
    | io d => cases h; obtain ⟨a, rfl, _⟩ := q1; exact ⟨a, e1, rfl⟩
    | _ => cases h
theorem setAt_ok {j : Nat} {d : D} {n : Int} {ρ ρ' : Env} {fl : Fl} (h : setAt j d (.int n) ρ = .ok fl ρ') : ∃ s ds i, ρ[j]? = some s ∧ ((s = .own (.list ds) ∧ ρ' = ρ.set j (.own (.list (ds.set i d)))) ∨ (s = .io (.list ds) ∧ ρ' = ρ.set j (.io (.list (ds.set i d))))) ∧ ixN ds.length n = some i ∧ fl = .nx ∧ True := by
  unfold setAt at h
  cases q : ρ[j]? with
  | none => rw [q] at h; cases h
  | some s =>
    rw [q] at h
    cases s with
    | own d' =>
      cases d' with
      | list ds =>
        simp only at h
        cases r : ixN ds.length n with
        | none => rw [r] at h; cases h
        | some i => rw [r] at h; cases h; exact ⟨_, ds, i, rfl, .inl ⟨rfl, rfl⟩, r, rfl, trivial⟩
      | _ => cases h
    | io d' =>
      cases d' with
      | list ds =>
        simp only at h
        cases r : ixN ds.length n with
        | none => rw [r] at h; cases h
        | some i => rw [r] at h; cases h; exact ⟨_, ds, i, rfl, .inr ⟨rfl, rfl⟩, r, rfl, trivial⟩
      | _ => cases h
    | _ => cases h
theorem setAt_int {j : Nat} {d k : D} {ρ ρ' : Env} {fl : Fl} (h : setAt j d k ρ = .ok fl ρ') (hk : ∀ n, k ≠ .int n := by intro n z; cases z) : False := by
  unfold setAt at h
  cases q : ρ[j]? with
  | none => rw [q] at h; cases h
  | some s =>
    rw [q] at h
    cases s with
    | own d' =>
      cases d' with
      | list ds => cases k with
        | int n => exact hk n rfl
        | _ => cases h
      | _ => cases h
    | io d' =>
      cases d' with
      | list ds => cases k with
        | int n => exact hk n rfl
        | _ => cases h
      | _ => cases h
    | _ => cases h
/-- a method that changes the list at a name -/
def mutAt (j : Nat) (g : List D → List D → Option (List D × D)) (as : List D) : M D := fun ρ => match ρ[j]? with
  | some (.own (.list ds)) => match g ds as with
    | some nr => .ok nr.2 (ρ.set j (.own (.list nr.1)))
    | none => .stuck
  | some (.io (.list ds)) => match g ds as with
    | some nr => .ok nr.2 (ρ.set j (.io (.list nr.1)))
    | none => .stuck
  | _ => .stuck
def isOwnL (j : Nat) : M Unit := fun ρ => match ρ[j]? with
  | some (.own (.list _)) => .ok () ρ
  | some (.io (.list _)) => .ok () ρ
  | _ => .stuck
def mMut (j : Nat) (g : List D → List D → Option (List D × D)) (fs : M (List D)) : M D := bnd (isOwnL j) fun _ => bnd fs fun as => mutAt j g as
theorem isOwnL_ok {C : Ctx} {G H : Hp} {σ : L2.St} {ρ ρ' : Env} {j : Nat} {u : Unit} (S : StOk C G σ H ρ) (h : isOwnL j ρ = .ok u ρ') : ∃ a xs, σ[j]? = some (some (.ref a)) ∧ H a = some (.lst xs) ∧ ρ' = ρ := by
  unfold isOwnL at h
  cases q : ρ[j]? with
  | none => rw [q] at h; cases h
  | some s =>
    rw [q] at h
    obtain ⟨o, e1, q1⟩ := S.sl j s q
    cases s with
    | own d => cases d with
      | list ds => cases h; obtain ⟨a, rfl, sh, _⟩ := q1; cases sh with
        | lst hh r => exact ⟨a, _, e1, hh, rfl⟩
      | _ => cases h
    | io d => cases d with
      | list ds => cases h; obtain ⟨a, rfl, sh, _⟩ := q1; cases sh with
        | lst hh r => exact ⟨a, _, e1, hh, rfl⟩
      | _ => cases h
    | _ => cases h
theorem mutAt_ok {j : Nat} {g : List D → List D → Option (List D × D)} {as : List D} {ρ ρ' : Env} {z : D} (h : mutAt j g as ρ = .ok z ρ') : ∃ s ds new, ρ[j]? = some s ∧ g ds as = some (new, z) ∧ ((s = .own (.list ds) ∧ ρ' = ρ.set j (.own (.list new))) ∨ (s = .io (.list ds) ∧ ρ' = ρ.set j (.io (.list new)))) := by
  unfold mutAt at h
  cases q : ρ[j]? with
  | none => rw [q] at h; cases h
  | some s =>
    rw [q] at h
    cases s with
    | own d' =>
      cases d' with
      | list ds =>
        simp only at h
        cases r : g ds as with
        | none => rw [r] at h; cases h
        | some nr => rw [r] at h; cases h; exact ⟨_, ds, nr.1, rfl, r, .inl ⟨rfl, rfl⟩⟩
      | _ => cases h
    | io d' =>
      cases d' with
      | list ds =>
        simp only at h
        cases r : g ds as with
        | none => rw [r] at h; cases h
        | some nr => rw [r] at h; cases h; exact ⟨_, ds, nr.1, rfl, r, .inr ⟨rfl, rfl⟩⟩
      | _ => cases h
    | _ => cases h
def mAug (i : Nat) (g : D → D → Option D) (fb : M Pl) : M Fl := bnd (mVar i) fun p => bnd fb fun q => bnd (look p) fun d => bnd (look q) fun e => bnd (ofO (g d e)) fun z => bnd (setS i (.val z)) fun _ => ret .nx
/-- while a loop goes over the list at j, it is but borrowed -/
def mLend (j : Nat) (f : M Fl) : M Fl := fun ρ => match ρ[j]? with
  | some (.own d) => match f (ρ.set j (.bor d)) with
    | .ok fl ρ' => match ρ'[j]? with
      | some (.bor d') => match fl with
        | .rt (.pl (.slot i)) => if i = j then .stuck else .ok fl (ρ'.set j (.own d))
        | fl => .ok fl (ρ'.set j (.own d))
      | _ => .stuck
    | .stuck => .stuck
  | _ => f ρ
section
variable {X : Cx} {e a b c tg : Expr} {es : List Expr} {pos pos' tpos : Pos} {f fa fb : M D} {g ga gb : M Pl} {k : M Rv} {st : Stmt} {sts us : List Stmt} {m m1 m2 : M Fl} {x : Str}
theorem pgt_tup {n : Nat} {kk : Nat} {u : List D → M Unit} {ts : List Nat} (hc : X.calm = true) (h : PGts X es ts u) (hn : (assignEach es X.env).length = n := by rfl) (hl : ∀ ds ρ ρ', u ds ρ = .ok () ρ' → ds.length = n)
    (hst : (assignEach es X.env).findIdx? (·.1) = none := by rfl) : PGt X (.Tuple es kk pos) ts (tTupl u) := by
  obtain ⟨g, h, r⟩ := h
  refine ⟨_, pg_tup hc h hn hst, fun C G σ H ρ v d Q hK S rr ρ' hm q => ?_⟩
  cases rr with
  | @tup a xs ds ha hr => exact ⟨a, xs, rfl, Or.inl (Or.inl (S.gh _ _ ha)), by rw [hr.length]; exact hl ds ρ ρ' hm, r C G σ H ρ xs ds Q hK S hr ρ' hm q⟩
  | _ => cases hm
theorem pst_asg {t : D → M Unit} {ts : List Nat} (h : PV X e f) (ht : PGt X tg ts t) (hs : swapsWithSole [tg] e pos.line X.env = pure false := by rfl) (hw : swappedStores [tg] e X.env = pure none := by rfl) (h1 : (assignEach [tg] X.env).map (·.2) = [assign tg X.env] := by rfl) : PSt X (.Assign [tg] e pos) (mAsg t f) := by
  obtain ⟨te, h, r⟩ := h
  obtain ⟨g, hg, rg⟩ := ht
  refine ⟨_, ps_asg h hg hs hw h1, fun C G σ H ρ D hK S fl ρ' hf q => ?_⟩
  obtain ⟨d, ρ1, h1, hf2⟩ := bnd_ok hf
  obtain ⟨uu, ρ2, h2, hf3⟩ := bnd_ok hf2
  cases hf3
  refine r C G σ H ρ _ hK S d ρ1 h1 fun v G1 H1 g1 S1 o => ?_
  exact rg C G1 σ H1 ρ1 v d _ hK S1 o _ h2 fun σ2 S2 _ => q σ2 G1 H1 g1 S2
/-! ### for -/
theorem forGo_rd {wi : TI} {gt : TG} {tb : TS} {fi : M (List D)} {t : D → M Unit} {ts : List Nat} {mb : M Fl} (hi : RdI X.K wi fi) (hg : RdG X.K gt ts t) (hb : RdS X.K tb mb) : RdS X.K (tFor wi gt tb) (mFor fi t mb) := by
  intro C G σ H ρ D hK S fl ρ' hf q
  obtain ⟨ds, ρ1, h1, hf2⟩ := bnd_ok hf
  refine hi C G σ H ρ _ hK S ds ρ1 h1 fun J G1 H1 g1 S1 JJ => ?_
  refine ⟨fun i mm σ2 H2 => i + mm = ds.length ∧ ∃ G2 ρ2, Same G1 G2 ∧ StOk C G2 σ2 H2 ρ2 ∧ forGo t mb (ds.drop i) ρ2 = .ok fl ρ', ⟨ds.length, by omega, G1, ρ1, Same.refl _, S1, by simpa using hf2⟩, fun i mm σ2 H2 ⟨hm, G2, ρ2, g2, S2, h2⟩ => ?_⟩
  by_cases hlt : i < ds.length
  · refine .inr ⟨JJ.go i G2 H2 S2.bh g2 S2.gh hlt, fun σ3 H3 => ∃ G3 ρ3, Same G1 G3 ∧ StOk C G3 σ3 H3 ρ3 ∧ forGo t mb (ds.drop (i + 1)) ρ3 = .ok fl ρ', fun σ3 H3 ⟨G3, ρ3, g3, S3, h3⟩ => ⟨mm - 1, by omega, by omega, G3, ρ3, g3, S3, h3⟩, fun y H3 hy => ?_⟩
    have ed : ds[i]? = some ds[i] := List.getElem?_eq_getElem hlt
    obtain ⟨G3, w, ry⟩ := JJ.yld i G2 H2 y H3 _ S2.bh g2 S2.gh ed hy
    have S3 := S2.grow w
    rw [List.drop_eq_getElem_cons hlt] at h2
    obtain ⟨uu, ρ3, h3, h4⟩ := bnd_ok h2
    obtain ⟨f1, ρ4, h5, h6⟩ := bnd_ok h4
    refine hg C G3 σ2 H3 ρ2 y _ _ hK S3 ry ρ3 h3 fun σ4 S4 _ => ?_
    refine hb C G3 σ4 H3 ρ3 _ hK S4 f1 ρ4 h5 fun σ5 G5 H5 g5 S5 => ?_
    have gg : Same G1 G5 := (g2.trans w.g).trans g5
    cases f1 with
    | nx => exact ⟨G5, ρ4, gg, S5, h6⟩
    | ct => exact ⟨G5, ρ4, gg, S5, h6⟩
    | bk => cases h6; exact q σ5 G5 H5 (g1.trans gg) S5
    | rt r => cases h6; exact q σ5 G5 H5 (g1.trans gg) S5
  · have hi : i = ds.length := by omega
    rw [List.drop_eq_nil_of_le (by omega)] at h2
    cases h2
    refine .inl ⟨?_, q σ2 G2 H2 (g1.trans g2) S2⟩
    rw [hi]
    exact JJ.stop G2 H2 S2.bh g2 S2.gh
theorem pst_for {fi : M (List D)} {t : D → M Unit} {ts : List Nat} (hp : PassesOwn (model X.prog X.w) X.A X.env X.xe) (hc : X.calm = true) (hi : PIt X tg e fi) (hg : PGt X tg ts t) (hb : PSts X sts m)
    (hs : ∀ x, foldedSetIterable e X.env x = pure x := by intro _; rfl) : PSt X (.For tg e sts [] pos) (mFor fi t m) := by
  obtain ⟨wi, hi, ri⟩ := hi
  obtain ⟨gt, hg, rg⟩ := hg
  obtain ⟨tb, hb, rb⟩ := hb
  exact ⟨_, ps_for hp hc hi hg hb hs, forGo_rd ri rg rb⟩
/-! ### while -/
theorem pst_while {mc : M Bool} (n : Env → Nat) (hp : PassesOwn (model X.prog X.w) X.A X.env X.xe) (hc : PTt X c mc) (hb : PSts X sts m) : PSt X (.While c sts [] pos) (mWhile n mc m) := by
  obtain ⟨tc, hc, rc⟩ := hc
  obtain ⟨tb, hb, rb⟩ := hb
  refine ⟨_, ps_while hp hc hb, fun C G σ H ρ D hK S fl ρ' hf q => ?_⟩
  refine ⟨fun mm σ2 H2 => ∃ G2 ρ2, Same G G2 ∧ StOk C G2 σ2 H2 ρ2 ∧ whGo mc m mm ρ2 = .ok fl ρ', ⟨n ρ, G, ρ, Same.refl _, S, hf⟩, fun mm σ2 H2 ⟨G2, ρ2, g2, S2, h2⟩ => ?_⟩
  cases mm with
  | zero => cases h2
  | succ mm =>
    obtain ⟨kk, ρ3, h3, h4⟩ := bnd_ok h2
    refine rc C G2 σ2 H2 ρ2 _ hK S2 kk ρ3 h3 fun G3 H3 g3 S3 => ?_
    cases kk with
    | false =>
      rw [if_neg Bool.false_ne_true]
      cases h4
      exact q σ2 G3 H3 (g2.trans g3) S3
    | true =>
      rw [if_pos rfl]
      refine ⟨fun σ5 H5 => ∃ G5 ρ5, Same G G5 ∧ StOk C G5 σ5 H5 ρ5 ∧ whGo mc m mm ρ5 = .ok fl ρ', fun σ5 H5 z => ⟨mm, by omega, z⟩, ?_⟩
      obtain ⟨f1, ρ4, h5, h6⟩ := bnd_ok h4
      refine rb C G3 σ2 H3 ρ3 _ hK S3 f1 ρ4 h5 fun σ5 G5 H5 g5 S5 => ?_
      have gg : Same G G5 := (g2.trans g3).trans g5
      cases f1 with
      | nx => exact ⟨G5, ρ4, gg, S5, h6⟩
      | ct => exact ⟨G5, ρ4, gg, S5, h6⟩
      | bk => cases h6; exact q σ5 G5 H5 gg S5
      | rt r => cases h6; exact q σ5 G5 H5 gg S5
/-! ### lists changed in place -/
theorem pst_setix {j : Nat} (he : PV X e f) (hi : PV X b fb) (hN : X.N[j]? = some x := by rfl) (hv : Vis X.env.scope x := by first | exact Or.inl rfl | exact Or.inr (Or.inl rfl) | exact Or.inr (Or.inr rfl)) (hd : (x == ("__debug__" : Str)) = false := by decide)
    (hcd : (x == ("__classdict__" : Str)) = false := by decide) (ha : ∀ v, assign (.Subscript (.Name x pos') b tpos) X.env v = (do
      let ov ← holding [v] (eval (.Name x pos') X.env)
      let iv ← holding [v, ov] (eval b X.env)
      standAt tpos
      holding [v, ov, iv] (setItem ov iv v)
      release [v, ov, iv] []) := by intro _; rfl) (hs : swapsWithSole [.Subscript (.Name x pos') b tpos] e pos.line X.env = pure false := by rfl) (hw : swappedStores [.Subscript (.Name x pos') b tpos] e X.env = pure none := by rfl) :
    PSt X (.Assign [.Subscript (.Name x pos') b tpos] e pos) (mSetIx j f fb) := by
  obtain ⟨te, he, re⟩ := he
  obtain ⟨ti, hi, ri⟩ := hi
  refine ⟨_, ps_asg he (pg_sub (pe_var hN hv hd hcd) hi set_list ha) hs hw, fun C G σ H ρ D hK S fl ρ' hf q => ?_⟩
  obtain ⟨d, ρ1, h1, hf2⟩ := bnd_ok hf
  obtain ⟨_, ρ0, h0, hf3⟩ := bnd_ok hf2
  obtain ⟨kd, ρ2, h2, hf4⟩ := bnd_ok hf3
  refine re C G σ H ρ _ hK S d ρ1 h1 fun v G1 H1 g1 S1 o1 => ?_
  obtain ⟨a, ea, rfl⟩ := isOwn_ok S1 h0
  refine ⟨.ref a, ea, ?_⟩
  refine ri C G1 σ H1 _ _ hK S1 kd ρ2 h2 fun v2 G2 H2 g2 S2 o2 => ?_
  cases o2 with
  | int n =>
    obtain ⟨s, ds, i, es, hsd, hix, hfl, hρ⟩ := setAt_ok hf4
    cases hfl
    obtain ⟨o, e1, q1⟩ := S2.sl j s es
    rw [ea] at e1
    cases e1
    have fin : ∀ xs, H2 a = some (.lst xs) → RpA G2 xs ds → rSetL (.ref a) (.int n) v H2 (fun H3 => D.nx σ H3) := fun xs hx hr => by
      refine ⟨a, xs, n, i, rfl, rfl, hx, by rw [hr.length]; exact hix, ?_⟩
      have sh : Sh G2 (upd H2 a (.lst (xs.set i v))) (.ref a) (.list (ds.set i d)) := .lst upd_same (hr.set (o1.mono g2) i)
      rcases hsd with ⟨rfl, rfl⟩ | ⟨rfl, rfl⟩
      · exact q σ G2 _ (g1.trans g2) (S2.mut es rfl ea (.inl ⟨_, rfl, _, rfl, sh⟩))
      · exact q σ G2 _ (g1.trans g2) (S2.mut es rfl ea (.inr ⟨_, rfl, _, rfl, sh⟩))
    rcases hsd with ⟨rfl, _⟩ | ⟨rfl, _⟩
    · obtain ⟨b, eb, sh, _⟩ := q1
      cases eb
      cases sh with
      | lst h r => exact fin _ h r
    · obtain ⟨b, eb, sh, _⟩ := q1
      cases eb
      cases sh with
      | lst h r => exact fin _ h r
  | _ => exact (setAt_int hf4).elim
/-- a method that changes a list -/
def PMut (r : V → List V → Hp → VK → Prop) (g : List D → List D → Option (List D × D)) : Prop := ∀ (G H : Hp) (l : Addr) (vs : List V) (ds : List D) (as : List V) (ads : List D) (new : List D) (z : D) (Q : VK),
  Same G H → H l = some (.lst vs) → RpA G vs ds → RpA G as ads → g ds ads = some (new, z) → (∀ v ws, RpA G ws new → Rp G v z → Q v (upd H l (.lst ws))) → r (.ref l) as H Q
theorem rd_mut {r : V → List V → Hp → VK → Prop} {g' : List D → List D → Option (List D × D)} {t : TA} {fs : M (List D)} {j : Nat} (hp : PMut r g') (ha : RdA X.K t fs) : RdV X.K (tBM X.K "list" r (tVar j) t) (mMut j g' fs) := by
  intro C G σ H ρ Q hK S z ρ' hf q
  obtain ⟨_, ρ0, h0, hf2⟩ := bnd_ok hf
  obtain ⟨ads, ρ1, h1, hf3⟩ := bnd_ok hf2
  obtain ⟨a, xs0, ea, hx0, rfl⟩ := isOwnL_ok S h0
  refine ⟨.ref a, ea, Or.inl ⟨rfl, xs0, Or.inl (Or.inl hx0)⟩, ?_⟩
  refine ha C G σ H _ _ hK S ads ρ1 h1 fun as G1 H1 g1 S1 o1 => ?_
  obtain ⟨s, ds, new, es, hg, hsd⟩ := mutAt_ok hf3
  obtain ⟨o, e1, q1⟩ := S1.sl j s es
  rw [ea] at e1
  cases e1
  have fin : ∀ xs, H1 a = some (.lst xs) → RpA G1 xs ds → r (.ref a) as H1 Q := fun xs hx hr => by
    refine hp G1 H1 a xs ds as ads new z Q S1.gh hx hr o1 hg fun v ws rw1 rz => ?_
    have sh : Sh G1 (upd H1 a (.lst ws)) (.ref a) (.list new) := .lst upd_same rw1
    rcases hsd with ⟨rfl, rfl⟩ | ⟨rfl, rfl⟩
    · exact q v G1 _ g1 (S1.mut es rfl ea (.inl ⟨_, rfl, _, rfl, sh⟩)) rz
    · exact q v G1 _ g1 (S1.mut es rfl ea (.inr ⟨_, rfl, _, rfl, sh⟩)) rz
  rcases hsd with ⟨rfl, _⟩ | ⟨rfl, _⟩
  · obtain ⟨b, eb, sh, _⟩ := q1
    cases eb
    cases sh with
    | lst h r => exact fin _ h r
  · obtain ⟨b, eb, sh, _⟩ := q1
    cases eb
    cases sh with
    | lst h r => exact fin _ h r
/-- x op= e -/
theorem pst_aug {op : Operator} {ti : TIp} {i : Nat} {g' : D → D → Option D} (ho : PIp X op ti) (hp : POpV ti g') (hN : X.N.Nodup) (h : PP X e g) (hi : X.N[i]? = some x := by rfl) (hx : Loc X.env.scope x := by first | exact Or.inl rfl | exact Or.inr rfl)
    (hf : X.fn x = true ∨ X.env.scope.names.lookup x = some .local := by first | exact .inl rfl | exact .inr rfl | assumption) : PSt X (.AugAssign (.Name x pos') op e pos) (mAug i g' g) := by
  obtain ⟨te, h, r⟩ := h
  refine ⟨_, ps_aug hN hi hx h ho hf, fun C G σ H ρ D hK S fl ρ' hf q => ?_⟩
  obtain ⟨p, ρ1, h1, hf2⟩ := bnd_ok hf
  obtain ⟨p2, ρ2, h2, hf3⟩ := bnd_ok hf2
  have hv : ∃ v, σ[i]? = some (some v) ∧ okP G σ v p ∧ ρ1 = ρ := by
    unfold mVar at h1
    cases rr : ρ[i]? with
    | none => rw [rr] at h1; cases h1
    | some s =>
      rw [rr] at h1
      obtain ⟨o, e1, kk⟩ := S.sl i s rr
      cases s with
      | un => cases h1
      | val d' => cases h1; obtain ⟨v, rfl, rx⟩ := kk; exact ⟨v, e1, rx, rfl⟩
      | own d' => cases h1; obtain ⟨a, rfl, _⟩ := kk; exact ⟨_, e1, e1, rfl⟩
      | io d' => cases h1; obtain ⟨a, rfl, _⟩ := kk; exact ⟨_, e1, e1, rfl⟩
      | bor d' => cases h1; obtain ⟨v, rfl, _⟩ := kk; exact ⟨_, e1, e1, rfl⟩
      | scr ns => cases h1; obtain ⟨v, rfl, _⟩ := kk; exact ⟨_, e1, e1, rfl⟩
  obtain ⟨v, ev, o1, rfl⟩ := hv
  refine ⟨v, ev, ?_⟩
  refine r C G σ H _ _ hK S p2 ρ2 h2 fun v2 G2 H2 g2 S2 o2 => ?_
  obtain ⟨d1, ρ3, h3, hf4⟩ := bnd_ok hf3
  obtain ⟨s1, rfl⟩ := look_ok S2 (o1.mono g2) h3
  obtain ⟨d2, ρ4, h4, hf5⟩ := bnd_ok hf4
  obtain ⟨s2, rfl⟩ := look_ok S2 o2 h4
  obtain ⟨z, ρ5, h5, hf6⟩ := bnd_ok hf5
  obtain ⟨ez, rfl⟩ := ofO_ok h5
  obtain ⟨uu, ρ6, h6, hf7⟩ := bnd_ok hf6
  cases hf7
  obtain ⟨hi', rfl⟩ := setS_ok h6
  exact hp G2 H2 v v2 d1 d2 z _ S2.gh s1 s2 ez fun v3 G3 H3 w rz => q _ G3 H3 (g2.trans w.g) ((S2.grow w).putV hi' rz)
end
end PL
namespace PL
open PySem PySem.Spec L2 RT RZ
/-! ### what is gone through -/
def itemsD : D → Option (Bool × List D)
  | .list ds => some (false, ds)
  | .tuple ds => some (true, ds)
  | _ => none
def seqAt (p : Pl) : M (Bool × List D) := fun ρ => match p with
  | .val d => match itemsD d with
    | some ds => .ok ds ρ
    | none => .stuck
  | .slot i => match ρ[i]? with
    | some (.bor d) => match itemsD d with
      | some ds => .ok ds ρ
      | none => .stuck
    | some (.scr ns) => .ok (false, ns.map PyData.int) ρ
    | _ => .stuck
def mIter (f : M Pl) : M (List D) := bnd f fun p => bnd (seqAt p) fun ds => ret ds.2
def mRev (f : M (List D)) : M (List D) := bnd f fun ds => ret ds.reverse
def mEnum (f : M (List D)) : M (List D) := bnd f fun ds => ret (ds.zipIdx.map fun (d, i) => .tuple [.int (i : Int), d])
def mZip (f g : M Pl) : M (List D) := bnd f fun p => bnd g fun q => bnd (seqAt p) fun ds => bnd (seqAt q) fun es => if (ds.1 == es.1) = true then ret ((ds.2.zip es.2).map fun (d, e) => .tuple [d, e]) else fun _ => .stuck
def rngD (lo hi : Int) : List D := (List.range (hi - lo).toNat).map fun (i : Nat) => .int (lo + (i : Int))
def small62 (i : Int) : Bool := decide (-(2 ^ 62) ≤ i) && decide (i < 2 ^ 62)
def mRng1 (f : M D) : M (List D) := bnd f fun d => fun ρ => match d with
  | .int n => if small62 n = true then .ok (rngD 0 n) ρ else .stuck
  | _ => .stuck
def mRng2 (f g : M D) : M (List D) := bnd f fun d => bnd g fun e => fun ρ => match d, e with
  | .int a, .int b => if (small62 a && small62 b) = true then .ok (rngD a b) ρ else .stuck
  | _, _ => .stuck
/-- a list or a tuple that stays through all that the state lets be -/
def SeqS (K : PySem.W.Frag) (B G1 : Hp) (v : V) (ds : Bool × List D) : Prop :=
  ∃ a xs, v = .ref a ∧ RpA G1 xs ds.2 ∧ ((ds.1 = false ∧ ∀ G H, Same B H → Same G1 G → Same G H → SqL K H a xs) ∨ (ds.1 = true ∧ ∀ G H, Same B H → Same G1 G → Same G H → SqT K H a xs))
theorem sqT_seq {K : PySem.W.Frag} {H H' : Hp} {a : Addr} {xs : List V} (e : Same H H') (h : SqT K H a xs) : SqT K H' a xs := by
  rcases h with (h | ⟨o, h⟩) | h
  · exact .inl (.inl (e _ _ h))
  · exact .inl (.inr ⟨o, e _ _ h⟩)
  · exact .inr h
theorem seqAt_ok {C : Ctx} {G H : Hp} {σ : L2.St} {ρ ρ' : Env} {v : V} {p : Pl} {ds : Bool × List D} (S : StOk C G σ H ρ) (o : okP G σ v p) (h : seqAt p ρ = .ok ds ρ') : SeqS C.K C.B G v ds ∧ ρ' = ρ := by
  unfold seqAt at h
  cases p with
  | val d =>
    simp only at h
    cases q : itemsD d with
    | none => rw [q] at h; cases h
    | some es =>
      rw [q] at h
      cases h
      refine ⟨?_, rfl⟩
      have o' : Rp G v d := o
      cases o' with
      | lst ha r => cases q; exact ⟨_, _, rfl, r, .inl ⟨rfl, fun G2 H2 _ g gh => .inl (.inl (gh _ _ (g _ _ ha)))⟩⟩
      | tup ha r => cases q; exact ⟨_, _, rfl, r, .inr ⟨rfl, fun G2 H2 _ g gh => .inl (.inl (gh _ _ (g _ _ ha)))⟩⟩
      | _ => cases q
  | slot i =>
    simp only at h
    have hv : σ[i]? = some (some v) := o
    cases r : ρ[i]? with
    | none => rw [r] at h; cases h
    | some s =>
      rw [r] at h
      cases s with
      | bor d =>
        simp only at h
        cases q : itemsD d with
        | none => rw [q] at h; cases h
        | some es =>
          rw [q] at h
          cases h
          refine ⟨?_, rfl⟩
          obtain ⟨_, z, p1, p2⟩ := S.get r hv
          cases z
          have w := S.wf i v p1
          rw [p2] at w
          have w' : Sh C.G0 C.B v d := w
          cases w' with
          | lst ha rr => cases q; exact ⟨_, _, rfl, rr.mono S.g0, .inl ⟨rfl, fun G2 H2 b g gh => .inl (.inl (b _ _ ha))⟩⟩
          | tup ha rr => cases q; exact ⟨_, _, rfl, rr.mono S.g0, .inr ⟨rfl, fun G2 H2 b g gh => .inl (.inl (b _ _ ha))⟩⟩
          | _ => cases q
      | scr ns =>
        cases h
        refine ⟨?_, rfl⟩
        obtain ⟨_, z, p1, p2⟩ := S.get r hv
        cases z
        have w := S.wf i v p1
        rw [p2] at w
        obtain ⟨a, e, sq⟩ := w
        exact ⟨a, _, e, RpA.ints ns, .inl ⟨rfl, fun G2 H2 b g gh => Same.seq b sq⟩⟩
      | _ => cases h
theorem SeqS.mono {K : PySem.W.Frag} {B G1 G2 : Hp} {v : V} {ds : Bool × List D} (e : Same G1 G2) (h : SeqS K B G1 v ds) : SeqS K B G2 v ds := by
  obtain ⟨a, xs, ev, r, q⟩ := h
  exact ⟨a, xs, ev, r.mono e, q.elim (fun z => .inl ⟨z.1, fun G H b g gh => z.2 G H b (e.trans g) gh⟩) fun z => .inr ⟨z.1, fun G H b g gh => z.2 G H b (e.trans g) gh⟩⟩
section
variable {K : PySem.W.Frag} {B G1 : Hp} {a b : Addr} {xs ys : List V} {ds es : List D}
theorem JOk.list (st : ∀ G H, Same B H → Same G1 G → Same G H → SqL K H a xs) (r : RpA G1 xs ds) : JOk (Itl K a) B G1 ds where
  go := fun i G H b g gh hi => by
    obtain ⟨v, hv, _⟩ := r.get (List.getElem?_eq_getElem hi)
    exact ⟨xs, v, st G H b g gh, hv⟩
  yld := fun i G H x H' d b g gh hd hy => by
    obtain ⟨rfl, f⟩ := hy
    obtain ⟨v, hv, rv⟩ := r.get hd
    have e := f xs (st G _ b g gh)
    rw [hv] at e; cases e
    exact ⟨G, Grow.refl gh, rv.mono g⟩
  stop := fun G H b g gh => ⟨xs, st G H b g gh, by rw [r.length]; exact Nat.le_refl _⟩
theorem JOk.tup (st : ∀ G H, Same B H → Same G1 G → Same G H → SqT K H a xs) (r : RpA G1 xs ds) : JOk (Itt K a) B G1 ds where
  go := fun i G H b g gh hi => by
    obtain ⟨v, hv, _⟩ := r.get (List.getElem?_eq_getElem hi)
    exact ⟨xs, v, st G H b g gh, hv⟩
  yld := fun i G H x H' d b g gh hd hy => by
    obtain ⟨rfl, f⟩ := hy
    obtain ⟨v, hv, rv⟩ := r.get hd
    have e := f xs (st G _ b g gh)
    rw [hv] at e; cases e
    exact ⟨G, Grow.refl gh, rv.mono g⟩
  stop := fun G H b g gh => ⟨xs, st G H b g gh, by rw [r.length]; exact Nat.le_refl _⟩
theorem rev_get {α : Type} {l : List α} {i : Nat} {x : α} (h : l.reverse[i]? = some x) : l[l.length - 1 - i]? = some x := by
  have hi : i < l.reverse.length := (List.getElem?_eq_some_iff.mp h).1
  rw [List.length_reverse] at hi
  rw [List.getElem?_reverse hi] at h
  exact h
theorem JOk.revL (st : ∀ G H, Same B H → Same G1 G → Same G H → SqL K H a xs) (r : RpA G1 xs ds) : JOk (Itv K a xs.length) B G1 ds.reverse where
  go := fun i G H b g gh hi => by
    rw [List.length_reverse] at hi
    have hi' : i < xs.length := by rw [r.length]; exact hi
    exact ⟨hi', xs, xs[xs.length - 1 - i]'(by omega), st G H b g gh, List.getElem?_eq_getElem _⟩
  yld := fun i G H x H' d b g gh hd hy => by
    obtain ⟨rfl, f⟩ := hy
    obtain ⟨v, hv, rv⟩ := r.get (rev_get hd)
    have e := f xs (st G _ b g gh)
    rw [r.length, hv] at e; cases e
    exact ⟨G, Grow.refl gh, rv.mono g⟩
  stop := fun G H b g gh => by
    show xs.length ≤ ds.reverse.length
    rw [List.length_reverse, r.length]; exact Nat.le_refl _
theorem JOk.revT (st : ∀ G H, Same B H → Same G1 G → Same G H → SqT K H a xs) (r : RpA G1 xs ds) : JOk (ItvT K a xs.length) B G1 ds.reverse where
  go := fun i G H b g gh hi => by
    rw [List.length_reverse] at hi
    have hi' : i < xs.length := by rw [r.length]; exact hi
    exact ⟨hi', xs, xs[xs.length - 1 - i]'(by omega), st G H b g gh, List.getElem?_eq_getElem _⟩
  yld := fun i G H x H' d b g gh hd hy => by
    obtain ⟨rfl, f⟩ := hy
    obtain ⟨v, hv, rv⟩ := r.get (rev_get hd)
    have e := f xs (st G _ b g gh)
    rw [r.length, hv] at e; cases e
    exact ⟨G, Grow.refl gh, rv.mono g⟩
  stop := fun G H b g gh => by
    show xs.length ≤ ds.reverse.length
    rw [List.length_reverse, r.length]; exact Nat.le_refl _
theorem JOk.enum (st : ∀ G H, Same B H → Same G1 G → Same G H → SqL K H a xs) (r : RpA G1 xs ds) : JOk (Ite K a) B G1 (ds.zipIdx.map fun (d, i) => PyData.tuple [.int (i : Int), d]) where
  go := fun i G H b g gh hi => by
    simp only [List.length_map, List.length_zipIdx] at hi
    obtain ⟨v, hv, _⟩ := r.get (List.getElem?_eq_getElem hi)
    exact ⟨xs, v, st G H b g gh, hv⟩
  yld := fun i G H x H' d b g gh hd hy => by
    obtain ⟨T, x', rfl, hT, rfl, f⟩ := hy
    rw [List.getElem?_map] at hd
    cases q : ds.zipIdx[i]? with
    | none => rw [q] at hd; cases hd
    | some p =>
      rw [q] at hd
      cases hd
      rw [List.getElem?_zipIdx] at q
      cases q2 : ds[i]? with
      | none => rw [q2] at q; cases q
      | some d0 =>
        rw [q2] at q
        cases q
        obtain ⟨v, hv, rv⟩ := r.get q2
        have e := f xs (st G _ b g gh)
        rw [hv] at e; cases e
        have w := Grow.new (o := .tup [.int ((i : Nat) : Int), x']) gh hT
        refine ⟨_, w, .tup upd_same (.cons ?_ (.one (rv.mono (g.trans w.g))))⟩
        simp only [Nat.zero_add]
        exact .int _
  stop := fun G H b g gh => ⟨xs, st G H b g gh, by simp only [List.length_map, List.length_zipIdx]; rw [r.length]; exact Nat.le_refl _⟩
theorem JOk.zipL (s1 : ∀ G H, Same B H → Same G1 G → Same G H → SqL K H a xs) (r1 : RpA G1 xs ds) (s2 : ∀ G H, Same B H → Same G1 G → Same G H → SqL K H b ys) (r2 : RpA G1 ys es) : JOk (Itz K a b) B G1 ((ds.zip es).map fun (d, e) => PyData.tuple [d, e]) where
  go := fun i G H b g gh hi => by
    simp only [List.length_map, List.length_zip] at hi
    obtain ⟨v, hv, _⟩ := r1.get (List.getElem?_eq_getElem (show i < ds.length by omega))
    obtain ⟨u, hu, _⟩ := r2.get (List.getElem?_eq_getElem (show i < es.length by omega))
    exact ⟨xs, ys, v, u, s1 G H b g gh, s2 G H b g gh, hv, hu⟩
  yld := fun i G H x H' d b g gh hd hy => by
    obtain ⟨T, x', y', rfl, hT, rfl, f1, f2⟩ := hy
    rw [List.getElem?_map] at hd
    cases q : (ds.zip es)[i]? with
    | none => rw [q] at hd; cases hd
    | some p =>
      rw [q] at hd
      cases hd
      obtain ⟨q1, q2⟩ := List.getElem?_zip_eq_some.mp q
      obtain ⟨v, hv, rv⟩ := r1.get q1
      obtain ⟨u, hu, ru⟩ := r2.get q2
      have e1 := f1 xs (s1 G _ b g gh)
      rw [hv] at e1; cases e1
      have e2 := f2 ys (s2 G _ b g gh)
      rw [hu] at e2; cases e2
      have w := Grow.new (o := .tup [x', y']) gh hT
      exact ⟨_, w, .tup upd_same (.cons (rv.mono (g.trans w.g)) (.one (ru.mono (g.trans w.g))))⟩
  stop := fun G H b g gh => ⟨xs, ys, s1 G H b g gh, s2 G H b g gh, by simp only [List.length_map, List.length_zip]; rw [r1.length, r2.length]; omega⟩
theorem JOk.zipT (s1 : ∀ G H, Same B H → Same G1 G → Same G H → SqT K H a xs) (r1 : RpA G1 xs ds) (s2 : ∀ G H, Same B H → Same G1 G → Same G H → SqT K H b ys) (r2 : RpA G1 ys es) : JOk (ItzT K a b) B G1 ((ds.zip es).map fun (d, e) => PyData.tuple [d, e]) where
  go := fun i G H b g gh hi => by
    simp only [List.length_map, List.length_zip] at hi
    obtain ⟨v, hv, _⟩ := r1.get (List.getElem?_eq_getElem (show i < ds.length by omega))
    obtain ⟨u, hu, _⟩ := r2.get (List.getElem?_eq_getElem (show i < es.length by omega))
    exact ⟨xs, ys, v, u, s1 G H b g gh, s2 G H b g gh, hv, hu⟩
  yld := fun i G H x H' d b g gh hd hy => by
    obtain ⟨T, x', y', rfl, hT, rfl, f1, f2⟩ := hy
    rw [List.getElem?_map] at hd
    cases q : (ds.zip es)[i]? with
    | none => rw [q] at hd; cases hd
    | some p =>
      rw [q] at hd
      cases hd
      obtain ⟨q1, q2⟩ := List.getElem?_zip_eq_some.mp q
      obtain ⟨v, hv, rv⟩ := r1.get q1
      obtain ⟨u, hu, ru⟩ := r2.get q2
      have e1 := f1 xs (s1 G _ b g gh)
      rw [hv] at e1; cases e1
      have e2 := f2 ys (s2 G _ b g gh)
      rw [hu] at e2; cases e2
      have w := Grow.new (o := .tup [x', y']) gh hT
      exact ⟨_, w, .tup upd_same (.cons (rv.mono (g.trans w.g)) (.one (ru.mono (g.trans w.g))))⟩
  stop := fun G H b g gh => ⟨xs, ys, s1 G H b g gh, s2 G H b g gh, by simp only [List.length_map, List.length_zip]; rw [r1.length, r2.length]; omega⟩
theorem rngD_len (lo hi : Int) : (rngD lo hi).length = (hi - lo).toNat := by unfold rngD; rw [List.length_map, List.length_range]
theorem rngD_get {lo hi : Int} {i : Nat} {d : D} (h : (rngD lo hi)[i]? = some d) : d = .int (lo + (i : Int)) := by
  unfold rngD at h
  rw [List.getElem?_map] at h
  cases q : (List.range (hi - lo).toNat)[i]? with
  | none => rw [q] at h; cases h
  | some k =>
    rw [q] at h
    cases h
    have := (List.getElem?_eq_some_iff.mp q)
    obtain ⟨h1, h2⟩ := this
    rw [List.getElem_range] at h2
    rw [h2]
theorem JOk.rng {lo hi : Int} : JOk (Itr lo (hi - lo).toNat) B G1 (rngD lo hi) where
  go := fun i G H b g gh h => by rw [rngD_len] at h; exact h
  yld := fun i G H x H' d b g gh hd hy => by
    obtain ⟨rfl, rfl⟩ := hy
    rw [rngD_get hd]
    exact ⟨G, Grow.refl gh, .int _⟩
  stop := fun G H b g gh => by
    show (hi - lo).toNat ≤ (rngD lo hi).length
    rw [rngD_len]; exact Nat.le_refl _
end
section
variable {X : Cx} {e a b c tg : Expr} {es : List Expr} {pos pos' tpos p : Pos} {f fa fb : M D} {g ga gb : M Pl} {k : M Rv} {st : Stmt} {sts us : List Stmt} {m m1 m2 : M Fl} {x : Str}
def iSeq (K : PySem.W.Frag) (tl : TE) : TI := fun σ H R => tl σ H fun x H1 => ∃ a, x = .ref a ∧ ((∃ xs, SqL K H1 a xs ∧ R (Itl K a) H1) ∨ (∃ xs, SqT K H1 a xs ∧ R (Itt K a) H1))
theorem pi_seq {l : Expr} {tl : TE} (hl : PE X l tl) : PI X tg l (iSeq X.K tl) := by
  constructor
  intro pins s σ H R I h
  refine thn (hl.run pins s σ H _ I h) ?_
  rintro v s1 ⟨x, H1, I1, r1, a, rfl, q1⟩
  cases (show v = Value.ref a from r1)
  have hfp : ∀ b ∈ [s1.heap.objs.size], FpOk X pins H1 b := by
    intro b hb
    rw [List.mem_singleton.mp hb]
    exact I1.fpOk (Nat.le_refl _) (I1.hok.fresh (Nat.le_refl _))
  rcases q1 with ⟨xs, hq, q⟩ | ⟨xs, hq, q⟩
  · obtain ⟨its, rv, pp, hz⟩ := I1.list hq
    exact wpAny_pyIter_list pp.isList ⟨_, _, _, _, H1, rfl, I1.kept (t' := s1.toks) fun b o e => Heap.get?_push_of_some _ e, turn_list a _, ⟨_, Heap.get?_push_size _ rfl, rfl, rfl⟩, hfp, q⟩
  · obtain ⟨its, rv, pp, hz⟩ := I1.tuple hq
    exact wpAny_pyIter_tuple (show s1.heap.IsTuple a its.toArray from pp) ⟨_, _, _, _, H1, rfl, I1.kept (t' := s1.toks) fun b o e => Heap.get?_push_of_some _ e, turn_tuple a _, ⟨_, Heap.get?_push_size _ rfl, rfl, rfl⟩, hfp, q⟩
theorem pit_seq (h : PP X e g) : PIt X tg e (mIter g) := by
  obtain ⟨t, h, r⟩ := h
  refine ⟨_, pi_seq h, fun C G σ H ρ R hK S ds ρ' hf q => ?_⟩
  obtain ⟨pl, ρ1, h1, h2⟩ := bnd_ok hf
  obtain ⟨kd, ρ2, h3, h4⟩ := bnd_ok h2
  cases h4
  refine r C G σ H ρ _ hK S pl ρ1 h1 fun v G1 H1 g1 S1 o => ?_
  obtain ⟨⟨a, xs, rfl, rr, z⟩, rfl⟩ := seqAt_ok S1 o h3
  rw [hK] at z
  refine ⟨a, rfl, ?_⟩
  rcases z with ⟨_, z⟩ | ⟨_, z⟩
  · exact .inl ⟨xs, z G1 H1 S1.bh (Same.refl _) S1.gh, q _ G1 H1 g1 S1 (JOk.list z rr)⟩
  · exact .inr ⟨xs, z G1 H1 S1.bh (Same.refl _) S1.gh, q _ G1 H1 g1 S1 (JOk.tup z rr)⟩
theorem pit_rev (hg : Gl X "reversed") (hm : X.mg "reversed" = none) (h : PP X e g) (hs : starEach [e] X.env = (false, eval e X.env) :: starEach [] X.env := by rfl) : PIt X tg (.Call (.Name "reversed" p) [e] [] pos) (mRev (mIter g)) := by
  obtain ⟨t, h, r⟩ := h
  refine ⟨_, pi_revA hg hm h hs, fun C G σ H ρ R hK S ds ρ' hf q => ?_⟩
  obtain ⟨ds0, ρ0, hf0, h0⟩ := bnd_ok hf
  cases h0
  obtain ⟨pl, ρ1, h1, h2⟩ := bnd_ok hf0
  obtain ⟨kd, ρ2, h3, h4⟩ := bnd_ok h2
  cases h4
  refine r C G σ H ρ _ hK S pl ρ1 h1 fun v G1 H1 g1 S1 o => ?_
  obtain ⟨⟨a, xs, rfl, rr, z⟩, rfl⟩ := seqAt_ok S1 o h3
  rw [hK] at z
  refine ⟨a, xs, rfl, ?_⟩
  rcases z with ⟨_, z⟩ | ⟨_, z⟩
  · exact .inl ⟨z G1 H1 S1.bh (Same.refl _) S1.gh, q _ G1 H1 g1 S1 (JOk.revL z rr)⟩
  · exact .inr ⟨z G1 H1 S1.bh (Same.refl _) S1.gh, q _ G1 H1 g1 S1 (JOk.revT z rr)⟩
theorem pit_rng1 (hg : Gl X "range") (hm : X.mg "range" = none) (h : PV X a fa) (hs : starEach [a] X.env = [(false, eval a X.env)] := by rfl) : PIt X tg (.Call (.Name "range" p) [a] [] pos) (mRng1 fa) := by
  obtain ⟨t, h, r⟩ := h
  refine ⟨_, pi_range1 hg hm (pa_cons h pa_nil hs) hs, fun C G σ H ρ R hK S ds ρ' hf q => ?_⟩
  obtain ⟨d, ρ1, h1, hf2⟩ := bnd_ok hf
  refine r C G σ H ρ _ hK S d ρ1 h1 fun v G1 H1 g1 S1 o => ?_
  cases o with
  | int n =>
    by_cases hn : small62 n = true
    · simp only [hn, if_true] at hf2
      cases hf2
      simp only [small62, Bool.and_eq_true, decide_eq_true_eq] at hn
      refine ⟨n, rfl, hn.1, hn.2, ?_⟩
      have := JOk.rng (B := C.B) (G1 := G1) (lo := 0) (hi := n)
      rw [Int.sub_zero] at this
      exact q _ G1 H1 g1 S1 this
    · simp only [hn, if_false] at hf2
      cases hf2
  | _ => cases hf2
theorem pit_rng2 (hg : Gl X "range") (hm : X.mg "range" = none) (h : PV X a fa) (h2 : PV X b fb) (hs : starEach [a, b] X.env = [(false, eval a X.env), (false, eval b X.env)] := by rfl) (hs2 : starEach [b] X.env = [(false, eval b X.env)] := by rfl) (hs3 : starEach [a, b] X.env = (false, eval a X.env) :: starEach [b] X.env := by rfl) :
    PIt X tg (.Call (.Name "range" p) [a, b] [] pos) (mRng2 fa fb) := by
  obtain ⟨t, h, r⟩ := h
  obtain ⟨u, h2, r2⟩ := h2
  refine ⟨_, pi_range2 hg hm (pa_cons h (pa_cons h2 pa_nil hs2) hs3) hs hs2, fun C G σ H ρ R hK S ds ρ' hf q => ?_⟩
  obtain ⟨d, ρ1, h1, hf2⟩ := bnd_ok hf
  obtain ⟨d2, ρ2, h3, hf3⟩ := bnd_ok hf2
  refine r C G σ H ρ _ hK S d ρ1 h1 fun v G1 H1 g1 S1 o => ?_
  refine r2 C G1 σ H1 ρ1 _ hK S1 d2 ρ2 h3 fun v2 G2 H2 g2 S2 o2 => ?_
  cases o with
  | int n =>
    cases o2 with
    | int n2 =>
      by_cases hn : (small62 n && small62 n2) = true
      · simp only [hn, if_true] at hf3
        cases hf3
        simp only [small62, Bool.and_eq_true, decide_eq_true_eq] at hn
        exact ⟨n, n2, rfl, ⟨hn.1.1, hn.1.2, hn.2.1, hn.2.2⟩, q _ G2 H2 (g1.trans g2) S2 JOk.rng⟩
      · simp only [hn, if_false] at hf3
        cases hf3
    | _ => cases hf3
  | _ => cases hf3
theorem pit_zip {elts : List Expr} {kk : Nat} (hg : Gl X "zip") (hm : X.mg "zip" = none) (h : PP X a ga) (h2 : PP X b gb)
    (hs : starEach [a, b] X.env = (false, eval a X.env) :: starEach [b] X.env := by rfl) (hs2 : starEach [b] X.env = (false, eval b X.env) :: starEach [] X.env := by rfl) (hpl : (backTo pos (starEach [b] X.env)).any (·.1) = false := by rfl) :
    PIt X (.Tuple elts kk tpos) (.Call (.Name "zip" p) [a, b] [] pos) (mZip ga gb) := by
  obtain ⟨t, h, r⟩ := h
  obtain ⟨u, h2, r2⟩ := h2
  refine ⟨_, pi_zipA hg hm (pa_cons h (pa_cons h2 pa_nil hs2) hs) hs hpl, fun C G σ H ρ R hK S ds ρ' hf q => ?_⟩
  obtain ⟨p1, ρ1, h3, hf2⟩ := bnd_ok hf
  obtain ⟨p2, ρ2, h4, hf3⟩ := bnd_ok hf2
  obtain ⟨d1, ρ3, h5, hf4⟩ := bnd_ok hf3
  obtain ⟨d2, ρ4, h6, hf5⟩ := bnd_ok hf4
  by_cases hk : (d1.1 == d2.1) = true
  · simp only [hk, if_true] at hf5
    cases hf5
    refine r C G σ H ρ _ hK S p1 ρ1 h3 fun v G1 H1 g1 S1 o => ?_
    refine r2 C G1 σ H1 ρ1 _ hK S1 p2 ρ2 h4 fun v2 G2 H2 g2 S2 o2 => ?_
    obtain ⟨⟨a1, xs, rfl, rr, z⟩, rfl⟩ := seqAt_ok S2 (o.mono g2) h5
    obtain ⟨⟨a2, ys, rfl, rr2, z2⟩, rfl⟩ := seqAt_ok S2 o2 h6
    rw [hK] at z z2
    have hk' : d1.1 = d2.1 := eq_of_beq hk
    refine ⟨a1, a2, xs, ys, rfl, ?_⟩
    rcases z with ⟨k1, z⟩ | ⟨k1, z⟩
    · rcases z2 with ⟨k2, z2⟩ | ⟨k2, z2⟩
      · exact .inl ⟨z G2 H2 S2.bh (Same.refl _) S2.gh, z2 G2 H2 S2.bh (Same.refl _) S2.gh, q _ G2 H2 (g1.trans g2) S2 (JOk.zipL z rr z2 rr2)⟩
      · rw [k1, k2] at hk'; cases hk'
    · rcases z2 with ⟨k2, z2⟩ | ⟨k2, z2⟩
      · rw [k1, k2] at hk'; cases hk'
      · exact .inr ⟨z G2 H2 S2.bh (Same.refl _) S2.gh, z2 G2 H2 S2.bh (Same.refl _) S2.gh, q _ G2 H2 (g1.trans g2) S2 (JOk.zipT z rr z2 rr2)⟩
  · simp only [hk] at hf5
    cases hf5
end
end PL
namespace PL
open PySem PySem.Spec L2 RT RZ
/-! ### one reading for all that a mirror is of -/
def TV (K : PySem.W.Frag) (f : M D) : TE := fun σ H Q => ∃ (C : Ctx) (G : Hp) (ρ : Env) (d : D) (ρ' : Env), C.K = K ∧ StOk C G σ H ρ ∧ f ρ = .ok d ρ' ∧ ∀ (v : V) (G' H' : Hp), Same G G' → StOk C G' σ H' ρ' → Rp G' v d → Q v H'
def TTv (K : PySem.W.Frag) (f : M Bool) : TT := fun σ H Q => ∃ (C : Ctx) (G : Hp) (ρ : Env) (d : Bool) (ρ' : Env), C.K = K ∧ StOk C G σ H ρ ∧ f ρ = .ok d ρ' ∧ ∀ (G' H' : Hp), Same G G' → StOk C G' σ H' ρ' → Q d H'
def TGv (K : PySem.W.Frag) (ts : List Nat) (m : D → M Unit) : TG := fun v σ H Q => ∃ (C : Ctx) (G : Hp) (ρ : Env) (d : D) (ρ' : Env), C.K = K ∧ StOk C G σ H ρ ∧ Rp G v d ∧ m d ρ = .ok () ρ' ∧ ∀ (σ' : L2.St), StOk C G σ' H ρ' → (∀ vs, (∀ i ∈ ts, i ∈ vs) → wipe σ' vs = wipe σ vs) → Q σ' H
theorem pv_uni {X : Cx} {e : Expr} {f : M D} (h : PV X e f) : PE X e (TV X.K f) := by
  obtain ⟨t, h, r⟩ := h
  exact ⟨fun pins s σ H Q I ⟨C, G, ρ, d, ρ', hK, S, hf, q⟩ => h.run pins s σ H Q I (r C G σ H ρ Q hK S d ρ' hf q)⟩
theorem pt_uni {X : Cx} {e : Expr} {f : M Bool} (h : PTt X e f) : PT X e (TTv X.K f) := by
  obtain ⟨t, h, r⟩ := h
  exact ⟨fun pins s σ H Q I ⟨C, G, ρ, d, ρ', hK, S, hf, q⟩ => h.run pins s σ H Q I (r C G σ H ρ Q hK S d ρ' hf q)⟩
theorem pg_uni {X : Cx} {e : Expr} {ts : List Nat} {m : D → M Unit} (h : PGt X e ts m) : PG X e (TGv X.K ts m) := by
  obtain ⟨t, h, r⟩ := h
  exact ⟨fun pins s σ H v u Q I rv ⟨C, G, ρ, d, ρ', hK, S, rr, hm, q⟩ => h.run pins s σ H v u Q I rv (r C G σ H ρ v d Q hK S rr ρ' hm q)⟩
/-! ### comprehensions -/
def wipeE (ρ : Env) : List Nat → Env
  | [] => ρ
  | v :: vs => (wipeE ρ vs).set v .un
def keepS : Sl → Sl
  | .own _ => .un
  | .io _ => .un
  | s => s
def restE (ρ1 : Env) (ρ2 : Env) : List Nat → Env
  | [] => ρ2
  | v :: vs => (restE ρ1 ρ2 vs).set v (keepS (ρ1.getD v .un))
def lcGo (t : D → M Unit) (vs : List Nat) (c : M Bool) (fe : M D) : List D → List D → M (List D)
  | acc, [] => ret acc
  | acc, d :: ds => bnd (t d) fun _ => bnd c fun k => if k = true then bnd fe fun y => if acc.length < 100000 then fun ρ => lcGo t vs c fe (acc ++ [y]) ds (wipeE ρ vs) else fun _ => .stuck
    else fun ρ => lcGo t vs c fe acc ds (wipeE ρ vs)
def mLc (fi : M (List D)) (t : D → M Unit) (vs : List Nat) (c : M Bool) (fe : M D) : M Rv := bnd fi fun ds => fun ρ1 => match lcGo t vs c fe [] ds (wipeE ρ1 vs) with
  | .ok acc ρ2 => .ok (.fr (.list acc)) (restE ρ1 ρ2 vs)
  | .stuck => .stuck
def mYes : M Bool := ret true
section
variable {C : Ctx} {G H : Hp} {σ : L2.St} {ρ ρ' : Env} {v : V} {p : Pl} {d : D}
theorem StOk.putN (S : StOk C G σ H ρ) (i : Nat) : StOk C G (σ.set i none) H (ρ.set i .un) := by
  have sub : ∀ {m : Nat} {b : Addr}, Own (σ.set i none) (ρ.set i .un) m b → Own σ ρ m b := fun {m b} ⟨x, s', y, z⟩ => by
    by_cases hm : m = i
    · subst hm
      have hl : m < (σ.set m none).length := (List.getElem?_eq_some_iff.mp x).1
      rw [List.length_set] at hl
      rw [List.getElem?_set_self hl] at x
      cases x
    · rw [List.getElem?_set_ne (fun z => hm z.symm)] at x y
      exact ⟨x, s', y, z⟩
  refine ⟨S.gh, S.bh, S.g0, S.fr, S.ga, S.wf, by rw [List.length_set, List.length_set]; exact S.len, fun j s' q => ?_, fun j k b hj hk => S.ds j k b (sub hj) (sub hk)⟩
  by_cases hj : j = i
  · subst hj
    have hl : j < (ρ.set j .un).length := (List.getElem?_eq_some_iff.mp q).1
    rw [List.length_set] at hl
    rw [List.getElem?_set_self hl] at q
    cases q
    exact ⟨none, List.getElem?_set_self (by rw [S.len]; exact hl), trivial⟩
  · rw [List.getElem?_set_ne (fun z => hj z.symm)] at q ⊢
    exact S.sl j s' q
theorem StOk.wipe (S : StOk C G σ H ρ) : ∀ vs : List Nat, StOk C G (L2.wipe σ vs) H (wipeE ρ vs)
  | [] => S
  | v :: vs => (StOk.wipe S vs).putN v
theorem wipe_get {i : Nat} : ∀ {vs : List Nat} {σ : L2.St}, i ∉ vs → (L2.wipe σ vs)[i]? = σ[i]?
  | [], _, _ => rfl
  | v :: vs, σ, h => by
    show ((L2.wipe σ vs).set v none)[i]? = σ[i]?
    rw [List.getElem?_set_ne (fun z => h (by rw [z]; exact List.mem_cons_self)), wipe_get fun z => h (List.mem_cons_of_mem _ z)]
theorem wipe_sub {vs : List Nat} {σ : L2.St} : ∀ {ws : List Nat}, (∀ i ∈ ws, i ∈ vs) → L2.wipe (L2.wipe σ ws) vs = L2.wipe σ vs
  | [], _ => rfl
  | w :: ws, h => by
    show L2.wipe ((L2.wipe σ ws).set w none) vs = L2.wipe σ vs
    rw [wipe_set (h w List.mem_cons_self), wipe_sub fun i hi => h i (List.mem_cons_of_mem _ hi)]
theorem wipe_wipe {vs : List Nat} {σ : L2.St} : L2.wipe (L2.wipe σ vs) vs = L2.wipe σ vs := wipe_sub fun _ h => h
theorem restE_len (ρ1 ρ2 : Env) : ∀ vs : List Nat, (restE ρ1 ρ2 vs).length = ρ2.length
  | [] => rfl
  | v :: vs => by unfold restE; rw [List.length_set, restE_len ρ1 ρ2 vs]
theorem restE_out {ρ1 ρ2 : Env} {i : Nat} : ∀ {vs : List Nat}, i ∉ vs → (restE ρ1 ρ2 vs)[i]? = ρ2[i]?
  | [], _ => rfl
  | v :: vs, h => by
    show ((restE ρ1 ρ2 vs).set v _)[i]? = ρ2[i]?
    rw [List.getElem?_set_ne (fun z => h (by rw [z]; exact List.mem_cons_self)), restE_out fun z => h (List.mem_cons_of_mem _ z)]
theorem restE_in {ρ1 ρ2 : Env} {i : Nat} {s : Sl} : ∀ {vs : List Nat}, i ∈ vs → (restE ρ1 ρ2 vs)[i]? = some s → s = keepS (ρ1.getD i .un)
  | v :: vs, h, e => by
    have e' : ((restE ρ1 ρ2 vs).set v (keepS (ρ1.getD v .un)))[i]? = some s := e
    by_cases hv : v = i
    · subst hv
      have hl : v < ((restE ρ1 ρ2 vs).set v (keepS (ρ1.getD v .un))).length := (List.getElem?_eq_some_iff.mp e').1
      rw [List.length_set] at hl
      rw [List.getElem?_set_self hl] at e'
      exact (Option.some.inj e').symm
    · rw [List.getElem?_set_ne hv] at e'
      refine restE_in ?_ e'
      cases h with
      | head => exact absurd rfl hv
      | tail _ h => exact h
theorem keepS_own {s : Sl} : ownK (keepS s) = false := by cases s <;> rfl
theorem StOk.rest {G1 H1 : Hp} {ρ1 ρ2 : Env} (S1 : StOk C G1 σ H1 ρ1) {vs : List Nat} (S : StOk C G (L2.wipe σ vs) H ρ2) (g : Same G1 G) : StOk C G σ H (restE ρ1 ρ2 vs) := by
  have sub : ∀ {m : Nat} {b : Addr}, Own σ (restE ρ1 ρ2 vs) m b → Own (L2.wipe σ vs) ρ2 m b := fun {m b} ⟨x, s', y, z⟩ => by
    by_cases hm : m ∈ vs
    · have := restE_in hm y
      subst this
      rw [keepS_own] at z; cases z
    · rw [restE_out hm] at y
      exact ⟨by rw [wipe_get hm]; exact x, s', y, z⟩
  refine ⟨S.gh, S.bh, S.g0, S.fr, S.ga, S.wf, ?_, fun j s' q => ?_, fun j k b hj hk => S.ds j k b (sub hj) (sub hk)⟩
  · rw [restE_len, ← S.len, wipe_length]
  · by_cases hj : j ∈ vs
    · have hs := restE_in hj q
      have hl : j < (restE ρ1 ρ2 vs).length := (List.getElem?_eq_some_iff.mp q).1
      have hl2 : j < ρ1.length := by rw [restE_len, ← S.len, wipe_length, S1.len] at hl; exact hl
      have e1 : ρ1[j]? = some ρ1[j] := List.getElem?_eq_getElem hl2
      obtain ⟨o, eo, k⟩ := S1.sl j _ e1
      refine ⟨o, eo, ?_⟩
      have e2 : ρ1.getD j .un = ρ1[j] := by rw [List.getD_eq_getElem?_getD, e1]; rfl
      rw [hs, e2]
      revert k
      generalize ρ1[j] = s
      intro k
      cases s with
      | un => trivial
      | own d => trivial
      | io d => trivial
      | val d => obtain ⟨w, e, r⟩ := k; exact ⟨w, e, r.mono g⟩
      | bor d => exact k
      | scr ns => exact k
    · rw [restE_out hj] at q
      obtain ⟨o, e, k⟩ := S.sl j s' q
      exact ⟨o, by rw [wipe_get hj] at e; exact e, k⟩
/-- a list that is being made stands aside -/
def Ctx.with (C : Ctx) (E : Addr) (o : HO) : Ctx := { C with B := upd C.B E o, A := fun a => C.A a ∧ a ≠ E }
theorem same_upd {B H : Hp} {a : Addr} {o : HO} (h : Same B H) : Same (upd B a o) (upd H a o) := fun b u q => by
  by_cases hb : b = a
  · subst hb; rw [upd_same] at q ⊢; exact q
  · rw [upd_ne hb] at q ⊢; exact h b u q
theorem same_new {H : Hp} {a : Addr} {o : HO} (h : H a = none) : Same H (upd H a o) := fun b u q => by
  rw [upd_ne (ne_of_none q h)]; exact q
theorem StOk.enter (S : StOk C G σ H ρ) {E : Addr} (hE : H E = none) (o : HO) : StOk (C.with E o) G σ (upd H E o) ρ := by
  have nE : ∀ {a : Addr}, H a ≠ none → a ≠ E := fun {a} h z => by subst z; exact h hE
  refine ⟨S.gh.trans (same_new hE), same_upd S.bh, S.g0, fun a q => ?_, fun a q => ?_, fun i v q => (S.wf i v q).mono (Same.refl _) (same_new (S.bh.free hE)), S.len, fun i s q => ?_, S.ds⟩
  · by_cases ha : a = E
    · subst ha; rw [upd_same] at q; cases q
    · rw [upd_ne ha] at q; exact ⟨S.fr a q, ha⟩
  · have ha : a ≠ E := fun z => by subst z; rw [S.gh.free hE] at q; exact q rfl
    exact (S.ga a q).imp id fun z => ⟨z, ha⟩
  · obtain ⟨oo, e, k⟩ := S.sl i s q
    refine ⟨oo, e, ?_⟩
    cases s with
    | un => trivial
    | val d' => exact k
    | own d' =>
      obtain ⟨b, e3, r, x, y, z⟩ := k
      have hb := nE r.tracked
      exact ⟨b, e3, r.mono (Same.refl _) (same_new hE), x, by show upd C.B E o b = none; rw [upd_ne hb]; exact y, z, hb⟩
    | io d' =>
      obtain ⟨b, e3, r, x, y, z⟩ := k
      have hb := nE r.tracked
      exact ⟨b, e3, r.mono (Same.refl _) (same_new hE), x, by show upd C.B E o b = none; rw [upd_ne hb]; exact y, z⟩
    | bor d' => exact k
    | scr ns => exact k
theorem StOk.step {E : Addr} {o o' : HO} (S : StOk (C.with E o) G σ H ρ) (hG : G E = none) (hw : ∀ (i : Nat) (v : V), C.P i = some v → BorOk C.K C.G0 C.B v (C.S i)) (hB : C.B E = none) : StOk (C.with E o') G σ (upd H E o') ρ := by
  have hH : H E = some o := S.bh E o upd_same
  refine ⟨fun a u q => ?_, fun a u q => ?_, S.g0, fun a q => ?_, S.ga, fun i v q => (hw i v q).mono (Same.refl _) (same_new hB), S.len, fun i s q => ?_, S.ds⟩
  · rw [upd_ne (ne_of_none q hG)]; exact S.gh a u q
  · have q' : upd C.B E o' a = some u := q
    by_cases ha : a = E
    · subst ha; rw [upd_same] at q' ⊢; exact q'
    · rw [upd_ne ha] at q' ⊢
      exact S.bh a u (by show upd C.B E o a = some u; rw [upd_ne ha]; exact q')
  · by_cases ha : a = E
    · subst ha; rw [upd_same] at q; cases q
    · rw [upd_ne ha] at q; exact S.fr a q
  · obtain ⟨oo, e, k⟩ := S.sl i s q
    refine ⟨oo, e, ?_⟩
    have nb : ∀ {b : Addr}, (C.with E o).B b = none → b ≠ E ∧ C.B b = none := fun {b} y => by
      have y' : upd C.B E o b = none := y
      have hb : b ≠ E := fun z => by subst z; rw [upd_same] at y'; cases y'
      rw [upd_ne hb] at y'
      exact ⟨hb, y'⟩
    cases s with
    | un => trivial
    | val d' => exact k
    | own d' =>
      obtain ⟨b, e3, r, x, y, z⟩ := k
      obtain ⟨hb, y'⟩ := nb y
      refine ⟨b, e3, r.at (Same.refl _) fun c ec u hu => ?_, x, by show upd C.B E o' b = none; rw [upd_ne hb]; exact y', z⟩
      cases ec; rw [upd_ne hb]; exact hu
    | io d' =>
      obtain ⟨b, e3, r, x, y, z⟩ := k
      obtain ⟨hb, y'⟩ := nb y
      refine ⟨b, e3, r.at (Same.refl _) fun c ec u hu => ?_, x, by show upd C.B E o' b = none; rw [upd_ne hb]; exact y', z⟩
      cases ec; rw [upd_ne hb]; exact hu
    | bor d' => exact k
    | scr ns => exact k
theorem StOk.exit {E : Addr} {o : HO} (S : StOk (C.with E o) G σ H ρ) (hw : ∀ (i : Nat) (v : V), C.P i = some v → BorOk C.K C.G0 C.B v (C.S i)) (hB : C.B E = none) : StOk C G σ H ρ := by
  have nb : ∀ {b : Addr}, (C.with E o).B b = none → C.B b = none := fun {b} y => by
    have y' : upd C.B E o b = none := y
    have hb : b ≠ E := fun z => by subst z; rw [upd_same] at y'; cases y'
    rw [upd_ne hb] at y'
    exact y'
  refine ⟨S.gh, (same_new hB).trans S.bh, S.g0, fun a q => (S.fr a q).1, fun a q => (S.ga a q).imp id fun z => z.1, hw, S.len, fun i s q => ?_, S.ds⟩
  obtain ⟨oo, e, k⟩ := S.sl i s q
  refine ⟨oo, e, ?_⟩
  cases s with
  | un => trivial
  | val d' => exact k
  | own d' => obtain ⟨b, e3, r, x, y, z⟩ := k; exact ⟨b, e3, r, x, nb y, z.1⟩
  | io d' => obtain ⟨b, e3, r, x, y, z⟩ := k; exact ⟨b, e3, r, x, nb y, z⟩
  | bor d' => exact k
  | scr ns => exact k
end
section
variable {X : Cx} {e a b c tg elt iter : Expr} {es ifs : List Expr} {pos pos' tpos p : Pos} {f fa fb fe : M D} {g ga gb : M Pl} {k : M Rv} {st : Stmt} {sts us : List Stmt} {m m1 m2 : M Fl} {x : Str} {scope : Scope} {own : List (Str × Nat)}
theorem line_lt {n : Nat} (h : n < 100000) : n < sizeLine := Nat.lt_of_lt_of_le h (by decide)
theorem rd_lc {wi : TI} {fi : M (List D)} {t : D → M Unit} {ts vs : List Nat} {mc : M Bool} (hts : ∀ i ∈ ts, i ∈ vs) (hi : RdI X.K wi fi) : RdF X.K (tLc wi (TGv X.K ts t) (TTv X.K mc) (TV X.K fe) vs) (mLc fi t vs mc fe) := by
  intro C G σ H ρ Q hK S r ρ' hf q
  obtain ⟨ds, ρ1, h1, hf2⟩ := bnd_ok hf
  refine hi C G σ H ρ _ hK S ds ρ1 h1 fun J G1 H1 g1 S1 JJ E hE => ?_
  cases hl : lcGo t vs mc fe [] ds (wipeE ρ1 vs) with
  | stuck => rw [hl] at hf2; cases hf2
  | ok accF ρF =>
    rw [hl] at hf2
    cases hf2
    have hBE : C.B E = none := S1.bh.free hE
    have hGE : ∀ {G2 : Hp} {σ2 : L2.St} {H2 : Hp} {ρ2 : Env} {o : HO}, StOk (C.with E o) G2 σ2 H2 ρ2 → G2 E = none := fun {G2 σ2 H2 ρ2 o} S2 => by
      cases q : G2 E with
      | none => rfl
      | some u =>
        rcases S2.ga E (ne_none_of q) with z | z
        · exact absurd (S1.gh.free hE |> S1.g0.free) z
        · exact absurd rfl z.2
    refine ⟨fun i mm H2 => i + mm = ds.length ∧ ∃ G2 ρ2 accV acc, Same G1 G2 ∧ StOk (C.with E (.lst accV)) G2 (L2.wipe σ vs) H2 ρ2 ∧ RpA G2 accV acc ∧ lcGo t vs mc fe acc (ds.drop i) ρ2 = .ok accF ρF,
      ⟨ds.length, by omega, G1, _, [], [], Same.refl _, (S1.enter hE (.lst [])).wipe vs, .nil, by simpa using hl⟩, fun i mm H2 ⟨hm, G2, ρ2, accV, acc, g2, S2, ra, h2⟩ => ?_⟩
    by_cases hlt : i < ds.length
    · have gh2 := S2.gh
      have bh2 : Same C.B H2 := (same_new hBE).trans S2.bh
      refine .inr ⟨JJ.go i G2 H2 bh2 g2 gh2 hlt, fun H3 => ∃ G3 ρ3 accV3 acc3, Same G1 G3 ∧ StOk (C.with E (.lst accV3)) G3 (L2.wipe σ vs) H3 ρ3 ∧ RpA G3 accV3 acc3 ∧ lcGo t vs mc fe acc3 (ds.drop (i + 1)) ρ3 = .ok accF ρF,
        fun H3 ⟨G3, ρ3, accV3, acc3, z1, z2, z3, z4⟩ => ⟨mm - 1, by omega, by omega, G3, ρ3, accV3, acc3, z1, z2, z3, z4⟩, fun y H3 hy => ?_⟩
      have ed : ds[i]? = some ds[i] := List.getElem?_eq_getElem hlt
      obtain ⟨G3, w, ry⟩ := JJ.yld i G2 H2 y H3 _ bh2 g2 gh2 ed hy
      have S3 := S2.grow w
      rw [List.drop_eq_getElem_cons hlt] at h2
      obtain ⟨uu, ρ3, h3, h4⟩ := bnd_ok h2
      refine ⟨C.with E (.lst accV), G3, _, _, ρ3, hK, S3, ry, h3, fun σ4 S4 w4 => ⟨(w4 vs hts).trans wipe_wipe, ?_⟩⟩
      obtain ⟨kk, ρ5, h5, h6⟩ := bnd_ok h4
      refine ⟨C.with E (.lst accV), G3, _, kk, ρ5, hK, S4, h5, fun G5 H5 g5 S5 => ?_⟩
      have ww : L2.wipe σ4 vs = L2.wipe σ vs := (w4 vs hts).trans wipe_wipe
      cases kk with
      | true =>
        show (if true = true then _ else _); rw [if_pos rfl]
        obtain ⟨yd, ρ6, h7, h8⟩ := bnd_ok h6
        refine ⟨C.with E (.lst accV), G5, _, yd, ρ6, hK, S5, h7, fun v6 G6 H6 g6 S6 r6 => ?_⟩
        have hH6 : H6 E = some (.lst accV) := S6.bh E _ upd_same
        have gg : Same G2 G6 := (w.g.trans g5).trans g6
        by_cases hac : acc.length < 100000
        · rw [if_pos hac] at h8
          refine ⟨accV, hH6, by rw [ra.length]; exact line_lt hac, G6, wipeE ρ6 vs, accV ++ [v6], acc ++ [yd], g2.trans gg, ?_, (ra.mono gg).append (.one r6), h8⟩
          have S7 := S6.step (o' := .lst (accV ++ [v6])) (hGE S6) S1.wf hBE
          rw [← ww]
          exact S7.wipe vs
        · rw [if_neg hac] at h8
          cases h8
      | false =>
        show (if false = true then _ else _); rw [if_neg Bool.false_ne_true]
        rw [if_neg Bool.false_ne_true] at h6
        refine ⟨G5, wipeE ρ5 vs, accV, acc, g2.trans (w.g.trans g5), ?_, ra.mono (w.g.trans g5), h6⟩
        rw [← ww]
        exact S5.wipe vs
    · have hi' : i = ds.length := by omega
      rw [List.drop_eq_nil_of_le (by omega)] at h2
      cases h2
      have gh2 := S2.gh
      have bh2 : Same C.B H2 := (same_new hBE).trans S2.bh
      refine .inl ⟨by rw [hi']; exact JJ.stop G2 H2 bh2 g2 gh2, ?_⟩
      have S3 : StOk C G2 (L2.wipe σ vs) H2 _ := S2.exit S1.wf hBE
      have S4 := S1.rest S3 g2
      refine q _ G2 H2 (g1.trans g2) S4 ⟨E, rfl, .lst (S2.bh E _ upd_same) ra, hGE S2, hBE, S1.fr E hE, fun j hj => ?_⟩
      obtain ⟨z1, s, z2, z3⟩ := hj
      by_cases hjv : j ∈ vs
      · have := restE_in hjv z2
        subst this
        rw [keepS_own] at z3; cases z3
      · rw [restE_out hjv] at z2
        obtain ⟨_, _, z4⟩ := Own.tracked S2 (i := j) (a := E) ⟨by rw [wipe_get hjv]; exact z1, s, z2, z3⟩
        have z5 : upd C.B E (.lst accV) E = none := z4
        rw [upd_same] at z5; cases z5
end
end PL
namespace PL
open PySem PySem.Spec L2 RT RZ
section
variable {X : Cx} {e a b c tg elt iter : Expr} {es ifs : List Expr} {pos pos' tpos p : Pos} {f fa fb fe : M D} {g ga gb : M Pl} {k : M Rv} {st : Stmt} {sts us : List Stmt} {m m1 m2 : M Fl} {x : Str} {scope : Scope} {own : List (Str × Nat)}
theorem pts_yes : PTs X [] (TTv X.K mYes) :=
  ⟨fun pins s σ H Q I ⟨C, G, ρ, d, ρ', hK, S, hf, q⟩ => pts_nil.run pins s σ H Q I (by cases hf; exact q G H (Same.refl _) S)⟩
theorem pf_lc {fi : M (List D)} {t : D → M Unit} {ts : List Nat} (hc : X.calm = true) (hN : X.N.Nodup) (hi : PIt X tg iter fi) (ok : BlkOk X.N X.env.scope scope own)
    (hg : ∀ (s : Shared) (H : Hp) (C : Addr) (cl : List (Str × Addr)) (fp : List Addr), PGt (X.blk s H scope (compEnvC scope cl C X.env) fp) tg ts t)
    (he : ∀ (s : Shared) (H : Hp) (C : Addr) (cl : List (Str × Addr)) (fp : List Addr), PV (X.blk s H scope (compEnvC scope cl C X.env) fp) elt fe) (hs : ∀ x, foldedSetIterable iter X.env x = pure x := by intro _; rfl)
    (hts : ∀ i ∈ ts, i ∈ own.map (·.2) := by decide) :
    PF X (.ListComp elt [⟨tg, iter, [], 0⟩] scope pos) (mLc fi t (own.map (·.2)) mYes fe) := by
  obtain ⟨wi, hi, ri⟩ := hi
  exact ⟨_, pe_lc (g := TGv X.K ts t) (tt := TTv X.K mYes) (te := TV X.K fe) hc hN hi ok (fun s H C cl fp => pg_uni (hg s H C cl fp)) (fun _ _ _ _ _ => pts_yes) (fun s H C cl fp => pv_uni (he s H C cl fp)) hs, rd_lc hts ri⟩
theorem pf_lcIf {fi : M (List D)} {t : D → M Unit} {ts : List Nat} {mc : M Bool} (hc : X.calm = true) (hN : X.N.Nodup) (hi : PIt X tg iter fi) (ok : BlkOk X.N X.env.scope scope own)
    (hg : ∀ (s : Shared) (H : Hp) (C : Addr) (cl : List (Str × Addr)) (fp : List Addr), PGt (X.blk s H scope (compEnvC scope cl C X.env) fp) tg ts t)
    (ht : ∀ (s : Shared) (H : Hp) (C : Addr) (cl : List (Str × Addr)) (fp : List Addr), PTt (X.blk s H scope (compEnvC scope cl C X.env) fp) c mc)
    (he : ∀ (s : Shared) (H : Hp) (C : Addr) (cl : List (Str × Addr)) (fp : List Addr), PV (X.blk s H scope (compEnvC scope cl C X.env) fp) elt fe) (hs : ∀ x, foldedSetIterable iter X.env x = pure x := by intro _; rfl)
    (hts : ∀ i ∈ ts, i ∈ own.map (·.2) := by decide) :
    PF X (.ListComp elt [⟨tg, iter, [c], 0⟩] scope pos) (mLc fi t (own.map (·.2)) mc fe) := by
  obtain ⟨wi, hi, ri⟩ := hi
  exact ⟨_, pe_lc (g := TGv X.K ts t) (tt := TTv X.K mc) (te := TV X.K fe) hc hN hi ok (fun s H C cl fp => pg_uni (hg s H C cl fp)) (fun s H C cl fp => pts_one (pt_uni (ht s H C cl fp))) (fun s H C cl fp => pv_uni (he s H C cl fp)) hs, rd_lc hts ri⟩
/-- y = [..] -/
theorem pst_setLc {i : Nat} {y : Str} {py spos : Pos} {fi : M (List D)} {t : D → M Unit} {ts : List Nat} (hc : X.calm = true) (hN : X.N.Nodup) (hy : X.N[i]? = some y) (hyl : X.env.scope.names.lookup y = some .local)
    (hsw : swapsWith (.ListComp elt [⟨tg, iter, [], 0⟩] scope pos) (some (.Name y py)) spos.line X.env = pure true) (hi : PIt X tg iter fi) (ok : BlkOk X.N X.env.scope scope own)
    (hg : ∀ (s : Shared) (H : Hp) (C : Addr) (cl : List (Str × Addr)) (fp : List Addr), PGt (X.blk s H scope (compEnvC scope cl C X.env) fp) tg ts t)
    (he : ∀ (s : Shared) (H : Hp) (C : Addr) (cl : List (Str × Addr)) (fp : List Addr), PV (X.blk s H scope (compEnvC scope cl C X.env) fp) elt fe) (hs : ∀ x, foldedSetIterable iter X.env x = pure x := by intro _; rfl)
    (hts : ∀ i ∈ ts, i ∈ own.map (·.2) := by decide) :
    PSt X (.Assign [.Name y py] (.ListComp elt [⟨tg, iter, [], 0⟩] scope pos) spos) (mSet i (mLc fi t (own.map (·.2)) mYes fe)) := by
  obtain ⟨wi, hi, ri⟩ := hi
  exact ⟨_, ps_setLc (g := TGv X.K ts t) (tt := TTv X.K mYes) (te := TV X.K fe) hc hN hy hyl hsw hi ok (fun s H C cl fp => pg_uni (hg s H C cl fp)) (fun _ _ _ _ _ => pts_yes) (fun s H C cl fp => pv_uni (he s H C cl fp)) hs, rd_set (rd_lc hts ri)⟩
theorem pst_setLcIf {i : Nat} {y : Str} {py spos : Pos} {fi : M (List D)} {t : D → M Unit} {ts : List Nat} {mc : M Bool} (hc : X.calm = true) (hN : X.N.Nodup) (hy : X.N[i]? = some y) (hyl : X.env.scope.names.lookup y = some .local)
    (hsw : swapsWith (.ListComp elt [⟨tg, iter, [c], 0⟩] scope pos) (some (.Name y py)) spos.line X.env = pure true) (hi : PIt X tg iter fi) (ok : BlkOk X.N X.env.scope scope own)
    (hg : ∀ (s : Shared) (H : Hp) (C : Addr) (cl : List (Str × Addr)) (fp : List Addr), PGt (X.blk s H scope (compEnvC scope cl C X.env) fp) tg ts t)
    (ht : ∀ (s : Shared) (H : Hp) (C : Addr) (cl : List (Str × Addr)) (fp : List Addr), PTt (X.blk s H scope (compEnvC scope cl C X.env) fp) c mc)
    (he : ∀ (s : Shared) (H : Hp) (C : Addr) (cl : List (Str × Addr)) (fp : List Addr), PV (X.blk s H scope (compEnvC scope cl C X.env) fp) elt fe) (hs : ∀ x, foldedSetIterable iter X.env x = pure x := by intro _; rfl)
    (hts : ∀ i ∈ ts, i ∈ own.map (·.2) := by decide) :
    PSt X (.Assign [.Name y py] (.ListComp elt [⟨tg, iter, [c], 0⟩] scope pos) spos) (mSet i (mLc fi t (own.map (·.2)) mc fe)) := by
  obtain ⟨wi, hi, ri⟩ := hi
  exact ⟨_, ps_setLc (g := TGv X.K ts t) (tt := TTv X.K mc) (te := TV X.K fe) hc hN hy hyl hsw hi ok (fun s H C cl fp => pg_uni (hg s H C cl fp)) (fun s H C cl fp => pts_one (pt_uni (ht s H C cl fp))) (fun s H C cl fp => pv_uni (he s H C cl fp)) hs, rd_set (rd_lc hts ri)⟩
end
/-! ### what a def promises -/
def runD (nl : Nat) (body : M Fl) (ss : Env) : Option (Rv × Env) := match body (ss ++ List.replicate nl .un) with
  | .ok (.rt r) ρ => some (r, ρ)
  | .ok .nx ρ => some (.pl (.val .none), ρ)
  | _ => none
def spD (K : PySem.W.Frag) (np nl : Nat) (body : M Fl) : Sp := fun vs H Q _ => ∃ (C : Ctx) (ss : Env) (r : Rv) (ρ' : Env), vs.length = np ∧ C.K = K ∧ StOk C C.G0 (vs.map some) H ss ∧ runD nl body ss = some (r, ρ') ∧
  ∀ (v : V) (G' : Hp) (σ' : L2.St) (H' : Hp), Same C.G0 G' → StOk C G' σ' H' ρ' → okR C G' σ' H' ρ' v r → Q v H'
theorem StOk.more {C : Ctx} {G H : Hp} {σ : L2.St} {ρ : Env} (S : StOk C G σ H ρ) (n : Nat) : StOk C G (σ ++ List.replicate n none) H (ρ ++ List.replicate n .un) := by
  have low : ∀ {i : Nat} {s : Sl}, (ρ ++ List.replicate n Sl.un)[i]? = some s → ownK s = true → i < ρ.length := fun {i s} q z => by
    rcases Nat.lt_or_ge i ρ.length with h | h
    · exact h
    · rw [List.getElem?_append_right h] at q
      have := List.mem_of_getElem? q
      rw [List.mem_replicate] at this
      rw [this.2] at z; cases z
  have sub : ∀ {i : Nat} {a : Addr}, Own (σ ++ List.replicate n none) (ρ ++ List.replicate n .un) i a → Own σ ρ i a := fun {i a} ⟨x, s, y, z⟩ => by
    have h := low y z
    rw [List.getElem?_append_left h] at y
    rw [List.getElem?_append_left (by rw [S.len]; exact h)] at x
    exact ⟨x, s, y, z⟩
  refine ⟨S.gh, S.bh, S.g0, S.fr, S.ga, S.wf, by simp [S.len], fun i s q => ?_, fun i j a hi hj => S.ds i j a (sub hi) (sub hj)⟩
  rcases Nat.lt_or_ge i ρ.length with h | h
  · rw [List.getElem?_append_left h] at q
    rw [List.getElem?_append_left (by rw [S.len]; exact h)]
    exact S.sl i s q
  · rw [List.getElem?_append_right h] at q
    have := List.mem_of_getElem? q
    rw [List.mem_replicate] at this
    have hi : i - ρ.length < n := by
      have := (List.getElem?_eq_some_iff.mp q).1
      rwa [List.length_replicate] at this
    refine ⟨none, ?_, ?_⟩
    · rw [List.getElem?_append_right (by rw [S.len]; exact h), S.len, List.getElem?_replicate, if_pos hi]
    · rw [this.2]; trivial
section
variable {P : Program} {w : World} {K : PySem.W.Frag} {mg : Str → Option Value} {base : Heap} {k : Nat} {N ps : List Str} {x qual : Str} {st : Stmt} {f : Addr} {fd : FuncData} {m : M Fl}
/-- a def by its body -/
theorem fn_pl {np nl : Nat} (F : Fun K x qual st f fd) (S : FnScope N ps (defScope st)) (hn : N.length = np + nl) (hp : ps.length = np)
    (hb : ∀ (cdv : Value) (A : Around) (outer : List PySem.Env) (s : Shared) (H : Hp) (E : XK), Room k (A.deeper (PyProof.Rows.envOfC qual (defScope st) s.heap.objs.size f cdv)) →
      PSts (cxOf CX0 P w K mg base N qual (defScope st) f cdv A outer s H E).nox (defBody st) m) : FnOk P w K mg base CX0 (k + 1) f fd ps (spD K np nl m) := by
  refine F.ok S (fun vs H Q E h => ?_) fun cdv A outer s H vs Q E hr h => ?_
  · obtain ⟨C, ss, r, ρ', hl, _⟩ := h
    rw [hl, hp]
  · obtain ⟨C, ss, r, ρ', hl, hK, S0, hrun, q⟩ := h
    obtain ⟨t, ht, rt⟩ := hb cdv A outer s H E hr
    refine ⟨t, ht, ?_⟩
    have e : L2.start N vs = vs.map some ++ List.replicate nl none := by
      unfold L2.start
      rw [hn, hl, Nat.add_sub_cancel_left]
    rw [e]
    have S1 := S0.more nl
    unfold runD at hrun
    cases hm : m (ss ++ List.replicate nl .un) with
    | stuck => rw [hm] at hrun; cases hrun
    | ok fl ρ1 =>
      rw [hm] at hrun
      cases fl with
      | rt r1 => cases hrun; exact rt C C.G0 _ H _ _ hK S1 _ _ hm fun σ' G' H' g S' v o => q v G' σ' H' g S' o
      | nx => cases hrun; exact rt C C.G0 _ H _ _ hK S1 _ _ hm fun σ' G' H' g S' => q .non G' σ' H' g S' .non
      | bk => cases hrun
      | ct => cases hrun
end
/-! ### calls -/
inductive Md where
  | v | b | io | s
def argS (ρ : Env) : Md → Pl → Option Sl
  | .v, .val d => some (.val d)
  | .b, p => (rsv ρ p).map .bor
  | .io, .slot i => match ρ[i]? with
    | some (.own d) => some (.io d)
    | some (.io d) => some (.io d)
    | _ => none
  | .s, .slot i => match ρ[i]? with
    | some (.scr ns) => some (.scr ns)
    | _ => none
  | _, _ => none
def argSs (ρ : Env) : List Md → List Pl → Option Env
  | [], [] => some []
  | m :: ms, p :: ps => match argS ρ m p, argSs ρ ms ps with
    | some s, some ss => some (s :: ss)
    | _, _ => none
  | _, _ => none
/-- the places that are handed in to be changed -/
def ios : List Md → List Pl → List Nat
  | .io :: ms, .slot i :: ps => i :: ios ms ps
  | _ :: ms, _ :: ps => ios ms ps
  | _, _ => []
/-- the places that are handed in to be looked at -/
def nios : List Md → List Pl → List Nat
  | .io :: ms, _ :: ps => nios ms ps
  | _ :: ms, .slot i :: ps => i :: nios ms ps
  | _ :: ms, _ :: ps => nios ms ps
  | _, _ => []
def apart (ms : List Md) (ps : List Pl) : Bool := decide (ios ms ps).Nodup && (nios ms ps).all fun i => decide (i ∉ ios ms ps)
def putIo (ρ : Env) (i : Nat) (d : D) : Option Env := match ρ[i]? with
  | some (.own _) => some (ρ.set i (.own d))
  | some (.io _) => some (ρ.set i (.io d))
  | _ => none
def back1 (ρ : Env) (m : Md) (p : Pl) (s : Sl) : Option Env := match m with
  | .io => match p with
    | .slot i => match s with
      | .io d => putIo ρ i d
      | _ => none
    | .val _ => none
  | _ => some ρ
def backIo (ρ : Env) : List Md → List Pl → List Sl → Option Env
  | m :: ms, p :: ps, s :: ss => match back1 ρ m p s with
    | some ρ1 => backIo ρ1 ms ps ss
    | none => none
  | [], [], [] => some ρ
  | [], [], _ :: _ => some ρ
  | [], _ :: _, _ => none
  | _ :: _, [], _ => none
  | _ :: _, _ :: _, [] => none
def resR (ρ : Env) : Rv → Option Rv
  | .fr d => some (.fr d)
  | .pl (.val d) => some (.pl (.val d))
  | .pl (.slot k) => match ρ[k]? with
    | some (.val d) => some (.pl (.val d))
    | some (.own d) => some (.fr d)
    | some (.bor d) => if atom d = true then some (.pl (.val d)) else none
    | _ => none
/-- what a call comes to, without what is only local there -/
def evalD (ms : List Md) (nl : Nat) (body : M Fl) (ss : Env) : Option (Rv × Env) := match runD nl body ss with
  | some (r, ρ') => match resR ρ' r with
    | some r' => some (r', ρ'.take ms.length)
    | none => none
  | none => none
def callAt (ms : List Md) (nl : Nat) (body : M Fl) (ps : List Pl) : M Rv := fun ρ => if apart ms ps = true then match argSs ρ ms ps with
    | some ss => match evalD ms nl body ss with
      | some ro => match backIo ρ ms ps ro.2 with
        | some ρ2 => .ok ro.1 ρ2
        | none => .stuck
      | none => .stuck
    | none => .stuck
  else .stuck
def mCall (ms : List Md) (nl : Nat) (body : M Fl) (fs : M (List Pl)) : M Rv := bnd fs fun ps => callAt ms nl body ps
end PL
namespace PL
open PySem PySem.Spec L2 RT RZ
theorem okPs.len {G : Hp} {σ : L2.St} : ∀ {vs : List V} {ps : List Pl}, okPs G σ vs ps → vs.length = ps.length
  | _, _, .nil => rfl
  | _, _, .cons _ r => by simp [okPs.len r]
theorem okPs.get {G : Hp} {σ : L2.St} : ∀ {vs : List V} {ps : List Pl} {i : Nat} {p : Pl}, okPs G σ vs ps → ps[i]? = some p → ∃ v, vs[i]? = some v ∧ okP G σ v p
  | _, _, _, _, .nil, h => by simp at h
  | _, _, 0, _, .cons h r, e => by simp at e; subst e; exact ⟨_, rfl, h⟩
  | _, _, i + 1, _, .cons h r, e => by
    have := okPs.get (i := i) r (by simpa using e)
    simpa using this
theorem argSs_len {ρ : Env} : ∀ {ms : List Md} {ps : List Pl} {ss : Env}, argSs ρ ms ps = some ss → ms.length = ps.length ∧ ss.length = ps.length
  | [], [], _, h => by cases h; exact ⟨rfl, rfl⟩
  | [], _ :: _, _, h => by cases h
  | _ :: _, [], _, h => by cases h
  | m :: ms, p :: ps, ss, h => by
    unfold argSs at h
    cases q1 : argS ρ m p with
    | none => rw [q1] at h; cases h
    | some s =>
      cases q2 : argSs ρ ms ps with
      | none => rw [q1, q2] at h; cases h
      | some ss' =>
        rw [q1, q2] at h
        cases h
        obtain ⟨h1, h2⟩ := argSs_len q2
        exact ⟨by simp [h1], by simp [h2]⟩
theorem argSs_get {ρ : Env} : ∀ {ms : List Md} {ps : List Pl} {ss : Env} {i : Nat} {s : Sl}, argSs ρ ms ps = some ss → ss[i]? = some s → ∃ m p, ms[i]? = some m ∧ ps[i]? = some p ∧ argS ρ m p = some s
  | [], [], _, _, _, h, e => by cases h; simp at e
  | [], _ :: _, _, _, _, h, _ => by cases h
  | _ :: _, [], _, _, _, h, _ => by cases h
  | m :: ms, p :: ps, ss, i, s, h, e => by
    unfold argSs at h
    cases q1 : argS ρ m p with
    | none => rw [q1] at h; cases h
    | some s' =>
      cases q2 : argSs ρ ms ps with
      | none => rw [q1, q2] at h; cases h
      | some ss' =>
        rw [q1, q2] at h
        cases h
        cases i with
        | zero => simp at e; subst e; exact ⟨m, p, rfl, rfl, q1⟩
        | succ i =>
          obtain ⟨m', p', h1, h2, h3⟩ := argSs_get q2 (i := i) (by simpa using e)
          exact ⟨m', p', by simpa using h1, by simpa using h2, h3⟩
theorem ios_mem : ∀ {ms : List Md} {ps : List Pl} {i j : Nat}, ms[i]? = some .io → ps[i]? = some (.slot j) → j ∈ ios ms ps
  | [], _, _, _, h, _ => by simp at h
  | _ :: _, [], _, _, _, h => by simp at h
  | m :: ms, p :: ps, 0, j, h1, h2 => by
    simp at h1 h2; subst h1; subst h2
    exact List.mem_cons_self
  | m :: ms, p :: ps, i + 1, j, h1, h2 => by
    have := ios_mem (ms := ms) (ps := ps) (i := i) (j := j) (by simpa using h1) (by simpa using h2)
    cases m with
    | io => cases p with
      | slot k => exact List.mem_cons_of_mem _ this
      | val d => exact this
    | _ => exact this
theorem nios_mem : ∀ {ms : List Md} {ps : List Pl} {i j : Nat} {m : Md}, ms[i]? = some m → m ≠ .io → ps[i]? = some (.slot j) → j ∈ nios ms ps
  | [], _, _, _, _, h, _, _ => by simp at h
  | _ :: _, [], _, _, _, _, _, h => by simp at h
  | m :: ms, p :: ps, 0, j, m', h1, hm, h2 => by
    simp at h1 h2; subst h1; subst h2
    cases m with
    | io => exact absurd rfl hm
    | _ => exact List.mem_cons_self
  | m :: ms, p :: ps, i + 1, j, m', h1, hm, h2 => by
    have := nios_mem (ms := ms) (ps := ps) (i := i) (j := j) (by simpa using h1) hm (by simpa using h2)
    cases m with
    | io => exact this
    | _ => cases p with
      | slot k => exact List.mem_cons_of_mem _ this
      | val d => exact this
theorem ios_inj : ∀ {ms : List Md} {ps : List Pl} {i i' j : Nat}, (ios ms ps).Nodup → ms[i]? = some .io → ps[i]? = some (.slot j) → ms[i']? = some .io → ps[i']? = some (.slot j) → i = i'
  | [], _, _, _, _, _, h, _, _, _ => by simp at h
  | _ :: _, [], _, _, _, _, _, h, _, _ => by simp at h
  | m :: ms, p :: ps, 0, 0, _, _, _, _, _, _ => rfl
  | m :: ms, p :: ps, 0, i' + 1, j, nd, h1, h2, h3, h4 => by
    simp at h1 h2; subst h1; subst h2
    have := ios_mem (ms := ms) (ps := ps) (i := i') (j := j) (by simpa using h3) (by simpa using h4)
    have nd' : (j :: ios ms ps).Nodup := nd
    exact absurd this (List.nodup_cons.mp nd').1
  | m :: ms, p :: ps, i + 1, 0, j, nd, h1, h2, h3, h4 => by
    simp at h3 h4; subst h3; subst h4
    have := ios_mem (ms := ms) (ps := ps) (i := i) (j := j) (by simpa using h1) (by simpa using h2)
    have nd' : (j :: ios ms ps).Nodup := nd
    exact absurd this (List.nodup_cons.mp nd').1
  | m :: ms, p :: ps, i + 1, i' + 1, j, nd, h1, h2, h3, h4 => by
    have nd' : (ios ms ps).Nodup := by
      cases m with
      | io => cases p with
        | slot k => exact (List.nodup_cons.mp nd).2
        | val d => exact nd
      | _ => exact nd
    exact congrArg _ (ios_inj nd' (by simpa using h1) (by simpa using h2) (by simpa using h3) (by simpa using h4))
theorem putIo_ok {ρ ρ1 : Env} {i : Nat} {d : D} (h : putIo ρ i d = some ρ1) : ∃ s s', ρ[i]? = some s ∧ ρ1 = ρ.set i s' ∧ ((∃ d0, s = .own d0 ∧ s' = .own d) ∨ (∃ d0, s = .io d0 ∧ s' = .io d)) := by
  unfold putIo at h
  cases q : ρ[i]? with
  | none => rw [q] at h; cases h
  | some s =>
    rw [q] at h
    cases s with
    | own d0 => cases h; exact ⟨_, _, rfl, rfl, .inl ⟨d0, rfl, rfl⟩⟩
    | io d0 => cases h; exact ⟨_, _, rfl, rfl, .inr ⟨d0, rfl, rfl⟩⟩
    | _ => cases h
theorem back1_ok {ρ ρ1 : Env} {m : Md} {p : Pl} {s : Sl} (h : back1 ρ m p s = some ρ1) : (m ≠ .io ∧ ρ1 = ρ) ∨ ∃ i d, m = .io ∧ p = .slot i ∧ s = .io d ∧ putIo ρ i d = some ρ1 := by
  unfold back1 at h
  cases m with
  | io => cases p with
    | val d => cases h
    | slot i => cases s with
      | io d => exact .inr ⟨i, d, rfl, rfl, rfl, h⟩
      | _ => cases h
  | v => cases h; exact .inl ⟨(fun z => nomatch z), rfl⟩
  | b => cases h; exact .inl ⟨(fun z => nomatch z), rfl⟩
  | s => cases h; exact .inl ⟨(fun z => nomatch z), rfl⟩
theorem backIo_cons {ρ ρ2 : Env} {m : Md} {ms : List Md} {p : Pl} {ps : List Pl} {ss : List Sl} (h : backIo ρ (m :: ms) (p :: ps) ss = some ρ2) : ∃ s ss' ρ1, ss = s :: ss' ∧ back1 ρ m p s = some ρ1 ∧ backIo ρ1 ms ps ss' = some ρ2 := by
  cases ss with
  | nil => simp [backIo] at h
  | cons s ss' =>
    simp only [backIo] at h
    cases q : back1 ρ m p s with
    | none => rw [q] at h; cases h
    | some ρ1 => rw [q] at h; exact ⟨s, ss', ρ1, rfl, q, h⟩
theorem ios_io {ms : List Md} {ps : List Pl} {i : Nat} : ios (.io :: ms) (.slot i :: ps) = i :: ios ms ps := rfl
theorem ios_no {m : Md} {ms : List Md} {p : Pl} {ps : List Pl} (h : m ≠ .io) : ios (m :: ms) (p :: ps) = ios ms ps := by
  cases m with
  | io => exact absurd rfl h
  | _ => rfl
theorem backIo_out : ∀ {ms : List Md} {ps : List Pl} {ss ρ ρ2 : Env} {j : Nat}, backIo ρ ms ps ss = some ρ2 → j ∉ ios ms ps → ρ2[j]? = ρ[j]? := by
  intro ms
  induction ms with
  | nil =>
    intro ps ss ρ ρ2 j h _
    cases ps with
    | nil => cases ss <;> simp [backIo] at h <;> rw [h]
    | cons p ps => simp [backIo] at h
  | cons m ms ih =>
    intro ps ss ρ ρ2 j h hj
    cases ps with
    | nil => simp [backIo] at h
    | cons p ps =>
      obtain ⟨s, ss', ρ1, rfl, h1, h2⟩ := backIo_cons h
      rcases back1_ok h1 with ⟨hm, rfl⟩ | ⟨i, d, rfl, rfl, rfl, hp⟩
      · rw [ios_no hm] at hj
        exact ih h2 hj
      · rw [ios_io] at hj
        obtain ⟨s, s', _, rfl, _⟩ := putIo_ok hp
        rw [ih h2 fun z => hj (List.mem_cons_of_mem _ z), List.getElem?_set_ne fun z => hj (by rw [z]; exact List.mem_cons_self)]
theorem backIo_len : ∀ {ms : List Md} {ps : List Pl} {ss ρ ρ2 : Env}, backIo ρ ms ps ss = some ρ2 → ρ2.length = ρ.length := by
  intro ms
  induction ms with
  | nil =>
    intro ps ss ρ ρ2 h
    cases ps with
    | nil => cases ss <;> simp [backIo] at h <;> rw [h]
    | cons p ps => simp [backIo] at h
  | cons m ms ih =>
    intro ps ss ρ ρ2 h
    cases ps with
    | nil => simp [backIo] at h
    | cons p ps =>
      obtain ⟨s, ss', ρ1, rfl, h1, h2⟩ := backIo_cons h
      rcases back1_ok h1 with ⟨hm, rfl⟩ | ⟨i, d, rfl, rfl, rfl, hp⟩
      · exact ih h2
      · obtain ⟨s, s', _, rfl, _⟩ := putIo_ok hp
        rw [ih h2, List.length_set]
theorem backIo_in : ∀ {ms : List Md} {ps : List Pl} {ss ρ ρ2 : Env} {j : Nat}, backIo ρ ms ps ss = some ρ2 → (ios ms ps).Nodup → j ∈ ios ms ps →
    ∃ (i : Nat) (d : D) (s s' : Sl), ms[i]? = some Md.io ∧ ps[i]? = some (Pl.slot j) ∧ ss[i]? = some (Sl.io d) ∧ ρ[j]? = some s ∧ ρ2[j]? = some s' ∧ ((∃ d0, s = .own d0 ∧ s' = .own d) ∨ (∃ d0, s = .io d0 ∧ s' = .io d)) := by
  intro ms
  induction ms with
  | nil =>
    intro ps ss ρ ρ2 j h nd hj
    cases ps <;> cases hj
  | cons m ms ih =>
    intro ps ss ρ ρ2 j h nd hj
    cases ps with
    | nil => simp [backIo] at h
    | cons p ps =>
      obtain ⟨s, ss', ρ1, rfl, h1, h2⟩ := backIo_cons h
      rcases back1_ok h1 with ⟨hm, rfl⟩ | ⟨i, d, rfl, rfl, rfl, hp⟩
      · rw [ios_no hm] at hj nd
        obtain ⟨i2, d2, s2, s2', a1, a2, a3, r⟩ := ih h2 nd hj
        exact ⟨i2 + 1, d2, s2, s2', by simpa using a1, by simpa using a2, by simpa using a3, r⟩
      · rw [ios_io] at hj nd
        obtain ⟨n1, n2⟩ := List.nodup_cons.mp nd
        obtain ⟨s, s', e, rfl, k⟩ := putIo_ok hp
        have hi : i < ρ.length := (List.getElem?_eq_some_iff.mp e).1
        by_cases hji : j = i
        · subst hji
          refine ⟨0, d, s, s', rfl, rfl, rfl, e, ?_, k⟩
          rw [backIo_out h2 n1, List.getElem?_set_self hi]
        · have hj' : j ∈ ios ms ps := by
            cases hj with
            | head => exact absurd rfl hji
            | tail _ z => exact z
          obtain ⟨i2, d2, s2, s2', a1, a2, a3, a4, r⟩ := ih h2 n2 hj'
          rw [List.getElem?_set_ne (fun z => hji z.symm)] at a4
          exact ⟨i2 + 1, d2, s2, s2', by simpa using a1, by simpa using a2, by simpa using a3, a4, r⟩
theorem Rp.tracked {G : Hp} {a : Addr} {d : D} (h : Rp G (.ref a) d) : G a ≠ none := by
  cases h with
  | lst h r => exact ne_none_of h
  | tup h r => exact ne_none_of h
  | dct h r => exact ne_none_of h
section
variable {C : Ctx} {G H : Hp} {σ : L2.St} {ρ : Env} {vs : List V} {ps : List Pl} {ms : List Md} {ss : Env}
def IoA (σ : L2.St) (ms : List Md) (ps : List Pl) (a : Addr) : Prop := ∃ j ∈ ios ms ps, σ[j]? = some (some (.ref a))
open Classical in
noncomputable def callC (C : Ctx) (G H : Hp) (σ : L2.St) (vs : List V) (ms : List Md) (ps : List Pl) (ss : Env) : Ctx :=
  { K := C.K, G0 := G, B := fun a => if IoA σ ms ps a then none else H a, A := fun a => H a = none, P := fun i => vs[i]?, S := fun i => ss.getD i .un }
theorem ios_arg : ∀ {ms : List Md} {ps : List Pl} {j : Nat}, j ∈ ios ms ps → ∃ (i : Nat), ms[i]? = some Md.io ∧ ps[i]? = some (Pl.slot j)
  | [], _, _, h => by cases h
  | .io :: ms, .slot i :: ps, j, h => by
    have h' : j ∈ i :: ios ms ps := h
    cases h' with
    | head => exact ⟨0, rfl, rfl⟩
    | tail _ z => obtain ⟨k, h1, h2⟩ := ios_arg z; exact ⟨k + 1, by simpa using h1, by simpa using h2⟩
  | .io :: ms, .val _ :: ps, j, h => by obtain ⟨k, h1, h2⟩ := ios_arg (ms := ms) (ps := ps) h; exact ⟨k + 1, by simpa using h1, by simpa using h2⟩
  | .v :: ms, p :: ps, j, h => by obtain ⟨k, h1, h2⟩ := ios_arg (ms := ms) (ps := ps) h; exact ⟨k + 1, by simpa using h1, by simpa using h2⟩
  | .b :: ms, p :: ps, j, h => by obtain ⟨k, h1, h2⟩ := ios_arg (ms := ms) (ps := ps) h; exact ⟨k + 1, by simpa using h1, by simpa using h2⟩
  | .s :: ms, p :: ps, j, h => by obtain ⟨k, h1, h2⟩ := ios_arg (ms := ms) (ps := ps) h; exact ⟨k + 1, by simpa using h1, by simpa using h2⟩
  | .io :: ms, [], j, h => by cases h
  | .v :: ms, [], j, h => by cases h
  | .b :: ms, [], j, h => by cases h
  | .s :: ms, [], j, h => by cases h
theorem getE {ms : List Md} {ps : List Pl} (ha : argSs ρ ms ps = some ss) {i : Nat} {p : Pl} {m : Md} (hp : ps[i]? = some p) (hm : ms[i]? = some m) : ∃ s, ss[i]? = some s ∧ argS ρ m p = some s := by
  obtain ⟨l1, l2⟩ := argSs_len ha
  have hi : i < ps.length := (List.getElem?_eq_some_iff.mp hp).1
  have e : ss[i]? = some (ss[i]'(by omega)) := List.getElem?_eq_getElem _
  obtain ⟨m', p', h1, h2, h3⟩ := argSs_get ha e
  rw [hp] at h2; cases h2
  rw [hm] at h1; cases h1
  exact ⟨_, e, h3⟩
/-- what is handed in to be changed is somebody's own -/
theorem io_own (ha : argSs ρ ms ps = some ss) {i j : Nat} (hm : ms[i]? = some .io) (hp : ps[i]? = some (.slot j)) : ∃ s d, ρ[j]? = some s ∧ ownK s = true ∧ (s = .own d ∨ s = .io d) ∧ ss[i]? = some (.io d) := by
  obtain ⟨s, e, h⟩ := getE ha hp hm
  unfold argS at h
  simp only at h
  cases q : ρ[j]? with
  | none => rw [q] at h; cases h
  | some s0 =>
    rw [q] at h
    cases s0 with
    | own d => cases h; exact ⟨_, d, rfl, rfl, .inl rfl, e⟩
    | io d => cases h; exact ⟨_, d, rfl, rfl, .inr rfl, e⟩
    | _ => cases h
theorem IoA.own (ha : argSs ρ ms ps = some ss) {a : Addr} (h : IoA σ ms ps a) : ∃ j ∈ ios ms ps, Own σ ρ j a := by
  obtain ⟨j, hj, e⟩ := h
  obtain ⟨i, h1, h2⟩ := ios_arg hj
  obtain ⟨s, d, q, k, _⟩ := io_own ha h1 h2
  exact ⟨j, hj, e, s, q, k⟩
theorem call_start (S : StOk C G σ H ρ) (o : okPs G σ vs ps) (ap : apart ms ps = true) (ha : argSs ρ ms ps = some ss) : StOk (callC C G H σ vs ms ps ss) G (vs.map some) H ss := by
  obtain ⟨l1, l2⟩ := argSs_len ha
  have lv := o.len
  unfold apart at ap
  simp only [Bool.and_eq_true, decide_eq_true_eq, List.all_eq_true] at ap
  obtain ⟨nd, dis⟩ := ap
  have Bio : ∀ {a : Addr}, IoA σ ms ps a → (callC C G H σ vs ms ps ss).B a = none := fun {a} h => if_pos h
  have Bno : ∀ {a : Addr}, ¬ IoA σ ms ps a → (callC C G H σ vs ms ps ss).B a = H a := fun {a} h => if_neg h
  have CB : Same C.B (callC C G H σ vs ms ps ss).B := fun a u q => by
    rw [Bno fun h => ?_]
    · exact S.bh a u q
    · obtain ⟨j, _, ow⟩ := IoA.own ha h
      rw [(Own.tracked S ow).2.2] at q; cases q
  have sg : ∀ {i : Nat} {s : Sl}, ss[i]? = some s → ss.getD i .un = s := fun {i s} e => by rw [List.getD_eq_getElem?_getD, e]; rfl
  -- what is but looked at isn't what is changed
  have far : ∀ {i : Nat} {m : Md} {p : Pl} {v : V} {a : Addr}, ms[i]? = some m → m ≠ .io → ps[i]? = some p → okP G σ v p → v = .ref a → (∃ d, rsv ρ p = some d) → ¬ IoA σ ms ps a := by
    intro i m p v a hm hne hp ho hv hd h
    subst hv
    obtain ⟨j', hj', ow⟩ := IoA.own ha h
    obtain ⟨t1, t2, t3⟩ := Own.tracked S ow
    cases p with
    | val d => exact (Rp.tracked (show Rp G (.ref a) d from ho)) t2
    | slot j =>
      have hσ : σ[j]? = some (some (.ref a)) := ho
      have hjn : j ∉ ios ms ps := by
        have := dis j (nios_mem hm hne hp)
        exact this
      obtain ⟨d, hd⟩ := hd
      simp only [rsv] at hd
      cases q : ρ[j]? with
      | none => rw [q] at hd; cases hd
      | some s =>
        rw [q] at hd
        have k := S.get q hσ
        cases s with
        | un => cases hd
        | scr ns => cases hd
        | val d' => obtain ⟨w, e, r⟩ := k; cases e; exact r.tracked t2
        | own d' => exact hjn (by rw [S.ds j j' a ⟨hσ, _, q, rfl⟩ ow]; exact hj')
        | io d' => exact hjn (by rw [S.ds j j' a ⟨hσ, _, q, rfl⟩ ow]; exact hj')
        | bor d' =>
          obtain ⟨w, e, p1, p2⟩ := k
          cases e
          have w := S.wf j _ p1
          rw [p2] at w
          exact (Sh.tracked (show Sh C.G0 C.B (.ref a) d' from w)) t3
  refine ⟨S.gh, fun a u q => ?_, Same.refl _, fun a q => q, fun a q => .inl q, fun i v q => ?_, by rw [List.length_map, lv, l2], fun i s e => ?_, fun i j a hi hj => ?_⟩
  · by_cases h : IoA σ ms ps a
    · rw [Bio h] at q; cases q
    · rw [Bno h] at q; exact q
  · -- wf
    have q' : vs[i]? = some v := q
    show BorOk C.K G (callC C G H σ vs ms ps ss).B v (ss.getD i .un)
    have hi : i < ps.length := by rw [← lv]; exact (List.getElem?_eq_some_iff.mp q').1
    have e : ss[i]? = some (ss[i]'(by omega)) := List.getElem?_eq_getElem _
    rw [sg e]
    generalize ss[i]'(by omega) = s at e
    obtain ⟨m, p, h1, h2, h3⟩ := argSs_get ha e
    obtain ⟨v', hv', ho⟩ := o.get h2
    rw [q'] at hv'; cases hv'
    cases s with
    | bor d =>
      cases m with
      | b =>
        simp only [argS] at h3
        cases r : rsv ρ p with
        | none => rw [r] at h3; cases h3
        | some d' =>
          rw [r] at h3
          cases h3
          refine (rsv_ok S ho r).at (Same.refl _) fun a ea u hu => ?_
          rw [Bno (far h1 (fun z => nomatch z) h2 ho ea ⟨_, r⟩)]
          exact hu
      | v => cases p <;> cases h3
      | io => cases p with
        | val d' => cases h3
        | slot j => simp only [argS] at h3; split at h3 <;> cases h3
      | s => cases p with
        | val d' => cases h3
        | slot j => simp only [argS] at h3; split at h3 <;> cases h3
    | scr ns =>
      cases m with
      | b =>
        simp only [argS] at h3
        cases r : rsv ρ p with
        | none => rw [r] at h3; cases h3
        | some d' => rw [r] at h3; cases h3
      | v => cases p <;> cases h3
      | io => cases p with
        | val d' => cases h3
        | slot j => simp only [argS] at h3; split at h3 <;> cases h3
      | s => cases p with
        | val d' => cases h3
        | slot j =>
          simp only [argS] at h3
          cases r : ρ[j]? with
          | none => rw [r] at h3; cases h3
          | some s0 =>
            rw [r] at h3
            cases s0 with
            | scr ns' =>
              cases h3
              obtain ⟨w, e, p1, p2⟩ := S.get r (show σ[j]? = some (some v) from ho)
              cases e
              have w := S.wf j _ p1
              rw [p2] at w
              obtain ⟨a, ea, sq⟩ := w
              exact ⟨a, ea, Same.seq CB sq⟩
            | _ => cases h3
    | _ => trivial
  · obtain ⟨m, p, h1, h2, h3⟩ := argSs_get ha e
    obtain ⟨v, hv, ho⟩ := o.get h2
    refine ⟨some v, by rw [List.getElem?_map, hv]; rfl, ?_⟩
    have hP : (callC C G H σ vs ms ps ss).P i = some v := hv
    have hS : (callC C G H σ vs ms ps ss).S i = s := sg e
    cases s with
    | un => trivial
    | val d =>
      cases m with
      | v => cases p with
        | val d' => cases h3; exact ⟨v, rfl, ho⟩
        | slot j => cases h3
      | b => simp only [argS] at h3; cases r : rsv ρ p with
        | none => rw [r] at h3; cases h3
        | some d' => rw [r] at h3; cases h3
      | io => cases p with
        | val d' => cases h3
        | slot j => simp only [argS] at h3; split at h3 <;> cases h3
      | s => cases p with
        | val d' => cases h3
        | slot j => simp only [argS] at h3; split at h3 <;> cases h3
    | own d =>
      cases m with
      | v => cases p <;> cases h3
      | b => simp only [argS] at h3; cases r : rsv ρ p with
        | none => rw [r] at h3; cases h3
        | some d' => rw [r] at h3; cases h3
      | io => cases p with
        | val d' => cases h3
        | slot j => simp only [argS] at h3; split at h3 <;> cases h3
      | s => cases p with
        | val d' => cases h3
        | slot j => simp only [argS] at h3; split at h3 <;> cases h3
    | bor d => exact ⟨v, rfl, hP, hS⟩
    | scr ns => exact ⟨v, rfl, hP, hS⟩
    | io d =>
      cases m with
      | v => cases p <;> cases h3
      | b => simp only [argS] at h3; cases r : rsv ρ p with
        | none => rw [r] at h3; cases h3
        | some d' => rw [r] at h3; cases h3
      | s => cases p with
        | val d' => cases h3
        | slot j => simp only [argS] at h3; split at h3 <;> cases h3
      | io => cases p with
        | val d' => cases h3
        | slot j =>
          obtain ⟨s0, d0, q, kk, sd, e'⟩ := io_own ha h1 h2
          rw [e] at e'; cases e'
          have k := S.get q (show σ[j]? = some (some v) from ho)
          have fin : ∀ {a : Addr}, v = .ref a → Sh G H (.ref a) d → G a = none → SlOk (callC C G H σ vs ms ps ss) G H i (some v) (.io d) := fun {a} ea sh gn => by
            subst ea
            exact ⟨a, rfl, sh, gn, Bio ⟨j, ios_mem h1 h2, ho⟩, hP⟩
          rcases sd with rfl | rfl
          · obtain ⟨a, ea, sh, gn, _⟩ := k
            exact fin (Option.some.inj ea) sh gn
          · obtain ⟨a, ea, sh, gn, _⟩ := k
            exact fin (Option.some.inj ea) sh gn
  · -- two names for one object
    have pick : ∀ {i : Nat}, Own (vs.map some) ss i a → ∃ j, ms[i]? = some .io ∧ ps[i]? = some (.slot j) ∧ Own σ ρ j a := by
      intro i ⟨x, s, y, z⟩
      obtain ⟨m, p, h1, h2, h3⟩ := argSs_get ha y
      obtain ⟨v, hv, ho⟩ := o.get h2
      rw [List.getElem?_map, hv] at x
      cases x
      cases m with
      | v => cases p with
        | val d' => cases h3; cases z
        | slot j => cases h3
      | b => simp only [argS] at h3; cases r : rsv ρ p with
        | none => rw [r] at h3; cases h3
        | some d' => rw [r] at h3; cases h3; cases z
      | s => cases p with
        | val d' => cases h3
        | slot j => simp only [argS] at h3; split at h3 <;> cases h3 <;> cases z
      | io => cases p with
        | val d' => cases h3
        | slot j =>
          obtain ⟨s0, d0, q, kk, _⟩ := io_own ha h1 h2
          exact ⟨j, h1, h2, ho, s0, q, kk⟩
    obtain ⟨j1, a1, a2, a3⟩ := pick hi
    obtain ⟨j2, b1, b2, b3⟩ := pick hj
    have ej := S.ds j1 j2 a a3 b3
    subst ej
    exact ios_inj nd a1 a2 b1 b2
theorem call_end {G' H' : Hp} {σ' : L2.St} {ρ' ρ2 : Env} (S : StOk C G σ H ρ) (o : okPs G σ vs ps) (ap : apart ms ps = true) (ha : argSs ρ ms ps = some ss) (S' : StOk (callC C G H σ vs ms ps ss) G' σ' H' ρ') (g : Same G G') (hb : backIo ρ ms ps ρ' = some ρ2) :
    StOk C G' σ H' ρ2 := by
  unfold apart at ap
  simp only [Bool.and_eq_true, decide_eq_true_eq, List.all_eq_true] at ap
  obtain ⟨nd, dis⟩ := ap
  have Bno : ∀ {a : Addr}, ¬ IoA σ ms ps a → (callC C G H σ vs ms ps ss).B a = H a := fun {a} h => if_neg h
  have CB : Same C.B (callC C G H σ vs ms ps ss).B := fun a u q => by
    rw [Bno fun h => ?_]
    · exact S.bh a u q
    · obtain ⟨j, _, ow⟩ := IoA.own ha h
      rw [(Own.tracked S ow).2.2] at q; cases q
  have trk : ∀ {a : Addr}, H' a = none → H a = none := fun {a} q => S'.fr a q
  have gnew : ∀ {a : Addr}, G' a ≠ none → G a ≠ none ∨ H a = none := fun {a} q => S'.ga a q
  have still : ∀ {a : Addr}, H a ≠ none → G a = none → G' a = none := fun {a} h1 h2 => by
    cases q : G' a with
    | none => rfl
    | some u => exact ((gnew (ne_none_of q)).elim (fun z => (z h2).elim) fun z => (h1 z).elim)
  have kind : ∀ {j : Nat} {s2 : Sl}, ρ2[j]? = some s2 → ownK s2 = true → ∃ s, ρ[j]? = some s ∧ ownK s = true := fun {j s2} q z => by
    by_cases hj : j ∈ ios ms ps
    · obtain ⟨i, d, s, s', h1, h2, h3, h4, h5, h6⟩ := backIo_in hb nd hj
      refine ⟨s, h4, ?_⟩
      rcases h6 with ⟨_, rfl, _⟩ | ⟨_, rfl, _⟩ <;> rfl
    · rw [backIo_out hb hj] at q
      exact ⟨s2, q, z⟩
  refine ⟨S'.gh, CB.trans S'.bh, S.g0.trans g, fun a q => S.fr a (trk q), fun a q => (gnew q).elim (S.ga a) fun z => .inr (S.fr a z), S.wf, by rw [backIo_len hb]; exact S.len, fun j s2 q => ?_, fun i j a ⟨x, s, y, z⟩ ⟨x', s', y', z'⟩ => ?_⟩
  · by_cases hj : j ∈ ios ms ps
    · obtain ⟨i, d, s, s', h1, h2, h3, h4, h5, h6⟩ := backIo_in hb nd hj
      rw [q] at h5; cases h5
      obtain ⟨oo, e1, k1⟩ := S'.sl i _ h3
      obtain ⟨a, rfl, sh, gn, _, hP⟩ := k1
      obtain ⟨v, hv, ho⟩ := o.get h2
      have hP' : vs[i]? = some (.ref a) := hP
      rw [hP'] at hv; cases hv
      have hσ : σ[j]? = some (some (.ref a)) := ho
      have k := S.get h4 hσ
      refine ⟨_, hσ, ?_⟩
      rcases h6 with ⟨d0, rfl, rfl⟩ | ⟨d0, rfl, rfl⟩
      · obtain ⟨b, eb, _, _, y, z⟩ := k
        cases eb
        exact ⟨_, rfl, sh, gn, y, z⟩
      · obtain ⟨b, eb, _, _, y, z⟩ := k
        cases eb
        exact ⟨_, rfl, sh, gn, y, z⟩
    · rw [backIo_out hb hj] at q
      obtain ⟨oo, e1, k⟩ := S.sl j s2 q
      refine ⟨oo, e1, ?_⟩
      have keep : ∀ {a : Addr}, oo = some (.ref a) → ownK s2 = true → ∀ u, H a = some u → H' a = some u := fun {a} ea kk u hu => by
        subst ea
        refine S'.bh a u ?_
        rw [Bno fun h => ?_]
        · exact hu
        · obtain ⟨j', hj', ow⟩ := IoA.own ha h
          exact hj (by rw [S.ds j j' a ⟨e1, s2, q, kk⟩ ow]; exact hj')
      cases s2 with
      | un => trivial
      | val d => obtain ⟨v, e, r⟩ := k; exact ⟨v, e, r.mono g⟩
      | own d =>
        obtain ⟨b, e3, r, x, y, z⟩ := k
        exact ⟨b, e3, r.at g fun c ec u hu => by cases ec; exact keep e3 rfl u hu, still r.tracked x, y, z⟩
      | io d =>
        obtain ⟨b, e3, r, x, y, z⟩ := k
        exact ⟨b, e3, r.at g fun c ec u hu => by cases ec; exact keep e3 rfl u hu, still r.tracked x, y, z⟩
      | bor d => exact k
      | scr ns => exact k
  · obtain ⟨t, t1, t2⟩ := kind y z
    obtain ⟨t', t1', t2'⟩ := kind y' z'
    exact S.ds i j a ⟨x, t, t1, t2⟩ ⟨x', t', t1', t2'⟩
end
theorem backIo_take : ∀ {ms : List Md} {ps : List Pl} {ρ ss : Env}, ms.length = ps.length → backIo ρ ms ps (ss.take ms.length) = backIo ρ ms ps ss
  | [], [], _, ss, _ => by cases ss <;> rfl
  | m :: ms, p :: ps, ρ, [], _ => rfl
  | m :: ms, p :: ps, ρ, s :: ss, h => by
    show backIo ρ (m :: ms) (p :: ps) (s :: ss.take ms.length) = _
    simp only [backIo]
    cases back1 ρ m p s with
    | none => rfl
    | some ρ1 => exact backIo_take (by simpa using h)
theorem evalD_inv {ms : List Md} {nl : Nat} {body : M Fl} {ss : Env} {ro : Rv × Env} (h : evalD ms nl body ss = some ro) : ∃ r ρ', runD nl body ss = some (r, ρ') ∧ resR ρ' r = some ro.1 ∧ ro.2 = ρ'.take ms.length := by
  unfold evalD at h
  cases h1 : runD nl body ss with
  | none => rw [h1] at h; cases h
  | some x =>
    obtain ⟨r, ρ'⟩ := x
    rw [h1] at h
    simp only at h
    cases h2 : resR ρ' r with
    | none => rw [h2] at h; cases h
    | some r2 => rw [h2] at h; cases h; exact ⟨r, ρ', rfl, h2, rfl⟩
section
variable {X : Cx} {e : Expr} {es : List Expr} {pos p : Pos} {x : Str} {k : Nat} {f : Addr} {fd : FuncData} {ps : List Str} {np nl : Nat} {m : M Fl} {ms : List Md} {fs : M (List Pl)}
theorem rd_call {E : XK} {t : TA} (ra : RdPs X.K t fs) (hl : ms.length = np) : RdF X.K (tCall (spD X.K np nl m) [] E t) (mCall ms nl m fs) := by
  intro C G σ H ρ Q hK S r' ρ2 hf q
  obtain ⟨pl, ρ1, h1, hf2⟩ := bnd_ok hf
  refine ra C G σ H ρ _ hK S pl ρ1 h1 fun vs G1 H1 g1 S1 o => ?_
  unfold callAt at hf2
  by_cases ap : apart ms pl = true
  · rw [if_pos ap] at hf2
    cases ha2 : argSs ρ1 ms pl with
    | none => rw [ha2] at hf2; cases hf2
    | some ss =>
      rw [ha2] at hf2
      simp only at hf2
      cases hev : evalD ms nl m ss with
      | none => rw [hev] at hf2; cases hf2
      | some ro =>
        rw [hev] at hf2
        simp only at hf2
        obtain ⟨r, ρ', hrun, hres, hout⟩ := evalD_inv hev
        obtain ⟨r2, outs⟩ := ro
        simp only at hf2 hres hout
        cases hbk0 : backIo ρ1 ms pl outs with
        | none => rw [hbk0] at hf2; cases hf2
        | some ρ3 =>
            rw [hbk0] at hf2
            cases hf2
            have hbk : backIo ρ1 ms pl ρ' = some ρ2 := by
              rw [hout, backIo_take (argSs_len ha2).1] at hbk0
              exact hbk0
            obtain ⟨l1, l2⟩ := argSs_len ha2
            refine ⟨callC C G1 H1 σ vs ms pl ss, ss, r, ρ', by rw [List.append_nil, o.len, ← l1, hl], hK, ?_, hrun, fun v G' σ' H' g S' rok => ?_⟩
            · rw [List.append_nil]
              exact call_start S1 o ap ha2
            · have S2 := call_end S1 o ap ha2 S' g hbk
              refine q v G' H' (g1.trans g) S2 ?_
              have fresh : ∀ {a : Addr} {d : D}, v = .ref a → Sh G' H' (.ref a) d → G' a = none → H1 a = none → okR C G' σ H' ρ2 v (.fr d) := fun {a d} ea sh gn hn => by
                refine ⟨a, ea, sh, gn, S1.bh.free hn, S1.fr a hn, fun j ow => ?_⟩
                obtain ⟨z1, s, z2, z3⟩ := ow
                have ap' := ap
                unfold apart at ap'
                simp only [Bool.and_eq_true, decide_eq_true_eq] at ap'
                have : ∃ s0, ρ1[j]? = some s0 ∧ ownK s0 = true := by
                  by_cases hj : j ∈ ios ms pl
                  · obtain ⟨i, d, s, s', h1, h2, h3, h4, h5, h6⟩ := backIo_in hbk ap'.1 hj
                    refine ⟨s, h4, ?_⟩
                    rcases h6 with ⟨_, rfl, _⟩ | ⟨_, rfl, _⟩ <;> rfl
                  · rw [backIo_out hbk hj] at z2
                    exact ⟨s, z2, z3⟩
                obtain ⟨s0, w1, w2⟩ := this
                exact (Own.tracked S1 ⟨z1, s0, w1, w2⟩).1 hn
              cases r with
              | fr d =>
                cases hres
                obtain ⟨a, ea, sh, gn, _, aa, _⟩ := rok
                exact fresh ea sh gn aa
              | pl p =>
                cases p with
                | val d => cases hres; exact rok
                | slot j =>
                  have hv : σ'[j]? = some (some v) := rok
                  simp only [resR] at hres
                  cases qq : ρ'[j]? with
                  | none => rw [qq] at hres; cases hres
                  | some s =>
                    rw [qq] at hres
                    have kk := S'.get qq hv
                    cases s with
                    | un => cases hres
                    | io d => cases hres
                    | scr ns => cases hres
                    | val d => cases hres; obtain ⟨w, e, rr⟩ := kk; cases e; exact rr
                    | own d =>
                      cases hres
                      obtain ⟨a, e, sh, gn, _, aa⟩ := kk
                      exact fresh (Option.some.inj e) sh gn aa
                    | bor d =>
                      simp only at hres
                      by_cases hat : atom d = true
                      · rw [if_pos hat] at hres
                        cases hres
                        obtain ⟨w, e, p1, p2⟩ := kk
                        cases e
                        exact (S'.bor p1 p2).atom hat G'
                      · rw [if_neg hat] at hres
                        cases hres
  · rw [if_neg ap] at hf2
    cases hf2
theorem pf_call (F : FnOk X.prog X.w X.K X.mg X.base CX0 k f fd ps (spD X.K np nl m)) (hr : Room k X.A) (hg : Gl X x) (hm : X.mg x = some (.ref f)) (hk : PySem.W.keepIn X.K (.ref f) = true) (hb : Binds X.K fd ps []) (ha : PPs X (e :: es) fs) (hl : ms.length = np)
    (hdb : (x == ("__debug__" : Str)) = false := by decide) (he : starEach (e :: es) X.env = (false, eval e X.env) :: starEach es X.env := by rfl) (hpl : (backTo pos (starEach es X.env)).any (·.1) = false := by rfl) :
    PF X (.Call (.Name x p) (e :: es) [] pos) (mCall ms nl m fs) := by
  obtain ⟨t, ha, ra⟩ := ha
  exact ⟨_, pe_call F hr hg hm hk hb .nil (pass0) ha hdb he hpl, rd_call ra hl⟩
end
end PL
namespace PL
open PySem PySem.Spec L2 RT RZ
/-! ### operators -/
theorem opOr {X : Cx} {f : Value → Value → Sem Value} {r r' : R2} (h : OpR X f r) (h' : OpR X f r') : OpR X f (fun x y H Q => r x y H Q ∨ r' x y H Q) := by
  intro pins s σ H x y v u Q I rx ry q
  exact q.elim (fun z => h pins s σ H x y v u Q I rx ry z) fun z => h' pins s σ H x y v u Q I rx ry z
theorem POpV.orL {r r' : R2} {g : D → D → Option D} (h : POpV r g) : POpV (fun x y H Q => r x y H Q ∨ r' x y H Q) g := fun G H x y d e z Q gh s1 s2 hg q => .inl (h G H x y d e z Q gh s1 s2 hg q)
theorem POpV.orR {r r' : R2} {g : D → D → Option D} (h : POpV r' g) : POpV (fun x y H Q => r x y H Q ∨ r' x y H Q) g := fun G H x y d e z Q gh s1 s2 hg q => .inr (h G H x y d e z Q gh s1 s2 hg q)
/-- by what the two are -/
def POpX (r : R2) (g : D → D → Option (Bool × D)) : Prop := ∀ (G H : Hp) (x y : V) (d e z : D) (b : Bool) (Q : VK), Same G H → Sh G H x d → Sh G H y e → g d e = some (b, z) →
  (b = false → ∀ v G' H', Grow G H G' H' → Rp G' v z → Q v H') → (b = true → ∀ p H', H p = none → Grow G H G H' → Sh G H' (.ref p) z → Q (.ref p) H') → r x y H Q
def rvOf (bz : Bool × D) : Rv := if bz.1 = true then .fr bz.2 else .pl (.val bz.2)
def mOpX (g : D → D → Option (Bool × D)) (fa fb : M Pl) : M Rv := bnd (mOp g fa fb) fun bz => ret (rvOf bz)
section
variable {X : Cx} {e a b c tg elt iter : Expr} {es ifs : List Expr} {pos pos' tpos p apos cpos : Pos} {f fa fb fe : M D} {g ga gb : M Pl} {k : M Rv} {x : Str}
theorem rd_opX {r : R2} {g' : D → D → Option (Bool × D)} {ta tb : TE} (hp : POpX r g') (ha : RdP X.K ta ga) (hb : RdP X.K tb gb) : RdF X.K (tOp r ta tb) (mOpX g' ga gb) := by
  intro C G σ H ρ Q hK S d ρ' hf q
  obtain ⟨bz, ρ0, hf0, h0⟩ := bnd_ok hf
  cases h0
  obtain ⟨p, ρ1, h1, hf2⟩ := bnd_ok hf0
  obtain ⟨p2, ρ2, h2, hf3⟩ := bnd_ok hf2
  refine ha C G σ H ρ _ hK S p ρ1 h1 fun v1 G1 H1 g1 S1 o1 => ?_
  refine hb C G1 σ H1 ρ1 _ hK S1 p2 ρ2 h2 fun v2 G2 H2 g2 S2 o2 => ?_
  obtain ⟨d1, ρ3, h3, hf4⟩ := bnd_ok hf3
  obtain ⟨s1, rfl⟩ := look_ok S2 (o1.mono g2) h3
  obtain ⟨d2, ρ4, h4, hf5⟩ := bnd_ok hf4
  obtain ⟨s2, rfl⟩ := look_ok S2 o2 h4
  obtain ⟨e, rfl⟩ := ofO_ok hf5
  obtain ⟨bb, z⟩ := bz
  refine hp G2 H2 v1 v2 d1 d2 z bb Q S2.gh s1 s2 e (fun hb v G' H' w rr => ?_) fun hb p H' hn w ss => ?_
  · subst hb
    exact q v G' H' ((g1.trans g2).trans w.g) (S2.grow w) rr
  · subst hb
    exact q _ G2 H' (g1.trans g2) (S2.grow w) (fresh_ok S2 hn w ss)
theorem pf_opX {op : Operator} {r : R2} {g' : D → D → Option (Bool × D)} (ho : OpR X (binaryOp op) r) (hp : POpX r g') (ha : PP X a ga) (hb : PP X b gb) : PF X (.BinOp a op b pos) (mOpX g' ga gb) := by
  obtain ⟨ta, ha, ra⟩ := ha
  obtain ⟨tb, hb, rb⟩ := hb
  exact ⟨_, pe_op ho ha hb, rd_opX hp ra rb⟩
end
/-- two ints -/
def onInts (c : Int → Int → Bool) (f : Int → Int → D) : D → D → Option D
  | .int i, .int j => if c i j = true then some (f i j) else none
  | _, _ => none
theorem pop_I {Cd : Int → Int → Prop} {c : Int → Int → Bool} {f : Int → Int → V} {fd : Int → Int → D} (hc : ∀ i j, c i j = true → Cd i j) (hr : ∀ i j G, Rp G (f i j) (fd i j)) : POpV (rI Cd f) (onInts c fd) := by
  intro G H x y d e z Q gh s1 s2 hg q
  cases s1 with
  | int i =>
    cases s2 with
    | int j =>
      unfold onInts at hg
      by_cases h : c i j = true
      · simp only [h, if_true] at hg
        cases hg
        exact ⟨i, j, rfl, rfl, hc i j h, q _ G H (Grow.refl gh) (hr i j G)⟩
      · simp only [h] at hg
        cases hg
    | _ => cases hg
  | _ => cases hg
def onInts0 (f : Int → Int → D) : D → D → Option D
  | .int i, .int j => some (f i j)
  | _, _ => none
theorem pop_I0 {f : Int → Int → V} {fd : Int → Int → D} (hr : ∀ i j G, Rp G (f i j) (fd i j)) : POpV (rI0 f) (onInts0 fd) := by
  intro G H x y d e z Q gh s1 s2 hg q
  cases s1 with
  | int i =>
    cases s2 with
    | int j => cases hg; exact ⟨i, j, rfl, rfl, q _ G H (Grow.refl gh) (hr i j G)⟩
    | _ => cases hg
  | _ => cases hg
abbrev gSub' : D → D → Option D := onInts0 fun i j => .int (i - j)
/-- .. of which the first may be a truth value -/
def onIB (f : Int → Int → Bool) : D → D → Option D
  | .int i, .int j => some (.bool (f i j))
  | .bool b, .int j => some (.bool (f (if b then 1 else 0) j))
  | _, _ => none
def rIB (f : Int → Int → Bool) : R2 := fun x y H Q => (∃ i j, x = .int i ∧ y = .int j ∧ Q (.bl (f i j)) H) ∨ (∃ b j, x = .bl b ∧ y = .int j ∧ Q (.bl (f (if b then 1 else 0) j)) H)
theorem pop_IB {f : Int → Int → Bool} : POpV (rIB f) (onIB f) := by
  intro G H x y d e z Q gh s1 s2 hg q
  cases s1 with
  | int i =>
    cases s2 with
    | int j => cases hg; exact .inl ⟨i, j, rfl, rfl, q _ G H (Grow.refl gh) (.bl _)⟩
    | _ => cases hg
  | bl b =>
    cases s2 with
    | int j => cases hg; exact .inr ⟨b, j, rfl, rfl, q _ G H (Grow.refl gh) (.bl _)⟩
    | _ => cases hg
  | _ => cases hg
section
variable {prog : Program} {w : World} {A : Around} {E : Value → Shared → Prop} {s : Shared} {p : Bool} {n : Int} {u : Tok} {Q : Value → Shared → Prop}
theorem sub_int_bool : isSubtype (.type "int") (.type "bool") = pure false := by rw [isSubtype_type]; kernel_rfl
theorem gives_lt_bi (p : Bool) (n : Int) (u : Tok) : Gives (Builtin.«int.__lt__» ⟨[.bool p, .int n u], []⟩) (.val (Value.bool (decide ((if p = true then (1 : Int) else 0) < n)))) :=
  .of_wp fun M A E s Q h => by obtain ⟨hp, g, d, tk, os⟩ := s; wp_walk; exact ⟨_, rfl, h⟩
theorem gives_le_bi (p : Bool) (n : Int) (u : Tok) : Gives (Builtin.«int.__le__» ⟨[.bool p, .int n u], []⟩) (.val (Value.bool (decide ((if p = true then (1 : Int) else 0) ≤ n)))) :=
  .of_wp fun M A E s Q h => by obtain ⟨hp, g, d, tk, os⟩ := s; wp_walk; exact ⟨_, rfl, h⟩
theorem lt_bi (h : Q (.bool (decide ((if p = true then (1 : Int) else 0) < n))) s) : wpAny (model prog w) A (compareOp .Lt (.bool p) (.int n u)) Q E s := by
  show wpAny _ A (richCompare .Lt _ _) Q E s
  exact PyProof.Rows.wpAny_richCompare_left (PyProof.Rows.typeIs_bool' s p) (typeIs_int s n u) (by decide) sub_int_bool F.slot_bool_lt
    (call_gives F.slot_bool_lt (PyProof.Rows.typeIs_bool' s p) F.entry_int_lt (F.args_int_lt_2 _ _) (gives_lt_bi p n u) ⟨nofun, h⟩)
theorem le_bi (h : Q (.bool (decide ((if p = true then (1 : Int) else 0) ≤ n))) s) : wpAny (model prog w) A (compareOp .LtE (.bool p) (.int n u)) Q E s := by
  show wpAny _ A (richCompare .LtE _ _) Q E s
  exact PyProof.Rows.wpAny_richCompare_left (PyProof.Rows.typeIs_bool' s p) (typeIs_int s n u) (by decide) sub_int_bool F.slot_bool_le
    (call_gives F.slot_bool_le (PyProof.Rows.typeIs_bool' s p) F.entry_int_le (F.args_int_le_2 _ _) (gives_le_bi p n u) ⟨nofun, h⟩)
end
theorem op_ltB {X : Cx} : OpR X (compareOp .Lt) (rIB fun i j => decide (i < j)) := by
  intro pins s σ H x y v u Q I rx ry h
  rcases h with ⟨i, j, rfl, rfl, q⟩ | ⟨b, j, rfl, rfl, q⟩
  · exact op_lt pins s σ H _ _ v u Q I rx ry ⟨i, j, rfl, rfl, q⟩
  · cases (show v = Value.bool b from rx)
    obtain ⟨t', rfl⟩ := ry
    exact lt_bi ⟨.bl _, H, I, rfl, q⟩
theorem op_leB {X : Cx} : OpR X (compareOp .LtE) (rIB fun i j => decide (i ≤ j)) := by
  intro pins s σ H x y v u Q I rx ry h
  rcases h with ⟨i, j, rfl, rfl, q⟩ | ⟨b, j, rfl, rfl, q⟩
  · exact op_le pins s σ H _ _ v u Q I rx ry ⟨i, j, rfl, rfl, q⟩
  · cases (show v = Value.bool b from rx)
    obtain ⟨t', rfl⟩ := ry
    exact le_bi ⟨.bl _, H, I, rfl, q⟩
abbrev gLt : D → D → Option D := onIB fun i j => decide (i < j)
abbrev gLe : D → D → Option D := onIB fun i j => decide (i ≤ j)
abbrev gGt : D → D → Option D := onInts0 fun i j => .bool (decide (j < i))
abbrev gGe : D → D → Option D := onInts0 fun i j => .bool (decide (j ≤ i))
def cDivW (_ j : Int) : Bool := decide (0 < j) && decide (j.natAbs.log2 < 9000)
def cMulW (i j : Int) : Bool := decide (i.natAbs.log2 + j.natAbs.log2 < 1000000)
def cMod (_ j : Int) : Bool := decide (0 < j)
abbrev gDiv : D → D → Option D := onInts cDivW fun i j => .int (i / j)
abbrev gMod : D → D → Option D := onInts cMod fun i j => .int (i % j)
section
variable {X : Cx} {e a b c tg elt iter : Expr} {es ifs : List Expr} {pos pos' tpos p apos cpos : Pos} {f fa fb fe : M D} {g ga gb : M Pl} {k : M Rv} {x : Str}
theorem pv_sub (ha : PP X a ga) (hb : PP X b gb) : PV X (.BinOp a .Sub b pos) (mOp gSub' ga gb) := pv_op op_sub (pop_I0 fun i j G => .int _) ha hb
theorem pv_fdiv (ha : PP X a ga) (hb : PP X b gb) : PV X (.BinOp a .FloorDiv b pos) (mOp gDiv ga gb) := pv_op op_fdivW (pop_I (fun i j h => by
  simp only [cDivW, Bool.and_eq_true, decide_eq_true_eq] at h; exact h) fun i j G => .int _) ha hb
theorem pv_mod (ha : PP X a ga) (hb : PP X b gb) : PV X (.BinOp a .Mod b pos) (mOp gMod ga gb) := pv_op op_mod (pop_I (fun i j h => of_decide_eq_true h) fun i j G => .int _) ha hb
theorem pt_lt (ha : PP X a ga) (hb : PP X b gb) : PTt X (.Compare a [.Lt] [b] pos) (mB (mOp gLt ga gb)) := pt_cmp' op_ltB pop_IB ha hb (nomark _)
theorem pt_le (ha : PP X a ga) (hb : PP X b gb) : PTt X (.Compare a [.LtE] [b] pos) (mB (mOp gLe ga gb)) := pt_cmp' op_leB pop_IB ha hb (nomark _)
theorem pt_gt (ha : PP X a ga) (hb : PP X b gb) : PTt X (.Compare a [.Gt] [b] pos) (mB (mOp gGt ga gb)) := pt_cmp' op_gt (pop_I0 fun i j G => .bl _) ha hb (nomark _)
theorem pt_ge (ha : PP X a ga) (hb : PP X b gb) : PTt X (.Compare a [.GtE] [b] pos) (mB (mOp gGe ga gb)) := pt_cmp' op_ge (pop_I0 fun i j G => .bl _) ha hb (nomark _)
theorem pv_lt (ha : PP X a ga) (hb : PP X b gb) : PV X (.Compare a [.Lt] [b] pos) (mOp gLt ga gb) := pv_cmp op_ltB pop_IB ha hb (nomark _)
theorem pv_le (ha : PP X a ga) (hb : PP X b gb) : PV X (.Compare a [.LtE] [b] pos) (mOp gLe ga gb) := pv_cmp op_leB pop_IB ha hb (nomark _)
theorem pv_gt (ha : PP X a ga) (hb : PP X b gb) : PV X (.Compare a [.Gt] [b] pos) (mOp gGt ga gb) := pv_cmp op_gt (pop_I0 fun i j G => .bl _) ha hb (nomark _)
theorem pv_ge (ha : PP X a ga) (hb : PP X b gb) : PV X (.Compare a [.GtE] [b] pos) (mOp gGe ga gb) := pv_cmp op_ge (pop_I0 fun i j G => .bl _) ha hb (nomark _)
/-! ### + and * by what the two are -/
def gAdd : D → D → Option (Bool × D)
  | .int i, .int j => some (false, .int (i + j))
  | .list xs, .list ys => if xs.length + ys.length ≤ 100000 then some (true, .list (xs ++ ys)) else none
  | .tuple xs, .tuple ys => if xs.length + ys.length ≤ 100000 ∧ xs ≠ [] ∧ ys ≠ [] then some (false, .tuple (xs ++ ys)) else none
  | .str x, .str y => if x.length + y.length ≤ 100000 then some (false, .str (x ++ y)) else none
  | _, _ => none
def rAddA (K : PySem.W.Frag) : R2 := fun x y H Q => rI0 (fun i j => .int (i + j)) x y H Q ∨ (rCat x y H Q ∨ (rCatT K x y H Q ∨ (∃ i j, x = .str i ∧ y = .str j ∧ i.length + j.length ≤ sizeLine ∧ Q (.str (i ++ j)) H)))
theorem op_addA : OpR X (binaryOp .Add) (rAddA X.K) := opOr op_add (opOr op_cat (opOr op_catT op_add_str))
theorem pop_addA {K : PySem.W.Frag} : POpX (rAddA K) gAdd := by
  intro G H x y d e z bb Q gh s1 s2 hg q qf
  cases s1 with
  | int i => cases s2 with
    | int j => cases hg; exact .inl ⟨i, j, rfl, rfl, q rfl _ G H (Grow.refl gh) (.int _)⟩
    | _ => cases hg
  | str i => cases s2 with
    | str j =>
      simp only [gAdd] at hg
      by_cases h : i.length + j.length ≤ 100000
      · rw [if_pos h] at hg; cases hg
        exact .inr (.inr (.inr ⟨i, j, rfl, rfl, line_of h, q rfl _ G H (Grow.refl gh) (.str _)⟩))
      · rw [if_neg h] at hg; cases hg
    | _ => cases hg
  | @lst a1 xs ds h1 r1 => cases s2 with
    | @lst a2 ys es h2 r2 =>
      simp only [gAdd] at hg
      by_cases h : ds.length + es.length ≤ 100000
      · rw [if_pos h] at hg; cases hg
        refine .inr (.inl ⟨a1, a2, xs, ys, rfl, rfl, h1, h2, by rw [r1.length, r2.length]; exact line_of h, fun p hp => ?_⟩)
        exact qf rfl p _ hp (Grow.newF gh hp) (.lst upd_same (r1.append r2))
      · rw [if_neg h] at hg; cases hg
    | _ => cases hg
  | @tup a1 xs ds h1 r1 => cases s2 with
    | @tup a2 ys es h2 r2 =>
      simp only [gAdd] at hg
      by_cases h : ds.length + es.length ≤ 100000 ∧ ds ≠ [] ∧ es ≠ []
      · rw [if_pos h] at hg; cases hg
        have n1 : xs ≠ [] := fun z => h.2.1 (by have := r1.length; rw [z] at this; exact List.length_eq_zero_iff.mp this.symm)
        have n2 : ys ≠ [] := fun z => h.2.2 (by have := r2.length; rw [z] at this; exact List.length_eq_zero_iff.mp this.symm)
        refine .inr (.inr (.inl ⟨a1, a2, xs, ys, rfl, rfl, .inl (.inl h1), .inl (.inl h2), n1, by rw [r1.length, r2.length]; exact line_of h.1, fun z => absurd z n2, fun _ p hp => ?_⟩))
        have w : Grow G H _ _ := Grow.new (o := .tup (xs ++ ys)) gh hp
        exact q rfl _ _ _ w (.tup upd_same ((r1.append r2).mono w.g))
      · rw [if_neg h] at hg; cases hg
    | _ => cases hg
  | _ => cases hg
theorem pf_add (ha : PP X a ga) (hb : PP X b gb) : PF X (.BinOp a .Add b pos) (mOpX gAdd ga gb) := pf_opX op_addA pop_addA ha hb
def gMul : D → D → Option (Bool × D)
  | .int i, .int j => if cMulW i j = true then some (false, .int (i * j)) else none
  | .list xs, .int n => if xs.length * n.toNat ≤ 100000 ∧ -(2 ^ 63) ≤ n ∧ n < 2 ^ 63 then some (true, .list (List.replicate n.toNat xs).flatten) else none
  | _, _ => none
def rMulA : R2 := fun x y H Q => rI CMulW (fun i j => .int (i * j)) x y H Q ∨ rRep x y H Q
theorem op_mulA : OpR X (binaryOp .Mult) rMulA := opOr op_mulW op_rep
theorem RpA.rep {G : Hp} {xs : List V} {ds : List D} (r : RpA G xs ds) : ∀ n : Nat, RpA G (List.replicate n xs).flatten (List.replicate n ds).flatten
  | 0 => .nil
  | n + 1 => by
    rw [List.replicate_succ, List.replicate_succ, List.flatten_cons, List.flatten_cons]
    exact r.append (RpA.rep r n)
theorem pop_mulA : POpX rMulA gMul := by
  intro G H x y d e z bb Q gh s1 s2 hg q qf
  cases s1 with
  | int i => cases s2 with
    | int j =>
      simp only [gMul] at hg
      by_cases h : cMulW i j = true
      · rw [if_pos h] at hg; cases hg
        exact .inl ⟨i, j, rfl, rfl, by simp only [cMulW, decide_eq_true_eq] at h; exact h, q rfl _ G H (Grow.refl gh) (.int _)⟩
      · rw [if_neg h] at hg; cases hg
    | _ => cases hg
  | @lst a1 xs ds h1 r1 => cases s2 with
    | int n =>
      simp only [gMul] at hg
      by_cases h : ds.length * n.toNat ≤ 100000 ∧ -(2 ^ 63) ≤ n ∧ n < 2 ^ 63
      · rw [if_pos h] at hg; cases hg
        refine .inr ⟨a1, n, xs, rfl, rfl, h1, h.2.1, h.2.2, by rw [r1.length]; exact line_of h.1, fun p hp => ?_⟩
        exact qf rfl p _ hp (Grow.newF gh hp) (.lst upd_same (r1.rep n.toNat))
      · rw [if_neg h] at hg; cases hg
    | _ => cases hg
  | _ => cases hg
theorem pf_mul (ha : PP X a ga) (hb : PP X b gb) : PF X (.BinOp a .Mult b pos) (mOpX gMul ga gb) := pf_opX op_mulA pop_mulA ha hb
def mNegU (f : M D) : M D := bnd f fun d => fun ρ => match d with
  | .int i => .ok (.int (-i)) ρ
  | _ => .stuck
theorem pv_neg (ha : PV X a fa) : PV X (.UnaryOp .USub a pos) (mNegU fa) := by
  obtain ⟨t, ha, r⟩ := ha
  refine ⟨_, pe_un un_neg ha, fun C G σ H ρ Q hK S d ρ' hf q => ?_⟩
  obtain ⟨d1, ρ1, h1, hf2⟩ := bnd_ok hf
  refine r C G σ H ρ _ hK S d1 ρ1 h1 fun v G1 H1 g1 S1 o => ?_
  cases o with
  | int i => cases hf2; exact ⟨i, rfl, q _ G1 H1 g1 S1 (.int _)⟩
  | _ => cases hf2
end
end PL
namespace PL
open PySem PySem.Spec L2 RT RZ
/-! ### powers of any ints -/
def cPowW (i j : Int) : Bool := decide (0 ≤ j) && decide (j ≤ 64) && decide (i.natAbs.log2 < 10000)
abbrev gPow : D → D → Option D := onInts cPowW fun i j => .int (i ^ j.toNat)
def CPowW (i j : Int) : Prop := cPowW i j = true
theorem op_powW {X : Cx} : OpR X (binaryOp .Pow) (rI CPowW fun i j => .int (i ^ j.toNat)) := opI fun i j t u s Q E hc q => by
  have h : 0 ≤ j ∧ j ≤ 64 ∧ i.natAbs.log2 < 10000 := by
    simp only [CPowW, cPowW, Bool.and_eq_true, decide_eq_true_eq] at hc
    exact ⟨hc.1.1, hc.1.2, hc.2⟩
  refine PyProof.Rows.pow_int h.1 ?_ q
  have hb : Builtin.Int.intBits i ≤ 10000 := by
    unfold Builtin.Int.intBits
    split
    · omega
    · omega
  have h1 : (Builtin.Int.intBits i : Int) * j ≤ 10000 * j := Int.mul_le_mul_of_nonneg_right (by omega) h.1
  have := h.2.1
  omega
section
variable {X : Cx} {e a b c tg elt iter : Expr} {es ifs : List Expr} {pos pos' tpos p p1 p2 apos cpos : Pos} {f fa fb fe : M D} {g ga gb : M Pl} {k : M Rv} {x : Str}
theorem pv_pow (ha : PP X a ga) (hb : PP X b gb) : PV X (.BinOp a .Pow b pos) (mOp gPow ga gb) := pv_op op_powW (pop_I (fun i j h => h) fun i j G => .int _) ha hb
/-! ### == and != of data -/
mutual
theorem Rp.dp {K : PySem.W.Frag} {G H : Hp} (gh : Same G H) : ∀ {v : V} {d : D}, Rp G v d → d.canLay0 = true → Dp K H v d
  | _, _, .non, _ => .non
  | _, _, .bl b, _ => .bl b
  | _, _, .int i, _ => .int i
  | _, _, .str x, _ => .str x
  | _, _, .lst h r, c => .lst (.inl (.inl (gh _ _ h))) (RpA.dp gh r c)
  | _, _, .tup h r, c => .tup (.inl (.inl (gh _ _ h))) (RpA.dp gh r c)
  | _, _, .dct h r, c => by cases c
theorem RpA.dp {K : PySem.W.Frag} {G H : Hp} (gh : Same G H) : ∀ {vs : List V} {ds : List D}, RpA G vs ds → PyData.canLayAll0 ds = true → DpAll K H vs ds
  | _, _, .nil, _ => .nil
  | _, _, .cons h r, c => by
    have c' : (_ && _) = true := c
    rw [Bool.and_eq_true] at c'
    exact .cons (Rp.dp gh h c'.1) (RpA.dp gh r c'.2)
end
theorem Sh.dp {K : PySem.W.Frag} {G H : Hp} (gh : Same G H) {v : V} {d : D} (h : Sh G H v d) (c : d.canLay0 = true) : Dp K H v d := by
  cases h with
  | non => exact .non
  | bl b => exact .bl b
  | int i => exact .int i
  | str x => exact .str x
  | lst h r => exact .lst (.inl (.inl h)) (r.dp gh c)
  | tup h r => exact .tup (.inl (.inl h)) (r.dp gh c)
  | dct h r => cases c
def gEq (d e : D) : Option D := match d, e with
  | .str a, .str b => some (.bool (a.cps.toList == b.cps.toList))
  | d, e => if (SeqAt.shaped d && SeqAt.shaped e) = true then some (.bool (PyData.eqv d e)) else none
def gNe (d e : D) : Option D := match d, e with
  | .str a, .str b => some (.bool (a.cps.toList != b.cps.toList))
  | d, e => if (SeqAt.shaped d && SeqAt.shaped e) = true then some (.bool (!PyData.eqv d e)) else none
def rEqS (K : PySem.W.Frag) : R2 := fun x y H Q => (∃ a b, x = .str a ∧ y = .str b ∧ Q (.bl (a.cps.toList == b.cps.toList)) H) ∨ rEqD K x y H Q
def rNeS (K : PySem.W.Frag) : R2 := fun x y H Q => (∃ a b, x = .str a ∧ y = .str b ∧ Q (.bl (a.cps.toList != b.cps.toList)) H) ∨ rNeD K x y H Q
theorem op_eqS {X : Cx} (hu : X.A.units + 64 < cLine) : OpR X (compareOp .Eq) (rEqS X.K) := by
  intro pins s σ H x y v u Q I rx ry h
  rcases h with ⟨a, b, rfl, rfl, q⟩ | h
  · obtain ⟨t, rfl⟩ := rx
    obtain ⟨t', rfl⟩ := ry
    exact PySem.P.eq_str ⟨.bl _, H, I, rfl, q⟩
  · exact op_eqD hu pins s σ H x y v u Q I rx ry h
theorem op_neS {X : Cx} (hu : X.A.units + 64 < cLine) : OpR X (compareOp .NotEq) (rNeS X.K) := by
  intro pins s σ H x y v u Q I rx ry h
  rcases h with ⟨a, b, rfl, rfl, q⟩ | h
  · obtain ⟨t, rfl⟩ := rx
    obtain ⟨t', rfl⟩ := ry
    exact PySem.P.ne_str ⟨.bl _, H, I, rfl, q⟩
  · exact op_neD hu pins s σ H x y v u Q I rx ry h
theorem pop_eq {K : PySem.W.Frag} : POpV (rEqS K) gEq := by
  intro G H x y d e z Q gh s1 s2 hg q
  unfold gEq at hg
  split at hg
  · cases hg
    cases s1; cases s2
    exact .inl ⟨_, _, rfl, rfl, q _ G H (Grow.refl gh) (.bl _)⟩
  · by_cases h : (SeqAt.shaped d && SeqAt.shaped e) = true
    · rw [if_pos h] at hg; cases hg
      rw [Bool.and_eq_true] at h
      exact .inr ⟨d, e, s1.dp gh (SeqAt.canLay_of_shaped h.1), s2.dp gh (SeqAt.canLay_of_shaped h.2), h.1, h.2, q _ G H (Grow.refl gh) (.bl _)⟩
    · rw [if_neg h] at hg; cases hg
theorem pop_ne {K : PySem.W.Frag} : POpV (rNeS K) gNe := by
  intro G H x y d e z Q gh s1 s2 hg q
  unfold gNe at hg
  split at hg
  · cases hg
    cases s1; cases s2
    exact .inl ⟨_, _, rfl, rfl, q _ G H (Grow.refl gh) (.bl _)⟩
  · by_cases h : (SeqAt.shaped d && SeqAt.shaped e) = true
    · rw [if_pos h] at hg; cases hg
      rw [Bool.and_eq_true] at h
      exact .inr ⟨d, e, s1.dp gh (SeqAt.canLay_of_shaped h.1), s2.dp gh (SeqAt.canLay_of_shaped h.2), h.1, h.2, q _ G H (Grow.refl gh) (.bl _)⟩
    · rw [if_neg h] at hg; cases hg
theorem pt_eq (hu : X.A.units + 64 < cLine) (ha : PP X a ga) (hb : PP X b gb) : PTt X (.Compare a [.Eq] [b] pos) (mB (mOp gEq ga gb)) := pt_cmp' (op_eqS hu) pop_eq ha hb (nomark _)
theorem pt_ne (hu : X.A.units + 64 < cLine) (ha : PP X a ga) (hb : PP X b gb) : PTt X (.Compare a [.NotEq] [b] pos) (mB (mOp gNe ga gb)) := pt_cmp' (op_neS hu) pop_ne ha hb (nomark _)
theorem pv_eq (hu : X.A.units + 64 < cLine) (ha : PP X a ga) (hb : PP X b gb) : PV X (.Compare a [.Eq] [b] pos) (mOp gEq ga gb) := pv_cmp (op_eqS hu) pop_eq ha hb (nomark _)
theorem pv_ne (hu : X.A.units + 64 < cLine) (ha : PP X a ga) (hb : PP X b gb) : PV X (.Compare a [.NotEq] [b] pos) (mOp gNe ga gb) := pv_cmp (op_neS hu) pop_ne ha hb (nomark _)
/-! ### is, is not -/
def isNone : D → Bool
  | .none => true
  | _ => false
def gIs (d e : D) : Option D := match e with
  | .none => some (.bool (isNone d))
  | .bool b => match d with
    | .bool a => some (.bool (decide (a = b)))
    | _ => some (.bool false)
  | _ => none
def gNot (d e : D) : Option D := match e with
  | .none => some (.bool (!isNone d))
  | .bool b => match d with
    | .bool a => some (.bool (!decide (a = b)))
    | _ => some (.bool true)
  | _ => none
/-- is of a bool: of what is no bool -/
def noBl : V → Prop
  | .non => True
  | .int _ => True
  | .str _ => True
  | .ref _ => True
  | _ => False
def rIsO : R2 := fun x y H Q => ∃ b : Bool, y = .bl b ∧ noBl x ∧ Q (.bl false) H
def rNotO : R2 := fun x y H Q => ∃ b : Bool, y = .bl b ∧ noBl x ∧ Q (.bl true) H
theorem op_isO : OpR X (compareOp .Is) rIsO := by
  intro pins s σ H x y v u Q I rx ry h
  obtain ⟨b, rfl, hx, q⟩ := h
  cases (show u = Value.bool b from ry)
  have fin : EP X pins σ Q (.bool false) s := ⟨.bl false, H, I, rfl, q⟩
  cases x with
  | non => cases (show v = Value.none from rx); exact wpAny_is_other rfl (fun z => nomatch z) fin
  | int i => obtain ⟨t, rfl⟩ := (show ∃ t, v = Value.int i t from rx); exact wpAny_is_other rfl (fun z => nomatch z) fin
  | str i => obtain ⟨t, rfl⟩ := (show ∃ t, v = Value.str i t from rx); exact wpAny_is_other rfl (fun z => nomatch z) fin
  | ref a => cases (show v = Value.ref a from rx); exact wpAny_is_other rfl (fun z => nomatch z) fin
  | _ => exact hx.elim
theorem op_notO : OpR X (compareOp .IsNot) rNotO := by
  intro pins s σ H x y v u Q I rx ry h
  obtain ⟨b, rfl, hx, q⟩ := h
  cases (show u = Value.bool b from ry)
  have fin : EP X pins σ Q (.bool true) s := ⟨.bl true, H, I, rfl, q⟩
  cases x with
  | non => cases (show v = Value.none from rx); exact wpAny_isNot_other rfl (fun z => nomatch z) fin
  | int i => obtain ⟨t, rfl⟩ := (show ∃ t, v = Value.int i t from rx); exact wpAny_isNot_other rfl (fun z => nomatch z) fin
  | str i => obtain ⟨t, rfl⟩ := (show ∃ t, v = Value.str i t from rx); exact wpAny_isNot_other rfl (fun z => nomatch z) fin
  | ref a => cases (show v = Value.ref a from rx); exact wpAny_isNot_other rfl (fun z => nomatch z) fin
  | _ => exact hx.elim
theorem isNone_ok {G H : Hp} {v : V} {d : D} (h : Sh G H v d) : decide (v = V.non) = isNone d := by
  cases h <;> first | rfl | exact decide_eq_false fun z => nomatch z
def rIsA : R2 := fun x y H Q => (y = .non ∧ Q (.bl (decide (x = .non))) H) ∨ (rIsB x y H Q ∨ rIsO x y H Q)
def rNotA : R2 := fun x y H Q => (y = .non ∧ Q (.bl (!decide (x = .non))) H) ∨ (rNotB x y H Q ∨ rNotO x y H Q)
theorem pop_is : POpV rIsA gIs := by
  intro G H x y d e z Q gh s1 s2 hg q
  cases s2 with
  | non => cases hg; exact .inl ⟨rfl, q _ G H (Grow.refl gh) (by rw [isNone_ok s1]; exact .bl _)⟩
  | bl b => cases s1 with
    | bl a => cases hg; exact .inr (.inl ⟨a, b, rfl, rfl, q _ G H (Grow.refl gh) (.bl _)⟩)
    | _ => cases hg; exact .inr (.inr ⟨b, rfl, trivial, q _ G H (Grow.refl gh) (.bl _)⟩)
  | _ => cases hg
theorem pop_not : POpV rNotA gNot := by
  intro G H x y d e z Q gh s1 s2 hg q
  cases s2 with
  | non => cases hg; exact .inl ⟨rfl, q _ G H (Grow.refl gh) (by rw [isNone_ok s1]; exact .bl _)⟩
  | bl b => cases s1 with
    | bl a => cases hg; exact .inr (.inl ⟨a, b, rfl, rfl, q _ G H (Grow.refl gh) (.bl _)⟩)
    | _ => cases hg; exact .inr (.inr ⟨b, rfl, trivial, q _ G H (Grow.refl gh) (.bl _)⟩)
  | _ => cases hg
theorem pt_is (ha : PP X a ga) (hb : PP X b gb) : PTt X (.Compare a [.Is] [b] pos) (mB (mOp gIs ga gb)) := pt_cmp' (opOr op_isN (opOr op_isBl op_isO)) pop_is ha hb (nomark _)
theorem pt_isnot (ha : PP X a ga) (hb : PP X b gb) : PTt X (.Compare a [.IsNot] [b] pos) (mB (mOp gNot ga gb)) := pt_cmp' (opOr op_notN (opOr op_notBl op_notO)) pop_not ha hb (nomark _)
theorem pv_is (ha : PP X a ga) (hb : PP X b gb) : PV X (.Compare a [.Is] [b] pos) (mOp gIs ga gb) := pv_cmp (opOr op_isN (opOr op_isBl op_isO)) pop_is ha hb (nomark _)
theorem pv_isnot (ha : PP X a ga) (hb : PP X b gb) : PV X (.Compare a [.IsNot] [b] pos) (mOp gNot ga gb) := pv_cmp (opOr op_notN (opOr op_notBl op_notO)) pop_not ha hb (nomark _)
/-! ### subscripts -/
def gIx : D → D → Option D
  | .list ds, .int i => atI ds i
  | .tuple ds, .int i => atI ds i
  | .str s, .int i => if s.length ≤ 100000 then (atI s.cps.toList i).map fun c => .str ⟨#[c]⟩ else none
  | _, _ => none
theorem atI_rp {G : Hp} {vs : List V} {ds : List D} {i : Int} {d : D} (r : RpA G vs ds) (h : atI ds i = some d) : ∃ v, atI vs i = some v ∧ Rp G v d := by
  unfold atI at h ⊢
  rw [r.length]
  cases q : ixN ds.length i with
  | none => rw [q] at h; cases h
  | some j => rw [q] at h; exact r.get h
theorem pop_ix {K : PySem.W.Frag} : POpV (rIx K) gIx := by
  intro G H x y d e z Q gh s1 s2 hg q
  cases s2 with
  | int i =>
    cases s1 with
    | @lst a xs ds h r =>
      obtain ⟨v, hv, rv⟩ := atI_rp r (show atI ds i = some z from hg)
      exact .inl ⟨a, xs, i, v, rfl, rfl, .inl (.inl h), hv, q v G H (Grow.refl gh) rv⟩
    | @tup a xs ds h r =>
      obtain ⟨v, hv, rv⟩ := atI_rp r (show atI ds i = some z from hg)
      exact .inr (.inl ⟨a, xs, i, v, rfl, rfl, .inl (.inl h), hv, q v G H (Grow.refl gh) rv⟩)
    | str s =>
      simp only [gIx] at hg
      by_cases hl : s.length ≤ 100000
      · rw [if_pos hl] at hg
        cases r : atI s.cps.toList i with
        | none => rw [r] at hg; cases hg
        | some c =>
          rw [r] at hg
          cases hg
          exact .inr (.inr ⟨s, i, c, rfl, rfl, line_of hl, r, q _ G H (Grow.refl gh) (.str _)⟩)
      · rw [if_neg hl] at hg; cases hg
    | _ => cases hg
  | non => cases s1 <;> cases hg
  | bl b => cases s1 <;> cases hg
  | str b => cases s1 <;> cases hg
  | lst h r => cases s1 <;> cases hg
  | tup h r => cases s1 <;> cases hg
  | dct h r => cases s1 <;> cases hg
theorem pv_ix (ha : PP X a ga) (hb : PP X b gb) (hs : PlainIx b := by intro _ _; rfl) : PV X (.Subscript a b pos) (mOp gIx ga gb) := by
  obtain ⟨ta, ha, ra⟩ := ha
  obtain ⟨tb, hb, rb⟩ := hb
  exact ⟨_, pe_ix ix_seq ha hb hs, rd_op pop_ix ra rb⟩
/-! ### slices -/
def cutD (xs : List D) (lo hi : Option Int) : List D := (xs.drop (HT.sIx xs.length 0 lo)).take (HT.sIx xs.length xs.length hi - HT.sIx xs.length 0 lo)
theorem cut_rp {G : Hp} {vs : List V} {ds : List D} {lo hi : Option Int} (r : RpA G vs ds) : RpA G (cutV vs lo hi) (cutD ds lo hi) := by
  unfold cutV cutD
  rw [r.length]
  exact (r.drop _).take _
/-- a list's slice is a list of one's own; a tuple's that isn't the whole one is a new tuple -/
def sliceD (d : D) (lo hi : Option Int) : Option (Bool × D) := match d with
  | .list ds => some (true, .list (cutD ds lo hi))
  | .tuple ds => if HT.sIx ds.length 0 lo = 0 ∧ HT.sIx ds.length ds.length hi = ds.length then none else some (false, .tuple (cutD ds lo hi))
  | _ => none
def asIx : Option D → Option (Option Int)
  | none => some none
  | some (.int i) => some (some i)
  | _ => none
def mOpt : Option (M D) → M (Option Int)
  | none => ret none
  | some f => bnd f fun d => fun ρ => match d with
    | .int i => .ok (some i) ρ
    | _ => .stuck
def mSlice (g : M Pl) (lo hi : Option (M D)) : M Rv := bnd g fun p => bnd (mOpt lo) fun l => bnd (mOpt hi) fun h => bnd (look p) fun d => bnd (ofO (sliceD d l h)) fun bz => ret (rvOf bz)
def slOr (r r' : V → Option Int → Option Int → Hp → VK → Prop) : V → Option Int → Option Int → Hp → VK → Prop := fun x l h H Q => r x l h H Q ∨ r' x l h H Q
theorem slR_or {r r' : V → Option Int → Option Int → Hp → VK → Prop} (h : SlR X r) (h' : SlR X r') : SlR X (slOr r r') := by
  intro pins s σ H x v vl vu l u sa Q I rx rs pl pu q
  rcases q with q | q
  · exact h pins s σ H x v vl vu l u sa Q I rx rs pl pu q
  · exact h' pins s σ H x v vl vu l u sa Q I rx rs pl pu q
def RdO (K : PySem.W.Frag) (t : TO) (f : M (Option Int)) : Prop := ∀ (C : Ctx) (G : Hp) (σ : L2.St) (H : Hp) (ρ : Env) (Q : Option Int → Hp → Prop), C.K = K → StOk C G σ H ρ → ∀ (d : Option Int) (ρ' : Env), f ρ = .ok d ρ' →
  (∀ (G' H' : Hp), Same G G' → StOk C G' σ H' ρ' → Q d H') → t σ H Q
def POt (X : Cx) (o : Option Expr) (f : M (Option Int)) : Prop := ∃ t, PO X o t ∧ RdO X.K t f
theorem pot_none : POt X none (mOpt none) := ⟨_, po_none, fun C G σ H ρ Q hK S d ρ' hf q => by cases hf; exact q G H (Same.refl _) S⟩
theorem pot_some (h : PV X e f) : POt X (some e) (mOpt (some f)) := by
  obtain ⟨t, h, r⟩ := h
  refine ⟨_, po_some h, fun C G σ H ρ Q hK S d ρ' hf q => ?_⟩
  obtain ⟨d1, ρ1, h1, hf2⟩ := bnd_ok hf
  refine r C G σ H ρ _ hK S d1 ρ1 h1 fun v G1 H1 g1 S1 o => ?_
  cases o with
  | int i => cases hf2; exact ⟨i, rfl, q G1 H1 g1 S1⟩
  | _ => cases hf2
theorem pf_slice {lo hi : Option Expr} {fl fh : Option (M D)} (h : PP X e g) (hl : POt X lo (mOpt fl)) (hh : POt X hi (mOpt fh)) : PF X (.Subscript e (.Slice lo hi none p2) pos) (mSlice g fl fh) := by
  obtain ⟨t, h, r⟩ := h
  obtain ⟨tl, hl, rl⟩ := hl
  obtain ⟨th, hh, rh⟩ := hh
  refine ⟨_, pe_slice (slR_or sl_list sl_tup) h hl hh, fun C G σ H ρ Q hK S d ρ' hf q => ?_⟩
  obtain ⟨pl, ρ1, h1, hf2⟩ := bnd_ok hf
  obtain ⟨l, ρ2, h2, hf3⟩ := bnd_ok hf2
  obtain ⟨u, ρ3, h3, hf4⟩ := bnd_ok hf3
  obtain ⟨dd, ρ4, h4, hf5⟩ := bnd_ok hf4
  obtain ⟨bz, ρ5, h5, hf6⟩ := bnd_ok hf5
  cases hf6
  refine r C G σ H ρ _ hK S pl ρ1 h1 fun v G1 H1 g1 S1 o1 => ?_
  refine rl C G1 σ H1 ρ1 _ hK S1 l ρ2 h2 fun G2 H2 g2 S2 => ?_
  refine rh C G2 σ H2 ρ2 _ hK S2 u ρ3 h3 fun G3 H3 g3 S3 => ?_
  obtain ⟨s, rfl⟩ := look_ok S3 ((o1.mono g2).mono g3) h4
  obtain ⟨es, rfl⟩ := ofO_ok h5
  have gg := (g1.trans g2).trans g3
  cases s with
  | @lst a xs ds ha ra =>
    cases es
    refine .inl ⟨a, xs, rfl, .inl (.inl ha), fun p hp => ?_⟩
    have w := Grow.newF (o := .lst (cutV xs l u)) S3.gh hp
    exact q _ G3 _ gg (S3.grow w) (fresh_ok S3 hp w (.lst upd_same (cut_rp ra)))
  | @tup a xs ds ha ra =>
    simp only [sliceD] at es
    by_cases hw : HT.sIx ds.length 0 l = 0 ∧ HT.sIx ds.length ds.length u = ds.length
    · rw [if_pos hw] at es; cases es
    · rw [if_neg hw] at es; cases es
      refine .inr ⟨a, xs, rfl, .inl (.inl ha), by rw [ra.length]; exact hw, fun p hp => ?_⟩
      have w := Grow.new (o := .tup (cutV xs l u)) S3.gh hp
      exact q _ _ _ (gg.trans w.g) (S3.grow w) (.tup upd_same ((cut_rp ra).mono w.g))
  | _ => cases es
end
end PL
namespace PL
open PySem PySem.Spec L2 RT RZ
section
variable {X : Cx} {e a b c tg elt iter : Expr} {es ifs : List Expr} {pos pos' tpos p p1 p2 apos cpos : Pos} {f fa fb fe : M D} {g ga gb : M Pl} {gs : M (List Pl)} {k : M Rv} {x : Str}
/-! ### calls of built-ins -/
theorem pv_b {id : String} {r : List V → Hp → VK → Prop} {g' : List D → Option D} (hc : CallR X (.builtin id) r) (hp : PClV r g') (hg : Gl X x) (hm : X.mg x = none) (hv : bootBuiltins x = some (.builtin id)) (ha : PPs X (e :: es) gs) (hn : x ≠ "__name__" := by decide) (hdb : (x == ("__debug__" : Str)) = false := by decide)
    (he : starEach (e :: es) X.env = (false, eval e X.env) :: starEach es X.env := by rfl) (hpl : (backTo pos (starEach es X.env)).any (·.1) = false := by rfl) : PV X (.Call (.Name x p) (e :: es) [] pos) (mN g' gs) := by
  obtain ⟨t, ha, ra⟩ := ha
  exact ⟨_, pe_callB hc hg hm hv ha hn hdb he hpl, rd_cl hp ra⟩
theorem pv_bT {id : String} {r : List V → Hp → VK → Prop} {g' : List D → Option D} (hc : CallR X (.type id) r) (hp : PClV r g') (hg : Gl X x) (hm : X.mg x = none) (hv : bootBuiltins x = some (.type id)) (ha : PPs X (e :: es) gs) (hn : x ≠ "__name__" := by decide) (hdb : (x == ("__debug__" : Str)) = false := by decide)
    (he : starEach (e :: es) X.env = (false, eval e X.env) :: starEach es X.env := by rfl) (hpl : (backTo pos (starEach es X.env)).any (·.1) = false := by rfl) : PV X (.Call (.Name x p) (e :: es) [] pos) (mN g' gs) := by
  obtain ⟨t, ha, ra⟩ := ha
  exact ⟨_, pe_callTy hc hg hm hv ha hn hdb he hpl, rd_cl hp ra⟩
theorem pf_b {id : String} {r : List V → Hp → VK → Prop} {g' : List D → Option D} (hc : CallR X (.builtin id) r) (hp : PClF r g') (hg : Gl X x) (hm : X.mg x = none) (hv : bootBuiltins x = some (.builtin id)) (ha : PPs X (e :: es) gs) (hn : x ≠ "__name__" := by decide) (hdb : (x == ("__debug__" : Str)) = false := by decide)
    (he : starEach (e :: es) X.env = (false, eval e X.env) :: starEach es X.env := by rfl) (hpl : (backTo pos (starEach es X.env)).any (·.1) = false := by rfl) : PF X (.Call (.Name x p) (e :: es) [] pos) (mFr (mN g' gs)) := by
  obtain ⟨t, ha, ra⟩ := ha
  exact ⟨_, pe_callB hc hg hm hv ha hn hdb he hpl, rd_clF hp ra⟩
theorem pf_bT {id : String} {r : List V → Hp → VK → Prop} {g' : List D → Option D} (hc : CallR X (.type id) r) (hp : PClF r g') (hg : Gl X x) (hm : X.mg x = none) (hv : bootBuiltins x = some (.type id)) (ha : PPs X (e :: es) gs) (hn : x ≠ "__name__" := by decide) (hdb : (x == ("__debug__" : Str)) = false := by decide)
    (he : starEach (e :: es) X.env = (false, eval e X.env) :: starEach es X.env := by rfl) (hpl : (backTo pos (starEach es X.env)).any (·.1) = false := by rfl) : PF X (.Call (.Name x p) (e :: es) [] pos) (mFr (mN g' gs)) := by
  obtain ⟨t, ha, ra⟩ := ha
  exact ⟨_, pe_callTy hc hg hm hv ha hn hdb he hpl, rd_clF hp ra⟩
/-! what each gives -/
def gLen : List D → Option D
  | [.list ds] => some (.int ds.length)
  | [.tuple ds] => some (.int ds.length)
  | [.str s] => if s.length ≤ 100000 then some (.int s.length) else none
  | _ => none
def rLenA (K : PySem.W.Frag) : List V → Hp → VK → Prop := fun xs H Q => ∃ x n, xs = [x] ∧ LenV K x H n ∧ Q (.int n) H
theorem pcl_len {K : PySem.W.Frag} : PClV (rLenA K) gLen := by
  intro G H vs ds z Q gh s hg q
  cases s with
  | nil => cases hg
  | cons h r => cases r with
    | cons _ _ => cases h <;> cases hg
    | nil =>
      cases h with
      | @lst a xs ds h r => cases hg; exact ⟨_, _, rfl, .inl ⟨xs, .inl (.inl h), r.length.symm⟩, q _ G H (Grow.refl gh) (.int _)⟩
      | @tup a xs ds h r => cases hg; exact ⟨_, _, rfl, .inr ⟨xs, .inl (.inl h), r.length.symm⟩, q _ G H (Grow.refl gh) (.int _)⟩
      | str s =>
        simp only [gLen] at hg
        by_cases hl : s.length ≤ 100000
        · rw [if_pos hl] at hg; cases hg
          exact ⟨_, _, rfl, ⟨line_of hl, rfl⟩, q _ G H (Grow.refl gh) (.int _)⟩
        · rw [if_neg hl] at hg; cases hg
      | _ => cases hg
theorem pv_len (hg : Gl X "len") (hm : X.mg "len" = none) (ha : PPs X (e :: es) gs) (he : starEach (e :: es) X.env = (false, eval e X.env) :: starEach es X.env := by rfl) (hpl : (backTo pos (starEach es X.env)).any (·.1) = false := by rfl) :
    PV X (.Call (.Name "len" p) (e :: es) [] pos) (mN gLen gs) := pv_b call_len pcl_len hg hm PySem.boot_len ha (he := he) (hpl := hpl)
def gAbs : List D → Option D
  | [.int i] => some (.int (if i < 0 then -i else i))
  | _ => none
theorem pv_abs (hg : Gl X "abs") (hm : X.mg "abs" = none) (ha : PPs X (e :: es) gs) (he : starEach (e :: es) X.env = (false, eval e X.env) :: starEach es X.env := by rfl) (hpl : (backTo pos (starEach es X.env)).any (·.1) = false := by rfl) :
    PV X (.Call (.Name "abs" p) (e :: es) [] pos) (mN gAbs gs) := pv_b call_abs (fun G H vs ds z Q gh s hg q => by
  cases s with
  | nil => cases hg
  | cons h r => cases r with
    | cons _ _ => cases h <;> cases hg
    | nil => cases h with
      | int i => cases hg; exact ⟨i, rfl, q _ G H (Grow.refl gh) (.int _)⟩
      | _ => cases hg) hg hm PyProof.Rows.boot_abs ha (he := he) (hpl := hpl)
def gMax2 : List D → Option D
  | [.int i, .int j] => some (.int (if j > i then j else i))
  | _ => none
def gMin2 : List D → Option D
  | [.int i, .int j] => some (.int (if j < i then j else i))
  | _ => none
theorem pv_max2 (hc : X.calm = true) (hg : Gl X "max") (hm : X.mg "max" = none) (ha : PPs X (e :: es) gs) (he : starEach (e :: es) X.env = (false, eval e X.env) :: starEach es X.env := by rfl) (hpl : (backTo pos (starEach es X.env)).any (·.1) = false := by rfl) :
    PV X (.Call (.Name "max" p) (e :: es) [] pos) (mN gMax2 gs) := pv_b (call_max2 hc) (fun G H vs ds z Q gh s hg q => by
  cases s with
  | nil => cases hg
  | cons h r => cases r with
    | nil => cases h <;> cases hg
    | cons h2 r2 => cases r2 with
      | cons _ _ => cases h <;> cases h2 <;> cases hg
      | nil => cases h with
        | int i => cases h2 with
          | int j => cases hg; exact ⟨i, j, rfl, q _ G H (Grow.refl gh) (.int _)⟩
          | _ => cases hg
        | _ => cases hg) hg hm (by decide +kernel) ha (he := he) (hpl := hpl)
theorem pv_min2 (hc : X.calm = true) (hg : Gl X "min") (hm : X.mg "min" = none) (ha : PPs X (e :: es) gs) (he : starEach (e :: es) X.env = (false, eval e X.env) :: starEach es X.env := by rfl) (hpl : (backTo pos (starEach es X.env)).any (·.1) = false := by rfl) :
    PV X (.Call (.Name "min" p) (e :: es) [] pos) (mN gMin2 gs) := pv_b (call_min2 hc) (fun G H vs ds z Q gh s hg q => by
  cases s with
  | nil => cases hg
  | cons h r => cases r with
    | nil => cases h <;> cases hg
    | cons h2 r2 => cases r2 with
      | cons _ _ => cases h <;> cases h2 <;> cases hg
      | nil => cases h with
        | int i => cases h2 with
          | int j => cases hg; exact ⟨i, j, rfl, q _ G H (Grow.refl gh) (.int _)⟩
          | _ => cases hg
        | _ => cases hg) hg hm (by decide +kernel) ha (he := he) (hpl := hpl)
def gInt1 : List D → Option D
  | [.int i] => some (.int i)
  | [.bool b] => some (.int (if b then 1 else 0))
  | _ => none
theorem pv_int1 (hg : Gl X "int") (hm : X.mg "int" = none) (ha : PPs X (e :: es) gs) (he : starEach (e :: es) X.env = (false, eval e X.env) :: starEach es X.env := by rfl) (hpl : (backTo pos (starEach es X.env)).any (·.1) = false := by rfl) :
    PV X (.Call (.Name "int" p) (e :: es) [] pos) (mN gInt1 gs) := pv_bT call_int1 (fun G H vs ds z Q gh s hg q => by
  cases s with
  | nil => cases hg
  | cons h r => cases r with
    | cons _ _ => cases h <;> cases hg
    | nil => cases h with
      | int i => cases hg; exact .inl ⟨i, rfl, q _ G H (Grow.refl gh) (.int _)⟩
      | bl b => cases hg; exact .inr ⟨b, rfl, q _ G H (Grow.refl gh) (.int _)⟩
      | _ => cases hg) hg hm PyProof.Rows.boot_int ha (he := he) (hpl := hpl)
def bools : List D → Option (List Bool)
  | [] => some []
  | .bool b :: ds => (bools ds).map (b :: ·)
  | _ => none
theorem bools_ok {G : Hp} : ∀ {ds : List D} {bs : List Bool} {vs : List V}, bools ds = some bs → RpA G vs ds → vs = bs.map V.bl
  | [], bs, _, h, .nil => by cases h; rfl
  | d :: ds, bs, _, h, .cons r rs => by
    cases r with
    | bl b =>
      simp only [bools] at h
      cases q : bools ds with
      | none => rw [q] at h; cases h
      | some cs => rw [q] at h; cases h; rw [bools_ok q rs]; rfl
    | _ => cases h
def nums : List D → Option (List Int)
  | [] => some []
  | .int b :: ds => (nums ds).map (b :: ·)
  | _ => none
theorem nums_ok {G : Hp} : ∀ {ds : List D} {bs : List Int} {vs : List V}, nums ds = some bs → RpA G vs ds → vs = bs.map V.int
  | [], bs, _, h, .nil => by cases h; rfl
  | d :: ds, bs, _, h, .cons r rs => by
    cases r with
    | int b =>
      simp only [nums] at h
      cases q : nums ds with
      | none => rw [q] at h; cases h
      | some cs => rw [q] at h; cases h; rw [nums_ok q rs]; rfl
    | _ => cases h
def gAll : List D → Option D
  | [.list ds] => (bools ds).map fun bs => .bool (bs.all id)
  | _ => none
def gAny : List D → Option D
  | [.list ds] => (bools ds).map fun bs => .bool (bs.any id)
  | _ => none
def gSum : List D → Option D
  | [.list ds] => (nums ds).map fun bs => .int bs.sum
  | _ => none
theorem pcl_list1 {r : List V → Hp → VK → Prop} {α : Type} {dec : List D → Option (List α)} {inj : α → V} {out : List α → D} {gg : List D → Option D} (hg1 : ∀ ds, gg [.list ds] = (dec ds).map out) (hg2 : ∀ l, (∀ ds, l ≠ [PyData.list ds]) → gg l = none)
    (hdec : ∀ {G : Hp} {ds : List D} {bs : List α} {vs : List V}, dec ds = some bs → RpA G vs ds → vs = bs.map inj)
    (hr : ∀ (H : Hp) (a : Addr) (bs : List α) (Q : VK) (G : Hp), H a = some (.lst (bs.map inj)) → Same G H → (∀ v G' H', Grow G H G' H' → Rp G' v (out bs) → Q v H') → r [.ref a] H Q) : PClV r gg := by
  intro G H vs ds z Q gh s hg q
  cases s with
  | nil => rw [hg2 _ (by intro ds h; simp at h)] at hg; cases hg
  | cons h rr => cases rr with
    | cons _ _ => rw [hg2 _ (by intro ds h; simp at h)] at hg; cases hg
    | nil => cases h with
      | @lst a xs ds h r =>
        rw [hg1] at hg
        cases qd : dec ds with
        | none => rw [qd] at hg; cases hg
        | some bs =>
          rw [qd] at hg
          cases hg
          have := hdec qd r
          subst this
          exact hr H a bs Q G h gh q
      | _ => rw [hg2 _ (by intro ds h; simp at h)] at hg; cases hg
theorem pv_all (hc : X.calm = true) (hg : Gl X "all") (hm : X.mg "all" = none) (ha : PPs X (e :: es) gs) (he : starEach (e :: es) X.env = (false, eval e X.env) :: starEach es X.env := by rfl) (hpl : (backTo pos (starEach es X.env)).any (·.1) = false := by rfl) :
    PV X (.Call (.Name "all" p) (e :: es) [] pos) (mN gAll gs) := pv_b (cr_all hc) (pcl_list1 (dec := bools) (inj := V.bl) (out := fun bs => .bool (bs.all id)) (fun _ => rfl) (fun l h => by
      cases l with
      | nil => rfl
      | cons d ds => cases d <;> cases ds <;> first | rfl | exact absurd rfl (h _)) bools_ok fun H a bs Q G h gh q => ⟨a, bs, rfl, .inl (.inl h), q _ G H (Grow.refl gh) (.bl _)⟩) hg hm (by decide +kernel) ha (he := he) (hpl := hpl)
theorem pv_any (hc : X.calm = true) (hg : Gl X "any") (hm : X.mg "any" = none) (ha : PPs X (e :: es) gs) (he : starEach (e :: es) X.env = (false, eval e X.env) :: starEach es X.env := by rfl) (hpl : (backTo pos (starEach es X.env)).any (·.1) = false := by rfl) :
    PV X (.Call (.Name "any" p) (e :: es) [] pos) (mN gAny gs) := pv_b (cr_any hc) (pcl_list1 (dec := bools) (inj := V.bl) (out := fun bs => .bool (bs.any id)) (fun _ => rfl) (fun l h => by
      cases l with
      | nil => rfl
      | cons d ds => cases d <;> cases ds <;> first | rfl | exact absurd rfl (h _)) bools_ok fun H a bs Q G h gh q => ⟨a, bs, rfl, .inl (.inl h), q _ G H (Grow.refl gh) (.bl _)⟩) hg hm (by decide +kernel) ha (he := he) (hpl := hpl)
theorem pv_sum (hc : X.calm = true) (hg : Gl X "sum") (hm : X.mg "sum" = none) (ha : PPs X (e :: es) gs) (he : starEach (e :: es) X.env = (false, eval e X.env) :: starEach es X.env := by rfl) (hpl : (backTo pos (starEach es X.env)).any (·.1) = false := by rfl) :
    PV X (.Call (.Name "sum" p) (e :: es) [] pos) (mN gSum gs) := pv_b (cr_sum hc) (pcl_list1 (dec := nums) (inj := V.int) (out := fun bs => .int bs.sum) (fun _ => rfl) (fun l h => by
      cases l with
      | nil => rfl
      | cons d ds => cases d <;> cases ds <;> first | rfl | exact absurd rfl (h _)) nums_ok fun H a bs Q G h gh q => ⟨a, bs, rfl, .inl (.inl h), q _ G H (Grow.refl gh) (.int _)⟩) hg hm (by decide +kernel) ha (he := he) (hpl := hpl)
def gList : List D → Option D
  | [.list ds] => some (.list ds)
  | [.tuple ds] => some (.list ds)
  | _ => none
theorem pf_list (hg : Gl X "list") (hm : X.mg "list" = none) (ha : PPs X (e :: es) gs) (he : starEach (e :: es) X.env = (false, eval e X.env) :: starEach es X.env := by rfl) (hpl : (backTo pos (starEach es X.env)).any (·.1) = false := by rfl) :
    PF X (.Call (.Name "list" p) (e :: es) [] pos) (mFr (mN gList gs)) := pf_bT call_list_of (fun G H vs ds z Q gh s hg q => by
  cases s with
  | nil => cases hg
  | cons h r => cases r with
    | cons _ _ => cases h <;> cases hg
    | nil => cases h with
      | @lst a xs ds h r => cases hg; exact ⟨a, xs, rfl, .inl (.inl (.inl h)), fun l hl => q l _ hl (Grow.newF gh hl) (.lst upd_same r)⟩
      | @tup a xs ds h r => cases hg; exact ⟨a, xs, rfl, .inr (.inl (.inl h)), fun l hl => q l _ hl (Grow.newF gh hl) (.lst upd_same r)⟩
      | _ => cases hg) hg hm PyProof.Rows.boot_list ha (he := he) (hpl := hpl)
def gTuple : List D → Option D
  | [.list ds] => some (.tuple ds)
  | _ => none
theorem pv_tuple (hg : Gl X "tuple") (hm : X.mg "tuple" = none) (ha : PPs X (e :: es) gs) (he : starEach (e :: es) X.env = (false, eval e X.env) :: starEach es X.env := by rfl) (hpl : (backTo pos (starEach es X.env)).any (·.1) = false := by rfl) :
    PV X (.Call (.Name "tuple" p) (e :: es) [] pos) (mN gTuple gs) := pv_bT call_tuple_of (fun G H vs ds z Q gh s hg q => by
  cases s with
  | nil => cases hg
  | cons h r => cases r with
    | cons _ _ => cases h <;> cases hg
    | nil => cases h with
      | @lst a xs ds h r => cases hg; exact ⟨a, xs, rfl, .inl ⟨.inl (.inl h), fun l hl => (Grow.new (o := .tup xs) gh hl |> fun w => q _ _ _ w (.tup upd_same (r.mono w.g)))⟩⟩
      | _ => cases hg) hg hm PyProof.Rows.boot_tuple ha (he := he) (hpl := hpl)
/-! ### the script -/
def mLenS (i : Nat) : M D := fun ρ => match ρ[i]? with
  | some (.scr ns) => .ok (.int ns.length) ρ
  | _ => .stuck
def mIxS (i : Nat) (fb : M D) : M D := fun ρ => match ρ[i]? with
  | some (.scr ns) => match fb ρ with
    | .ok (.int n) ρ' => match atI ns n with
      | some v => .ok (.int v) ρ'
      | none => .stuck
    | _ => .stuck
  | _ => .stuck
theorem scr_at {C : Ctx} {G H : Hp} {σ : L2.St} {ρ : Env} {i : Nat} {ns : List Int} (S : StOk C G σ H ρ) (e : ρ[i]? = some (.scr ns)) : ∃ a, σ[i]? = some (some (.ref a)) ∧ SqL C.K C.B a (ns.map V.int) := by
  obtain ⟨o, e1, v, rfl, p1, p2⟩ := S.sl i _ e
  have w := S.wf i v p1
  rw [p2] at w
  obtain ⟨a, rfl, q⟩ := w
  exact ⟨a, e1, q⟩
theorem pv_lenS (i : Nat) (hg : Gl X "len") (hm : X.mg "len" = none) (hN : X.N[i]? = some x := by rfl) (hv : Vis X.env.scope x := by first | exact Or.inl rfl | exact Or.inr (Or.inl rfl) | exact Or.inr (Or.inr rfl)) (hd : (x == ("__debug__" : Str)) = false := by decide)
    (hcd : (x == ("__classdict__" : Str)) = false := by decide) (he : starEach [.Name x p1] X.env = (false, eval (.Name x p1) X.env) :: starEach [] X.env := by rfl) (hpl : (backTo pos (starEach [] X.env)).any (·.1) = false := by rfl) :
    PV X (.Call (.Name "len" p) [.Name x p1] [] pos) (mLenS i) := by
  refine ⟨_, pe_callB call_len hg hm PySem.boot_len (pa_cons (pe_var hN hv hd hcd) pa_nil he) (he := he) (hpl := hpl), fun C G σ H ρ Q hK S d ρ' hf q => ?_⟩
  unfold mLenS at hf
  cases r : ρ[i]? with
  | none => rw [r] at hf; cases hf
  | some s =>
    rw [r] at hf
    cases s with
    | scr ns =>
      cases hf
      obtain ⟨a, e1, sq⟩ := scr_at S r
      rw [hK] at sq
      exact ⟨_, e1, _, _, rfl, .inl ⟨_, Same.seq S.bh sq, by rw [List.length_map]⟩, q _ G H (Same.refl _) S (.int _)⟩
    | _ => cases hf
theorem pv_ixS (i : Nat) (hb : PV X b fb) (hs : PlainIx b := by intro _ _; rfl) (hN : X.N[i]? = some x := by rfl) (hv : Vis X.env.scope x := by first | exact Or.inl rfl | exact Or.inr (Or.inl rfl) | exact Or.inr (Or.inr rfl)) (hd : (x == ("__debug__" : Str)) = false := by decide)
    (hcd : (x == ("__classdict__" : Str)) = false := by decide) : PV X (.Subscript (.Name x p1) b pos) (mIxS i fb) := by
  obtain ⟨tb, hb, rb⟩ := hb
  refine ⟨_, pe_ix ix_list (pe_var hN hv hd hcd) hb hs, fun C G σ H ρ Q hK S d ρ' hf q => ?_⟩
  unfold mIxS at hf
  cases r : ρ[i]? with
  | none => rw [r] at hf; cases hf
  | some s =>
    rw [r] at hf
    cases s with
    | scr ns =>
      simp only at hf
      obtain ⟨a, e1, sq⟩ := scr_at S r
      rw [hK] at sq
      refine ⟨_, e1, ?_⟩
      cases r2 : fb ρ with
      | stuck => rw [r2] at hf; cases hf
      | ok d1 ρ1 =>
        rw [r2] at hf
        cases d1 with
        | int n =>
          simp only at hf
          refine rb C G σ H ρ _ hK S _ ρ1 r2 fun v G1 H1 g1 S1 o => ?_
          cases o
          cases r3 : atI ns n with
          | none => rw [r3] at hf; cases hf
          | some w =>
            rw [r3] at hf
            cases hf
            refine ⟨a, _, n, .int w, rfl, rfl, Same.seq S1.bh sq, ?_, q _ G1 H1 g1 S1 (.int _)⟩
            unfold atI at r3 ⊢
            rw [List.length_map]
            cases r4 : ixN ns.length n with
            | none => rw [r4] at r3; cases r3
            | some j =>
              rw [r4] at r3
              have r3' : ns[j]? = some w := r3
              show (ns.map V.int)[j]? = _
              rw [List.getElem?_map, r3']
              rfl
        | _ => cases hf
    | _ => cases hf
/-! ### isinstance -/
def tyD : D → String
  | .none => "NoneType"
  | .bool _ => "bool"
  | .int _ => "int"
  | .str _ => "str"
  | .list _ => "list"
  | .tuple _ => "tuple"
  | .dict _ => "dict"
theorem Sh.ty {K : PySem.W.Frag} {G H : Hp} {v : V} {d : D} (h : Sh G H v d) : TyX K H v (.type (tyD d)) := by
  cases h with
  | non => exact .base .non
  | bl b => exact .base (.bl b)
  | int i => exact .base (.int i)
  | str s => exact .base (.str s)
  | lst h r => exact .base (.lst h)
  | tup h r => exact .base (.tup h)
  | dct h r => exact .base (.dK h)
/-- the types' own answer, by names -/
def isTy (t : String) : String → Bool
  | "int" => t == "int" || t == "bool"
  | T => t == T
def goodTy (T : String) : Bool := T == "int" || T == "bool" || T == "str" || T == "list" || T == "tuple" || T == "dict"
theorem kit_isTy {K : PySem.W.Frag} {d : D} {T : String} (h : goodTy T = true) : PySem.W.kitOne K (.type (tyD d)) (.type T) = some (isTy (tyD d) T) := by
  simp only [goodTy, Bool.or_eq_true, beq_iff_eq] at h
  have k : kitB (tyD d) T = some (isTy (tyD d) T) := by
    rcases h with ((((h | h) | h) | h) | h) | h <;> subst h <;> cases d <;> simp only [tyD] <;> decide +kernel
  exact kit_ty k
def gIsi (Ts : List String) (d : D) : Option D := some (.bool (Ts.any fun T => isTy (tyD d) T))
theorem pv_isi {T : String} (hg : Gl X "isinstance") (hm : X.mg "isinstance" = none) (ha : PP X e g) (hT : PE X b (tC (.ty T))) (hgood : goodTy T = true) (he : starEach [e, b] X.env = (false, eval e X.env) :: starEach [b] X.env := by rfl) (he2 : starEach [b] X.env = (false, eval b X.env) :: starEach [] X.env := by rfl)
    (hpl : (backTo pos (starEach [b] X.env)).any (·.1) = false := by rfl) : PV X (.Call (.Name "isinstance" p) [e, b] [] pos) (mUn (gIsi [T]) g) := by
  obtain ⟨t, ha, r⟩ := ha
  refine ⟨_, pe_callB call_isi hg hm PyProof.Rows.boot_isinstance (pa_cons ha (pa_cons hT pa_nil he2) he) (he := he) (hpl := hpl), fun C G σ H ρ Q hK S d ρ' hf q => ?_⟩
  obtain ⟨pl, ρ1, h1, hf2⟩ := bnd_ok hf
  refine r C G σ H ρ _ hK S pl ρ1 h1 fun v G1 H1 g1 S1 o => ?_
  obtain ⟨dd, ρ2, h2, hf3⟩ := bnd_ok hf2
  obtain ⟨s, rfl⟩ := look_ok S1 o h2
  cases hf3
  refine ⟨v, .ty T, _, _, _, rfl, .ty T, s.ty, kit_isTy hgood, ?_⟩
  have : isTy (tyD dd) T = [T].any fun T => isTy (tyD dd) T := by simp
  rw [this]
  exact q _ G1 H1 g1 S1 (.bl _)
theorem kit_any {K : PySem.W.Frag} {d : D} : ∀ {Ts : List String}, Ts.all goodTy = true → PySem.W.kitAny K (.type (tyD d)) (Ts.map Value.type) = some (Ts.any fun T => isTy (tyD d) T)
  | [], _ => kitAny_nil
  | T :: Ts, h => by
    have h' : (goodTy T && Ts.all goodTy) = true := h
    rw [Bool.and_eq_true] at h'
    refine kitAny_cons (kit_isTy h'.1) (fun hb => ?_) fun hb => ?_
    · rw [kit_any h'.2, List.any_cons, hb, Bool.false_or]
    · rw [List.any_cons, hb, Bool.true_or]
theorem tys_paired : ∀ (Ts : List String), Paired ClsV (Ts.map V.ty) (Ts.map Value.type)
  | [] => .nil
  | T :: Ts => .cons (.ty T) (tys_paired Ts)
def tTys (Ts : List String) : TA := fun _ H Q => Q (Ts.map V.ty) H
theorem pa_tyN : PA X [] (tTys []) := ⟨fun pos pins s σ H Q I h => pa_nil.run pos pins s σ H Q I h⟩
theorem pa_tyC {T : String} {Ts : List String} (h : PE X e (tC (.ty T))) (hr : PA X es (tTys Ts)) (hs : starEach (e :: es) X.env = (false, eval e X.env) :: starEach es X.env := by rfl) : PA X (e :: es) (tTys (T :: Ts)) :=
  ⟨fun pos pins s σ H Q I q => (pa_cons h hr hs).run pos pins s σ H Q I q⟩
theorem pv_isiT {Ts : List String} {x1} (hg : Gl X "isinstance") (hm : X.mg "isinstance" = none) (ha : PP X e g) (hT : PA X es (tTys Ts)) (hgood : Ts.all goodTy = true) (hlen : Ts.length ≤ 1000) (he : starEach [e, .Tuple es x1 tpos] X.env = (false, eval e X.env) :: starEach [.Tuple es x1 tpos] X.env := by rfl) (he2 : starEach [.Tuple es x1 tpos] X.env = (false, eval (.Tuple es x1 tpos) X.env) :: starEach [] X.env := by rfl)
    (hpl : (backTo pos (starEach [.Tuple es x1 tpos] X.env)).any (·.1) = false := by rfl) : PV X (.Call (.Name "isinstance" p) [e, .Tuple es x1 tpos] [] pos) (mUn (gIsi Ts) g) := by
  obtain ⟨t, ha, r⟩ := ha
  refine ⟨_, pe_callB call_isiT hg hm PyProof.Rows.boot_isinstance (pa_cons ha (pa_cons (pe_tup hT) pa_nil he2) he) (he := he) (hpl := hpl), fun C G σ H ρ Q hK S d ρ' hf q => ?_⟩
  obtain ⟨pl, ρ1, h1, hf2⟩ := bnd_ok hf
  refine r C G σ H ρ _ hK S pl ρ1 h1 fun v G1 H1 g1 S1 o => ?_
  obtain ⟨dd, ρ2, h2, hf3⟩ := bnd_ok hf2
  refine ⟨by rw [List.length_map]; exact Nat.le_trans hlen (by decide), fun tp htp => ?_⟩
  have w := Grow.newF (o := .tup (Ts.map V.ty)) S1.gh htp
  have S2 := S1.grow w
  obtain ⟨s, rfl⟩ := look_ok S2 o h2
  cases hf3
  exact ⟨v, tp, Ts.map V.ty, _, _, _, rfl, upd_same, tys_paired Ts, s.ty, kit_any hgood, q _ G1 _ g1 S2 (.bl _)⟩
theorem pe_ty {T : Str} {u : String} (hg : Gl X T) (hm : X.mg T = none) (hv : bootBuiltins T = some (.type u)) (hn : T ≠ "__name__" := by decide) (hd : (T == ("__debug__" : Str)) = false := by decide) : PE X (.Name T pos) (tC (.ty u)) := pe_bltn hg hm hv rfl hn hd
/-! ### methods that change a list -/
theorem pv_mut {j : Nat} {name : Str} {id : String} {r : V → List V → Hp → VK → Prop} {g' : List D → List D → Option (List D × D)} {fs : M (List D)} (slot : Slot "list" name id) (hty : typeOf (.builtin id) = pure (.type "method_descriptor")) (hm : MtR X id r) (hp : PMut r g') (ha : PVs X (e :: es) fs) (hN : X.N[j]? = some x := by rfl)
    (hv : Vis X.env.scope x := by first | exact Or.inl rfl | exact Or.inr (Or.inl rfl) | exact Or.inr (Or.inr rfl)) (hd : (x == ("__debug__" : Str)) = false := by decide) (hcd : (x == ("__classdict__" : Str)) = false := by decide)
    (hbase : attributeBase (.Name x p1) name X.env (eval (.Name x p1) X.env) = eval (.Name x p1) X.env := by rfl)
    (hfew : ((backTo cpos (starEach (e :: es) X.env)).all (fun x => !x.1) && (backToKw cpos (keywordEach [] X.env)).all (fun x => x.1.isSome)
      && decide ((e :: es).length + ([] : List Keyword).length + (if ([] : List Keyword).isEmpty then 0 else 1) < 30)) = true := by rfl)
    (hline : (apos.endLine == cpos.line) = true := by rfl) (hs : starEach (e :: es) X.env = (false, eval e X.env) :: starEach es X.env := by rfl) (hplain : (backTo cpos (starEach es X.env)).any (·.1) = false := by rfl) :
    PV X (.Call (.Attribute (.Name x p1) name apos) (e :: es) [] cpos) (mMut j g' fs) := by
  obtain ⟨t, ha, ra⟩ := ha
  exact ⟨_, pe_bm PySem.F.plainAttrs_list slot hty hm (pe_var hN hv hd hcd) ha hbase hfew hline hs hplain, rd_mut hp ra⟩
theorem pv_mut0 {j : Nat} {name : Str} {id : String} {r : V → List V → Hp → VK → Prop} {g' : List D → List D → Option (List D × D)} (slot : Slot "list" name id) (hty : typeOf (.builtin id) = pure (.type "method_descriptor")) (hm : MtR X id r) (hp : PMut r g') (hN : X.N[j]? = some x := by rfl)
    (hv : Vis X.env.scope x := by first | exact Or.inl rfl | exact Or.inr (Or.inl rfl) | exact Or.inr (Or.inr rfl)) (hd : (x == ("__debug__" : Str)) = false := by decide) (hcd : (x == ("__classdict__" : Str)) = false := by decide)
    (hbase : attributeBase (.Name x p1) name X.env (eval (.Name x p1) X.env) = eval (.Name x p1) X.env := by rfl) (hline : (apos.endLine == cpos.line) = true := by rfl) :
    PV X (.Call (.Attribute (.Name x p1) name apos) [] [] cpos) (mMut j g' mNil) := by
  refine ⟨_, pe_bm0 PySem.F.plainAttrs_list slot hty hm (pe_var hN hv hd hcd) hbase hline, fun C G σ H ρ Q hK S d ρ' hf q => ?_⟩
  have key := rd_mut (X := X) (j := j) (t := tNil) (fs := mNil) hp (fun C G σ H ρ Q hK S d ρ' hf q => by cases hf; exact q [] G H (Same.refl _) S .nil) C G σ H ρ Q hK S d ρ' hf q
  obtain ⟨v, e1, z⟩ := key
  exact ⟨v, e1, z⟩
def gAppend (ds as : List D) : Option (List D × D) := match as with
  | [d] => if ds.length < 100000 then some (ds ++ [d], .none) else none
  | _ => none
theorem pmut_append : PMut rAppend gAppend := by
  intro G H l vs ds as ads new z Q gh hl r ra hg q
  cases ra with
  | nil => cases hg
  | cons h rr => cases rr with
    | cons _ _ => cases hg
    | nil =>
      simp only [gAppend] at hg
      split at hg
      · rename_i hlt
        cases hg
        exact ⟨l, vs, _, rfl, rfl, hl, by rw [r.length]; exact line_lt hlt, q _ _ (r.append (.one h)) .non⟩
      · cases hg
def gInsert (ds as : List D) : Option (List D × D) := match as with
  | [.int i, d] => if ds.length < 100000 ∧ 0 ≤ i ∧ i < 2 ^ 63 then some (ds.take i.toNat ++ [d] ++ ds.drop i.toNat, .none) else none
  | _ => none
theorem pmut_insert : PMut (fun x vs H Q => ∃ (l : Addr) (xs : List V) (i : Int) (y : V), x = .ref l ∧ vs = [.int i, y] ∧ H l = some (.lst xs) ∧ xs.length < sizeLine ∧ 0 ≤ i ∧ i < 2 ^ 63 ∧
    Q .non (upd H l (.lst (xs.take i.toNat ++ [y] ++ xs.drop i.toNat)))) gInsert := by
  intro G H l vs ds as ads new z Q gh hl r ra hg q
  cases ra with
  | nil => cases hg
  | cons h rr => cases rr with
    | nil => cases h <;> cases hg
    | cons h2 r2 => cases r2 with
      | cons _ _ => cases h <;> cases hg
      | nil => cases h with
        | int i =>
          simp only [gInsert] at hg
          split at hg
          · rename_i hlt
            cases hg
            exact ⟨l, vs, i, _, rfl, rfl, hl, by rw [r.length]; exact line_lt hlt.1, hlt.2.1, hlt.2.2, q _ _ (((r.take _).append (.one h2)).append (r.drop _)) .non⟩
          · cases hg
        | _ => cases hg
def gReverse (ds as : List D) : Option (List D × D) := match as with
  | [] => some (ds.reverse, .none)
  | _ => none
theorem pmut_reverse : PMut rReverse gReverse := by
  intro G H l vs ds as ads new z Q gh hl r ra hg q
  cases ra with
  | cons _ _ => cases hg
  | nil => cases hg; exact ⟨l, vs, rfl, rfl, hl, q _ _ r.reverse .non⟩
def gClear (ds as : List D) : Option (List D × D) := match as with
  | [] => some ([], .none)
  | _ => none
theorem pmut_clear : PMut rClear gClear := by
  intro G H l vs ds as ads new z Q gh hl r ra hg q
  cases ra with
  | cons _ _ => cases hg
  | nil => cases hg; exact ⟨l, vs, rfl, rfl, hl, q _ _ .nil .non⟩
def gPop (ds as : List D) : Option (List D × D) := match as with
  | [] => match ds[ds.length - 1]? with
    | some y => some (ds.dropLast, y)
    | none => none
  | _ => none
theorem RpA.dropLast {G : Hp} : ∀ {vs : List V} {ds : List D}, RpA G vs ds → RpA G vs.dropLast ds.dropLast
  | _, _, .nil => .nil
  | _, _, .cons h .nil => .nil
  | _, _, .cons h (.cons h2 r) => .cons h (RpA.dropLast (.cons h2 r))
theorem pmut_pop : PMut rPop gPop := by
  intro G H l vs ds as ads new z Q gh hl r ra hg q
  cases ra with
  | cons _ _ => cases hg
  | nil =>
    simp only [gPop] at hg
    cases e : ds[ds.length - 1]? with
    | none => rw [e] at hg; cases hg
    | some y =>
      rw [e] at hg
      cases hg
      obtain ⟨v, hv, rv⟩ := r.get e
      exact ⟨l, vs, v, rfl, rfl, hl, by rw [r.length]; exact hv, q _ _ r.dropLast rv⟩
end
end PL
namespace PL
open PySem PySem.Spec L2 RT RZ
/-! ### a def that is called where no repr is under way -/
structure FnG (P : Program) (w : World) (K : PySem.W.Frag) (mg : Str → Option Value) (base : Heap) (k : Nat) (f : Addr) (fd : FuncData) (ps : List Str) (sp : Sp) : Prop where
  len : ∀ (vs : List V) (H : Hp) (Q : VK) (E : XK), sp vs H Q E → vs.length = ps.length
  go : ∀ (A : Around), A.guards = some [] → ∀ (outer : List PySem.Env) (s : Shared) (H : Hp) (args : Args) (us : List Value) (vs : List V) (Q : VK) (E : XK), Room k A → Env0 P w K mg base A outer s H →
    BindsTo s fd args (ps.zip us) → Vals vs us → sp vs H Q E → codeAny (model P w) A (.call (.ref f) args) (CR L2.CX0 outer P w H s Q E) s
section
variable {P : Program} {w : World} {K : PySem.W.Frag} {mg : Str → Option Value} {base : Heap} {k : Nat} {N ps : List Str} {x qual : Str} {st : Stmt} {f : Addr} {fd : FuncData} {m : M Fl}
theorem FnG.mono {sp : Sp} {j : Nat} (F : FnG P w K mg base j f fd ps sp) (h : j ≤ k) : FnG P w K mg base k f fd ps sp :=
  ⟨F.len, fun A hG outer s H args us vs Q E hr => F.go A hG outer s H args us vs Q E (hr.mono h)⟩
theorem fnG_of {sp : Sp} (F : Fun K x qual st f fd) (S : FnScope N ps (defScope st)) (len : ∀ (vs : List V) (H : Hp) (Q : VK) (E : XK), sp vs H Q E → vs.length = ps.length)
    (body : ∀ (cdv : Value) (A : Around), A.guards = some [] → ∀ (outer : List PySem.Env) (s : Shared) (H : Hp) (vs : List V) (Q : VK) (E : XK), Room k (A.deeper (PyProof.Rows.envOfC qual (defScope st) s.heap.objs.size f cdv)) → sp vs H Q E →
      ∃ t, PSs (cxOf L2.CX0 P w K mg base N qual (defScope st) f cdv A outer s H E).nox (defBody st) t ∧ t { nx := fun _ H' => Q .non H', rt := Q } (L2.start N vs) H) : FnG P w K mg base (k + 1) f fd ps sp := by
  obtain ⟨oc, od, kV, doc, pm, an, cdv, ct, osl, rfl, lk, hcd⟩ := F.ex
  constructor
  · exact len
  intro A hG outer s H args us vs Q E hr e0 hb r hsp
  have hl := len _ _ _ _ hsp
  have KX : K.In s.heap := e0.mod.kin.keeps fun b o e => (e0.bs b o e).1
  have lim : s.heap.NoLimit := e0.mod.nolimit.keeps fun b o e => (e0.bs b o e).1
  have kinds : ∀ y ∈ ps.zip us, (defScope st).names.lookup y.1 = some .local ∨ ((defScope st).names.lookup y.1 = some .cell ∧ ((cellsFrom (s.heap.objs.size + 1) (defScope st).names []).lookup y.1).isSome = true) := by
    rintro ⟨n, v⟩ hy
    rcases S.par n (List.of_mem_zip hy).1 with q | q
    · exact Or.inl q
    · exact Or.inr ⟨q, PySem.W.cellsFrom_some _ _ _ (.inl q)⟩
  refine codeAny_call_function hr.depth (KX _ _ lk) rfl S.co S.gen rfl (PySem.W.codeRec_of KX hcd) (hb _ _ _ _ ?_)
  refine PySem.wpAny_newFunctionEnv_cells S.kind kinds ?_
  intro env he s1 x1
  subst he
  refine ⟨lim.keeps x1.toInCall.keep, codeAny_func ?_⟩
  obtain ⟨t, ht, hq⟩ := body cdv A hG outer s H vs Q E (hr.deeper _) hsp
  have I : Inv (cxOf L2.CX0 P w K mg base N qual (defScope st) f cdv A outer s H E) [] (L2.start N vs) H s1 := inv_start S hr.hd e0 hl r x1
  have run := ht.nox.run [] s1 (L2.start N vs) H _ I hq
  refine wpAny_mono run ?_ fun e s' hs => hs
  intro fl s' hs
  cases fl with
  | brk => obtain ⟨_, _, _, q⟩ := hs; exact q.elim
  | cont => obtain ⟨_, _, _, q⟩ := hs; exact q.elim
  | next => obtain ⟨σ', H', J, q⟩ := hs; exact ⟨V.non, H', J.os, J.bare, J.base, J.hok, rfl, q⟩
  | ret u => obtain ⟨v, σ', H', J, rv, q⟩ := hs; exact ⟨v, H', J.os, J.bare, J.base, J.hok, rv, q⟩
theorem fnG_pl {np nl : Nat} (F : Fun K x qual st f fd) (S : FnScope N ps (defScope st)) (hn : N.length = np + nl) (hp : ps.length = np)
    (hb : ∀ (cdv : Value) (A : Around) (outer : List PySem.Env) (s : Shared) (H : Hp) (E : XK), A.guards = some [] → Room k (A.deeper (PyProof.Rows.envOfC qual (defScope st) s.heap.objs.size f cdv)) →
      PSts (cxOf L2.CX0 P w K mg base N qual (defScope st) f cdv A outer s H E).nox (defBody st) m) : FnG P w K mg base (k + 1) f fd ps (spD K np nl m) := by
  refine fnG_of F S (fun vs H Q E h => ?_) fun cdv A hG outer s H vs Q E hr h => ?_
  · obtain ⟨C, ss, r, ρ', hl, _⟩ := h
    rw [hl, hp]
  · obtain ⟨C, ss, r, ρ', hl, hK, S0, hrun, q⟩ := h
    obtain ⟨t, ht, rt⟩ := hb cdv A outer s H E hG hr
    refine ⟨t, ht, ?_⟩
    have e : L2.start N vs = vs.map some ++ List.replicate nl none := by
      unfold L2.start
      rw [hn, hl, Nat.add_sub_cancel_left]
    rw [e]
    have S1 := S0.more nl
    unfold runD at hrun
    cases hm : m (ss ++ List.replicate nl .un) with
    | stuck => rw [hm] at hrun; cases hrun
    | ok fl ρ1 =>
      rw [hm] at hrun
      cases fl with
      | rt r1 => cases hrun; exact rt C C.G0 _ H _ _ hK S1 _ _ hm fun σ' G' H' g S' v o => q v G' σ' H' g S' o
      | nx => cases hrun; exact rt C C.G0 _ H _ _ hK S1 _ _ hm fun σ' G' H' g S' => q .non G' σ' H' g S' .non
      | bk => cases hrun
      | ct => cases hrun
end
section
variable {X : Cx} {e : Expr} {es : List Expr} {pos p : Pos} {x : Str} {k : Nat} {f : Addr} {fd : FuncData} {ps : List Str} {np nl : Nat} {m : M Fl} {ms : List Md} {fs : M (List Pl)} {sp : Sp} {t : TA}
theorem pe_callG (F : FnG X.prog X.w X.K X.mg X.base k f fd ps sp) (hG : X.A.guards = some []) (hr : Room k X.A) (hg : Gl X x) (hm : X.mg x = some (.ref f)) (hk : PySem.W.keepIn X.K (.ref f) = true) (hb : Binds X.K fd ps []) (ha : PA X (e :: es) t)
    (hdb : (x == ("__debug__" : Str)) = false := by decide) (he : starEach (e :: es) X.env = (false, eval e X.env) :: starEach es X.env := by rfl) (hpl : (backTo pos (starEach es X.env)).any (·.1) = false := by rfl) :
    PE X (.Call (.Name x p) (e :: es) [] pos) (tCall sp [] L2.E0 t) := by
  constructor
  intro pins s σ H Q I h
  refine PySem.wpAny_Call_Name_kw (ld_glob I hg hm ?_ hdb)
  refine PySem.W.callWith_K (h₀ := X.base) I.ok.mod.kin hk (thn (ha.run pos pins s σ H _ I h) ?_) he hpl
  rintro us s1 ⟨vs, H1, I1, r, q⟩
  refine ⟨I1.kIn, ?_⟩
  rw [List.append_nil] at q
  have hl : us.length = ps.length := by rw [← r.length]; exact F.len _ _ _ _ q
  have hb' := hb s1 us I1.kIn (by rw [List.append_nil]; exact hl)
  rw [List.append_nil] at hb'
  refine wpAny_call (codeAny_mono (F.go X.A hG X.stack s1 H1 ⟨us, []⟩ us vs Q _ hr I1.env0 hb' r q) ?_)
  intro r s' hq
  cases r with
  | error e => exact False.elim hq
  | ok fl =>
    cases fl with
    | ret u => exact I1.after hq
    | next => exact False.elim hq
    | brk => exact False.elim hq
    | cont => exact False.elim hq
theorem pf_callG (F : FnG X.prog X.w X.K X.mg X.base k f fd ps (spD X.K np nl m)) (hG : X.A.guards = some []) (hr : Room k X.A) (hg : Gl X x) (hm : X.mg x = some (.ref f)) (hk : PySem.W.keepIn X.K (.ref f) = true) (hb : Binds X.K fd ps []) (ha : PPs X (e :: es) fs) (hl : ms.length = np)
    (hdb : (x == ("__debug__" : Str)) = false := by decide) (he : starEach (e :: es) X.env = (false, eval e X.env) :: starEach es X.env := by rfl) (hpl : (backTo pos (starEach es X.env)).any (·.1) = false := by rfl) :
    PF X (.Call (.Name x p) (e :: es) [] pos) (mCall ms nl m fs) := by
  obtain ⟨t, ha, ra⟩ := ha
  exact ⟨_, pe_callG F hG hr hg hm hk hb ha hdb he hpl, rd_call ra hl⟩
end
/-! ### repr of data -/
/-- a number, a truth value, None, a text -/
def plain1 : D → Bool
  | .none => true
  | .bool _ => true
  | .int _ => true
  | .str _ => true
  | _ => false
/-- .. or a tuple of such -/
def plain2 : D → Bool
  | .tuple ds => ds.all plain1
  | d => plain1 d
/-- a dict of such -/
def flatD : D → Bool
  | .dict ks => ks.all fun kv => plain2 kv.2
  | _ => false
theorem plain1_reads {G : Hp} {h : Heap} {v : V} {d : D} {u : Value} (c : plain1 d = true) (r : Rp G v d) (rv : RelV v u) : Reads h u d [] := by
  cases r with
  | non => cases (show u = Value.none from rv); exact .none
  | bl b => cases (show u = Value.bool b from rv); exact .bool b
  | int i => obtain ⟨t, rfl⟩ := (show ∃ t, u = Value.int i t from rv); exact .int i t
  | str z => obtain ⟨t, rfl⟩ := (show ∃ t, u = Value.str z t from rv); exact .str z t
  | _ => cases c
theorem plain1_all {G : Hp} {h : Heap} : ∀ {vs : List V} {ds : List D} {us : List Value}, RpA G vs ds → ds.all plain1 = true → Vals vs us → ReadsAll h us ds []
  | _, _, _, .nil, _, .nil => .nil
  | _, _, _, .cons r rs, c, .cons x xs => by
    rw [List.all_cons, Bool.and_eq_true] at c
    exact ReadsAll.cons (as := []) (bs := []) (plain1_reads c.1 r x) (plain1_all rs c.2 xs)
theorem plain2_reads {X : Cx} {pins : List (Addr × Obj)} {σ : L2.St} {G H : Hp} {s : Shared} (I : L2.Inv X pins σ H s) (gh : Same G H) {v : V} {d : D} {u : Value} (c : plain2 d = true) (r : Rp G v d) (rv : RelV v u) : Reads s.heap u d [] := by
  cases r with
  | @tup a xs ds hG hr =>
    cases (show u = Value.ref a from rv)
    obtain ⟨its, rv2, ⟨o, ho, hc, n, hd⟩, _⟩ := I.tuple (.inl (.inl (gh _ _ hG)))
    exact Reads.tuple ho hc hd (plain1_all hr c rv2)
  | non => exact plain1_reads (G := G) c .non rv
  | bl b => exact plain1_reads (G := G) c (.bl b) rv
  | int i => exact plain1_reads (G := G) c (.int i) rv
  | str z => exact plain1_reads (G := G) c (.str z) rv
  | lst _ _ => cases c
  | dct _ _ => cases c
theorem flat_all {X : Cx} {pins : List (Addr × Obj)} {σ : L2.St} {G H : Hp} {s : Shared} (I : L2.Inv X pins σ H s) (gh : Same G H) : ∀ {es : List (Key × V)} {ks : List (D × D)} {vs : List (Key × Value)} {dl : List DictEntry}, RpK G es ks → (ks.all fun kv => plain2 kv.2) = true →
    KV es vs → Pairs (mixKind X.prog X.w) dl vs → ReadsAll s.heap (dl.map (·.key)) (ks.map (·.1)) [] ∧ ReadsAll s.heap (dl.map (·.val)) (ks.map (·.2)) []
  | _, _, _, _, .nil, _, .nil, .nil => ⟨.nil, .nil⟩
  | _, _, _, _, .cons r rs, c, .cons x xs, .cons p1 p2 ps => by
    rw [List.all_cons, Bool.and_eq_true] at c
    obtain ⟨q1, q2⟩ := flat_all I gh rs c.2 xs ps
    obtain ⟨x1, x2⟩ := x
    subst x1
    refine ⟨ReadsAll.cons (as := []) (bs := []) ?_ q1, ReadsAll.cons (as := []) (bs := []) ?_ q2⟩
    · rcases keyIs_shape p1 with ⟨i, t, e1, e2⟩ | ⟨z, t, e1, e2⟩
      · dsimp only; rw [e1, e2]; exact .int i t
      · dsimp only; rw [e1, e2]; exact .str z t
    · dsimp only; rw [p2]; exact plain2_reads I gh c.1 r x2
/-- a list or a tuple of such, and of what holds no dict -/
def mixD : D → Bool
  | .list ds => ds.all fun d => d.canLay0 || flatD d
  | .tuple ds => ds.all fun d => d.canLay0 || flatD d
  | _ => false
theorem flat_reads {X : Cx} {pins : List (Addr × Obj)} {σ : L2.St} {G H : Hp} {s : Shared} (I : L2.Inv X pins σ H s) (gh : Same G H) {v : V} {d : D} {u : Value} (c : flatD d = true) (sh : Sh G H v d) (ru : RelV v u) :
    ∃ as, Reads s.heap u d as ∧ (d.hasDict = true → sysModules ∉ as) := by
  cases sh with
  | @dct a es ks hH rK =>
    cases (show u = Value.ref a from ru)
    obtain ⟨z, lo, vs, kv, o, dl, ep, h1, ⟨h2, _, _⟩, h3, _, hp, _⟩ := dk_rd I.hok (.inl hH)
    obtain ⟨q1, q2⟩ := flat_all I gh rK c kv hp
    refine ⟨_, Reads.dict (as := []) (bs := []) h1 h2 h3 q1 q2, fun _ hmem => ?_⟩
    have e : sysModules = a := List.mem_singleton.mp hmem
    rw [e] at lo
    simp at lo
  | _ => cases c
theorem item_reads {X : Cx} {pins : List (Addr × Obj)} {σ : L2.St} {G H : Hp} {s : Shared} (I : L2.Inv X pins σ H s) (gh : Same G H) {v : V} {d : D} {u : Value} (c : (d.canLay0 || flatD d) = true) (r : Rp G v d) (ru : RelV v u) :
    ∃ as, Reads s.heap u d as ∧ (d.hasDict = true → sysModules ∉ as) := by
  rw [Bool.or_eq_true] at c
  rcases c with c | c
  · obtain ⟨as, rd⟩ := Dp.reads I d v u (r.dp gh c) ru
    exact ⟨as, rd, fun z => by rw [PyData.hasDict_of_canLay _ c] at z; cases z⟩
  · exact flat_reads I gh c (r.sh gh) ru
theorem mix_all {X : Cx} {pins : List (Addr × Obj)} {σ : L2.St} {G H : Hp} {s : Shared} (I : L2.Inv X pins σ H s) (gh : Same G H) : ∀ {xs : List V} {ds : List D} {us : List Value}, RpA G xs ds → (ds.all fun d => d.canLay0 || flatD d) = true → Vals xs us → PyData.showableAll ds = true →
    (∀ t ∈ PyData.shownAll ds, t.length ≤ sizeLine) → ∃ as bs, ReadsAll s.heap us ds as ∧ ReadAtMost s.heap (PyData.depthAll ds) bs ∧ ReprAllK X.prog X.w bs s.heap (PyData.depthAll ds) us (PyData.shownAll ds)
  | _, _, _, .nil, _, .nil, _, _ => ⟨[], [], .nil, (fun _ y => nomatch y), by rw [PyData.shownAll]; exact .nil⟩
  | _, _, _, .cons (d := d) (ds := ds) r rs, c, .cons x xs, sw, sz => by
    rw [List.all_cons, Bool.and_eq_true] at c
    rw [PyData.showableAll, Bool.and_eq_true] at sw
    rw [PyData.shownAll] at sz
    obtain ⟨a1, rd1, n1⟩ := item_reads I gh c.1 r x
    obtain ⟨b1, l1, k1⟩ := ReprK.of_reads (prog := X.prog) (w := X.w) rd1 sw.1 n1 (sz _ List.mem_cons_self)
    obtain ⟨a2, b2, rd2, l2, k2⟩ := mix_all I gh rs c.2 xs sw.2 fun t ht => sz t (List.mem_cons_of_mem _ ht)
    have e1 : d.depth ≤ PyData.depthAll (d :: ds) := by rw [PyData.depthAll]; omega
    have e2 : PyData.depthAll ds ≤ PyData.depthAll (d :: ds) := by rw [PyData.depthAll]; omega
    refine ⟨a1 ++ a2, b1 ++ b2, .cons rd1 rd2, (l1.mono e1).append (l2.mono e2), ?_⟩
    rw [PyData.shownAll]
    exact .cons ((k1.more fun b hb => List.mem_append_left b2 hb).level_le e1) (k2.more_le (fun b hb => List.mem_append_right b1 hb) e2)
theorem mix_shows {X : Cx} {pins : List (Addr × Obj)} {σ : L2.St} {G H : Hp} {s : Shared} (I : L2.Inv X pins σ H s) (gh : Same G H) {v : V} {d : D} {u : Value} (c : mixD d = true) (sh : Sh G H v d) (ru : RelV v u) (sw : d.showable = true) (sz : d.shown.length ≤ sizeLine) :
    ∃ a T idr, u = .ref a ∧ ShowsBy X.prog X.w s.heap a d T idr := by
  cases sh with
  | @lst a xs ds hH rA =>
    cases (show u = Value.ref a from ru)
    obtain ⟨its, rv, ⟨o, n, ho, hc, _, hd⟩, _⟩ := I.list (.inl (.inl hH))
    rw [PyData.shown] at sz
    rw [PyData.showable] at sw
    obtain ⟨as, bs, rd, lv, kk⟩ := mix_all I gh rA c rv sw fun t ht => Nat.le_trans (listText_mem_le ht) sz
    have out : a ∉ bs := not_mem_of_deeper (.list ho hc hd rd) (by rw [PyData.depth]; omega) lv
    refine ⟨a, "list", "list.__repr__", rfl, F.slot_list_repr.toG, F.slot_list_str, F.slot_list_format, fun s2 k0 => ⟨o, k0 _ _ ho, hc⟩, fun A E s2 Q g0 g1 k0 fin => ?_⟩
    rw [PyData.depth] at g1
    rw [PyData.shown] at fin
    cases its with
    | nil =>
      cases rd
      rw [PyData.shownAll, listText_nil] at fin
      exact call_list_repr_empty ⟨o, k0 _ _ ho, hc⟩ (k0 _ _ ho) hd (fin s2.heap _ _ fun _ _ y => y)
    | cons y ys => exact call_list_reprK ho hc hd out (by simpa using kk.length_eq) (fun i z e => kk.item i z (by simpa using e)) g0 (fun b _ => Clear.nil b) g1 k0 fin sz
  | @tup a xs ds hH rA =>
    cases (show u = Value.ref a from ru)
    obtain ⟨its, rv, ⟨o, ho, hc, n, hd⟩, _⟩ := I.tuple (.inl (.inl hH))
    rw [PyData.shown] at sz
    rw [PyData.showable] at sw
    obtain ⟨as, bs, rd, lv, kk⟩ := mix_all I gh rA c rv sw fun t ht => Nat.le_trans (tupleText_mem_le ht) sz
    have out : a ∉ bs := not_mem_of_deeper (.tuple ho hc hd rd) (by rw [PyData.depth]; omega) lv
    refine ⟨a, "tuple", "tuple.__repr__", rfl, F.slot_tuple_repr, F.slot_tuple_str, F.slot_tuple_format, fun s2 k0 => ⟨o, k0 _ _ ho, hc⟩, fun A E s2 Q g0 g1 k0 fin => ?_⟩
    rw [PyData.depth] at g1
    rw [PyData.shown] at fin
    exact call_tuple_reprK ho hc hd out kk g0 (fun b _ => Clear.nil b) g1 k0 fin sz
  | _ => cases c
def okRepr (d : D) : Bool := (d.canLay0 || (flatD d || mixD d)) && d.showable && decide (d.depth ≤ 64) && decide (d.shown.length ≤ sizeLine)
def gRepr : List D → Option D
  | [d] => if okRepr d = true then some (.str d.shown) else none
  | _ => none
def rRepr (K : PySem.W.Frag) : List V → Hp → VK → Prop := fun xs H Q => ∃ x d, xs = [x] ∧ (Dp K H x d ∧ d.canLay0 = true ∨ (flatD d || mixD d) = true ∧ ∃ G, Same G H ∧ Sh G H x d) ∧ okRepr d = true ∧ Q (.str d.shown) H
theorem call_repr {X : Cx} (hG : X.A.guards = some []) (hu : X.A.units + 66 < cLine) : CallR X (.builtin "repr") (rRepr X.K) := by
  intro pins s σ H xs us Q I r h
  obtain ⟨x, d, rfl, hd, ok, q⟩ := h
  obtain ⟨u, rfl, ru⟩ := vals1 r
  simp only [okRepr, Bool.and_eq_true, decide_eq_true_eq] at ok
  obtain ⟨⟨⟨_, c2⟩, c3⟩, c4⟩ := ok
  have fin : ∀ (h' : Heap) (t : Tok) (tk : Nat), (∀ b o, s.heap.get? b = some o → h'.get? b = some o) → EP X pins σ Q (.str d.shown t) { s with heap := h', toks := tk } := fun h' t tk kk => ⟨.str d.shown, H, I.kept (t' := tk) kk, ⟨t, rfl⟩, q⟩
  rcases hd with ⟨hd, c1⟩ | ⟨c1, G, gh, sh⟩
  · obtain ⟨as, rd⟩ := Dp.reads I d x u hd ru
    cases hd with
    | non => cases (show u = Value.none from ru); exact PySem.P.repr_of_none (fin s.heap _ _ fun _ _ e => e)
    | bl b => cases (show u = Value.bool b from ru); exact PySem.P.repr_of_bool (fin s.heap _ _ fun _ _ e => e)
    | int i =>
      obtain ⟨t, rfl⟩ := (show ∃ t, u = Value.int i t from ru)
      exact PySem.P.repr_of_int (of_decide_eq_true c2) (fin s.heap _ _ fun _ _ e => e)
    | str z =>
      obtain ⟨t, rfl⟩ := (show ∃ t, u = Value.str z t from ru)
      exact PySem.P.repr_of_str (fin s.heap _ _ fun _ _ e => e) c4
    | lst hs ha =>
      cases ru
      exact PySem.repr_of_reads' rd c2 (fun z => by rw [PyData.hasDict_of_canLay _ c1] at z; cases z) hG (by omega) (fun b o e => e) (fun h' t tk kk => fin h' t tk kk) c4
    | tup hs ha =>
      cases ru
      exact PySem.repr_of_reads' rd c2 (fun z => by rw [PyData.hasDict_of_canLay _ c1] at z; cases z) hG (by omega) (fun b o e => e) (fun h' t tk kk => fin h' t tk kk) c4
  · rw [Bool.or_eq_true] at c1
    rcases c1 with c1 | c1
    · obtain ⟨as, rd, hn⟩ := flat_reads I gh c1 sh ru
      cases sh with
      | dct _ _ =>
        cases (show u = Value.ref _ from ru)
        exact PySem.repr_of_reads' rd c2 hn hG (by omega) (fun b o e => e) (fun h' t tk kk => fin h' t tk kk) c4
      | _ => cases c1
    · obtain ⟨a, T, idr, rfl, S⟩ := mix_shows I gh c1 sh ru c2 c4
      exact call_repr_slot (by omega) (S.typeIs s fun _ _ e => e) S.slotRepr (S.call X.A.in1 _ s _ hG (by show X.A.units + 1 + d.depth < cLine; omega) (fun _ _ e => e) fun h' t tk kk => ⟨_, _, rfl, fin h' t tk kk⟩)
theorem pcl_repr {K : PySem.W.Frag} : PClV (rRepr K) gRepr := by
  intro G H vs ds z Q gh s hg q
  cases s with
  | nil => cases hg
  | cons h r => cases r with
    | cons _ _ => cases hg
    | @nil =>
      simp only [gRepr] at hg
      split at hg
      · rename_i ok
        cases hg
        have ok' := ok
        simp only [okRepr, Bool.and_eq_true, Bool.or_eq_true] at ok'
        refine ⟨_, _, rfl, ?_, ok, q _ G H (Grow.refl gh) (.str _)⟩
        rcases ok'.1.1.1 with c | c
        · exact .inl ⟨h.dp gh c, c⟩
        · exact .inr ⟨by rw [Bool.or_eq_true]; exact c, G, gh, h⟩
      · cases hg
section
variable {X : Cx} {e : Expr} {es : List Expr} {pos p : Pos} {gs : M (List Pl)}
theorem pv_repr (hG : X.A.guards = some []) (hu : X.A.units + 66 < cLine) (hg : Gl X "repr") (hm : X.mg "repr" = none) (ha : PPs X (e :: es) gs) (he : starEach (e :: es) X.env = (false, eval e X.env) :: starEach es X.env := by rfl) (hpl : (backTo pos (starEach es X.env)).any (·.1) = false := by rfl) :
    PV X (.Call (.Name "repr" p) (e :: es) [] pos) (mN gRepr gs) := pv_b (call_repr hG hu) pcl_repr hg hm PyProof.Rows.boot_repr ha (he := he) (hpl := hpl)
end
end PL
namespace PL
open PySem PySem.Spec L2 RT RZ
open PyProof.Rows (AllBare)
/-! ### the end of a law -/
theorem law_callG {P : Program} {w : World} {K : PySem.W.Frag} {mg mb : Str → Option Value} {k : Nat} {fa a : Addr} {fd : FuncData} {x : Str} {sp : Sp} {s1 : Shared} {vs : List Value} {ns : List Int}
    (KX : K.In s1.heap) (hns : s1.heap.Ns mainGlobals mg) (hb : s1.heap.Ns builtinsNs mb) (hbb : ∀ x : Str, x ≠ "__name__" → mb x = bootBuiltins x) (hlim : s1.heap.NoLimit) (hg : s1.gens = #[])
    (ha : s1.heap.get? a = some { cls := .type "list", data := .seq vs.toArray }) (hi : PyProof.Rows.IntsAre vs ns) (hl : ns.length ≤ sizeLine) (hr : Room k callerA)
    (F : ∀ base : Heap, K.In base → base.Ns mainGlobals mg → FnG P w K mg base k fa fd [x] sp) (hbind : ∀ (s : Shared) (u : Value), BindsTo s fd ⟨[u], []⟩ [(x, u)])
    (hsp : ∀ H : Hp, Only H → SqL K H a (ns.map V.int) → sp [.ref a] H (fun v _ => v = .bl true) fun _ _ _ => False) :
    codeAny (model P w) callerA (.call (.ref fa) ⟨[.ref a], []⟩) (fun r s' => r = .ok (.ret (.bool true)) ∧ OldK s1.heap s'.heap ∧ s'.os = s1.os ∧ AllBare s'.gens) s1 := by
  have lenV := hi.length
  have main : ∀ H : Hp, Only H → SqL K H a (ns.map V.int) → HOk P w H s1.heap → (∀ b, H b ≠ none → b = a) → (H a ≠ none → K.lookup a = none) →
      codeAny (model P w) callerA (.call (.ref fa) ⟨[.ref a], []⟩) (fun r s' => r = .ok (.ret (.bool true)) ∧ OldK s1.heap s'.heap ∧ s'.os = s1.os ∧ AllBare s'.gens) s1 := by
    intro H hO hS hok only hK
    have nodict : ∀ {b : Addr} {o : Obj} {es : Array DictEntry} {ep : Nat}, s1.heap.get? b = some o → o.data = .dict es ep → H b = none := by
      intro b o es ep e d
      refine Classical.byContradiction fun hne => ?_
      have e' := only b hne
      subst e'
      rw [ha] at e
      cases e
      cases (show Data.seq vs.toArray _ = Data.dict es ep from d)
    have nsB : ∀ {b : Addr} {m : Str → Option Value}, s1.heap.Ns b m → (hidT s1.heap H).Ns b m := by
      rintro b m ⟨o, es, ep, e, d, r⟩
      exact ⟨o, es, ep, hidT_get e (nodict e d), d, r⟩
    have kB : K.In (hidT s1.heap H) := by
      intro b o e
      refine hidT_get (KX b o e) (Classical.byContradiction fun hne => ?_)
      have e' := only b hne
      subst e'
      rw [hK hne] at e
      cases e
    obtain ⟨mc, l1, l2⟩ := hlim
    have e0 : Env0 P w K mg (hidT s1.heap H) callerA [] s1 H :=
      { frames := rfl, mod := ⟨kB, nsB hns, ⟨mb, nsB hb, hbb⟩, ⟨mc, nsB l1, l2⟩⟩, bs := fun b o e => of_hidT e, bsz := Nat.le_of_eq (hidT_size _ _), funs := trivial, frf := (fun b hb => nomatch hb), hok := hok, bare := .of_eq hg }
    have run := (F _ kB (nsB hns)).go callerA rfl [] s1 H ⟨[.ref a], []⟩ [.ref a] [.ref a] _ _ hr e0 (hbind s1 (.ref a)) (.cons rfl .nil) (hsp H hO hS)
    refine codeAny_mono run ?_
    intro r s' h
    cases r with
    | error e => exact False.elim h
    | ok fl =>
      cases fl with
      | next => exact False.elim h
      | brk => exact False.elim h
      | cont => exact False.elim h
      | ret u =>
        obtain ⟨v, H', os, bare, un, hok', r', q⟩ := h
        cases (show v = V.bl true from q)
        cases (show u = Value.bool true from r')
        refine ⟨rfl, OldK.of_keep fun b o e => ?_, os, bare⟩
        cases q2 : H b with
        | none => exact un.keep b o e q2 (fun z => nomatch z) (fun z => nomatch z)
        | some u =>
          rcases hO b with z | ⟨ob, xs, z⟩
          · rw [q2] at z; cases z
          · have z2 := un.frzs b ob _ z
            have e1 := (hok b _ z).1
            have e2 := (hok' b _ z2).1
            rw [e] at e1
            cases e1
            exact e2
  cases hk : K.lookup a with
  | some o =>
    have e := KX a o hk
    rw [ha] at e
    cases e
    refine main (fun _ => none) (fun _ => .inl rfl) (.inr ⟨_, vs.toArray, _, hk, rfl, rfl, rfl, ?_, ?_⟩) (fun b u z => nomatch (show (none : Option HO) = some u from z)) (fun b z => absurd rfl z) (fun z => absurd rfl z)
    · rw [List.size_toArray, lenV]; exact hl
    · simpa using vals_ints hi
  | none =>
    refine main (fun b => if b = a then some (.frz { cls := .type "list", data := .seq vs.toArray } (.lst (ns.map V.int))) else none) ?_ (.inl (.inr ⟨_, if_pos rfl⟩)) ?_ ?_ (fun _ => hk)
    · intro b
      by_cases hb : b = a
      · exact .inr ⟨_, _, if_pos hb⟩
      · exact .inl (if_neg hb)
    · intro b u z
      by_cases hb : b = a
      · simp only [if_pos hb] at z
        cases z
        subst hb
        exact ⟨ha, by rw [List.length_map]; exact hl, vs, _, vals_ints hi, ha⟩
      · simp only [if_neg hb] at z
        cases z
    · intro b z
      by_cases hb : b = a
      · exact hb
      · exact absurd (if_neg hb) z
theorem walk_ofG {l : PySem.W.OpenLaw} {n k : Nat} {q : Program} {loose : List Str} {XP : (Str → Option Value) → Heap → Prop} {YP : World → Heap → Prop} {d : DefRec} {K : Params → PySem.W.Frag} {sp : World → Sp} {x : Str}
    (hn : l.most = some n) (hn2 : n ≤ sizeLine) (hdf : d.params.defaults = []) (hr : Room k callerA)
    (hY : ∀ (w : World) (h : Heap), YP w h → (K w.params).In h)
    (F : ∀ (w : World) (mg : Str → Option Value) (fa : Addr) (h : Heap), (K w.params).In h → h.Ns mainGlobals mg → mg d.name = some (.ref fa) →
      ∃ fd : FuncData, (∀ (s : Shared) (u : Value), BindsTo s fd ⟨[u], []⟩ [(x, u)]) ∧
        ∀ base : Heap, (K w.params).In base → base.Ns mainGlobals mg → FnG l.prog w (K w.params) mg base k fa fd [x] (sp w))
    (hsp : ∀ (w : World) (H : Hp) (a : Addr) (ns : List Int), ns.length ≤ n → Only H → SqL (K w.params) H a (ns.map V.int) → sp w [.ref a] H (fun v _ => v = .bl true) fun _ _ _ => False) :
    PySem.W.WalkO q loose XP YP l.row.toRowW d [] (fun f vs => PySem.call f vs) := by
  refine Att.attach_call hn hdf ?_
  intro w s0 s1 mg mb fa o pm cd doc a vs ns G Y ho hd hcd hmg hobj hints hlen hg
  have KX := hY w _ Y
  obtain ⟨fd, hb, hF⟩ := F w mg fa _ KX G.T.g hmg
  exact law_callG KX G.T.g G.T.b G.T.builtins G.T.nolimit hg hobj hints (Nat.le_trans hlen hn2) hr hF hb fun H hO hS => hsp w H a ns hlen hO hS
/-- the law's run over plain data -/
theorem law_true {K : PySem.W.Frag} {nl : Nat} {m : M Fl} {H : Hp} {a : Addr} {ns : List Int} {ρ : Env} (hS : SqL K H a (ns.map V.int)) (hm : m (.scr ns :: List.replicate nl .un) = .ok (.rt (.pl (.val (.bool true)))) ρ) :
    spD K 1 nl m [.ref a] H (fun v _ => v = .bl true) fun _ _ _ => False := by
  refine ⟨{ K := K, G0 := fun _ => none, B := H, A := fun a => H a = none, P := fun i => if i = 0 then some (.ref a) else none, S := fun _ => .scr ns }, [.scr ns], .pl (.val (.bool true)), ρ, rfl, rfl, ?_, ?_, fun v G' σ' H' g S o => ?_⟩
  · refine ⟨(fun b u z => nomatch z), Same.refl _, Same.refl _, fun b z => z, fun b z => absurd rfl z, fun i v z => ?_, rfl, fun i s e => ?_, fun i j b hi hj => ?_⟩
    · by_cases hi : i = 0
      · have z' : some (V.ref a) = some v := by rw [← z]; exact (if_pos hi).symm
        cases z'
        exact ⟨a, rfl, hS⟩
      · have z' : none = some v := by rw [← z]; exact (if_neg hi).symm
        cases z'
    · cases i with
      | zero => cases e; exact ⟨_, rfl, _, rfl, rfl, rfl⟩
      | succ i => cases e
    · obtain ⟨_, s, e, z⟩ := hi
      cases i with
      | zero => cases e; cases z
      | succ i => cases e
  · unfold runD
    show (match m (.scr ns :: List.replicate nl .un) with
      | .ok (.rt r) ρ => some (r, ρ)
      | .ok .nx ρ => some (.pl (.val .none), ρ)
      | _ => none) = _
    rw [hm]
  · have o' : Rp G' v (.bool true) := o
    cases o'
    rfl
end PL
namespace PL
open PySem PySem.Spec L2 RT RZ
/-! ### truth -/
def truD : D → Option Bool
  | .none => some false
  | .bool b => some b
  | .int i => some (i != 0)
  | .str s => if s.length ≤ 100000 then some ((s.length : Int) != 0) else none
  | .list ds => some (!ds.isEmpty)
  | .tuple ds => some (!ds.isEmpty)
  | .dict _ => none
def mTr (f : M Pl) : M Bool := mUn truD f
theorem isE {G : Hp} {xs : List V} {ds : List D} (r : RpA G xs ds) : (!ds.isEmpty) = !xs.isEmpty := by cases r <;> rfl
theorem tru_ok' {K : PySem.W.Frag} {G H : Hp} {v : V} {d : D} {k : Bool} (h : Sh G H v d) (e : truD d = some k) : TruV K v H k := by
  cases h with
  | non => cases e; rfl
  | bl b => cases e; rfl
  | int i => cases e; rfl
  | str s =>
    simp only [truD] at e
    split at e
    · rename_i hl; cases e; exact ⟨line_of hl, rfl⟩
    · cases e
  | lst h r => cases e; exact .inl ⟨_, .inl (.inl h), isE r⟩
  | tup h r => cases e; exact .inr (.inl ⟨_, .inl (.inl h), isE r⟩)
  | dct h r => cases e
section
variable {X : Cx} {e a b c tg elt iter : Expr} {es ifs : List Expr} {pos pos' tpos p p1 p2 p3 apos cpos : Pos} {f fa fb fe : M D} {g ga gb : M Pl} {gs : M (List Pl)} {k : M Rv} {x : Str}
theorem ptt_truth (h : PP X e g) (he : ∀ whole, isTrue e X.env whole = (do let v ← whole; standAt e.pos; holding [v] (truthy v)) := by intro _; rfl) : PTt X e (mTr g) := by
  obtain ⟨t, h, r⟩ := h
  refine ⟨_, pt_truth h he, fun C G σ H ρ Q hK S k ρ' hf q => ?_⟩
  obtain ⟨pl, ρ1, h1, hf2⟩ := bnd_ok hf
  obtain ⟨d, ρ2, h2, hf3⟩ := bnd_ok hf2
  refine r C G σ H ρ _ hK S pl ρ1 h1 fun v G1 H1 g1 S1 o => ?_
  obtain ⟨s, rfl⟩ := look_ok S1 o h2
  obtain ⟨ek, rfl⟩ := ofO_ok hf3
  exact ⟨k, tru_ok' s ek, q G1 H1 g1 S1⟩
/-! ### xs[::-1] -/
def gRevs : D → Option D
  | .list ds => some (.list ds.reverse)
  | _ => none
theorem pf_revs {kk : Nat} (h : PP X e g) : PF X (.Subscript e (.Slice none none (some (.UnaryOp .USub (.Constant (.int 1) kk p1) p2)) p3) pos) (mFr (mUn gRevs g)) := by
  obtain ⟨t, h, r⟩ := h
  refine ⟨_, pe_revL h, fun C G σ H ρ Q hK S d ρ' hf q => ?_⟩
  obtain ⟨d0, ρ0, hf0, h0⟩ := bnd_ok hf
  cases h0
  obtain ⟨pl, ρ1, h1, hf2⟩ := bnd_ok hf0
  obtain ⟨d1, ρ2, h2, hf3⟩ := bnd_ok hf2
  refine r C G σ H ρ _ hK S pl ρ1 h1 fun v G1 H1 g1 S1 o => ?_
  obtain ⟨s, rfl⟩ := look_ok S1 o h2
  obtain ⟨ek, rfl⟩ := ofO_ok hf3
  cases s with
  | @lst a xs ds ha ra =>
    cases ek
    refine ⟨a, xs, rfl, .inl (.inl ha), fun p hp => ?_⟩
    have w := Grow.newF (o := .lst xs.reverse) S1.gh hp
    exact q _ G1 _ g1 (S1.grow w) (fresh_ok S1 hp w (.lst upd_same ra.reverse))
  | _ => cases ek
/-! ### methods of lists that change nothing -/
def isL : D → Option D
  | .list ds => some (.list ds)
  | _ => none
def mMeth (g' : D → List D → Option D) (fo : M Pl) (fs : M (List Pl)) : M D := bnd fo fun p => bnd (look p) fun d0 => bnd (ofO (isL d0)) fun _ => bnd fs fun ps => bnd (look p) fun d => bnd (lookAll ps) fun ds => ofO (g' d ds)
def PMeth (r : V → List V → Hp → VK → Prop) (g : D → List D → Option D) : Prop := ∀ (G H : Hp) (v : V) (d : D) (vs : List V) (ds : List D) (z : D) (Q : VK), Same G H → Sh G H v d → ShA G H vs ds → g d ds = some z → (∀ v G' H', Grow G H G' H' → Rp G' v z → Q v H') → r v vs H Q
theorem pv_meth {name : Str} {id : String} {r : V → List V → Hp → VK → Prop} {g' : D → List D → Option D} (slot : Slot "list" name id) (hty : typeOf (.builtin id) = pure (.type "method_descriptor")) (hm : MtR X id r) (hp : PMeth r g') (ho : PP X a ga) (ha : PPs X (e :: es) gs)
    (hbase : attributeBase a name X.env (eval a X.env) = eval a X.env := by rfl)
    (hfew : ((backTo cpos (starEach (e :: es) X.env)).all (fun x => !x.1) && (backToKw cpos (keywordEach [] X.env)).all (fun x => x.1.isSome)
      && decide ((e :: es).length + ([] : List Keyword).length + (if ([] : List Keyword).isEmpty then 0 else 1) < 30)) = true := by rfl)
    (hline : (apos.endLine == cpos.line) = true := by rfl) (hs : starEach (e :: es) X.env = (false, eval e X.env) :: starEach es X.env := by rfl) (hplain : (backTo cpos (starEach es X.env)).any (·.1) = false := by rfl) :
    PV X (.Call (.Attribute a name apos) (e :: es) [] cpos) (mMeth g' ga gs) := by
  obtain ⟨to, ho, ro⟩ := ho
  obtain ⟨ta, ha, ra⟩ := ha
  refine ⟨_, pe_bm PySem.F.plainAttrs_list slot hty hm ho ha hbase hfew hline hs hplain, fun C G σ H ρ Q hK S z ρ' hf q => ?_⟩
  obtain ⟨pl, ρ1, h1, hf2⟩ := bnd_ok hf
  obtain ⟨d0, ρ2, h2, hf3⟩ := bnd_ok hf2
  obtain ⟨d1, ρ3, h3, hf4⟩ := bnd_ok hf3
  obtain ⟨ps, ρ4, h4, hf5⟩ := bnd_ok hf4
  obtain ⟨d, ρ5, h5, hf6⟩ := bnd_ok hf5
  obtain ⟨ds, ρ6, h6, hf7⟩ := bnd_ok hf6
  refine ro C G σ H ρ _ hK S pl ρ1 h1 fun v G1 H1 g1 S1 o1 => ?_
  obtain ⟨s0, rfl⟩ := look_ok S1 o1 h2
  obtain ⟨e3, rfl⟩ := ofO_ok h3
  refine ⟨?_, ?_⟩
  · cases s0 with
    | lst ha2 _ => exact Or.inl ⟨rfl, _, Or.inl (Or.inl ha2)⟩
    | _ => cases e3
  · refine ra C G1 σ H1 _ _ hK S1 ps ρ4 h4 fun vs G2 H2 g2 S2 o2 => ?_
    obtain ⟨s1, rfl⟩ := look_ok S2 (o1.mono g2) h5
    obtain ⟨s2, rfl⟩ := lookAll_ok S2 o2 h6
    obtain ⟨e7, rfl⟩ := ofO_ok hf7
    exact hp G2 H2 v d vs ds z Q S2.gh s1 s2 e7 fun v G' H' w rr => q v G' H' ((g1.trans g2).trans w.g) (S2.grow w) rr
def rCountD (K : PySem.W.Frag) : V → List V → Hp → VK → Prop := fun x xs H Q => ∃ (a : Addr) (y : V) (d : PyData) (ds : List PyData), x = V.ref a ∧ xs = [y] ∧ Dp K H (V.ref a) (.list ds) ∧ Dp K H y d ∧
  SeqAt.shaped (.list ds) = true ∧ SeqAt.shaped d = true ∧ Q (.int ((ds.countP fun z => PyData.eqv z d : Nat) : Int)) H
theorem room_shaped {A : Around} {ds : List PyData} {d : PyData} (h : SeqAt.shaped d = true) (hu : A.units + 65 < cLine) : A.units + 1 + min (PyData.depthAll ds) d.depth < cLine := by
  have h1 := SeqAt.depth_of_shaped h
  have h2 : min (PyData.depthAll ds) d.depth ≤ d.depth := Nat.min_le_right _ _
  omega
theorem mt_countD (hu : X.A.units + 65 < cLine) : MtR X "list.count" (rCountD X.K) := by
  intro pins s σ H x xs v us Q I rx rxs h
  obtain ⟨a, y, d, ds, rfl, rfl, hl, hy, sl, sd, q⟩ := h
  cases rx
  obtain ⟨uy, rfl, ry⟩ := vals1 rxs
  obtain ⟨bs, r1⟩ := Dp.reads I d y uy hy ry
  have hxs : PyData.canLayAll0 ds = true := SeqAt.canLay_of_shaped sl
  cases hl with
  | lst hs ha =>
    obtain ⟨its, rv, ⟨⟨cls, dd, data, sls⟩, n, ho, hc, hdn, hdt⟩, hlen⟩ := I.list hs
    simp only at hc hdt
    subst hc hdt
    obtain ⟨as, h4⟩ := Dp.readsAll I ds _ its ha rv
    have hmap : its.map (SeqAt.readOf s.heap) = ds := SeqAt.readsAll_map ds its as hxs h4
    refine call_meets PySem.F.slot_list_count ⟨_, ho, rfl⟩ PySem.F.entry_list_count (PySem.F.args_list_count_2 _ _)
      (SeqAt.list_countAt a its.toArray n dd sls uy (fun u => PyData.eqv (SeqAt.readOf s.heap u) d)) ⟨ho, SeqAt.items_eqAt (vs := its.toArray) (show ReadsAll s.heap its.toArray.toList ds as from h4) r1 hxs (SeqAt.canLay_of_shaped sd) (room_shaped sd hu), ?_⟩
    have ec : its.toArray.toList.countP (fun u => PyData.eqv (SeqAt.readOf s.heap u) d) = ds.countP fun z => PyData.eqv z d := by
      rw [← hmap, List.countP_map]; rfl
    refine ⟨.int ((ds.countP fun z => PyData.eqv z d : Nat) : Int), H, I.tok _, ⟨s.toks, ?_⟩, q⟩
    rw [ec]
def gCount (d : D) (as : List D) : Option D := match d, as with
  | .list ds, [z] => if (SeqAt.shaped (.list ds) && SeqAt.shaped z) = true then some (.int ((ds.countP fun w => PyData.eqv w z : Nat) : Int)) else none
  | _, _ => none
theorem pmeth_count {K : PySem.W.Frag} : PMeth (rCountD K) gCount := by
  intro G H v d vs ds z Q gh s sa hg q
  cases s with
  | @lst a xs es h r =>
    cases sa with
    | nil => cases hg
    | cons h2 r2 => cases r2 with
      | cons _ _ => cases hg
      | nil =>
        simp only [gCount] at hg
        split at hg
        · rename_i ok
          cases hg
          rw [Bool.and_eq_true] at ok
          exact ⟨a, _, _, es, rfl, rfl, Sh.dp gh (.lst h r) (SeqAt.canLay_of_shaped ok.1), h2.dp gh (SeqAt.canLay_of_shaped ok.2), ok.1, ok.2, q _ G H (Grow.refl gh) (.int _)⟩
        · cases hg
  | _ => cases hg
theorem pv_count (hu : X.A.units + 65 < cLine) (ho : PP X a ga) (ha : PPs X (e :: es) gs) (hbase : attributeBase a "count" X.env (eval a X.env) = eval a X.env := by rfl)
    (hfew : ((backTo cpos (starEach (e :: es) X.env)).all (fun x => !x.1) && (backToKw cpos (keywordEach [] X.env)).all (fun x => x.1.isSome)
      && decide ((e :: es).length + ([] : List Keyword).length + (if ([] : List Keyword).isEmpty then 0 else 1) < 30)) = true := by rfl)
    (hline : (apos.endLine == cpos.line) = true := by rfl) (hs : starEach (e :: es) X.env = (false, eval e X.env) :: starEach es X.env := by rfl) (hplain : (backTo cpos (starEach es X.env)).any (·.1) = false := by rfl) :
    PV X (.Call (.Attribute a "count" apos) (e :: es) [] cpos) (mMeth gCount ga gs) := pv_meth PySem.F.slot_list_count PySem.F.type_list_count (mt_countD hu) pmeth_count ho ha hbase hfew hline hs hplain
end
theorem tsNil_len : ∀ (ds : List D) (ρ ρ' : Env), tsNil ds ρ = .ok () ρ' → ds.length = 0
  | [], _, _, _ => rfl
  | _ :: _, _, _, h => nomatch h
theorem tsCons_len {t : D → M Unit} {u : List D → M Unit} {n : Nat} (hu : ∀ (ds : List D) (ρ ρ' : Env), u ds ρ = .ok () ρ' → ds.length = n) : ∀ (ds : List D) (ρ ρ' : Env), tsCons t u ds ρ = .ok () ρ' → ds.length = n + 1
  | [], _, _, h => nomatch h
  | d :: ds, ρ, ρ', h => by
    obtain ⟨_, ρ1, _, h2⟩ := bnd_ok h
    rw [List.length_cons, hu ds ρ1 ρ' h2]
abbrev gAddI : D → D → Option D := onInts0 fun i j => .int (i + j)
theorem pop_ip {f : Int → Int → Int} : POpV (ipI f) (onInts0 fun i j => .int (f i j)) := by
  intro G H x y d e z Q gh s1 s2 hg q
  cases s1 with
  | int i =>
    cases s2 with
    | int j => cases hg; exact ⟨i, j, rfl, rfl, q _ G H (Grow.refl gh) (.int _)⟩
    | _ => cases hg
  | _ => cases hg
theorem _root_.L2.Room.u65 {k : Nat} {A : Around} (r : Room k A) : A.units + 65 < cLine := by have := r.un; omega
theorem _root_.L2.Room.u66 {k : Nat} {A : Around} (r : Room k A) : A.units + 66 < cLine := by have := r.un; omega
end PL
namespace PL
open PySem PySem.Spec L2 RT RZ
/-! ### running the mirror -/
theorem bnd_eq {α β : Type} {f : M α} {g : α → M β} {ρ ρ1 : Env} {a : α} (h : f ρ = .ok a ρ1) : bnd f g ρ = g a ρ1 := by unfold bnd; rw [h]
theorem mSeq_nx {a b : M Fl} {ρ ρ1 : Env} (h : a ρ = .ok .nx ρ1) : mSeq a b ρ = b ρ1 := by unfold mSeq; rw [bnd_eq h]
theorem mSeq_rt {a b : M Fl} {ρ ρ1 : Env} {r : Rv} (h : a ρ = .ok (.rt r) ρ1) : mSeq a b ρ = .ok (.rt r) ρ1 := by unfold mSeq; rw [bnd_eq h]; rfl
theorem mFor_ok {f : M (List D)} {t : D → M Unit} {b : M Fl} {ρ ρ1 : Env} {ds : List D} (h : f ρ = .ok ds ρ1) : mFor f t b ρ = forGo t b ds ρ1 := by unfold mFor; rw [bnd_eq h]
/-- a loop by its invariant -/
theorem forGo_inv {t : D → M Unit} {b : M Fl} (I : List D → Env → Prop) : ∀ (ds done : List D) (ρ : Env), I done ρ →
    (∀ (pre : List D) (d : D) (ρ : Env), d ∈ ds → pre.length < done.length + ds.length → I pre ρ → ∃ ρ1 ρ2 fl, t d ρ = .ok () ρ1 ∧ b ρ1 = .ok fl ρ2 ∧ (fl = .nx ∨ fl = .ct) ∧ I (pre ++ [d]) ρ2) →
    (∀ pre ρ, I pre ρ → done.length ≤ pre.length → True) → ∃ ρ', forGo t b ds ρ = .ok .nx ρ' ∧ I (done ++ ds) ρ'
  | [], done, ρ, h0, _, _ => ⟨ρ, rfl, by rw [List.append_nil]; exact h0⟩
  | d :: ds, done, ρ, h0, hs, ht => by
    obtain ⟨ρ1, ρ2, fl, e1, e2, hf, h1⟩ := hs done d ρ List.mem_cons_self (by rw [List.length_cons]; omega) h0
    obtain ⟨ρ', e3, h3⟩ := forGo_inv I ds (done ++ [d]) ρ2 h1 (fun pre d' ρ hd hl hi => hs pre d' ρ (List.mem_cons_of_mem _ hd) (by rw [List.length_append, List.length_cons, List.length_nil] at hl; rw [List.length_cons]; omega) hi) fun _ _ _ _ => trivial
    refine ⟨ρ', ?_, by rw [List.append_assoc] at h3; exact h3⟩
    show bnd (t d) (fun _ => bnd b fun fl => match fl with
      | .nx => forGo t b ds
      | .ct => forGo t b ds
      | .bk => ret .nx
      | .rt r => ret (.rt r)) ρ = _
    rw [bnd_eq e1, bnd_eq e2]
    rcases hf with rfl | rfl <;> exact e3
theorem forGo_by {t : D → M Unit} {b : M Fl} (I : List D → Env → Prop) {ds : List D} {ρ : Env} (h0 : I [] ρ)
    (hs : ∀ (pre : List D) (d : D) (ρ : Env), d ∈ ds → pre.length < ds.length → I pre ρ → ∃ ρ1 ρ2 fl, t d ρ = .ok () ρ1 ∧ b ρ1 = .ok fl ρ2 ∧ (fl = .nx ∨ fl = .ct) ∧ I (pre ++ [d]) ρ2) : ∃ ρ', forGo t b ds ρ = .ok .nx ρ' ∧ I ds ρ' := by
  have := forGo_inv I ds [] ρ h0 (fun pre d ρ hd hl => hs pre d ρ hd (by simpa using hl)) fun _ _ _ _ => trivial
  simpa using this
/-- a comprehension whose items are a function of what is gone through, the names as they were -/
theorem lcGo_map {t : D → M Unit} {vs : List Nat} {c : M Bool} {fe : M D} {φ : D → D} {ρ0 : Env} : ∀ (ds acc : List D),
    (∀ d ∈ ds, ∃ ρ1 ρ2 ρ3, t d ρ0 = .ok () ρ1 ∧ c ρ1 = .ok true ρ2 ∧ fe ρ2 = .ok (φ d) ρ3 ∧ wipeE ρ3 vs = ρ0) → acc.length + ds.length ≤ 100000 → lcGo t vs c fe acc ds ρ0 = .ok (acc ++ ds.map φ) ρ0
  | [], acc, _, _ => by rw [List.map_nil, List.append_nil]; rfl
  | d :: ds, acc, h, hl => by
    obtain ⟨ρ1, ρ2, ρ3, e1, e2, e3, e4⟩ := h d List.mem_cons_self
    rw [List.length_cons] at hl
    show bnd (t d) (fun _ => bnd c fun k => if k = true then bnd fe fun y => if acc.length < 100000 then fun ρ => lcGo t vs c fe (acc ++ [y]) ds (wipeE ρ vs) else fun _ => .stuck
      else fun ρ => lcGo t vs c fe acc ds (wipeE ρ vs)) ρ0 = _
    rw [bnd_eq e1, bnd_eq e2, if_pos rfl, bnd_eq e3, if_pos (by omega), e4, lcGo_map ds (acc ++ [φ d]) (fun d' hd => h d' (List.mem_cons_of_mem _ hd)) (by rw [List.length_append, List.length_cons, List.length_nil]; omega), List.map_cons, List.append_assoc]
    rfl
/-- a comprehension by an invariant of what is made -/
theorem lcGo_inv {t : D → M Unit} {vs : List Nat} {c : M Bool} {fe : M D} (I : List D → Env → Prop) : ∀ (ds acc : List D) (ρ : Env), I acc ρ →
    (∀ (pre : List D) (d : D) (ρ : Env), d ∈ ds → pre.length < acc.length + ds.length → I pre ρ → ∃ ρ1 ρ2 ρ3 y, t d ρ = .ok () ρ1 ∧ c ρ1 = .ok true ρ2 ∧ fe ρ2 = .ok y ρ3 ∧ I (pre ++ [y]) (wipeE ρ3 vs)) →
    acc.length + ds.length ≤ 100000 → ∃ out ρ', lcGo t vs c fe acc ds ρ = .ok out ρ' ∧ I out ρ' ∧ out.length = acc.length + ds.length
  | [], acc, ρ, h0, _, _ => ⟨acc, ρ, rfl, h0, rfl⟩
  | d :: ds, acc, ρ, h0, hs, hl => by
    obtain ⟨ρ1, ρ2, ρ3, y, e1, e2, e3, h1⟩ := hs acc d ρ List.mem_cons_self (by rw [List.length_cons]; omega) h0
    rw [List.length_cons] at hl
    obtain ⟨out, ρ', e4, h4, h5⟩ := lcGo_inv I ds (acc ++ [y]) (wipeE ρ3 vs) h1 (fun pre d' ρ hd hl' hi => hs pre d' ρ (List.mem_cons_of_mem _ hd) (by rw [List.length_append, List.length_cons, List.length_nil] at hl'; rw [List.length_cons]; omega) hi)
      (by rw [List.length_append, List.length_cons, List.length_nil]; omega)
    refine ⟨out, ρ', ?_, h4, by rw [h5, List.length_append, List.length_cons, List.length_nil, List.length_cons]; omega⟩
    show bnd (t d) (fun _ => bnd c fun k => if k = true then bnd fe fun y => if acc.length < 100000 then fun ρ => lcGo t vs c fe (acc ++ [y]) ds (wipeE ρ vs) else fun _ => .stuck
      else fun ρ => lcGo t vs c fe acc ds (wipeE ρ vs)) ρ = _
    rw [bnd_eq e1, bnd_eq e2, if_pos rfl, bnd_eq e3, if_pos (by omega)]
    exact e4
theorem mLc_ok {fi : M (List D)} {t : D → M Unit} {vs : List Nat} {c : M Bool} {fe : M D} {ρ ρ1 ρ2 : Env} {ds out : List D} (h1 : fi ρ = .ok ds ρ1) (h2 : lcGo t vs c fe [] ds (wipeE ρ1 vs) = .ok out ρ2) : mLc fi t vs c fe ρ = .ok (.fr (.list out)) (restE ρ1 ρ2 vs) := by
  unfold mLc
  rw [bnd_eq h1]
  simp only [h2]
theorem evalD_of {ms : List Md} {nl : Nat} {body : M Fl} {ss ρ' : Env} {r r' : Rv} (h1 : runD nl body ss = some (r, ρ')) (h2 : resR ρ' r = some r') : evalD ms nl body ss = some (r', ρ'.take ms.length) := by
  unfold evalD
  rw [h1]
  simp only [h2]
theorem shaped_int (i : Int) : SeqAt.shaped (.int i) = true := rfl
theorem shaped_bool (b : Bool) : SeqAt.shaped (.bool b) = true := rfl
theorem shaped_none : SeqAt.shaped .none = true := rfl
end PL
namespace L2
open PySem PySem.Spec PyProof.Rows HT
section
variable {prog : Program} {w : World} {A : Around} {E : Value → Shared → Prop} {s : Shared}
theorem getItem_tuple_whole {t sl : Addr} {items : Array Value} {vl vu : Value} {lo hi : Option Int} {Q : Value → Shared → Prop} (ht : IsTup s.heap t items) (hs : s.heap.IsSliceOf sl vl vu .none) (pl : IsPart vl lo) (pu : IsPart vu hi)
    (hw : sIx items.size 0 lo = 0 ∧ sIx items.size items.size hi = items.size) (h : Q (.ref t) s) : wpAny (model prog w) A (getItem (.ref t) (.ref sl)) Q E s := by
  obtain ⟨os, hos, hcs, hds⟩ := id hs
  have hTs : s.TypeIs (.ref sl) "slice" := ⟨os, hos, hcs⟩
  unfold getItem
  try with_reducible refine wpAny_holding ?_
  first | refine wpAny_bind (wpAny_pure ?_) | skip
  refine wpAny_bind (wpAny_sequenceKey ht.typeIs (by decide) ?_)
  refine wpAny_bind (wpAny_callSpecial?_slot (name := Str.ofString "__getitem__") ht.typeIs PyProof.Rows.slot_tuple_getitem
    (wpAny_call_entry PyProof.Rows.slot_tuple_getitem ht.typeIs entry_tuple_getitem ?_ (args_tuple_getitem _ _)))
  show wpAny _ _ (Builtin.Tuple.tupleItemsOf (.ref t) >>= _) _ _ s
  refine wpAny_bind (tupleItemsOf_ ht ?_)
  refine wpAny_bind (wpAny_typeOf hTs ?_)
  rw [if_pos (by decide)]
  refine wpAny_bind (sliceApplied_gen hs pl pu ?_)
  have hno : ((((sIx items.size 0 lo : Nat) : Int) == 0 && (1 : Int) == 1 && (sIx items.size items.size hi - sIx items.size 0 lo) == items.size) = true) := by
    rw [hw.1, hw.2]; simp
  show wpAny _ _ (if (((sIx items.size 0 lo : Nat) : Int) == 0 && (1 : Int) == 1 && (sIx items.size items.size hi - sIx items.size 0 lo) == items.size) = true then _ else _) _ _ s
  rw [if_pos hno]
  unfold Builtin.Tuple.tupleIsExact
  refine wpAny_bind (wpAny_bind (wpAny_typeOf ht.typeIs (wpAny_pure ?_)))
  rw [if_pos (by decide)]
  exact wpAny_bind (wpAny_rule (wpAny_pure ⟨_, rfl, wpAny_pure h⟩))
end
/-- the whole of a tuple is the tuple itself -/
def rSlTW (K : PySem.W.Frag) : V → Option Int → Option Int → Hp → VK → Prop := fun x lo hi H Q => ∃ a xs, x = .ref a ∧ SqT K H a xs ∧
  (HT.sIx xs.length 0 lo = 0 ∧ HT.sIx xs.length xs.length hi = xs.length) ∧ Q x H
theorem sl_tupW {X : Cx} : SlR X (rSlTW X.K) := by
  intro pins s σ H x v vl vu lo hi sl Q I rx hs pl pu h
  obtain ⟨a, xs, rfl, hx, hw, q⟩ := h
  cases rx
  obtain ⟨its, r, ht, hz⟩ := I.tuple hx
  have hlen : its.toArray.size = xs.length := by rw [List.size_toArray]; exact r.length.symm
  refine ⟨"tuple", _, PyProof.Rows.slot_tuple_getitem.lookup, ht.typeIs, ?_⟩
  exact getItem_tuple_whole ht hs pl pu (by rw [hlen]; exact hw) ⟨.ref a, H, I, rfl, q⟩
end L2
namespace PL
open PySem PySem.Spec L2
/-- a slice as a thing that is looked at: of a whole tuple the tuple itself -/
def sliceW (d : D) (lo hi : Option Int) : Option (Bool × D) := match d with
  | .list ds => some (false, .list (cutD ds lo hi))
  | .tuple ds => if HT.sIx ds.length 0 lo = 0 ∧ HT.sIx ds.length ds.length hi = ds.length then some (true, .tuple ds) else some (false, .tuple (cutD ds lo hi))
  | _ => none
def mSliceP (g : M Pl) (lo hi : Option (M D)) : M Pl := bnd g fun p => bnd (mOpt lo) fun l => bnd (mOpt hi) fun h => bnd (look p) fun d => bnd (ofO (sliceW d l h)) fun bz => ret (if bz.1 = true then p else .val bz.2)
theorem sliceW_t {d z : D} {lo hi : Option Int} (h : sliceW d lo hi = some (true, z)) : d = z := by
  unfold sliceW at h
  cases d with
  | tuple ds => simp only at h; split at h <;> cases h; rfl
  | list ds => cases h
  | _ => cases h
section
variable {X : Cx} {e : Expr} {pos p2 : Pos} {g : M Pl}
theorem pp_slice {lo hi : Option Expr} {fl fh : Option (M D)} (h : PP X e g) (hl : POt X lo (mOpt fl)) (hh : POt X hi (mOpt fh)) : PP X (.Subscript e (.Slice lo hi none p2) pos) (mSliceP g fl fh) := by
  obtain ⟨t, h, r⟩ := h
  obtain ⟨tl, hl, rl⟩ := hl
  obtain ⟨th, hh, rh⟩ := hh
  refine ⟨_, pe_slice (slR_or sl_list (slR_or sl_tup sl_tupW)) h hl hh, fun C G σ H ρ Q hK S d ρ' hf q => ?_⟩
  obtain ⟨pl, ρ1, h1, hf2⟩ := bnd_ok hf
  obtain ⟨l, ρ2, h2, hf3⟩ := bnd_ok hf2
  obtain ⟨u, ρ3, h3, hf4⟩ := bnd_ok hf3
  obtain ⟨dd, ρ4, h4, hf5⟩ := bnd_ok hf4
  obtain ⟨bz, ρ5, h5, hf6⟩ := bnd_ok hf5
  cases hf6
  refine r C G σ H ρ _ hK S pl ρ1 h1 fun v G1 H1 g1 S1 o1 => ?_
  refine rl C G1 σ H1 ρ1 _ hK S1 l ρ2 h2 fun G2 H2 g2 S2 => ?_
  refine rh C G2 σ H2 ρ2 _ hK S2 u ρ3 h3 fun G3 H3 g3 S3 => ?_
  have o3 := (o1.mono g2).mono g3
  obtain ⟨s, rfl⟩ := look_ok S3 o3 h4
  obtain ⟨es, rfl⟩ := ofO_ok h5
  have gg := (g1.trans g2).trans g3
  cases s with
  | @lst a xs ds ha ra =>
    cases es
    refine .inl ⟨a, xs, rfl, .inl (.inl ha), fun p hp => ?_⟩
    have w := Grow.newF (o := .lst (cutV xs l u)) S3.gh hp
    obtain ⟨_, ep, sh, gn, bn, aa, no⟩ := fresh_ok S3 hp w (.lst upd_same (cut_rp ra))
    cases ep
    obtain ⟨G4, g4, S4, r4⟩ := (S3.grow w).freezeF sh gn aa no
    exact q _ G4 _ (gg.trans g4) S4 r4
  | @tup a xs ds ha ra =>
    simp only [sliceW] at es
    by_cases hw : HT.sIx ds.length 0 l = 0 ∧ HT.sIx ds.length ds.length u = ds.length
    · rw [if_pos hw] at es; cases es
      refine .inr (.inr ⟨a, xs, rfl, .inl (.inl ha), by rw [ra.length]; exact hw, ?_⟩)
      exact q _ G3 _ gg S3 o3
    · rw [if_neg hw] at es; cases es
      refine .inr (.inl ⟨a, xs, rfl, .inl (.inl ha), by rw [ra.length]; exact hw, fun p hp => ?_⟩)
      have w := Grow.new (o := .tup (cutV xs l u)) S3.gh hp
      exact q _ _ _ (gg.trans w.g) (S3.grow w) (.tup upd_same ((cut_rp ra).mono w.g))
  | _ => cases es
end
end PL
namespace PL
open PySem PySem.Spec L2 RT RZ
/-! ### more of lists: pop(i), extend, max, min -/
def gPopAt (ds as : List D) : Option (List D × D) := match as with
  | [.int i] => match ixN ds.length i with
    | some k => match ds[k]? with
      | some y => if -(2 ^ 63) ≤ i ∧ i < 2 ^ 63 then some (ds.eraseIdx k, y) else none
      | none => none
    | none => none
  | _ => none
theorem RpA.eraseIdx {G : Hp} : ∀ {vs : List V} {ds : List D} (n : Nat), RpA G vs ds → RpA G (vs.eraseIdx n) (ds.eraseIdx n)
  | _, _, _, .nil => .nil
  | _, _, 0, .cons _ r => r
  | _, _, n + 1, .cons h r => .cons h (RpA.eraseIdx n r)
theorem pmut_popAt : PMut rPopAt gPopAt := by
  intro G H l vs ds as ads new z Q gh hl r ra hg q
  cases ra with
  | nil => cases hg
  | cons h rr => cases rr with
    | cons _ _ => cases h <;> cases hg
    | nil => cases h with
      | int i =>
        simp only [gPopAt] at hg
        cases e : ixN ds.length i with
        | none => rw [e] at hg; cases hg
        | some k =>
          rw [e] at hg
          simp only at hg
          cases e2 : ds[k]? with
          | none => rw [e2] at hg; cases hg
          | some y =>
            rw [e2] at hg
            simp only at hg
            split at hg
            · rename_i hi
              cases hg
              obtain ⟨v, hv, rv⟩ := r.get e2
              exact ⟨l, vs, i, k, v, rfl, rfl, hl, hi.1, hi.2, by rw [r.length]; exact (ixN_seq e).1, hv, q _ _ (r.eraseIdx k) rv⟩
            · cases hg
      | _ => cases hg
def gExtend (ds as : List D) : Option (List D × D) := match as with
  | [.list es] => if ds.length + es.length ≤ 100000 then some (ds ++ es, .none) else none
  | _ => none
theorem pmut_extend : PMut rExtend gExtend := by
  intro G H l vs ds as ads new z Q gh hl r ra hg q
  cases ra with
  | nil => cases hg
  | cons h rr => cases rr with
    | cons _ _ => cases h <;> cases hg
    | nil => cases h with
      | @lst b xs es hb rb =>
        simp only [gExtend] at hg
        split at hg
        · rename_i hlt
          cases hg
          exact ⟨l, b, vs, xs, rfl, rfl, hl, gh _ _ hb, by rw [r.length, rb.length]; exact line_of hlt, q _ _ (r.append rb) .non⟩
        · cases hg
      | _ => cases hg
def maxI : List Int → Int
  | [] => 0
  | [n] => n
  | n :: m :: ns => if maxI (m :: ns) ≤ n then n else maxI (m :: ns)
def minI : List Int → Int
  | [] => 0
  | [n] => n
  | n :: m :: ns => if n ≤ minI (m :: ns) then n else minI (m :: ns)
theorem maxI_mem : ∀ (ns : List Int), ns ≠ [] → maxI ns ∈ ns
  | [], h => absurd rfl h
  | [n], _ => List.mem_cons_self
  | n :: m :: ns, _ => by
    have := maxI_mem (m :: ns) (by simp)
    simp only [maxI]
    split
    · exact List.mem_cons_self
    · exact List.mem_cons_of_mem _ this
theorem maxI_le : ∀ (ns : List Int) (x : Int), x ∈ ns → x ≤ maxI ns
  | [], _, h => nomatch h
  | [n], x, h => by rw [List.mem_singleton] at h; subst h; exact Int.le_refl _
  | n :: m :: ns, x, h => by
    simp only [maxI]
    rcases List.mem_cons.mp h with rfl | h
    · split <;> omega
    · have := maxI_le (m :: ns) x h
      split <;> omega
theorem minI_mem : ∀ (ns : List Int), ns ≠ [] → minI ns ∈ ns
  | [], h => absurd rfl h
  | [n], _ => List.mem_cons_self
  | n :: m :: ns, _ => by
    have := minI_mem (m :: ns) (by simp)
    simp only [minI]
    split
    · exact List.mem_cons_self
    · exact List.mem_cons_of_mem _ this
theorem minI_le : ∀ (ns : List Int) (x : Int), x ∈ ns → minI ns ≤ x
  | [], _, h => nomatch h
  | [n], x, h => by rw [List.mem_singleton] at h; subst h; exact Int.le_refl _
  | n :: m :: ns, x, h => by
    simp only [minI]
    rcases List.mem_cons.mp h with rfl | h
    · split <;> omega
    · have := minI_le (m :: ns) x h
      split <;> omega
def numsNe (ds : List D) : Option (List Int) := match nums ds with
  | some (n :: ns) => some (n :: ns)
  | _ => none
def gMaxL : List D → Option D
  | [.list ds] => (numsNe ds).map fun ns => .int (maxI ns)
  | _ => none
def gMinL : List D → Option D
  | [.list ds] => (numsNe ds).map fun ns => .int (minI ns)
  | _ => none
theorem numsNe_ok {ds : List D} {ns : List Int} (h : numsNe ds = some ns) : nums ds = some ns ∧ ns ≠ [] := by
  unfold numsNe at h
  split at h
  · cases h; exact ⟨by assumption, by simp⟩
  · cases h
section
variable {X : Cx} {e a b : Expr} {es : List Expr} {pos p : Pos} {gs : M (List Pl)} {fs : M (List D)} {fa fb : M D}
theorem pv_maxL (hc : X.calm = true) (hg : Gl X "max") (hm : X.mg "max" = none) (ha : PPs X (e :: es) gs) (he : starEach (e :: es) X.env = (false, eval e X.env) :: starEach es X.env := by rfl) (hpl : (backTo pos (starEach es X.env)).any (·.1) = false := by rfl) :
    PV X (.Call (.Name "max" p) (e :: es) [] pos) (mN gMaxL gs) := pv_b (cr_max hc) (fun G H vs ds z Q gh s hg q => by
  cases s with
  | nil => cases hg
  | cons h r => cases r with
    | cons _ _ => cases h <;> cases hg
    | nil => cases h with
      | @lst a xs ds h r =>
        simp only [gMaxL] at hg
        cases qd : numsNe ds with
        | none => rw [qd] at hg; cases hg
        | some ns =>
          rw [qd] at hg
          cases hg
          obtain ⟨q1, q2⟩ := numsNe_ok qd
          have := nums_ok q1 r
          subst this
          refine ⟨a, ns, rfl, .inl (.inl h), List.length_pos_iff.mpr q2, fun m hm hle => ?_⟩
          have : m = maxI ns := Int.le_antisymm (maxI_le ns m hm) (hle _ (maxI_mem ns q2))
          subst this
          exact q _ G H (Grow.refl gh) (.int _)
      | _ => cases hg) hg hm (by decide +kernel) ha (he := he) (hpl := hpl)
theorem pv_minL (hc : X.calm = true) (hg : Gl X "min") (hm : X.mg "min" = none) (ha : PPs X (e :: es) gs) (he : starEach (e :: es) X.env = (false, eval e X.env) :: starEach es X.env := by rfl) (hpl : (backTo pos (starEach es X.env)).any (·.1) = false := by rfl) :
    PV X (.Call (.Name "min" p) (e :: es) [] pos) (mN gMinL gs) := pv_b (cr_min hc) (fun G H vs ds z Q gh s hg q => by
  cases s with
  | nil => cases hg
  | cons h r => cases r with
    | cons _ _ => cases h <;> cases hg
    | nil => cases h with
      | @lst a xs ds h r =>
        simp only [gMinL] at hg
        cases qd : numsNe ds with
        | none => rw [qd] at hg; cases hg
        | some ns =>
          rw [qd] at hg
          cases hg
          obtain ⟨q1, q2⟩ := numsNe_ok qd
          have := nums_ok q1 r
          subst this
          refine ⟨a, ns, rfl, .inl (.inl h), List.length_pos_iff.mpr q2, fun m hm hle => ?_⟩
          have : m = minI ns := Int.le_antisymm (hle _ (minI_mem ns q2)) (minI_le ns m hm)
          subst this
          exact q _ G H (Grow.refl gh) (.int _)
      | _ => cases hg) hg hm (by decide +kernel) ha (he := he) (hpl := hpl)
/-- {} -/
def mDict0 : M D := ret (.dict [])
theorem pv_dict0 : PV X (.Dict [] [] pos) mDict0 := ⟨_, pe_dnewK, fun C G σ H ρ Q hK S d ρ' hf q => by
  cases hf
  intro p hp
  have w : Grow G H (upd G p (.dK [])) (upd H p (.dK [])) := Grow.new S.gh hp
  exact q _ _ _ w.g (S.grow w) (.dct upd_same .nil)⟩
/-- {k: v}, the key a number -/
def mDict1 (fk fv : M D) : M D := bnd fk fun dk => bnd fv fun dv => match dk with
  | .int i => ret (.dict [(.int i, dv)])
  | _ => fun _ => .stuck
theorem pf_dict1 {k v : Expr} {fk fv : M D} (hk : PV X k fk) (hv : PV X v fv) : PF X (.Dict [some k] [v] pos) (mFr (mDict1 fk fv)) := by
  obtain ⟨tk, hk, rk⟩ := hk
  obtain ⟨tv, hv, rv⟩ := hv
  refine ⟨_, pe_disp (L2.pps_cons hk hv L2.pps_nil) rfl rfl (by simp) (by simp), fun C G σ H ρ Q hK S d ρ' hf q => ?_⟩
  obtain ⟨d', ρ0, hf0, h0⟩ := bnd_ok hf
  cases h0
  obtain ⟨dk, ρ1, h1, hf1⟩ := bnd_ok hf0
  obtain ⟨dv, ρ2, h2, hf2⟩ := bnd_ok hf1
  intro p hp
  have hBp : C.B p = none := S.bh.free hp
  have S1 : StOk (C.with p (.dK [])) G σ (upd H p (.dK [])) ρ := S.enter hp (.dK [])
  refine rk (C.with p (.dK [])) G σ _ ρ _ hK S1 dk ρ1 h1 fun x G1 H1 g1 S2 o1 => ?_
  refine rv (C.with p (.dK [])) G1 σ H1 ρ1 _ hK S2 dv ρ2 h2 fun y G2 H2 g2 S3 o2 => ?_
  cases o1 with
  | int i =>
    cases hf2
    have hH2 : H2 p = some (.dK []) := S3.bh p _ upd_same
    have hG2 : G2 p = none := by
      cases z : G2 p with
      | none => rfl
      | some u =>
        rcases S3.ga p (ne_none_of z) with w | w
        · exact absurd (S.gh.free hp |> S.g0.free) w
        · exact absurd rfl w.2
    refine ⟨hH2, [(.inl i, y)], rfl, by simp, ?_⟩
    have S4 : StOk (C.with p (.dK (mergeK [] [(.inl i, y)]))) G2 σ (upd H2 p (.dK (mergeK [] [(.inl i, y)]))) _ := S3.step (o' := .dK (mergeK [] [(.inl i, y)])) hG2 S.wf hBp
    have S5 := S4.exit S.wf hBp
    refine q _ G2 _ (g1.trans g2) S5 ⟨p, rfl, .dct upd_same (.cons o2 .nil), hG2, hBp, S.fr p hp, fun j hj => ?_⟩
    obtain ⟨_, _, z4⟩ := Own.tracked S4 hj
    have z5 : upd C.B p (.dK (mergeK [] [(.inl i, y)])) p = none := z4
    rw [upd_same] at z5
    cases z5
  | _ => cases hf2
/-- a, b = x, y -/
def mPar (i j : Nat) (fs : M (List D)) : M Fl := bnd fs fun ds => match ds with
  | [d, e] => bnd (setS i (.val d)) fun _ => bnd (setS j (.val e)) fun _ => ret .nx
  | _ => fun _ => .stuck
theorem pst_par {i j : Nat} {x y : Str} {px py pt : Pos} {kt k2 pt2} (hc : X.calm = true) (hN : X.N.Nodup) (ha : PVs X [a, b] fs) (hi : X.N[i]? = some x := by rfl) (hj : X.N[j]? = some y := by rfl) (hij : i ≠ j := by decide)
    (hx : X.env.scope.names.lookup x = some .local := by rfl) (hy : X.env.scope.names.lookup y = some .local := by rfl)
    (hw : swappedStores [.Tuple [.Name x px, .Name y py] kt pt] (.Tuple [a, b] k2 pt2) X.env = pure (some [x, y]) := by rfl)
    (hs : swapsWithSole [.Tuple [.Name x px, .Name y py] kt pt] (.Tuple [a, b] k2 pt2) pos.line X.env = pure false := by rfl) :
    PSt X (.Assign [.Tuple [.Name x px, .Name y py] kt pt] (.Tuple [a, b] k2 pt2) pos) (mPar i j fs) := by
  obtain ⟨t, ha, ra⟩ := ha
  refine ⟨_, ps_par hc hN hi hj hij hx hy ha hw hs, fun C G σ H ρ D hK S fl ρ' hf q => ?_⟩
  obtain ⟨ds, ρ1, h1, hf2⟩ := bnd_ok hf
  refine ra C G σ H ρ _ hK S ds ρ1 h1 fun vs G1 H1 g1 S1 o => ?_
  cases o with
  | nil => cases hf2
  | cons o1 r1 => cases r1 with
    | nil => cases hf2
    | cons o2 r2 => cases r2 with
      | cons _ _ => cases hf2
      | nil =>
        obtain ⟨u1, ρ2, h2, hf3⟩ := bnd_ok hf2
        obtain ⟨u2, ρ3, h3, hf4⟩ := bnd_ok hf3
        cases hf4
        obtain ⟨l1, rfl⟩ := setS_ok h2
        obtain ⟨l2, rfl⟩ := setS_ok h3
        exact ⟨_, _, rfl, q _ G1 H1 g1 ((S1.putV l1 o1).putV l2 o2)⟩
end
end PL
/-! PL21: calls with keywords, keyword-only parameters that lack, ranges with a step -/
namespace PL
open PySem PySem.Spec L2 PyProof.Rows RT RZ
/-! ### reading the written arguments and the keywords -/
def RdP2 (K : PySem.W.Frag) (t tk : TA) (n m : Nat) (f : M (List Pl)) : Prop := ∀ (C : Ctx) (G : Hp) (σ : L2.St) (H : Hp) (ρ : Env) (Q : List V → List V → Hp → Prop), C.K = K → StOk C G σ H ρ → ∀ (ds : List Pl) (ρ' : Env), f ρ = .ok ds ρ' →
  (∀ (vs zs : List V) (G' H' : Hp), vs.length = n → zs.length = m → Same G G' → StOk C G' σ H' ρ' → okPs G' σ (vs ++ zs) ds → Q vs zs H') → t σ H fun vs H1 => tk σ H1 fun zs H2 => Q vs zs H2
def PKs (X : Cx) (kws : List Keyword) (m : Nat) (f : M (List Pl)) : Prop := ∃ tk, PK X kws tk ∧ RdP2 X.K tNil tk 0 m f
def PPk (X : Cx) (es : List Expr) (kws : List Keyword) (n m : Nat) (f : M (List Pl)) : Prop := ∃ t tk, PA X es t ∧ PK X kws tk ∧ RdP2 X.K t tk n m f
section
variable {X : Cx} {e : Expr} {es : List Expr} {kws : List Keyword} {n m : Nat} {g : M Pl} {fs : M (List Pl)} {nm : Option Str} {kpos : Pos}
theorem pks_nil : PKs X [] 0 mNil := ⟨_, pk_nil, fun C G σ H ρ Q hK S d ρ' hf q => by cases hf; exact q [] [] G H rfl rfl (Same.refl _) S .nil⟩
theorem pks_cons (h : PP X e g) (hr : PKs X kws m fs) : PKs X (⟨nm, e, kpos⟩ :: kws) (m + 1) (mCons g fs) := by
  obtain ⟨t, h, r⟩ := h
  obtain ⟨u, hr, rr⟩ := hr
  refine ⟨_, pk_cons h hr, fun C G σ H ρ Q hK S ds ρ' hf q => ?_⟩
  obtain ⟨d, ρ1, h1, hf⟩ := bnd_ok hf
  obtain ⟨ds', ρ2, h2, hf⟩ := bnd_ok hf
  cases hf
  refine r C G σ H ρ _ hK S d ρ1 h1 fun v G1 H1 g1 S1 o1 => ?_
  refine rr C G1 σ H1 ρ1 (fun _ zs H2 => Q [] (v :: zs) H2) hK S1 ds' _ h2 fun vs zs G2 H2 l1 l2 g2 S2 o2 => ?_
  cases vs with
  | nil => exact q [] (v :: zs) G2 H2 rfl (congrArg Nat.succ l2) (g1.trans g2) S2 (.cons (o1.mono g2) o2)
  | cons _ _ => cases l1
theorem ppk_nil (hk : PKs X kws m fs) : PPk X [] kws 0 m fs := by
  obtain ⟨tk, h, r⟩ := hk
  exact ⟨_, _, pa_nil, h, r⟩
theorem ppk_cons (h : PP X e g) (hr : PPk X es kws n m fs) (hs : starEach (e :: es) X.env = (false, eval e X.env) :: starEach es X.env := by rfl) : PPk X (e :: es) kws (n + 1) m (mCons g fs) := by
  obtain ⟨t, h, r⟩ := h
  obtain ⟨u, uk, hr, hk, rr⟩ := hr
  refine ⟨_, _, pa_cons h hr hs, hk, fun C G σ H ρ Q hK S ds ρ' hf q => ?_⟩
  obtain ⟨d, ρ1, h1, hf⟩ := bnd_ok hf
  obtain ⟨ds', ρ2, h2, hf⟩ := bnd_ok hf
  cases hf
  refine r C G σ H ρ _ hK S d ρ1 h1 fun v G1 H1 g1 S1 o1 => ?_
  refine rr C G1 σ H1 ρ1 (fun vs zs H2 => Q (v :: vs) zs H2) hK S1 ds' _ h2 fun vs zs G2 H2 l1 l2 g2 S2 o2 => ?_
  exact q (v :: vs) zs G2 H2 (congrArg Nat.succ l1) l2 (g1.trans g2) S2 (.cons (o1.mono g2) o2)
end
def tBoth (n m : Nat) (t tk : TA) : TA := fun σ H Q => t σ H fun vs H1 => tk σ H1 fun zs H2 => vs.length = n ∧ zs.length = m ∧ Q (vs ++ zs) H2
theorem rd_both {K : PySem.W.Frag} {t tk : TA} {n m : Nat} {f : M (List Pl)} (r : RdP2 K t tk n m f) : RdPs K (tBoth n m t tk) f := fun C G σ H ρ Q hK S ds ρ' hf q =>
  r C G σ H ρ (fun vs zs H2 => vs.length = n ∧ zs.length = m ∧ Q (vs ++ zs) H2) hK S ds ρ' hf fun vs zs G' H' l1 l2 g S' o => ⟨l1, l2, q _ G' H' g S' o⟩
/-- how the values are bound: the written ones, then the keywords' -/
def KBz (K : PySem.W.Frag) (fd : FuncData) (ps : List Str) (n : Nat) (ks : List Str) : Prop := ∀ (s : Shared) (us ws : List Value), K.In s.heap → us.length = n → ws.length = ks.length → BindsTo s fd ⟨us, ks.zip ws⟩ (ps.zip (us ++ ws))
theorem fun_kbz {K : PySem.W.Frag} {x qual : Str} {st : Stmt} {f : Addr} {fd : FuncData} {ps ks : List Str} {n : Nat} (F : Fun K x qual st f fd)
    (h : ∀ (kV doc pm : Value) (an : Option Addr) (cdv ct : Value) (us ws : List Value), us.length = n → ws.length = ks.length → bindArgs (PySem.W.fnOf x qual (defArgs st) (defBody st) (defScope st) .none kV doc pm an cdv ct) ⟨us, ks.zip ws⟩ = pure (ps.zip (us ++ ws))) : KBz K fd ps n ks := by
  obtain ⟨oc, od, kV, doc, pm, an, cdv, ct, osl, rfl, lk, hcd⟩ := F.ex
  exact fun s us ws _ l1 l2 => .of_eq (h kV doc pm an cdv ct us ws l1 l2)
section
variable {X : Cx} {e : Expr} {es : List Expr} {pos p : Pos} {x : Str} {k : Nat} {f : Addr} {fd : FuncData} {ps ks : List Str} {np nl n m : Nat} {mm : M Fl} {ms : List Md} {fs : M (List Pl)} {sp : Sp} {t tk : TA} {kws : List Keyword}
theorem pe_callGK (F : FnG X.prog X.w X.K X.mg X.base k f fd ps sp) (hG : X.A.guards = some []) (hr : Room k X.A) (hg : Gl X x) (hm : X.mg x = some (.ref f)) (hk : PySem.W.keepIn X.K (.ref f) = true) (hb : KBz X.K fd ps n ks) (ha : PA X (e :: es) t) (hkw : PK X kws tk) (hm2 : ks.length = m)
    (hall : (backToKw pos (keywordEach kws X.env)).all (·.1.isSome) = true := by rfl) (hks : (backToKw pos (keywordEach kws X.env)).filterMap (·.1) = ks := by rfl)
    (hdb : (x == ("__debug__" : Str)) = false := by decide) (he : starEach (e :: es) X.env = (false, eval e X.env) :: starEach es X.env := by rfl)
    (hpl : ((backTo pos (starEach (e :: es) X.env)).any (·.1) || (backToKw pos (keywordEach kws X.env)).any (·.1.isNone)) = false := by rfl) :
    PE X (.Call (.Name x p) (e :: es) kws pos) (tCall sp [] L2.E0 (tBoth n m t tk)) := by
  constructor
  intro pins s σ H Q I h
  refine PySem.wpAny_Call_Name_kw (ld_glob I hg hm ?_ hdb)
  refine PySem.W.callWith_KW (h₀ := X.base) I.ok.mod.kin hk hall (thn (ha.run pos pins s σ H _ I h) fun us s1 ⟨vs, H1, I1, r, q⟩ => ?_) hpl he
  refine thn (hkw.run pos pins s1 σ H1 _ I1 q) fun ws s2 ⟨zs, H2, I2, rz, l1, l2, q2⟩ => ⟨I2.kIn, ?_⟩
  rw [hks]
  have q2 : sp ((vs ++ zs) ++ []) H2 Q L2.E0 := q2
  rw [List.append_nil] at q2
  refine wpAny_call (codeAny_mono (F.go X.A hG X.stack s2 H2 ⟨us, ks.zip ws⟩ (us ++ ws) (vs ++ zs) Q _ hr I2.env0 (hb s2 us ws I2.kIn (r.length.symm.trans l1) (rz.length.symm.trans (l2.trans hm2.symm))) (r.append rz) q2) ?_)
  intro r s' hq
  cases r with
  | error e => exact False.elim hq
  | ok fl =>
    cases fl with
    | ret u => exact I2.after hq
    | next => exact False.elim hq
    | brk => exact False.elim hq
    | cont => exact False.elim hq
theorem pf_callGK (F : FnG X.prog X.w X.K X.mg X.base k f fd ps (spD X.K np nl mm)) (hG : X.A.guards = some []) (hr : Room k X.A) (hg : Gl X x) (hm : X.mg x = some (.ref f)) (hk : PySem.W.keepIn X.K (.ref f) = true) (hb : KBz X.K fd ps n ks) (ha : PPk X (e :: es) kws n m fs) (hl : ms.length = np) (hm2 : ks.length = m := by rfl)
    (hall : (backToKw pos (keywordEach kws X.env)).all (·.1.isSome) = true := by rfl) (hks : (backToKw pos (keywordEach kws X.env)).filterMap (·.1) = ks := by rfl)
    (hdb : (x == ("__debug__" : Str)) = false := by decide) (he : starEach (e :: es) X.env = (false, eval e X.env) :: starEach es X.env := by rfl)
    (hpl : ((backTo pos (starEach (e :: es) X.env)).any (·.1) || (backToKw pos (keywordEach kws X.env)).any (·.1.isNone)) = false := by rfl) :
    PF X (.Call (.Name x p) (e :: es) kws pos) (mCall ms nl mm fs) := by
  obtain ⟨t, tk, ha, hkw, ra⟩ := ha
  exact ⟨_, pe_callGK F hG hr hg hm hk hb ha hkw hm2 hall hks hdb he hpl, rd_call (rd_both ra) hl⟩
end
/-! ### a keyword-only parameter lacks: its default None -/
def tSn (t : TA) : TA := fun σ H Q => t σ H fun vs H1 => Q (vs ++ [.non]) H1
def PPd (X : Cx) (es : List Expr) (f : M (List Pl)) : Prop := ∃ t, PA X es t ∧ RdPs X.K (tSn t) f
section
variable {X : Cx} {e : Expr} {es : List Expr} {g : M Pl} {fs : M (List Pl)}
theorem ppd_nil : PPd X [] (mCons (mPl (mC .none)) mNil) := ⟨_, pa_nil, fun C G σ H ρ Q hK S d ρ' hf q => by
  cases hf
  exact q [.non] G H (Same.refl _) S (.cons (show Rp G .non .none from .non) .nil)⟩
theorem ppd_cons (h : PP X e g) (hr : PPd X es fs) (hs : starEach (e :: es) X.env = (false, eval e X.env) :: starEach es X.env := by rfl) : PPd X (e :: es) (mCons g fs) := by
  obtain ⟨t, h, r⟩ := h
  obtain ⟨u, hr, rr⟩ := hr
  refine ⟨_, pa_cons h hr hs, fun C G σ H ρ Q hK S ds ρ' hf q => ?_⟩
  obtain ⟨d, ρ1, h1, hf⟩ := bnd_ok hf
  obtain ⟨ds', ρ2, h2, hf⟩ := bnd_ok hf
  cases hf
  refine r C G σ H ρ _ hK S d ρ1 h1 fun v G1 H1 g1 S1 o1 => ?_
  exact rr C G1 σ H1 ρ1 (fun vs H2 => Q (v :: vs) H2) hK S1 ds' _ h2 fun vs G2 H2 g2 S2 o2 => q _ G2 H2 (g1.trans g2) S2 (.cons (o1.mono g2) o2)
end
section
variable {X : Cx} {e : Expr} {es : List Expr} {pos p : Pos} {x : Str} {k : Nat} {f : Addr} {fd : FuncData} {ps : List Str} {np nl : Nat} {mm : M Fl} {ms : List Md} {fs : M (List Pl)} {sp : Sp} {t : TA} {ds : List Value}
def BindsN (K : PySem.W.Frag) (fd : FuncData) (ps : List Str) : Prop := ∃ ds : List Value, Vals [V.non] ds ∧ Binds K fd ps ds
theorem pe_callGd (F : FnG X.prog X.w X.K X.mg X.base k f fd ps sp) (hG : X.A.guards = some []) (hr : Room k X.A) (hg : Gl X x) (hm : X.mg x = some (.ref f)) (hk : PySem.W.keepIn X.K (.ref f) = true) (hb : BindsN X.K fd ps) (ha : PA X (e :: es) t)
    (hdb : (x == ("__debug__" : Str)) = false := by decide) (he : starEach (e :: es) X.env = (false, eval e X.env) :: starEach es X.env := by rfl) (hpl : (backTo pos (starEach es X.env)).any (·.1) = false := by rfl) :
    PE X (.Call (.Name x p) (e :: es) [] pos) (tCall sp [] L2.E0 (tSn t)) := by
  obtain ⟨ds, hd, hb⟩ := hb
  constructor
  intro pins s σ H Q I h
  refine PySem.wpAny_Call_Name_kw (ld_glob I hg hm ?_ hdb)
  refine PySem.W.callWith_K (h₀ := X.base) I.ok.mod.kin hk (thn (ha.run pos pins s σ H _ I h) ?_) he hpl
  rintro us s1 ⟨vs, H1, I1, r, q⟩
  refine ⟨I1.kIn, ?_⟩
  have q : sp ((vs ++ [.non]) ++ []) H1 Q L2.E0 := q
  rw [List.append_nil] at q
  have r2 : Vals (vs ++ [.non]) (us ++ ds) := r.append hd
  have hl : (us ++ ds).length = ps.length := by rw [← r2.length]; exact F.len _ _ _ _ q
  refine wpAny_call (codeAny_mono (F.go X.A hG X.stack s1 H1 ⟨us, []⟩ (us ++ ds) _ Q _ hr I1.env0 (hb s1 us I1.kIn hl) r2 q) ?_)
  intro r s' hq
  cases r with
  | error e => exact False.elim hq
  | ok fl =>
    cases fl with
    | ret u => exact I1.after hq
    | next => exact False.elim hq
    | brk => exact False.elim hq
    | cont => exact False.elim hq
theorem pf_callGd (F : FnG X.prog X.w X.K X.mg X.base k f fd ps (spD X.K np nl mm)) (hG : X.A.guards = some []) (hr : Room k X.A) (hg : Gl X x) (hm : X.mg x = some (.ref f)) (hk : PySem.W.keepIn X.K (.ref f) = true) (hb : BindsN X.K fd ps) (ha : PPd X (e :: es) fs) (hl : ms.length = np)
    (hdb : (x == ("__debug__" : Str)) = false := by decide) (he : starEach (e :: es) X.env = (false, eval e X.env) :: starEach es X.env := by rfl) (hpl : (backTo pos (starEach es X.env)).any (·.1) = false := by rfl) :
    PF X (.Call (.Name x p) (e :: es) [] pos) (mCall ms nl mm fs) := by
  obtain ⟨t, ha, ra⟩ := ha
  exact ⟨_, pe_callGd F hG hr hg hm hk hb ha hdb he hpl, rd_call ra hl⟩
end
/-- one keyword-only parameter y with the default None -/
theorem bindsN_of {K : PySem.W.Frag} {x qual y : Str} {st : Stmt} {f : Addr} {oc : Value} {od an : Option Addr} {osl : Array (Option Value)} {doc pm cdv ct : Value} {D : Addr} {ps : List Str} {n : Nat}
    (l : K.lookup f = some ⟨oc, od, .func (PySem.W.fnOf x qual (defArgs st) (defBody st) (defScope st) .none (.ref D) doc pm an cdv ct), osl⟩) (c : PySem.W.codeIn K cdv qual = true) (k : PySem.W.keepIn K (.ref f) = true)
    (hD : PySem.W.nsIn K D y = some (some .none)) (hn : n + 1 = ps.length)
    (h : ∀ (D : Addr) (doc pm : Value) (an : Option Addr) (cdv ct : Value) (us ks : List Value), us.length = n → ks.length = 1 →
      KwChain D ([y].zip ks) (bindArgs (PySem.W.fnOf x qual (defArgs st) (defBody st) (defScope st) .none (.ref D) doc pm an cdv ct) ⟨us, []⟩) (ps.zip (us ++ ks))) :
    BindsN K (PySem.W.fnOf x qual (defArgs st) (defBody st) (defScope st) .none (.ref D) doc pm an cdv ct) ps := by
  have F : FunD K x qual (defArgs st) (defBody st) (defScope st) [] [(y, .non)] f (PySem.W.fnOf x qual (defArgs st) (defBody st) (defScope st) .none (.ref D) doc pm an cdv ct) :=
    ⟨⟨oc, od, .none, .ref D, doc, pm, an, cdv, ct, osl, rfl, l, c, .inl ⟨rfl, rfl⟩, .inr ⟨D, rfl, fun q hq => by
      cases List.mem_singleton.mp hq
      exact ⟨.none, hD, rfl⟩⟩⟩, k⟩
  exact F.binds0 n (by simp) (by simpa using hn) fun D doc pm an cdv ct us ks l1 l2 => h D doc pm an cdv ct us ks l1 (by simpa using l2)
/-! ### for x in range(a, b, -1) -/
def rngdD (hi lo : Int) : List D := (List.range (hi - lo).toNat).map fun (i : Nat) => .int (hi - (i : Int))
theorem rngdD_len (hi lo : Int) : (rngdD hi lo).length = (hi - lo).toNat := by unfold rngdD; rw [List.length_map, List.length_range]
theorem rngdD_get {hi lo : Int} {i : Nat} {d : D} (h : (rngdD hi lo)[i]? = some d) : d = .int (hi - (i : Int)) := by
  unfold rngdD at h
  rw [List.getElem?_map] at h
  cases q : (List.range (hi - lo).toNat)[i]? with
  | none => rw [q] at h; cases h
  | some k =>
    rw [q] at h
    cases h
    obtain ⟨h1, h2⟩ := List.getElem?_eq_some_iff.mp q
    rw [List.getElem_range] at h2
    rw [h2]
theorem JOk.rngd {B G1} {hi lo : Int} : JOk (Itc hi (-1) (hi - lo).toNat) B G1 (rngdD hi lo) where
  go := fun i G H b g gh h => by rw [rngdD_len] at h; exact h
  yld := fun i G H x H' d b g gh hd hy => by
    obtain ⟨rfl, rfl⟩ := hy
    rw [rngdD_get hd]
    have e : hi + (i : Int) * (-1) = hi - (i : Int) := by omega
    rw [e]
    exact ⟨G, Grow.refl gh, .int _⟩
  stop := fun G H b g gh => by
    show (hi - lo).toNat ≤ (rngdD hi lo).length
    rw [rngdD_len]; exact Nat.le_refl _
def mRngD (f g : M D) : M (List D) := bnd f fun d => bnd g fun e => fun ρ => match d, e with
  | .int a, .int b => if (small62 a && small62 b) = true then .ok (rngdD a b) ρ else .stuck
  | _, _ => .stuck
section
variable {X : Cx} {a b c tg : Expr} {fa fb : M D} {p pos : Pos}
theorem pit_rngd (hg : Gl X "range") (hm : X.mg "range" = none) (h : PV X a fa) (h2 : PV X b fb) (h3 : PV X c (mC (.int (-1)))) (hs : starEach [a, b, c] X.env = (false, eval a X.env) :: starEach [b, c] X.env := by rfl) (hs2 : starEach [b, c] X.env = (false, eval b X.env) :: starEach [c] X.env := by rfl) (hs3 : starEach [c] X.env = (false, eval c X.env) :: starEach [] X.env := by rfl)
    (hpl : (backTo pos (starEach [b, c] X.env)).any (·.1) = false := by rfl) :
    PIt X tg (.Call (.Name "range" p) [a, b, c] [] pos) (mRngD fa fb) := by
  obtain ⟨t, h, r⟩ := h
  obtain ⟨u, h2, r2⟩ := h2
  obtain ⟨v3, h3, r3⟩ := h3
  refine ⟨_, pi_range3 hg hm (pa_cons h (pa_cons h2 (pa_cons h3 pa_nil hs3) hs2) hs) hs hpl, fun C G σ H ρ R hK S ds ρ' hf q => ?_⟩
  obtain ⟨d, ρ1, h1, hf2⟩ := bnd_ok hf
  obtain ⟨d2, ρ2, h3, hf3⟩ := bnd_ok hf2
  refine r C G σ H ρ _ hK S d ρ1 h1 fun v G1 H1 g1 S1 o => ?_
  refine r2 C G1 σ H1 ρ1 _ hK S1 d2 ρ2 h3 fun v2 G2 H2 g2 S2 o2 => ?_
  refine r3 C G2 σ H2 ρ2 _ hK S2 _ ρ2 rfl fun v3 G3 H3 g3 S3 o3 => ?_
  cases o with
  | int n =>
    cases o2 with
    | int n2 =>
      cases o3
      by_cases hn : (small62 n && small62 n2) = true
      · simp only [hn, if_true] at hf3
        cases hf3
        simp only [small62, Bool.and_eq_true, decide_eq_true_eq] at hn
        exact ⟨n, n2, -1, _, rfl, RgC.neg hn.1.1 hn.1.2 hn.2.1 hn.2.2, q _ G3 H3 ((g1.trans g2).trans g3) S3 JOk.rngd⟩
      · simp only [hn, if_false] at hf3
        cases hf3
    | _ => cases hf3
  | _ => cases hf3
end
/-! ### list(range(n)) -/
def mLRg (f : M D) : M D := bnd f fun d => fun ρ => match d with
  | .int n => if (decide (-100000 ≤ n) && decide (n ≤ 100000)) = true then .ok (.list (rngD 0 n)) ρ else .stuck
  | _ => .stuck
theorem rgV_rel {G : Hp} (n : Int) : RpA G (rgV 0 n) (rngD 0 n) := by
  unfold rgV rngD
  generalize (n - 0).toNat = m
  have : ∀ l : List Nat, RpA G (l.map fun i => V.int (0 + (i : Nat))) (l.map fun (i : Nat) => PyData.int (0 + (i : Int))) := by
    intro l
    induction l with
    | nil => exact .nil
    | cons x l ih => exact .cons (.int _) ih
  exact this _
section
variable {X : Cx} {a : Expr} {fa : M D} {p p2 pos pos2 : Pos}
theorem pf_listRg (hc : X.calm = true) (hg2 : Gl X "list") (hm2 : X.mg "list" = none) (hg : Gl X "range") (hm : X.mg "range" = none) (h : PV X a fa) (na : starEach [a] X.env = (false, eval a X.env) :: starEach [] X.env := by rfl)
    (na2 : starEach [.Call (.Name "range" p) [a] [] pos] X.env = (false, eval (.Call (.Name "range" p) [a] [] pos) X.env) :: starEach [] X.env := by rfl) :
    PF X (.Call (.Name "list" p2) [.Call (.Name "range" p) [a] [] pos] [] pos2) (mFr (mLRg fa)) := by
  obtain ⟨t, h, r⟩ := h
  refine ⟨_, pe_listRg hc hg2 hm2 (prg_1 hg hm h na) na2, fun C G σ H ρ Q hK S d ρ' hf q => ?_⟩
  obtain ⟨d', ρ0, hf0, h0⟩ := bnd_ok hf
  cases h0
  obtain ⟨d, ρ1, h1, hf2⟩ := bnd_ok hf0
  refine r C G σ H ρ _ hK S d ρ1 h1 fun v G1 H1 g1 S1 o => ?_
  cases o with
  | int n =>
    by_cases hn : (decide (-100000 ≤ n) && decide (n ≤ 100000)) = true
    · simp only [hn, if_true] at hf2
      cases hf2
      simp only [Bool.and_eq_true, decide_eq_true_eq] at hn
      refine ⟨n, rfl, ⟨by omega, by omega, by omega, by omega, by omega⟩, fun q0 hq0 => ?_⟩
      have w : Grow G1 H1 G1 (upd H1 q0 (.lst (rgV 0 n))) := Grow.newF S1.gh hq0
      exact q _ _ _ g1 (S1.grow w) (fresh_ok S1 hq0 w (.lst upd_same (rgV_rel n)))
    · simp only [hn, if_false] at hf2
      cases hf2
  | _ => cases hf2
end
end PL
namespace PL
open PySem PySem.Spec L2 RT RZ
def rBnd {α β : Type} (x : R α) (g : α → M β) : R β := match x with
  | .stuck => .stuck
  | .ok a ρ' => g a ρ'
def rFz : R Rv → R D
  | .stuck => .stuck
  | .ok (.fr d) ρ' => .ok d ρ'
  | .ok (.pl (.val d)) ρ' => .ok d ρ'
  | .ok (.pl (.slot i)) ρ' => mGet i ρ'
def rPl : R D → R Pl
  | .stuck => .stuck
  | .ok d ρ' => .ok (.val d) ρ'
def rRv : R Pl → R Rv
  | .stuck => .stuck
  | .ok d ρ' => .ok (.pl d) ρ'
def rFr : R D → R Rv
  | .stuck => .stuck
  | .ok d ρ' => .ok (.fr d) ρ'
def rSet (i : Nat) : R Rv → R Fl
  | .stuck => .stuck
  | .ok (.fr d) ρ' => bnd (setS i (.own d)) (fun _ => PL.ret .nx) ρ'
  | .ok (.pl (.val d)) ρ' => bnd (setS i (.val d)) (fun _ => PL.ret .nx) ρ'
  | .ok (.pl (.slot j)) ρ' => bnd (mGet j) (fun d => bnd (setS i (.val d)) fun _ => PL.ret .nx) ρ'
def rSeq (x : R Fl) (g : M Fl) : R Fl := match x with
  | .stuck => .stuck
  | .ok .nx ρ' => g ρ'
  | .ok (.rt r) ρ' => .ok (.rt r) ρ'
  | .ok .bk ρ' => .ok .bk ρ'
  | .ok .ct ρ' => .ok .ct ρ'
def rRet : R Rv → R Fl
  | .stuck => .stuck
  | .ok r ρ' => .ok (.rt r) ρ'
def rDrop {α : Type} : R α → R Fl
  | .stuck => .stuck
  | .ok _ ρ' => .ok .nx ρ'
def rBack (r : Rv) : Option PL.Env → R Rv
  | some ρ2 => .ok r ρ2
  | none => .stuck
def rCall (ρ : PL.Env) (ms : List Md) (ps : List Pl) : Option (Rv × List Sl) → R Rv
  | some ro => rBack ro.1 (backIo ρ ms ps ro.2)
  | none => .stuck
def rArgs (ρ : PL.Env) (ms : List Md) (nl : Nat) (body : M Fl) (ps : List Pl) : Option (List Sl) → R Rv
  | some ss => rCall ρ ms ps (evalD ms nl body ss)
  | none => .stuck
section
variable {α β : Type} (ρ ρ' : Env) (i j : Nat) (d e : D) (ds es : List D) (x y : Int) (b : Bool)
@[simp] theorem q_bnd (f : M α) (g : α → M β) : bnd f g ρ = rBnd (f ρ) g := rfl
@[simp] theorem r_bnd (a : α) (g : α → M β) : rBnd (.ok a ρ) g = g a ρ := rfl
@[simp] theorem r_bnd_s (g : α → M β) : rBnd (.stuck : R α) g = .stuck := rfl
@[simp] theorem q_ret (a : α) : PL.ret a ρ = .ok a ρ := rfl
@[simp] theorem q_ofO_some (a : α) : ofO (some a) ρ = .ok a ρ := rfl
@[simp] theorem q_ofO_none : (ofO (none : Option α)) ρ = .stuck := rfl
@[simp] theorem q_mVar : mVar i ρ = match ρ[i]? with
  | some .un => .stuck
  | none => .stuck
  | some (.val d) => .ok (.val d) ρ
  | some _ => .ok (.slot i) ρ := rfl
@[simp] theorem q_mC : mC d ρ = .ok d ρ := rfl
@[simp] theorem q_mGet : mGet i ρ = match ρ[i]? with
  | some (.val d) => .ok d ρ
  | some (.own d) => .ok d (ρ.set i (.val d))
  | some (.bor d) => if atom d = true then .ok d ρ else .stuck
  | _ => .stuck := rfl
@[simp] theorem q_mFz (f : M Rv) : mFz f ρ = rFz (f ρ) := by
  unfold mFz bnd
  cases f ρ with
  | stuck => rfl
  | ok r ρ' => cases r with
    | fr d => rfl
    | pl p => cases p <;> rfl
@[simp] theorem r_fz_f : rFz (.ok (.fr d) ρ) = .ok d ρ := rfl
@[simp] theorem r_fz_v : rFz (.ok (.pl (.val d)) ρ) = .ok d ρ := rfl
@[simp] theorem r_fz_s : rFz (.ok (.pl (.slot i)) ρ) = mGet i ρ := rfl
@[simp] theorem r_fz_x : rFz .stuck = .stuck := rfl
@[simp] theorem q_mPl (f : M D) : mPl f ρ = rPl (f ρ) := by unfold mPl bnd; cases f ρ <;> rfl
@[simp] theorem r_rPl (d : D) : rPl (.ok d ρ) = .ok (.val d) ρ := rfl
@[simp] theorem r_rPl_s : rPl .stuck = .stuck := rfl
@[simp] theorem q_mRv (f : M Pl) : mRv f ρ = rRv (f ρ) := by unfold mRv bnd; cases f ρ <;> rfl
@[simp] theorem r_rRv (d : Pl) : rRv (.ok d ρ) = .ok (.pl d) ρ := rfl
@[simp] theorem r_rRv_s : rRv .stuck = .stuck := rfl
@[simp] theorem q_rsv_val : rsv ρ (.val d) = some d := rfl
@[simp] theorem q_rsv_slot : rsv ρ (.slot i) = match ρ[i]? with
    | some (.val d) => some d
    | some (.own d) => some d
    | some (.io d) => some d
    | some (.bor d) => some d
    | _ => none := rfl
@[simp] theorem q_look (p : Pl) : look p ρ = match rsv ρ p with
  | some d => .ok d ρ
  | none => .stuck := rfl
@[simp] theorem q_lookAll_nil : lookAll [] ρ = .ok [] ρ := rfl
@[simp] theorem q_lookAll_cons (p : Pl) (ps : List Pl) : lookAll (p :: ps) ρ = bnd (look p) (fun d => bnd (lookAll ps) fun ds => PL.ret (d :: ds)) ρ := rfl
@[simp] theorem q_mOp (g : D → D → Option α) (fa fb : M Pl) : mOp g fa fb ρ = bnd fa (fun p => bnd fb fun q => bnd (look p) fun d => bnd (look q) fun e => ofO (g d e)) ρ := rfl
@[simp] theorem q_mUn (g : D → Option α) (fa : M Pl) : mUn g fa ρ = bnd fa (fun p => bnd (look p) fun d => ofO (g d)) ρ := rfl
@[simp] theorem q_mNil : (mNil : M (List α)) ρ = .ok [] ρ := rfl
@[simp] theorem q_mCons (fa : M α) (fr : M (List α)) : mCons fa fr ρ = bnd fa (fun p => bnd fr fun q => PL.ret (p :: q)) ρ := rfl
@[simp] theorem q_mN (g : List D → Option α) (fs : M (List Pl)) : mN g fs ρ = bnd fs (fun ps => bnd (lookAll ps) fun ds => ofO (g ds)) ρ := rfl
@[simp] theorem q_mFr (f : M D) : mFr f ρ = rFr (f ρ) := by unfold mFr bnd; cases f ρ <;> rfl
@[simp] theorem r_rFr (d : D) : rFr (.ok d ρ) = .ok (.fr d) ρ := rfl
@[simp] theorem r_rFr_s : rFr .stuck = .stuck := rfl
@[simp] theorem q_mTup (f : M (List D)) : mTup f ρ = bnd f (fun ds => if ds.length ≤ 100000 then PL.ret (.tuple ds) else fun _ => .stuck) ρ := Eq.trans rfl rfl
@[simp] theorem q_mLst (f : M (List D)) : mLst f ρ = bnd f (fun ds => if ds.length ≤ 100000 then PL.ret (.fr (.list ds)) else fun _ => .stuck) ρ := Eq.trans rfl rfl
@[simp] theorem q_mB (f : M D) : mB f ρ = bnd f (fun d => ofO (asBool d)) ρ := rfl
@[simp] theorem q_mIf (c : M Bool) (f g : M α) : mIf c f g ρ = bnd c (fun k => if k = true then f else g) ρ := rfl
@[simp] theorem q_mNot (c : M Bool) : mNot c ρ = bnd c (fun k => PL.ret (!k)) ρ := rfl
@[simp] theorem q_mAnd (f g : M Bool) : mAnd f g ρ = bnd f (fun k => if k = true then g else PL.ret false) ρ := rfl
@[simp] theorem q_mOr (f g : M Bool) : mOr f g ρ = bnd f (fun k => if k = true then PL.ret true else g) ρ := rfl
@[simp] theorem q_mAndV (f g : M D) : mAndV f g ρ = bnd (mB f) (fun k => if k = true then g else PL.ret (.bool false)) ρ := rfl
@[simp] theorem q_mOrV (f g : M D) : mOrV f g ρ = bnd (mB f) (fun k => if k = true then PL.ret (.bool true) else g) ρ := rfl
@[simp] theorem q_mNotV (f : M D) : mNotV f ρ = bnd (mB f) (fun k => PL.ret (.bool (!k))) ρ := rfl
@[simp] theorem q_setS (s : Sl) : setS i s ρ = if i < ρ.length then .ok () (ρ.set i s) else .stuck := rfl
@[simp] theorem q_mSet (f : M Rv) : mSet i f ρ = rSet i (f ρ) := by
  unfold mSet
  rw [q_bnd]
  cases f ρ with
  | stuck => rfl
  | ok r ρ' => cases r with
    | fr d => rfl
    | pl p => cases p <;> rfl
@[simp] theorem r_set_f : rSet i (.ok (.fr d) ρ) = bnd (setS i (.own d)) (fun _ => PL.ret .nx) ρ := rfl
@[simp] theorem r_set_v : rSet i (.ok (.pl (.val d)) ρ) = bnd (setS i (.val d)) (fun _ => PL.ret .nx) ρ := rfl
@[simp] theorem r_set_s : rSet i (.ok (.pl (.slot j)) ρ) = bnd (mGet j) (fun d => bnd (setS i (.val d)) fun _ => PL.ret .nx) ρ := rfl
@[simp] theorem r_set_x : rSet i .stuck = .stuck := rfl
@[simp] theorem q_mSeq (f g : M Fl) : mSeq f g ρ = rSeq (f ρ) g := by
  unfold mSeq
  rw [q_bnd]
  cases f ρ with
  | stuck => rfl
  | ok r ρ' => cases r <;> rfl
@[simp] theorem r_seq_n (g : M Fl) : rSeq (.ok .nx ρ) g = g ρ := rfl
@[simp] theorem r_seq_r (r : Rv) (g : M Fl) : rSeq (.ok (.rt r) ρ) g = .ok (.rt r) ρ := rfl
@[simp] theorem r_seq_b (g : M Fl) : rSeq (.ok .bk ρ) g = .ok .bk ρ := rfl
@[simp] theorem r_seq_c (g : M Fl) : rSeq (.ok .ct ρ) g = .ok .ct ρ := rfl
@[simp] theorem r_seq_x (g : M Fl) : rSeq .stuck g = .stuck := rfl
@[simp] theorem q_mSkip : mSkip ρ = .ok .nx ρ := rfl
@[simp] theorem q_mRet (f : M Rv) : mRet f ρ = rRet (f ρ) := by unfold mRet bnd; cases f ρ <;> rfl
@[simp] theorem r_ret (r : Rv) : rRet (.ok r ρ) = .ok (.rt r) ρ := rfl
@[simp] theorem r_ret_x : rRet .stuck = .stuck := rfl
@[simp] theorem q_mRetN : mRetN ρ = .ok (.rt (.pl (.val .none))) ρ := rfl
@[simp] theorem q_mDrop (f : M α) : mDrop f ρ = rDrop (f ρ) := by unfold mDrop bnd; cases f ρ <;> rfl
@[simp] theorem r_drop (a : α) : rDrop (.ok a ρ) = .ok .nx ρ := rfl
@[simp] theorem r_drop_x : rDrop (.stuck : R α) = .stuck := rfl
@[simp] theorem q_mNever : (mNever : M α) ρ = .stuck := rfl
@[simp] theorem q_tName : tName i d = setS i (.val d) := rfl
@[simp] theorem q_tsNil : tsNil [] = PL.ret () := rfl
@[simp] theorem q_tsCons (t : D → M Unit) (u : List D → M Unit) : tsCons t u (d :: ds) = bnd (t d) fun _ => u ds := rfl
@[simp] theorem q_tTupl (u : List D → M Unit) : tTupl u (.tuple ds) = u ds := rfl
@[simp] theorem q_mAsg (t : D → M Unit) (f : M D) : mAsg t f ρ = bnd f (fun d => bnd (t d) fun _ => PL.ret .nx) ρ := rfl
@[simp] theorem q_mTr (f : M Pl) : mTr f ρ = mUn truD f ρ := rfl
@[simp] theorem q_mOpX (g : D → D → Option (Bool × D)) (fa fb : M Pl) : mOpX g fa fb ρ = bnd (mOp g fa fb) (fun bz => PL.ret (rvOf bz)) ρ := rfl
@[simp] theorem q_rvOf_t : rvOf (true, d) = .fr d := rfl
@[simp] theorem q_rvOf_f : rvOf (false, d) = .pl (.val d) := rfl
@[simp] theorem q_mCall (ms : List Md) (nl : Nat) (body : M Fl) (fs : M (List Pl)) : mCall ms nl body fs ρ = bnd fs (fun ps => callAt ms nl body ps) ρ := rfl
@[simp] theorem q_callAt (ms : List Md) (nl : Nat) (body : M Fl) (ps : List Pl) : callAt ms nl body ps ρ = if apart ms ps = true then rArgs ρ ms nl body ps (argSs ρ ms ps) else .stuck := by
  unfold callAt
  split
  · cases argSs ρ ms ps with
    | none => rfl
    | some ss =>
      show _ = rCall ρ ms ps (evalD ms nl body ss)
      simp only
      cases evalD ms nl body ss with
      | none => rfl
      | some ro => simp only [rCall]; cases backIo ρ ms ps ro.2 <;> rfl
  · rfl
@[simp] theorem r_args (ms : List Md) (nl : Nat) (body : M Fl) (ps : List Pl) (ss : List Sl) : rArgs ρ ms nl body ps (some ss) = rCall ρ ms ps (evalD ms nl body ss) := rfl
@[simp] theorem r_args_x (ms : List Md) (nl : Nat) (body : M Fl) (ps : List Pl) : rArgs ρ ms nl body ps none = .stuck := rfl
@[simp] theorem r_call (ms : List Md) (ps : List Pl) (r : Rv) (e : List Sl) : rCall ρ ms ps (some (r, e)) = rBack r (backIo ρ ms ps e) := rfl
@[simp] theorem r_call_x (ms : List Md) (ps : List Pl) : rCall ρ ms ps none = .stuck := rfl
@[simp] theorem r_back (r : Rv) : rBack r (some ρ) = .ok r ρ := rfl
@[simp] theorem r_back_x (r : Rv) : rBack r none = .stuck := rfl
@[simp] theorem q_apart (ms : List Md) (ps : List Pl) : apart ms ps = (decide (ios ms ps).Nodup && (nios ms ps).all fun i => decide (i ∉ ios ms ps)) := rfl
@[simp] theorem q_ios_nil : ios [] ([] : List Pl) = [] := rfl
@[simp] theorem q_ios_io (ms : List Md) (ps : List Pl) : ios (.io :: ms) (.slot i :: ps) = i :: ios ms ps := rfl
@[simp] theorem q_ios_iov (ms : List Md) (ps : List Pl) : ios (.io :: ms) (.val d :: ps) = ios ms ps := rfl
@[simp] theorem q_ios_v (ms : List Md) (p : Pl) (ps : List Pl) : ios (.v :: ms) (p :: ps) = ios ms ps := rfl
@[simp] theorem q_ios_b (ms : List Md) (p : Pl) (ps : List Pl) : ios (.b :: ms) (p :: ps) = ios ms ps := rfl
@[simp] theorem q_ios_s (ms : List Md) (p : Pl) (ps : List Pl) : ios (.s :: ms) (p :: ps) = ios ms ps := rfl
@[simp] theorem q_nios_nil : nios [] ([] : List Pl) = [] := rfl
@[simp] theorem q_nios_io (ms : List Md) (p : Pl) (ps : List Pl) : nios (.io :: ms) (p :: ps) = nios ms ps := rfl
@[simp] theorem q_nios_v (ms : List Md) (ps : List Pl) : nios (.v :: ms) (.val d :: ps) = nios ms ps := rfl
@[simp] theorem q_nios_b (ms : List Md) (ps : List Pl) : nios (.b :: ms) (.val d :: ps) = nios ms ps := rfl
@[simp] theorem q_nios_s (ms : List Md) (ps : List Pl) : nios (.s :: ms) (.val d :: ps) = nios ms ps := rfl
@[simp] theorem q_nios_vs (ms : List Md) (ps : List Pl) : nios (.v :: ms) (.slot i :: ps) = i :: nios ms ps := rfl
@[simp] theorem q_nios_bs (ms : List Md) (ps : List Pl) : nios (.b :: ms) (.slot i :: ps) = i :: nios ms ps := rfl
@[simp] theorem q_nios_ss (ms : List Md) (ps : List Pl) : nios (.s :: ms) (.slot i :: ps) = i :: nios ms ps := rfl
@[simp] theorem q_argS_v : argS ρ .v (.val d) = some (.val d) := rfl
@[simp] theorem q_argS_b (p : Pl) : argS ρ .b p = (rsv ρ p).map .bor := by cases p <;> rfl
@[simp] theorem q_argS_io : argS ρ .io (.slot i) = match ρ[i]? with
    | some (.own d) => some (.io d)
    | some (.io d) => some (.io d)
    | _ => none := rfl
@[simp] theorem q_argS_s : argS ρ .s (.slot i) = match ρ[i]? with
    | some (.scr ns) => some (.scr ns)
    | _ => none := rfl
@[simp] theorem q_argSs_nil : argSs ρ [] [] = some [] := rfl
@[simp] theorem q_argSs_cons (m : Md) (ms : List Md) (p : Pl) (ps : List Pl) : argSs ρ (m :: ms) (p :: ps) = match argS ρ m p, argSs ρ ms ps with
    | some s, some ss => some (s :: ss)
    | _, _ => none := rfl
@[simp] theorem q_back_nil (ss : List Sl) : backIo ρ [] [] ss = some ρ := by cases ss <;> rfl
@[simp] theorem q_back_io (ms : List Md) (ps : List Pl) (ss : List Sl) : backIo ρ (.io :: ms) (.slot i :: ps) (.io d :: ss) = match putIo ρ i d with
    | some ρ1 => backIo ρ1 ms ps ss
    | none => none := rfl
@[simp] theorem q_back_v (ms : List Md) (p : Pl) (ps : List Pl) (s : Sl) (ss : List Sl) : backIo ρ (.v :: ms) (p :: ps) (s :: ss) = backIo ρ ms ps ss := rfl
@[simp] theorem q_back_b (ms : List Md) (p : Pl) (ps : List Pl) (s : Sl) (ss : List Sl) : backIo ρ (.b :: ms) (p :: ps) (s :: ss) = backIo ρ ms ps ss := rfl
@[simp] theorem q_back_s (ms : List Md) (p : Pl) (ps : List Pl) (s : Sl) (ss : List Sl) : backIo ρ (.s :: ms) (p :: ps) (s :: ss) = backIo ρ ms ps ss := rfl
@[simp] theorem q_putIo : putIo ρ i d = match ρ[i]? with
  | some (.own _) => some (ρ.set i (.own d))
  | some (.io _) => some (ρ.set i (.io d))
  | _ => none := rfl
@[simp] theorem q_mIter (f : M Pl) : mIter f ρ = bnd f (fun p => bnd (seqAt p) fun ds => PL.ret ds.2) ρ := rfl
@[simp] theorem q_mRev (f : M (List D)) : mRev f ρ = bnd f (fun ds => PL.ret ds.reverse) ρ := rfl
def rngOf : R D → R (List D)
  | .ok (.int n) ρ => if small62 n = true then .ok (rngD 0 n) ρ else .stuck
  | _ => .stuck
@[simp] theorem q_mRng1 (f : M D) : mRng1 f ρ = rngOf (f ρ) := by
  unfold mRng1
  rw [q_bnd]
  cases f ρ with
  | stuck => rfl
  | ok d ρ' => cases d <;> rfl
def rng2B (a : Int) : R D → R (List D)
  | .ok (.int b) ρ => if (small62 a && small62 b) = true then .ok (rngD a b) ρ else .stuck
  | _ => .stuck
def rng2Of (g : M D) : R D → R (List D)
  | .ok (.int a) ρ => rng2B a (g ρ)
  | _ => .stuck
@[simp] theorem q_mFor (f : M (List D)) (t : D → M Unit) (b : M Fl) : mFor f t b ρ = bnd f (fun ds => forGo t b ds) ρ := rfl
@[simp] theorem q_mMut (g : List D → List D → Option (List D × D)) (fs : M (List D)) : mMut j g fs ρ = bnd (isOwnL j) (fun _ => bnd fs fun as => mutAt j g as) ρ := rfl
@[simp] theorem q_mSetIx (fe fi : M D) : mSetIx j fe fi ρ = bnd fe (fun d => bnd (isOwn j) fun _ => bnd fi fun k => setAt j d k) ρ := rfl
@[simp] theorem q_mLenS : mLenS i ρ = match ρ[i]? with
  | some (.scr ns) => .ok (.int ns.length) ρ
  | _ => .stuck := rfl
@[simp] theorem q_mYes : mYes ρ = .ok true ρ := rfl
@[simp] theorem q_resR_fr : resR ρ (.fr d) = some (.fr d) := rfl
@[simp] theorem q_resR_v : resR ρ (.pl (.val d)) = some (.pl (.val d)) := rfl
@[simp] theorem q_resR_s : resR ρ (.pl (.slot i)) = match ρ[i]? with
    | some (.val d) => some (.pl (.val d))
    | some (.own d) => some (.fr d)
    | some (.bor d) => if atom d = true then some (.pl (.val d)) else none
    | _ => none := rfl
@[simp] theorem q_mMeth (g' : D → List D → Option D) (fo : M Pl) (fs : M (List Pl)) : mMeth g' fo fs ρ = bnd fo (fun p => bnd (look p) fun d0 => bnd (ofO (isL d0)) fun _ => bnd fs fun ps => bnd (look p) fun d => bnd (lookAll ps) fun ds => ofO (g' d ds)) ρ := rfl
@[simp] theorem q_wipe_nil : wipeE ρ [] = ρ := rfl
@[simp] theorem q_wipe_cons (v : Nat) (vs : List Nat) : wipeE ρ (v :: vs) = (wipeE ρ vs).set v .un := rfl
@[simp] theorem q_rest_nil : restE ρ ρ' [] = ρ' := rfl
@[simp] theorem q_rest_cons (v : Nat) (vs : List Nat) : restE ρ ρ' (v :: vs) = (restE ρ ρ' vs).set v (keepS (ρ.getD v .un)) := rfl
@[simp] theorem q_keep_un : keepS .un = .un := rfl
@[simp] theorem q_keep_val : keepS (.val d) = .val d := rfl
@[simp] theorem q_keep_bor : keepS (.bor d) = .bor d := rfl
@[simp] theorem q_keep_own : keepS (.own d) = .un := rfl
theorem q_mLc (fi : M (List D)) (t : D → M Unit) (vs : List Nat) (c : M Bool) (fe : M D) : mLc fi t vs c fe ρ = bnd fi (fun ds => fun ρ1 => match lcGo t vs c fe [] ds (wipeE ρ1 vs) with
  | .ok acc ρ2 => .ok (.fr (.list acc)) (restE ρ1 ρ2 vs)
  | .stuck => .stuck) ρ := rfl
theorem mSet_lc {j : Nat} {fi : M (List D)} {t : D → M Unit} {vs : List Nat} {c : M Bool} {fe : M D} {ρ ρ1 ρ2 ρ3 : Env} {ds out : List D} (h1 : fi ρ = .ok ds ρ1) (h2 : lcGo t vs c fe [] ds (wipeE ρ1 vs) = .ok out ρ2)
    (h3 : restE ρ1 ρ2 vs = ρ3) (h4 : j < ρ3.length) : mSet j (mLc fi t vs c fe) ρ = .ok .nx (ρ3.set j (.own (.list out))) := by
  rw [q_mSet, mLc_ok h1 h2, h3]
  simp [h4]
theorem runD_rt {nl : Nat} {m : M Fl} {ss ρ' : Env} {r : Rv} (h : m (ss ++ List.replicate nl .un) = .ok (.rt r) ρ') : runD nl m ss = some (r, ρ') := by
  unfold runD; rw [h]
theorem runD_nx {nl : Nat} {m : M Fl} {ss ρ' : Env} (h : m (ss ++ List.replicate nl .un) = .ok .nx ρ') : runD nl m ss = some (.pl (.val .none), ρ') := by
  unfold runD; rw [h]
theorem ev_rt {ms : List Md} {nl : Nat} {m : M Fl} {ss ρ' : Env} {r r' : Rv} (h : m (ss ++ List.replicate nl .un) = .ok (.rt r) ρ') (h2 : resR ρ' r = some r') : evalD ms nl m ss = some (r', ρ'.take ms.length) := evalD_of (runD_rt h) h2
theorem ev_nx {ms : List Md} {nl : Nat} {m : M Fl} {ss ρ' : Env} (h : m (ss ++ List.replicate nl .un) = .ok .nx ρ') : evalD ms nl m ss = some (.pl (.val .none), ρ'.take ms.length) := evalD_of (runD_nx h) rfl
@[simp] theorem q_asBool : asBool (.bool b) = some b := rfl
end
/-! ### the p-level: what a mirror does, without names -/
theorem ob {α β : Type} {o : Option α} {f : α → Option β} {r : β} (h : o.bind f = some r) : ∃ a, o = some a ∧ f a = some r := Option.bind_eq_some_iff.mp h
def bind1 {α γ : Type} (o : Option α) (f : α → Option γ) : Option γ := match o with
  | some x => f x
  | none => none
theorem ob1 {α γ : Type} {o : Option α} {f : α → Option γ} {r : γ} (h : bind1 o f = some r) : ∃ x, o = some x ∧ f x = some r := by
  cases o with
  | none => cases h
  | some t => exact ⟨t, rfl, h⟩
def bind2 {α1 α2 γ : Type} (o : Option (α1 × α2)) (f : α1 → α2 → Option γ) : Option γ := match o with
  | some (x1, x2) => f x1 x2
  | none => none
theorem bind2_some {α1 α2 γ : Type} (f : α1 → α2 → Option γ) (x1 : α1) (x2 : α2) : bind2 (some (x1, x2)) f = f x1 x2 := rfl
theorem ob2 {α1 α2 γ : Type} {o : Option (α1 × α2)} {f : α1 → α2 → Option γ} {r : γ} (h : bind2 o f = some r) : ∃ x1 x2, o = some (x1, x2) ∧ f x1 x2 = some r := by
  cases o with
  | none => cases h
  | some t => obtain ⟨x1, x2⟩ := t; exact ⟨x1, x2, rfl, h⟩
def bind3 {α1 α2 α3 γ : Type} (o : Option (α1 × α2 × α3)) (f : α1 → α2 → α3 → Option γ) : Option γ := match o with
  | some (x1, x2, x3) => f x1 x2 x3
  | none => none
theorem bind3_some {α1 α2 α3 γ : Type} (f : α1 → α2 → α3 → Option γ) (x1 : α1) (x2 : α2) (x3 : α3) : bind3 (some (x1, x2, x3)) f = f x1 x2 x3 := rfl
theorem ob3 {α1 α2 α3 γ : Type} {o : Option (α1 × α2 × α3)} {f : α1 → α2 → α3 → Option γ} {r : γ} (h : bind3 o f = some r) : ∃ x1 x2 x3, o = some (x1, x2, x3) ∧ f x1 x2 x3 = some r := by
  cases o with
  | none => cases h
  | some t => obtain ⟨x1, x2, x3⟩ := t; exact ⟨x1, x2, x3, rfl, h⟩
def bind4 {α1 α2 α3 α4 γ : Type} (o : Option (α1 × α2 × α3 × α4)) (f : α1 → α2 → α3 → α4 → Option γ) : Option γ := match o with
  | some (x1, x2, x3, x4) => f x1 x2 x3 x4
  | none => none
theorem bind4_some {α1 α2 α3 α4 γ : Type} (f : α1 → α2 → α3 → α4 → Option γ) (x1 : α1) (x2 : α2) (x3 : α3) (x4 : α4) : bind4 (some (x1, x2, x3, x4)) f = f x1 x2 x3 x4 := rfl
theorem ob4 {α1 α2 α3 α4 γ : Type} {o : Option (α1 × α2 × α3 × α4)} {f : α1 → α2 → α3 → α4 → Option γ} {r : γ} (h : bind4 o f = some r) : ∃ x1 x2 x3 x4, o = some (x1, x2, x3, x4) ∧ f x1 x2 x3 x4 = some r := by
  cases o with
  | none => cases h
  | some t => obtain ⟨x1, x2, x3, x4⟩ := t; exact ⟨x1, x2, x3, x4, rfl, h⟩
def bind5 {α1 α2 α3 α4 α5 γ : Type} (o : Option (α1 × α2 × α3 × α4 × α5)) (f : α1 → α2 → α3 → α4 → α5 → Option γ) : Option γ := match o with
  | some (x1, x2, x3, x4, x5) => f x1 x2 x3 x4 x5
  | none => none
theorem bind5_some {α1 α2 α3 α4 α5 γ : Type} (f : α1 → α2 → α3 → α4 → α5 → Option γ) (x1 : α1) (x2 : α2) (x3 : α3) (x4 : α4) (x5 : α5) : bind5 (some (x1, x2, x3, x4, x5)) f = f x1 x2 x3 x4 x5 := rfl
theorem ob5 {α1 α2 α3 α4 α5 γ : Type} {o : Option (α1 × α2 × α3 × α4 × α5)} {f : α1 → α2 → α3 → α4 → α5 → Option γ} {r : γ} (h : bind5 o f = some r) : ∃ x1 x2 x3 x4 x5, o = some (x1, x2, x3, x4, x5) ∧ f x1 x2 x3 x4 x5 = some r := by
  cases o with
  | none => cases h
  | some t => obtain ⟨x1, x2, x3, x4, x5⟩ := t; exact ⟨x1, x2, x3, x4, x5, rfl, h⟩
def bind6 {α1 α2 α3 α4 α5 α6 γ : Type} (o : Option (α1 × α2 × α3 × α4 × α5 × α6)) (f : α1 → α2 → α3 → α4 → α5 → α6 → Option γ) : Option γ := match o with
  | some (x1, x2, x3, x4, x5, x6) => f x1 x2 x3 x4 x5 x6
  | none => none
theorem bind6_some {α1 α2 α3 α4 α5 α6 γ : Type} (f : α1 → α2 → α3 → α4 → α5 → α6 → Option γ) (x1 : α1) (x2 : α2) (x3 : α3) (x4 : α4) (x5 : α5) (x6 : α6) : bind6 (some (x1, x2, x3, x4, x5, x6)) f = f x1 x2 x3 x4 x5 x6 := rfl
theorem ob6 {α1 α2 α3 α4 α5 α6 γ : Type} {o : Option (α1 × α2 × α3 × α4 × α5 × α6)} {f : α1 → α2 → α3 → α4 → α5 → α6 → Option γ} {r : γ} (h : bind6 o f = some r) : ∃ x1 x2 x3 x4 x5 x6, o = some (x1, x2, x3, x4, x5, x6) ∧ f x1 x2 x3 x4 x5 x6 = some r := by
  cases o with
  | none => cases h
  | some t => obtain ⟨x1, x2, x3, x4, x5, x6⟩ := t; exact ⟨x1, x2, x3, x4, x5, x6, rfl, h⟩
def bind7 {α1 α2 α3 α4 α5 α6 α7 γ : Type} (o : Option (α1 × α2 × α3 × α4 × α5 × α6 × α7)) (f : α1 → α2 → α3 → α4 → α5 → α6 → α7 → Option γ) : Option γ := match o with
  | some (x1, x2, x3, x4, x5, x6, x7) => f x1 x2 x3 x4 x5 x6 x7
  | none => none
theorem bind7_some {α1 α2 α3 α4 α5 α6 α7 γ : Type} (f : α1 → α2 → α3 → α4 → α5 → α6 → α7 → Option γ) (x1 : α1) (x2 : α2) (x3 : α3) (x4 : α4) (x5 : α5) (x6 : α6) (x7 : α7) : bind7 (some (x1, x2, x3, x4, x5, x6, x7)) f = f x1 x2 x3 x4 x5 x6 x7 := rfl
theorem ob7 {α1 α2 α3 α4 α5 α6 α7 γ : Type} {o : Option (α1 × α2 × α3 × α4 × α5 × α6 × α7)} {f : α1 → α2 → α3 → α4 → α5 → α6 → α7 → Option γ} {r : γ} (h : bind7 o f = some r) : ∃ x1 x2 x3 x4 x5 x6 x7, o = some (x1, x2, x3, x4, x5, x6, x7) ∧ f x1 x2 x3 x4 x5 x6 x7 = some r := by
  cases o with
  | none => cases h
  | some t => obtain ⟨x1, x2, x3, x4, x5, x6, x7⟩ := t; exact ⟨x1, x2, x3, x4, x5, x6, x7, rfl, h⟩
def bind8 {α1 α2 α3 α4 α5 α6 α7 α8 γ : Type} (o : Option (α1 × α2 × α3 × α4 × α5 × α6 × α7 × α8)) (f : α1 → α2 → α3 → α4 → α5 → α6 → α7 → α8 → Option γ) : Option γ := match o with
  | some (x1, x2, x3, x4, x5, x6, x7, x8) => f x1 x2 x3 x4 x5 x6 x7 x8
  | none => none
theorem bind8_some {α1 α2 α3 α4 α5 α6 α7 α8 γ : Type} (f : α1 → α2 → α3 → α4 → α5 → α6 → α7 → α8 → Option γ) (x1 : α1) (x2 : α2) (x3 : α3) (x4 : α4) (x5 : α5) (x6 : α6) (x7 : α7) (x8 : α8) : bind8 (some (x1, x2, x3, x4, x5, x6, x7, x8)) f = f x1 x2 x3 x4 x5 x6 x7 x8 := rfl
theorem ob8 {α1 α2 α3 α4 α5 α6 α7 α8 γ : Type} {o : Option (α1 × α2 × α3 × α4 × α5 × α6 × α7 × α8)} {f : α1 → α2 → α3 → α4 → α5 → α6 → α7 → α8 → Option γ} {r : γ} (h : bind8 o f = some r) : ∃ x1 x2 x3 x4 x5 x6 x7 x8, o = some (x1, x2, x3, x4, x5, x6, x7, x8) ∧ f x1 x2 x3 x4 x5 x6 x7 x8 = some r := by
  cases o with
  | none => cases h
  | some t => obtain ⟨x1, x2, x3, x4, x5, x6, x7, x8⟩ := t; exact ⟨x1, x2, x3, x4, x5, x6, x7, x8, rfl, h⟩
def bind9 {α1 α2 α3 α4 α5 α6 α7 α8 α9 γ : Type} (o : Option (α1 × α2 × α3 × α4 × α5 × α6 × α7 × α8 × α9)) (f : α1 → α2 → α3 → α4 → α5 → α6 → α7 → α8 → α9 → Option γ) : Option γ := match o with
  | some (x1, x2, x3, x4, x5, x6, x7, x8, x9) => f x1 x2 x3 x4 x5 x6 x7 x8 x9
  | none => none
theorem bind9_some {α1 α2 α3 α4 α5 α6 α7 α8 α9 γ : Type} (f : α1 → α2 → α3 → α4 → α5 → α6 → α7 → α8 → α9 → Option γ) (x1 : α1) (x2 : α2) (x3 : α3) (x4 : α4) (x5 : α5) (x6 : α6) (x7 : α7) (x8 : α8) (x9 : α9) : bind9 (some (x1, x2, x3, x4, x5, x6, x7, x8, x9)) f = f x1 x2 x3 x4 x5 x6 x7 x8 x9 := rfl
theorem ob9 {α1 α2 α3 α4 α5 α6 α7 α8 α9 γ : Type} {o : Option (α1 × α2 × α3 × α4 × α5 × α6 × α7 × α8 × α9)} {f : α1 → α2 → α3 → α4 → α5 → α6 → α7 → α8 → α9 → Option γ} {r : γ} (h : bind9 o f = some r) : ∃ x1 x2 x3 x4 x5 x6 x7 x8 x9, o = some (x1, x2, x3, x4, x5, x6, x7, x8, x9) ∧ f x1 x2 x3 x4 x5 x6 x7 x8 x9 = some r := by
  cases o with
  | none => cases h
  | some t => obtain ⟨x1, x2, x3, x4, x5, x6, x7, x8, x9⟩ := t; exact ⟨x1, x2, x3, x4, x5, x6, x7, x8, x9, rfl, h⟩
def bind10 {α1 α2 α3 α4 α5 α6 α7 α8 α9 α10 γ : Type} (o : Option (α1 × α2 × α3 × α4 × α5 × α6 × α7 × α8 × α9 × α10)) (f : α1 → α2 → α3 → α4 → α5 → α6 → α7 → α8 → α9 → α10 → Option γ) : Option γ := match o with
  | some (x1, x2, x3, x4, x5, x6, x7, x8, x9, x10) => f x1 x2 x3 x4 x5 x6 x7 x8 x9 x10
  | none => none
theorem bind10_some {α1 α2 α3 α4 α5 α6 α7 α8 α9 α10 γ : Type} (f : α1 → α2 → α3 → α4 → α5 → α6 → α7 → α8 → α9 → α10 → Option γ) (x1 : α1) (x2 : α2) (x3 : α3) (x4 : α4) (x5 : α5) (x6 : α6) (x7 : α7) (x8 : α8) (x9 : α9) (x10 : α10) : bind10 (some (x1, x2, x3, x4, x5, x6, x7, x8, x9, x10)) f = f x1 x2 x3 x4 x5 x6 x7 x8 x9 x10 := rfl
theorem ob10 {α1 α2 α3 α4 α5 α6 α7 α8 α9 α10 γ : Type} {o : Option (α1 × α2 × α3 × α4 × α5 × α6 × α7 × α8 × α9 × α10)} {f : α1 → α2 → α3 → α4 → α5 → α6 → α7 → α8 → α9 → α10 → Option γ} {r : γ} (h : bind10 o f = some r) : ∃ x1 x2 x3 x4 x5 x6 x7 x8 x9 x10, o = some (x1, x2, x3, x4, x5, x6, x7, x8, x9, x10) ∧ f x1 x2 x3 x4 x5 x6 x7 x8 x9 x10 = some r := by
  cases o with
  | none => cases h
  | some t => obtain ⟨x1, x2, x3, x4, x5, x6, x7, x8, x9, x10⟩ := t; exact ⟨x1, x2, x3, x4, x5, x6, x7, x8, x9, x10, rfl, h⟩
theorem sinj2 {α1 α2 : Type} {a1 b1 : α1} {a2 b2 : α2} (h : some (a1, a2) = some (b1, b2)) : a1 = b1 ∧ a2 = b2 := by
  cases h
  exact ⟨rfl, rfl⟩
theorem sinj3 {α1 α2 α3 : Type} {a1 b1 : α1} {a2 b2 : α2} {a3 b3 : α3} (h : some (a1, a2, a3) = some (b1, b2, b3)) : a1 = b1 ∧ a2 = b2 ∧ a3 = b3 := by
  cases h
  exact ⟨rfl, rfl, rfl⟩
theorem sinj4 {α1 α2 α3 α4 : Type} {a1 b1 : α1} {a2 b2 : α2} {a3 b3 : α3} {a4 b4 : α4} (h : some (a1, a2, a3, a4) = some (b1, b2, b3, b4)) : a1 = b1 ∧ a2 = b2 ∧ a3 = b3 ∧ a4 = b4 := by
  cases h
  exact ⟨rfl, rfl, rfl, rfl⟩
theorem sinj5 {α1 α2 α3 α4 α5 : Type} {a1 b1 : α1} {a2 b2 : α2} {a3 b3 : α3} {a4 b4 : α4} {a5 b5 : α5} (h : some (a1, a2, a3, a4, a5) = some (b1, b2, b3, b4, b5)) : a1 = b1 ∧ a2 = b2 ∧ a3 = b3 ∧ a4 = b4 ∧ a5 = b5 := by
  cases h
  exact ⟨rfl, rfl, rfl, rfl, rfl⟩
theorem sinj6 {α1 α2 α3 α4 α5 α6 : Type} {a1 b1 : α1} {a2 b2 : α2} {a3 b3 : α3} {a4 b4 : α4} {a5 b5 : α5} {a6 b6 : α6} (h : some (a1, a2, a3, a4, a5, a6) = some (b1, b2, b3, b4, b5, b6)) : a1 = b1 ∧ a2 = b2 ∧ a3 = b3 ∧ a4 = b4 ∧ a5 = b5 ∧ a6 = b6 := by
  cases h
  exact ⟨rfl, rfl, rfl, rfl, rfl, rfl⟩
theorem sinj7 {α1 α2 α3 α4 α5 α6 α7 : Type} {a1 b1 : α1} {a2 b2 : α2} {a3 b3 : α3} {a4 b4 : α4} {a5 b5 : α5} {a6 b6 : α6} {a7 b7 : α7} (h : some (a1, a2, a3, a4, a5, a6, a7) = some (b1, b2, b3, b4, b5, b6, b7)) : a1 = b1 ∧ a2 = b2 ∧ a3 = b3 ∧ a4 = b4 ∧ a5 = b5 ∧ a6 = b6 ∧ a7 = b7 := by
  cases h
  exact ⟨rfl, rfl, rfl, rfl, rfl, rfl, rfl⟩
theorem sinj8 {α1 α2 α3 α4 α5 α6 α7 α8 : Type} {a1 b1 : α1} {a2 b2 : α2} {a3 b3 : α3} {a4 b4 : α4} {a5 b5 : α5} {a6 b6 : α6} {a7 b7 : α7} {a8 b8 : α8} (h : some (a1, a2, a3, a4, a5, a6, a7, a8) = some (b1, b2, b3, b4, b5, b6, b7, b8)) : a1 = b1 ∧ a2 = b2 ∧ a3 = b3 ∧ a4 = b4 ∧ a5 = b5 ∧ a6 = b6 ∧ a7 = b7 ∧ a8 = b8 := by
  cases h
  exact ⟨rfl, rfl, rfl, rfl, rfl, rfl, rfl, rfl⟩
theorem sinj9 {α1 α2 α3 α4 α5 α6 α7 α8 α9 : Type} {a1 b1 : α1} {a2 b2 : α2} {a3 b3 : α3} {a4 b4 : α4} {a5 b5 : α5} {a6 b6 : α6} {a7 b7 : α7} {a8 b8 : α8} {a9 b9 : α9} (h : some (a1, a2, a3, a4, a5, a6, a7, a8, a9) = some (b1, b2, b3, b4, b5, b6, b7, b8, b9)) : a1 = b1 ∧ a2 = b2 ∧ a3 = b3 ∧ a4 = b4 ∧ a5 = b5 ∧ a6 = b6 ∧ a7 = b7 ∧ a8 = b8 ∧ a9 = b9 := by
  cases h
  exact ⟨rfl, rfl, rfl, rfl, rfl, rfl, rfl, rfl, rfl⟩
theorem sinj10 {α1 α2 α3 α4 α5 α6 α7 α8 α9 α10 : Type} {a1 b1 : α1} {a2 b2 : α2} {a3 b3 : α3} {a4 b4 : α4} {a5 b5 : α5} {a6 b6 : α6} {a7 b7 : α7} {a8 b8 : α8} {a9 b9 : α9} {a10 b10 : α10} (h : some (a1, a2, a3, a4, a5, a6, a7, a8, a9, a10) = some (b1, b2, b3, b4, b5, b6, b7, b8, b9, b10)) : a1 = b1 ∧ a2 = b2 ∧ a3 = b3 ∧ a4 = b4 ∧ a5 = b5 ∧ a6 = b6 ∧ a7 = b7 ∧ a8 = b8 ∧ a9 = b9 ∧ a10 = b10 := by
  cases h
  exact ⟨rfl, rfl, rfl, rfl, rfl, rfl, rfl, rfl, rfl, rfl⟩
def isLst : D → Bool
  | .list _ => true
  | _ => false
def tup2 : D → Option (D × D)
  | .tuple [a, b] => some (a, b)
  | _ => none
def tup3 : D → Option (D × D × D)
  | .tuple [a, b, c] => some (a, b, c)
  | _ => none
theorem tup2_eq {d a b : D} (h : tup2 d = some (a, b)) : d = .tuple [a, b] := by
  unfold tup2 at h
  split at h
  · cases h; rfl
  · cases h
theorem tup3_eq {d a b c : D} (h : tup3 d = some (a, b, c)) : d = .tuple [a, b, c] := by
  unfold tup3 at h
  split at h
  · cases h; rfl
  · cases h
theorem tT2 {d a b : D} (h : tup2 d = some (a, b)) (u : List D → M Unit) : tTupl u d = u [a, b] := by rw [tup2_eq h]; rfl
theorem tT3 {d a b c : D} (h : tup3 d = some (a, b, c)) (u : List D → M Unit) : tTupl u d = u [a, b, c] := by rw [tup3_eq h]; rfl
def ixP : D → Option Int
  | .int i => some i
  | _ => none
def atP (d : D) : Option Unit := if atom d = true then some () else none
theorem atP_eq {d : D} {u : Unit} (h : atP d = some u) : atom d = true := by
  unfold atP at h
  split at h
  · assumption
  · cases h
def negP : D → Option D
  | .int i => some (.int (-i))
  | _ => none
def rng1P : D → Option (List D)
  | .int n => if small62 n = true then some (rngD 0 n) else none
  | _ => none
def rng2P : D → D → Option (List D)
  | .int a, .int b => if (small62 a && small62 b) = true then some (rngD a b) else none
  | _, _ => none
def rngdP : D → D → Option (List D)
  | .int a, .int b => if (small62 a && small62 b) = true then some (rngdD a b) else none
  | _, _ => none
def dict1P : D → D → Option D
  | .int i, d => some (.dict [(.int i, d)])
  | _, _ => none
def dict1R (d : D) : R D → R D
  | .ok e ρ => ofO (dict1P d e) ρ
  | .stuck => .stuck
def lrgP : D → Option D
  | .int n => if (decide (-100000 ≤ n) && decide (n ≤ 100000)) = true then some (.list (rngD 0 n)) else none
  | _ => none
def zipP (d e : D) : Option (List D) := match itemsD d, itemsD e with
  | some x, some y => if (x.1 == y.1) = true then some ((x.2.zip y.2).map fun (d, e) => .tuple [d, e]) else none
  | _, _ => none
def addV (a b : D) : Option D := match gAdd a b with
  | some (false, z) => some z
  | _ => none
def addF (a b : D) : Option D := match gAdd a b with
  | some (true, z) => some z
  | _ => none
def mulV (a b : D) : Option D := match gMul a b with
  | some (false, z) => some z
  | _ => none
def mulF (a b : D) : Option D := match gMul a b with
  | some (true, z) => some z
  | _ => none
def slV (d : D) (l h : Option Int) : Option D := match sliceD d l h with
  | some (false, z) => some z
  | _ => none
def slF (d : D) (l h : Option Int) : Option D := match sliceD d l h with
  | some (true, z) => some z
  | _ => none
theorem sliceW_w {d z : D} {b : Bool} {lo hi : Option Int} (h : sliceW d lo hi = some (b, z)) (hb : b = true) : d = z := by
  subst hb; exact sliceW_t h
def slW (d : D) (l h : Option Int) : Option D := match sliceW d l h with
  | some (false, z) => some z
  | _ => none
theorem slW_eq {d z : D} {l k : Option Int} (h : slW d l k = some z) : sliceW d l k = some (false, z) := by
  unfold slW at h; split at h
  · cases h; assumption
  · cases h
theorem addV_eq {a b z : D} (h : addV a b = some z) : gAdd a b = some (false, z) := by
  unfold addV at h; split at h
  · cases h; assumption
  · cases h
theorem addF_eq {a b z : D} (h : addF a b = some z) : gAdd a b = some (true, z) := by
  unfold addF at h; split at h
  · cases h; assumption
  · cases h
theorem mulV_eq {a b z : D} (h : mulV a b = some z) : gMul a b = some (false, z) := by
  unfold mulV at h; split at h
  · cases h; assumption
  · cases h
theorem mulF_eq {a b z : D} (h : mulF a b = some z) : gMul a b = some (true, z) := by
  unfold mulF at h; split at h
  · cases h; assumption
  · cases h
theorem slV_eq {d z : D} {l k : Option Int} (h : slV d l k = some z) : sliceD d l k = some (false, z) := by
  unfold slV at h; split at h
  · cases h; assumption
  · cases h
theorem slF_eq {d z : D} {l k : Option Int} (h : slF d l k = some z) : sliceD d l k = some (true, z) := by
  unfold slF at h; split at h
  · cases h; assumption
  · cases h
def mutP (g : List D → List D → Option (List D × D)) (d : D) (as : List D) : Option (D × D) := match d with
  | .list ds => (g ds as).map fun nr => (.list nr.1, nr.2)
  | _ => none
theorem mutP_lst {g : List D → List D → Option (List D × D)} {d : D} {as : List D} {r : D × D} (h : mutP g d as = some r) : isLst d = true := by
  cases d <;> first | rfl | cases h
def setP (e k x : D) : Option D := match e, k with
  | .list ds, .int n => (ixN ds.length n).map fun i => .list (ds.set i x)
  | _, _ => none
def ixSP (ns : List Int) : D → Option D
  | .int n => (atI ns n).map .int
  | _ => none
def ovS (b : Bool) (z : D) : Sl := if b = true then .own z else .val z
@[simp] theorem ovS_t (z : D) : ovS true z = .own z := rfl
@[simp] theorem ovS_f (z : D) : ovS false z = .val z := rfl
section
variable {α β : Type} (ρ ρ' : Env) (i j : Nat) (d e : D) (ds es : List D) (x y : Int) (b : Bool)
theorem ofO_none' {α : Type} (ρ : Env) : (fun (_ : Env) => (R.stuck : R α)) ρ = .stuck := rfl
@[simp] theorem s_seq_v : seqAt (.val d) ρ = ofO (itemsD d) ρ := by
  unfold seqAt; dsimp only; cases itemsD d <;> rfl
@[simp] theorem s_seq_s : seqAt (.slot i) ρ = match ρ[i]? with
    | some (.bor d) => ofO (itemsD d) ρ
    | some (.scr ns) => .ok (false, ns.map PyData.int) ρ
    | _ => .stuck := by
  unfold seqAt
  simp only
  cases ρ[i]? with
  | none => rfl
  | some s => cases s <;> simp only
              rename_i d; cases itemsD d <;> rfl
@[simp] theorem s_isOwnL : isOwnL j ρ = match ρ[j]? with
    | some (.own d) => if isLst d = true then .ok () ρ else .stuck
    | some (.io d) => if isLst d = true then .ok () ρ else .stuck
    | _ => .stuck := by
  unfold isOwnL
  cases ρ[j]? with
  | none => rfl
  | some s => cases s <;> first | rfl | (rename_i d; cases d <;> rfl)
@[simp] theorem s_isOwn : isOwn j ρ = match ρ[j]? with
  | some (.own _) => .ok () ρ
  | some (.io _) => .ok () ρ
  | _ => .stuck := rfl
def rMut (f : D → Env) : Option (D × D) → R D
  | some (d, z) => .ok z (f d)
  | none => .stuck
@[simp] theorem rMut_some (f : D → Env) (z : D) : rMut f (some (d, z)) = .ok z (f d) := rfl
@[simp] theorem s_mutAt (g : List D → List D → Option (List D × D)) (as : List D) : mutAt j g as ρ = match ρ[j]? with
  | some (.own d) => rMut (fun d => ρ.set j (.own d)) (mutP g d as)
  | some (.io d) => rMut (fun d => ρ.set j (.io d)) (mutP g d as)
  | _ => .stuck := by
  unfold mutAt
  cases ρ[j]? with
  | none => rfl
  | some s =>
    cases s with
    | own d => cases d with
      | list ds => simp only [mutP]; cases g ds as <;> rfl
      | _ => rfl
    | io d => cases d with
      | list ds => simp only [mutP]; cases g ds as <;> rfl
      | _ => rfl
    | _ => rfl
def rSetAt (f : D → Env) : Option D → R Fl
  | some d => .ok .nx (f d)
  | none => .stuck
@[simp] theorem rSetAt_some (f : D → Env) : rSetAt f (some d) = .ok .nx (f d) := rfl
@[simp] theorem s_setAt (k : D) : setAt j d k ρ = match ρ[j]? with
  | some (.own e) => rSetAt (fun d => ρ.set j (.own d)) (setP e k d)
  | some (.io e) => rSetAt (fun d => ρ.set j (.io d)) (setP e k d)
  | _ => .stuck := by
  unfold setAt
  cases ρ[j]? with
  | none => rfl
  | some s =>
    cases s with
    | own e => cases e with
      | list ds => cases k with
        | int n => simp only [setP]; cases ixN ds.length n <;> rfl
        | _ => rfl
      | _ => rfl
    | io e => cases e with
      | list ds => cases k with
        | int n => simp only [setP]; cases ixN ds.length n <;> rfl
        | _ => rfl
      | _ => rfl
    | _ => rfl
@[simp] theorem s_neg (f : M D) : mNegU f ρ = bnd f (fun d => ofO (negP d)) ρ := by
  unfold mNegU bnd
  cases f ρ with
  | stuck => rfl
  | ok d ρ' => cases d <;> rfl
@[simp] theorem s_rngOf : rngOf (.ok d ρ) = ofO (rng1P d) ρ := by
  cases d with
  | int n => simp only [rngOf, rng1P]; split <;> rfl
  | _ => rfl
def rng2R (d : D) : R D → R (List D)
  | .ok e ρ => ofO (rng2P d e) ρ
  | .stuck => .stuck
@[simp] theorem s_rng2R : rng2R d (.ok e ρ) = ofO (rng2P d e) ρ := rfl
@[simp] theorem s_rng2 (f g : M D) : mRng2 f g ρ = bnd f (fun d => fun ρ => rng2R d (g ρ)) ρ := by
  unfold mRng2
  rw [q_bnd, q_bnd]
  cases f ρ with
  | stuck => rfl
  | ok d ρ' =>
    show bnd g _ ρ' = rng2R d (g ρ')
    rw [q_bnd]
    cases g ρ' with
    | stuck => rfl
    | ok e ρ'' =>
      cases d <;> first | rfl | (cases e <;> first | rfl | (simp only [r_bnd, rng2R, rng2P]; split <;> rfl))
def rngdR (d : D) : R D → R (List D)
  | .ok e ρ => ofO (rngdP d e) ρ
  | .stuck => .stuck
@[simp] theorem s_rngdR : rngdR d (.ok e ρ) = ofO (rngdP d e) ρ := rfl
@[simp] theorem s_rngd (f g : M D) : mRngD f g ρ = bnd f (fun d => fun ρ => rngdR d (g ρ)) ρ := by
  unfold mRngD
  rw [q_bnd, q_bnd]
  cases f ρ with
  | stuck => rfl
  | ok d ρ' =>
    show bnd g _ ρ' = rngdR d (g ρ')
    rw [q_bnd]
    cases g ρ' with
    | stuck => rfl
    | ok e ρ'' =>
      cases d <;> first | rfl | (cases e <;> first | rfl | (simp only [r_bnd, rngdR, rngdP]; split <;> rfl))
@[simp] theorem s_dict1R : dict1R d (.ok e ρ) = ofO (dict1P d e) ρ := rfl
@[simp] theorem s_dict1 (f g : M D) : mDict1 f g ρ = bnd f (fun d => fun ρ => dict1R d (g ρ)) ρ := by
  unfold mDict1
  rw [q_bnd, q_bnd]
  cases f ρ with
  | stuck => rfl
  | ok d ρ' =>
    show bnd g _ ρ' = dict1R d (g ρ')
    rw [q_bnd]
    cases g ρ' with
    | stuck => rfl
    | ok e ρ'' => cases d <;> rfl
@[simp] theorem s_lrg (f : M D) : mLRg f ρ = bnd f (fun d => ofO (lrgP d)) ρ := by
  unfold mLRg
  rw [q_bnd, q_bnd]
  cases f ρ with
  | stuck => rfl
  | ok d ρ' => cases d <;> first | rfl | (simp only [r_bnd, lrgP]; split <;> rfl)
@[simp] theorem s_ixS (fb : M D) (ns : List Int) (h : ρ[i]? = some (.scr ns)) : mIxS i fb ρ = bnd fb (fun d => ofO (ixSP ns d)) ρ := by
  unfold mIxS bnd
  rw [h]
  cases fb ρ with
  | stuck => rfl
  | ok d ρ' => cases d with
    | int n => simp only [ixSP]; cases atI ns n <;> rfl
    | _ => rfl
@[simp] theorem s_opt_none : mOpt none ρ = .ok none ρ := rfl
def rOptR (o : Option Int) (ρ : Env) : R (Option Int) := match o with
  | some i => .ok (some i) ρ
  | none => .stuck
@[simp] theorem rOptR_some (x : Int) : rOptR (some x) ρ = .ok (some x) ρ := rfl
@[simp] theorem s_opt (f : M D) : mOpt (some f) ρ = bnd f (fun d => fun ρ => rOptR (ixP d) ρ) ρ := by
  show bnd f _ ρ = bnd f _ ρ
  rw [q_bnd, q_bnd]
  cases f ρ with
  | stuck => rfl
  | ok d ρ' => cases d <;> rfl
@[simp] theorem s_slice (g : M Pl) (lo hi : Option (M D)) : mSlice g lo hi ρ = bnd g (fun p => bnd (mOpt lo) fun l => bnd (mOpt hi) fun h => bnd (look p) fun d => bnd (ofO (sliceD d l h)) fun bz => PL.ret (rvOf bz)) ρ := rfl
@[simp] theorem s_sliceP (g : M Pl) (lo hi : Option (M D)) : mSliceP g lo hi ρ = bnd g (fun p => bnd (mOpt lo) fun l => bnd (mOpt hi) fun h => bnd (look p) fun d => bnd (ofO (sliceW d l h)) fun bz => PL.ret (if bz.1 = true then p else .val bz.2)) ρ := rfl
@[simp] theorem r_fz_rv (bz : Bool × D) : rFz (.ok (rvOf bz) ρ) = .ok bz.2 ρ := by
  obtain ⟨b, z⟩ := bz; cases b <;> rfl
@[simp] theorem r_set_rv (bz : Bool × D) : rSet i (.ok (rvOf bz) ρ) = if i < ρ.length then .ok .nx (ρ.set i (ovS bz.1 bz.2)) else .stuck := by
  obtain ⟨b, z⟩ := bz
  cases b
  · show bnd (setS i (.val z)) (fun _ => PL.ret Fl.nx) ρ = _
    rw [q_bnd, q_setS]
    split <;> rfl
  · show bnd (setS i (.own z)) (fun _ => PL.ret Fl.nx) ρ = _
    rw [q_bnd, q_setS]
    split <;> rfl
@[simp] theorem r_resR_rv (bz : Bool × D) : resR ρ (rvOf bz) = some (rvOf bz) := by
  obtain ⟨b, z⟩ := bz; cases b <;> rfl
@[simp] theorem s_mDict0 : mDict0 ρ = .ok (.dict []) ρ := rfl
@[simp] theorem s_mPar (fs : M (List D)) : mPar i j fs ρ = bnd fs (fun ds => match ds with
  | [d, e] => bnd (setS i (.val d)) fun _ => bnd (setS j (.val e)) fun _ => PL.ret .nx
  | _ => fun _ => .stuck) ρ := rfl
@[simp] theorem s_mAug (g : D → D → Option D) (fb : M Pl) : mAug i g fb ρ = bnd (mVar i) (fun p => bnd fb fun q => bnd (look p) fun d => bnd (look q) fun e => bnd (ofO (g d e)) fun z => bnd (setS i (.val z)) fun _ => PL.ret .nx) ρ := rfl
end
theorem zipP_ok {f g : M Pl} {ρ ρ1 ρ2 : Env} {p q : Pl} {d e : D} {zs : List D} (h1 : f ρ = .ok p ρ1) (h2 : g ρ1 = .ok q ρ2) (h3 : seqAt p ρ2 = ofO (itemsD d) ρ2) (h4 : seqAt q ρ2 = ofO (itemsD e) ρ2) (h : zipP d e = some zs) : mZip f g ρ = .ok zs ρ2 := by
  unfold zipP at h
  unfold mZip
  rw [bnd_eq h1, bnd_eq h2]
  cases hx : itemsD d with
  | none => rw [hx] at h; cases h
  | some x =>
    cases hy : itemsD e with
    | none => rw [hx, hy] at h; cases h
    | some y =>
      rw [hx, hy] at h
      simp only at h
      rw [hx] at h3
      rw [hy] at h4
      rw [bnd_eq (show seqAt p ρ2 = .ok x ρ2 from h3), bnd_eq (show seqAt q ρ2 = .ok y ρ2 from h4)]
      split at h
      · rename_i hh; cases h; simp only [hh, if_true]; rfl
      · cases h
def sortI (ns : List Int) : List Int := ns.mergeSort fun a b => decide (a ≤ b)
theorem sortI_perm (ns : List Int) : (sortI ns).Perm ns := List.mergeSort_perm _ _
theorem sortI_le (ns : List Int) : (sortI ns).Pairwise (· ≤ ·) := by
  have := List.pairwise_mergeSort (le := fun a b : Int => decide (a ≤ b)) (by intro a b c; simp; omega) (by intro a b; simp; omega) ns
  exact this.imp (by intro a b h; simpa using h)
theorem sortI_one {ns ns' : List Int} (h : ns'.Perm ns) (hs : ns'.Pairwise (· ≤ ·)) : ns' = sortI ns :=
  List.Perm.eq_of_pairwise (le := (· ≤ ·)) (fun a b _ _ h1 h2 => by omega) hs (sortI_le ns) (h.trans (sortI_perm ns).symm)
theorem sortI_id {ns : List Int} (hs : ns.Pairwise (· ≤ ·)) : sortI ns = ns := (sortI_one (.refl ns) hs).symm
def gSorted : List D → Option D
  | [.list ds] => (nums ds).map fun ns => .list ((sortI ns).map .int)
  | _ => none
section
variable {X : Cx} {e : Expr} {es : List Expr} {pos p : Pos} {gs : M (List Pl)}
theorem pf_sorted (hg : Gl X "sorted") (hm : X.mg "sorted" = none) (ha : PPs X (e :: es) gs) (he : starEach (e :: es) X.env = (false, eval e X.env) :: starEach es X.env := by rfl) (hpl : (backTo pos (starEach es X.env)).any (·.1) = false := by rfl) :
    PF X (.Call (.Name "sorted" p) (e :: es) [] pos) (mFr (mN gSorted gs)) := pf_b cr_sortedI (fun G H vs ds z Q gh s hg q => by
  cases s with
  | nil => cases hg
  | cons h r => cases r with
    | cons _ _ => cases h <;> cases hg
    | nil => cases h with
      | @lst a xs ds h r =>
        simp only [gSorted] at hg
        cases qd : nums ds with
        | none => rw [qd] at hg; cases hg
        | some ns =>
          rw [qd] at hg
          cases hg
          have := nums_ok qd r
          subst this
          refine ⟨a, ns, rfl, .inl (.inl h), fun ns' l hp hs hl => ?_⟩
          rw [sortI_one hp hs]
          exact q l _ hl (Grow.newF gh hl) (.lst upd_same (RpA.ints _))
      | _ => cases hg) hg hm (by decide +kernel) ha (he := he) (hpl := hpl)
end
/-! ### runs -/
def Run (m : M Fl) (ρ : Env) (Q : Fl → Env → Prop) : Prop := ∃ fl ρ', m ρ = .ok fl ρ' ∧ Q fl ρ'
section
variable {m m1 m2 a b k : M Fl} {ρ ρ1 ρ2 : Env} {Q : Fl → Env → Prop} {c : M Bool}
theorem run_end {fl : Fl} (h : m ρ = .ok fl ρ1) (q : Q fl ρ1) : Run m ρ Q := ⟨fl, ρ1, h, q⟩
theorem run_seq (h : m1 ρ = .ok .nx ρ1) (r : Run m2 ρ1 Q) : Run (mSeq m1 m2) ρ Q := by
  obtain ⟨fl, ρ', e, q⟩ := r
  exact ⟨fl, ρ', (mSeq_nx h).trans e, q⟩
theorem run_seq_ret {f : M Rv} {r : Rv} (h : f ρ = .ok r ρ1) (q : Q (.rt r) ρ1) : Run (mSeq (mRet f) m2) ρ Q :=
  ⟨.rt r, ρ1, mSeq_rt (by rw [q_mRet, h]; rfl), q⟩
theorem run_ret {f : M Rv} {r : Rv} (h : f ρ = .ok r ρ1) (q : Q (.rt r) ρ1) : Run (mRet f) ρ Q :=
  ⟨.rt r, ρ1, by rw [q_mRet, h]; rfl, q⟩
theorem run_seq_assoc (h : Run (mSeq a (mSeq b k)) ρ Q) : Run (mSeq (mSeq a b) k) ρ Q := by
  obtain ⟨fl, ρ', e, q⟩ := h
  refine ⟨fl, ρ', ?_, q⟩
  rw [← e]
  simp only [q_mSeq]
  cases a ρ with
  | stuck => rfl
  | ok x ρ1 => cases x <;> simp only [r_seq_n, r_seq_r, r_seq_b, r_seq_c, q_mSeq]
theorem run_seq_skip (h : Run k ρ Q) : Run (mSeq mSkip k) ρ Q := h
theorem run_if_t (h : c ρ = .ok true ρ1) (r : Run a ρ1 Q) : Run (mIf c a b) ρ Q := by
  obtain ⟨fl, ρ', e, q⟩ := r
  exact ⟨fl, ρ', by rw [q_mIf, q_bnd, h]; exact e, q⟩
theorem run_if_f (h : c ρ = .ok false ρ1) (r : Run b ρ1 Q) : Run (mIf c a b) ρ Q := by
  obtain ⟨fl, ρ', e, q⟩ := r
  exact ⟨fl, ρ', by rw [q_mIf, q_bnd, h]; exact e, q⟩
theorem run_seq_if_t (h : c ρ = .ok true ρ1) (r : Run (mSeq a k) ρ1 Q) : Run (mSeq (mIf c a b) k) ρ Q := by
  obtain ⟨fl, ρ', e, q⟩ := r
  exact ⟨fl, ρ', by rw [← e, q_mSeq, q_mIf, q_bnd, h, q_mSeq]; rfl, q⟩
theorem run_seq_if_f (h : c ρ = .ok false ρ1) (r : Run (mSeq b k) ρ1 Q) : Run (mSeq (mIf c a b) k) ρ Q := by
  obtain ⟨fl, ρ', e, q⟩ := r
  exact ⟨fl, ρ', by rw [← e, q_mSeq, q_mIf, q_bnd, h, q_mSeq]; rfl, q⟩
theorem run_seq_brk (q : Q .bk ρ) : Run (mSeq mBrk k) ρ Q := ⟨.bk, ρ, rfl, q⟩
theorem run_seq_cnt (q : Q .ct ρ) : Run (mSeq mCnt k) ρ Q := ⟨.ct, ρ, rfl, q⟩
theorem run_nx (r : Run m ρ fun fl ρ' => fl = .nx ∧ ρ' = ρ1) : m ρ = .ok .nx ρ1 := by
  obtain ⟨fl, ρ', e, rfl, rfl⟩ := r
  exact e
theorem run_nxI {P : Env → Prop} (r : Run m ρ fun fl ρ' => fl = .nx ∧ P ρ') : ∃ ρ', m ρ = .ok .nx ρ' ∧ P ρ' := by
  obtain ⟨fl, ρ', e, rfl, q⟩ := r
  exact ⟨ρ', e, q⟩
end
/-- what a def hands back -/
def flR : Fl → Env → Option Rv
  | .rt r, ρ => resR ρ r
  | .nx, _ => some (.pl (.val .none))
  | _, _ => none
theorem run_evalD {ms : List Md} {nl : Nat} {m : M Fl} {ss io : List Sl} {r : Rv} (h : Run m (ss ++ List.replicate nl .un) fun fl ρ' => flR fl ρ' = some r ∧ ρ'.take ms.length = io) : evalD ms nl m ss = some (r, io) := by
  obtain ⟨fl, ρ', e, h1, rfl⟩ := h
  cases fl with
  | nx => cases h1; exact ev_nx e
  | rt q => exact ev_rt e h1
  | bk => cases h1
  | ct => cases h1
/-! ### loops -/
inductive Ct (S T : Type) where
  | nx (s : S) | bk (s : S) | rt (t : T)
def forP {S T : Type} (f : D → S → Option (Ct S T)) : List D → S → Option (Ct S T)
  | [], s => some (.nx s)
  | x :: xs, s => (f x s).bind fun o => match o with
    | .nx s' => forP f xs s'
    | .bk s' => some (.nx s')
    | .rt t => some (.rt t)
def foldP {S : Type} (f : D → S → Option S) : List D → S → Option S
  | [], s => some s
  | x :: xs, s => (f x s).bind fun s' => foldP f xs s'
def isRt : Fl → Prop
  | .rt _ => True
  | _ => False
/-- where a body ends -/
abbrev ctQ {S T : Type} (I : S → Env → Prop) (Post : T → Fl → Env → Prop) (o : Ct S T) (fl : Fl) (ρ' : Env) : Prop := match o with
  | .nx s' => (fl = .nx ∨ fl = .ct) ∧ I s' ρ'
  | .bk s' => fl = .bk ∧ I s' ρ'
  | .rt r => isRt fl ∧ Post r fl ρ'
abbrev ctE {S T : Type} (I : S → Env → Prop) (Post : T → Fl → Env → Prop) (o : Ct S T) (fl : Fl) (ρ' : Env) : Prop := match o with
  | .nx s' => fl = .nx ∧ I s' ρ'
  | .bk _ => False
  | .rt r => isRt fl ∧ Post r fl ρ'
theorem forGo_cons_ok {t : D → M Unit} {b : M Fl} {d : D} {ds : List D} {ρ ρ1 : Env} (h : t d ρ = .ok () ρ1) : forGo t b (d :: ds) ρ = bnd b (fun fl => match fl with
    | .nx => forGo t b ds
    | .ct => forGo t b ds
    | .bk => PL.ret .nx
    | .rt r => PL.ret (.rt r)) ρ1 := by
  show bnd (t d) _ ρ = _
  rw [bnd_eq h]
  all_goals rfl
theorem forP_run {S T : Type} {t : D → M Unit} {b : M Fl} {f : D → S → Option (Ct S T)} (I : S → Env → Prop) (Post : T → Fl → Env → Prop)
    (hb : ∀ x s ρ o, I s ρ → f x s = some o → ∃ ρ1, t x ρ = .ok () ρ1 ∧ Run b ρ1 (ctQ I Post o)) :
    ∀ (xs : List D) (s : S) (ρ : Env) (o : Ct S T), I s ρ → forP f xs s = some o → Run (forGo t b xs) ρ (ctE I Post o)
  | [], s, ρ, o, hi, h => by cases h; exact ⟨.nx, ρ, rfl, rfl, hi⟩
  | x :: xs, s, ρ, o, hi, h => by
    obtain ⟨o1, h1, h2⟩ := ob h
    obtain ⟨ρ1, e1, fl, ρ2, e2, q⟩ := hb x s ρ o1 hi h1
    cases o1 with
    | nx s' =>
      obtain ⟨hf, hi'⟩ := q
      obtain ⟨fl', ρ3, e3, q3⟩ := forP_run I Post hb xs s' ρ2 o hi' h2
      refine ⟨fl', ρ3, ?_, q3⟩
      rw [forGo_cons_ok e1, bnd_eq e2]
      rcases hf with rfl | rfl <;> exact e3
    | bk s' =>
      obtain ⟨rfl, hi'⟩ := q
      cases h2
      exact ⟨.nx, ρ2, by rw [forGo_cons_ok e1, bnd_eq e2]; rfl, rfl, hi'⟩
    | rt r =>
      obtain ⟨hf, hq⟩ := q
      cases h2
      cases fl with
      | rt r' => exact ⟨.rt r', ρ2, by rw [forGo_cons_ok e1, bnd_eq e2]; rfl, trivial, hq⟩
      | _ => exact hf.elim
theorem foldP_run {S : Type} {t : D → M Unit} {b : M Fl} {f : D → S → Option S} (I : S → Env → Prop)
    (hb : ∀ x s ρ s', I s ρ → f x s = some s' → ∃ ρ1, t x ρ = .ok () ρ1 ∧ Run b ρ1 fun fl ρ' => (fl = .nx ∨ fl = .ct) ∧ I s' ρ') :
    ∀ (xs : List D) (s : S) (ρ : Env) (s' : S), I s ρ → foldP f xs s = some s' → ∃ ρ', forGo t b xs ρ = .ok .nx ρ' ∧ I s' ρ'
  | [], s, ρ, s', hi, h => by cases h; exact ⟨ρ, rfl, hi⟩
  | x :: xs, s, ρ, s', hi, h => by
    obtain ⟨s1, h1, h2⟩ := ob h
    obtain ⟨ρ1, e1, fl, ρ2, e2, hf, hi'⟩ := hb x s ρ s1 hi h1
    obtain ⟨ρ3, e3, q3⟩ := foldP_run I hb xs s1 ρ2 s' hi' h2
    refine ⟨ρ3, ?_, q3⟩
    rw [forGo_cons_ok e1, bnd_eq e2]
    rcases hf with rfl | rfl <;> exact e3
theorem run_for_nx {fi : M (List D)} {t : D → M Unit} {b : M Fl} {ρ ρ1 : Env} {xs : List D} {P : Env → Prop} (h : fi ρ = .ok xs ρ1) (r : ∃ ρ', forGo t b xs ρ1 = .ok .nx ρ' ∧ P ρ') : ∃ ρ', mFor fi t b ρ = .ok .nx ρ' ∧ P ρ' := by
  obtain ⟨ρ', e, p⟩ := r
  exact ⟨ρ', (mFor_ok h).trans e, p⟩
theorem run_for {fi : M (List D)} {t : D → M Unit} {b : M Fl} {ρ ρ1 : Env} {xs : List D} {Q : Fl → Env → Prop} (h : fi ρ = .ok xs ρ1) (r : Run (forGo t b xs) ρ1 Q) : Run (mFor fi t b) ρ Q := by
  obtain ⟨fl, ρ', e, p⟩ := r
  exact ⟨fl, ρ', (mFor_ok h).trans e, p⟩
/-- behind a loop that may hand back -/
theorem run_seq_ct {S T : Type} {m k : M Fl} {ρ : Env} {I : S → Env → Prop} {Post : T → Fl → Env → Prop} {o : Ct S T} {Q : Fl → Env → Prop} (r : Run m ρ (ctE I Post o))
    (hr : ∀ t fl ρ', o = .rt t → isRt fl → Post t fl ρ' → Q fl ρ') (hn : ∀ s ρ', o = .nx s → I s ρ' → Run k ρ' Q) : Run (mSeq m k) ρ Q := by
  obtain ⟨fl, ρ', e, q⟩ := r
  cases o with
  | nx s =>
    obtain ⟨rfl, hi⟩ := q
    exact run_seq e (hn s ρ' rfl hi)
  | bk s => exact q.elim
  | rt t =>
    obtain ⟨hf, hq⟩ := q
    cases fl with
    | rt r => exact ⟨.rt r, ρ', mSeq_rt e, hr t _ ρ' rfl hf hq⟩
    | _ => exact hf.elim
theorem run_ct {S T : Type} {m : M Fl} {ρ : Env} {I : S → Env → Prop} {Post : T → Fl → Env → Prop} {o : Ct S T} {Q : Fl → Env → Prop} (r : Run m ρ (ctE I Post o))
    (hr : ∀ t fl ρ', o = .rt t → isRt fl → Post t fl ρ' → Q fl ρ') (hn : ∀ s ρ', o = .nx s → I s ρ' → Q .nx ρ') : Run m ρ Q := by
  obtain ⟨fl, ρ', e, q⟩ := r
  cases o with
  | nx s => obtain ⟨rfl, hi⟩ := q; exact ⟨.nx, ρ', e, hn s ρ' rfl hi⟩
  | bk s => exact q.elim
  | rt t => obtain ⟨hf, hq⟩ := q; exact ⟨fl, ρ', e, hr t fl ρ' rfl hf hq⟩
def ctB0 { T γ : Type} (o : Option (Ct (Unit) T)) (g : T → Option γ) (f : Unit → Option γ) : Option γ := match o with
  | some (.nx ()) => f ()
  | some (.rt t) => g t
  | _ => none
theorem ctB0_nx { T γ : Type} (g : T → Option γ) (f : Unit → Option γ) : ctB0 (some (.nx ())) g f = f () := rfl
theorem ctB0_rt { T γ : Type} (g : T → Option γ) (f : Unit → Option γ) (t : T) : ctB0 (some (.rt t)) g f = g t := rfl
theorem obct0 { T γ : Type} {o : Option (Ct (Unit) T)} {g : T → Option γ} {f : Unit → Option γ} {r : γ} (h : ctB0 o g f = some r) :
    ∃ c, o = some c ∧ ((∃ t, c = .rt t ∧ g t = some r) ∨ (c = .nx () ∧ f () = some r)) := by
  cases o with
  | none => cases h
  | some c => cases c with
    | nx s => exact ⟨_, rfl, .inr ⟨rfl, h⟩⟩
    | bk s => cases h
    | rt t => exact ⟨_, rfl, .inl ⟨t, rfl, h⟩⟩
def ctB1 {α1 T γ : Type} (o : Option (Ct (α1) T)) (g : T → Option γ) (f : α1 → Option γ) : Option γ := match o with
  | some (.nx x1) => f x1
  | some (.rt t) => g t
  | _ => none
theorem ctB1_nx {α1 T γ : Type} (g : T → Option γ) (f : α1 → Option γ) (x1 : α1) : ctB1 (some (.nx x1)) g f = f x1 := rfl
theorem ctB1_rt {α1 T γ : Type} (g : T → Option γ) (f : α1 → Option γ) (t : T) : ctB1 (some (.rt t)) g f = g t := rfl
theorem obct1 {α1 T γ : Type} {o : Option (Ct (α1) T)} {g : T → Option γ} {f : α1 → Option γ} {r : γ} (h : ctB1 o g f = some r) :
    ∃ c, o = some c ∧ ((∃ t, c = .rt t ∧ g t = some r) ∨ (∃ x1, c = .nx x1 ∧ f x1 = some r)) := by
  cases o with
  | none => cases h
  | some c => cases c with
    | nx s => exact ⟨_, rfl, .inr ⟨_, rfl, h⟩⟩
    | bk s => cases h
    | rt t => exact ⟨_, rfl, .inl ⟨t, rfl, h⟩⟩
def ctB2 {α1 α2 T γ : Type} (o : Option (Ct (α1 × α2) T)) (g : T → Option γ) (f : α1 → α2 → Option γ) : Option γ := match o with
  | some (.nx (x1, x2)) => f x1 x2
  | some (.rt t) => g t
  | _ => none
theorem ctB2_nx {α1 α2 T γ : Type} (g : T → Option γ) (f : α1 → α2 → Option γ) (x1 : α1) (x2 : α2) : ctB2 (some (.nx (x1, x2))) g f = f x1 x2 := rfl
theorem ctB2_rt {α1 α2 T γ : Type} (g : T → Option γ) (f : α1 → α2 → Option γ) (t : T) : ctB2 (some (.rt t)) g f = g t := rfl
theorem obct2 {α1 α2 T γ : Type} {o : Option (Ct (α1 × α2) T)} {g : T → Option γ} {f : α1 → α2 → Option γ} {r : γ} (h : ctB2 o g f = some r) :
    ∃ c, o = some c ∧ ((∃ t, c = .rt t ∧ g t = some r) ∨ (∃ x1 x2, c = .nx (x1, x2) ∧ f x1 x2 = some r)) := by
  cases o with
  | none => cases h
  | some c => cases c with
    | nx s => exact ⟨_, rfl, .inr ⟨_, _, rfl, h⟩⟩
    | bk s => cases h
    | rt t => exact ⟨_, rfl, .inl ⟨t, rfl, h⟩⟩
def ctB3 {α1 α2 α3 T γ : Type} (o : Option (Ct (α1 × α2 × α3) T)) (g : T → Option γ) (f : α1 → α2 → α3 → Option γ) : Option γ := match o with
  | some (.nx (x1, x2, x3)) => f x1 x2 x3
  | some (.rt t) => g t
  | _ => none
theorem ctB3_nx {α1 α2 α3 T γ : Type} (g : T → Option γ) (f : α1 → α2 → α3 → Option γ) (x1 : α1) (x2 : α2) (x3 : α3) : ctB3 (some (.nx (x1, x2, x3))) g f = f x1 x2 x3 := rfl
theorem ctB3_rt {α1 α2 α3 T γ : Type} (g : T → Option γ) (f : α1 → α2 → α3 → Option γ) (t : T) : ctB3 (some (.rt t)) g f = g t := rfl
theorem obct3 {α1 α2 α3 T γ : Type} {o : Option (Ct (α1 × α2 × α3) T)} {g : T → Option γ} {f : α1 → α2 → α3 → Option γ} {r : γ} (h : ctB3 o g f = some r) :
    ∃ c, o = some c ∧ ((∃ t, c = .rt t ∧ g t = some r) ∨ (∃ x1 x2 x3, c = .nx (x1, x2, x3) ∧ f x1 x2 x3 = some r)) := by
  cases o with
  | none => cases h
  | some c => cases c with
    | nx s => exact ⟨_, rfl, .inr ⟨_, _, _, rfl, h⟩⟩
    | bk s => cases h
    | rt t => exact ⟨_, rfl, .inl ⟨t, rfl, h⟩⟩
def ctB4 {α1 α2 α3 α4 T γ : Type} (o : Option (Ct (α1 × α2 × α3 × α4) T)) (g : T → Option γ) (f : α1 → α2 → α3 → α4 → Option γ) : Option γ := match o with
  | some (.nx (x1, x2, x3, x4)) => f x1 x2 x3 x4
  | some (.rt t) => g t
  | _ => none
theorem ctB4_nx {α1 α2 α3 α4 T γ : Type} (g : T → Option γ) (f : α1 → α2 → α3 → α4 → Option γ) (x1 : α1) (x2 : α2) (x3 : α3) (x4 : α4) : ctB4 (some (.nx (x1, x2, x3, x4))) g f = f x1 x2 x3 x4 := rfl
theorem ctB4_rt {α1 α2 α3 α4 T γ : Type} (g : T → Option γ) (f : α1 → α2 → α3 → α4 → Option γ) (t : T) : ctB4 (some (.rt t)) g f = g t := rfl
theorem obct4 {α1 α2 α3 α4 T γ : Type} {o : Option (Ct (α1 × α2 × α3 × α4) T)} {g : T → Option γ} {f : α1 → α2 → α3 → α4 → Option γ} {r : γ} (h : ctB4 o g f = some r) :
    ∃ c, o = some c ∧ ((∃ t, c = .rt t ∧ g t = some r) ∨ (∃ x1 x2 x3 x4, c = .nx (x1, x2, x3, x4) ∧ f x1 x2 x3 x4 = some r)) := by
  cases o with
  | none => cases h
  | some c => cases c with
    | nx s => exact ⟨_, rfl, .inr ⟨_, _, _, _, rfl, h⟩⟩
    | bk s => cases h
    | rt t => exact ⟨_, rfl, .inl ⟨t, rfl, h⟩⟩
def ctB5 {α1 α2 α3 α4 α5 T γ : Type} (o : Option (Ct (α1 × α2 × α3 × α4 × α5) T)) (g : T → Option γ) (f : α1 → α2 → α3 → α4 → α5 → Option γ) : Option γ := match o with
  | some (.nx (x1, x2, x3, x4, x5)) => f x1 x2 x3 x4 x5
  | some (.rt t) => g t
  | _ => none
theorem ctB5_nx {α1 α2 α3 α4 α5 T γ : Type} (g : T → Option γ) (f : α1 → α2 → α3 → α4 → α5 → Option γ) (x1 : α1) (x2 : α2) (x3 : α3) (x4 : α4) (x5 : α5) : ctB5 (some (.nx (x1, x2, x3, x4, x5))) g f = f x1 x2 x3 x4 x5 := rfl
theorem ctB5_rt {α1 α2 α3 α4 α5 T γ : Type} (g : T → Option γ) (f : α1 → α2 → α3 → α4 → α5 → Option γ) (t : T) : ctB5 (some (.rt t)) g f = g t := rfl
theorem obct5 {α1 α2 α3 α4 α5 T γ : Type} {o : Option (Ct (α1 × α2 × α3 × α4 × α5) T)} {g : T → Option γ} {f : α1 → α2 → α3 → α4 → α5 → Option γ} {r : γ} (h : ctB5 o g f = some r) :
    ∃ c, o = some c ∧ ((∃ t, c = .rt t ∧ g t = some r) ∨ (∃ x1 x2 x3 x4 x5, c = .nx (x1, x2, x3, x4, x5) ∧ f x1 x2 x3 x4 x5 = some r)) := by
  cases o with
  | none => cases h
  | some c => cases c with
    | nx s => exact ⟨_, rfl, .inr ⟨_, _, _, _, _, rfl, h⟩⟩
    | bk s => cases h
    | rt t => exact ⟨_, rfl, .inl ⟨t, rfl, h⟩⟩
def ctB6 {α1 α2 α3 α4 α5 α6 T γ : Type} (o : Option (Ct (α1 × α2 × α3 × α4 × α5 × α6) T)) (g : T → Option γ) (f : α1 → α2 → α3 → α4 → α5 → α6 → Option γ) : Option γ := match o with
  | some (.nx (x1, x2, x3, x4, x5, x6)) => f x1 x2 x3 x4 x5 x6
  | some (.rt t) => g t
  | _ => none
theorem ctB6_nx {α1 α2 α3 α4 α5 α6 T γ : Type} (g : T → Option γ) (f : α1 → α2 → α3 → α4 → α5 → α6 → Option γ) (x1 : α1) (x2 : α2) (x3 : α3) (x4 : α4) (x5 : α5) (x6 : α6) : ctB6 (some (.nx (x1, x2, x3, x4, x5, x6))) g f = f x1 x2 x3 x4 x5 x6 := rfl
theorem ctB6_rt {α1 α2 α3 α4 α5 α6 T γ : Type} (g : T → Option γ) (f : α1 → α2 → α3 → α4 → α5 → α6 → Option γ) (t : T) : ctB6 (some (.rt t)) g f = g t := rfl
theorem obct6 {α1 α2 α3 α4 α5 α6 T γ : Type} {o : Option (Ct (α1 × α2 × α3 × α4 × α5 × α6) T)} {g : T → Option γ} {f : α1 → α2 → α3 → α4 → α5 → α6 → Option γ} {r : γ} (h : ctB6 o g f = some r) :
    ∃ c, o = some c ∧ ((∃ t, c = .rt t ∧ g t = some r) ∨ (∃ x1 x2 x3 x4 x5 x6, c = .nx (x1, x2, x3, x4, x5, x6) ∧ f x1 x2 x3 x4 x5 x6 = some r)) := by
  cases o with
  | none => cases h
  | some c => cases c with
    | nx s => exact ⟨_, rfl, .inr ⟨_, _, _, _, _, _, rfl, h⟩⟩
    | bk s => cases h
    | rt t => exact ⟨_, rfl, .inl ⟨t, rfl, h⟩⟩
def ctB7 {α1 α2 α3 α4 α5 α6 α7 T γ : Type} (o : Option (Ct (α1 × α2 × α3 × α4 × α5 × α6 × α7) T)) (g : T → Option γ) (f : α1 → α2 → α3 → α4 → α5 → α6 → α7 → Option γ) : Option γ := match o with
  | some (.nx (x1, x2, x3, x4, x5, x6, x7)) => f x1 x2 x3 x4 x5 x6 x7
  | some (.rt t) => g t
  | _ => none
theorem ctB7_nx {α1 α2 α3 α4 α5 α6 α7 T γ : Type} (g : T → Option γ) (f : α1 → α2 → α3 → α4 → α5 → α6 → α7 → Option γ) (x1 : α1) (x2 : α2) (x3 : α3) (x4 : α4) (x5 : α5) (x6 : α6) (x7 : α7) : ctB7 (some (.nx (x1, x2, x3, x4, x5, x6, x7))) g f = f x1 x2 x3 x4 x5 x6 x7 := rfl
theorem ctB7_rt {α1 α2 α3 α4 α5 α6 α7 T γ : Type} (g : T → Option γ) (f : α1 → α2 → α3 → α4 → α5 → α6 → α7 → Option γ) (t : T) : ctB7 (some (.rt t)) g f = g t := rfl
theorem obct7 {α1 α2 α3 α4 α5 α6 α7 T γ : Type} {o : Option (Ct (α1 × α2 × α3 × α4 × α5 × α6 × α7) T)} {g : T → Option γ} {f : α1 → α2 → α3 → α4 → α5 → α6 → α7 → Option γ} {r : γ} (h : ctB7 o g f = some r) :
    ∃ c, o = some c ∧ ((∃ t, c = .rt t ∧ g t = some r) ∨ (∃ x1 x2 x3 x4 x5 x6 x7, c = .nx (x1, x2, x3, x4, x5, x6, x7) ∧ f x1 x2 x3 x4 x5 x6 x7 = some r)) := by
  cases o with
  | none => cases h
  | some c => cases c with
    | nx s => exact ⟨_, rfl, .inr ⟨_, _, _, _, _, _, _, rfl, h⟩⟩
    | bk s => cases h
    | rt t => exact ⟨_, rfl, .inl ⟨t, rfl, h⟩⟩
def ctB8 {α1 α2 α3 α4 α5 α6 α7 α8 T γ : Type} (o : Option (Ct (α1 × α2 × α3 × α4 × α5 × α6 × α7 × α8) T)) (g : T → Option γ) (f : α1 → α2 → α3 → α4 → α5 → α6 → α7 → α8 → Option γ) : Option γ := match o with
  | some (.nx (x1, x2, x3, x4, x5, x6, x7, x8)) => f x1 x2 x3 x4 x5 x6 x7 x8
  | some (.rt t) => g t
  | _ => none
theorem ctB8_nx {α1 α2 α3 α4 α5 α6 α7 α8 T γ : Type} (g : T → Option γ) (f : α1 → α2 → α3 → α4 → α5 → α6 → α7 → α8 → Option γ) (x1 : α1) (x2 : α2) (x3 : α3) (x4 : α4) (x5 : α5) (x6 : α6) (x7 : α7) (x8 : α8) : ctB8 (some (.nx (x1, x2, x3, x4, x5, x6, x7, x8))) g f = f x1 x2 x3 x4 x5 x6 x7 x8 := rfl
theorem ctB8_rt {α1 α2 α3 α4 α5 α6 α7 α8 T γ : Type} (g : T → Option γ) (f : α1 → α2 → α3 → α4 → α5 → α6 → α7 → α8 → Option γ) (t : T) : ctB8 (some (.rt t)) g f = g t := rfl
theorem obct8 {α1 α2 α3 α4 α5 α6 α7 α8 T γ : Type} {o : Option (Ct (α1 × α2 × α3 × α4 × α5 × α6 × α7 × α8) T)} {g : T → Option γ} {f : α1 → α2 → α3 → α4 → α5 → α6 → α7 → α8 → Option γ} {r : γ} (h : ctB8 o g f = some r) :
    ∃ c, o = some c ∧ ((∃ t, c = .rt t ∧ g t = some r) ∨ (∃ x1 x2 x3 x4 x5 x6 x7 x8, c = .nx (x1, x2, x3, x4, x5, x6, x7, x8) ∧ f x1 x2 x3 x4 x5 x6 x7 x8 = some r)) := by
  cases o with
  | none => cases h
  | some c => cases c with
    | nx s => exact ⟨_, rfl, .inr ⟨_, _, _, _, _, _, _, _, rfl, h⟩⟩
    | bk s => cases h
    | rt t => exact ⟨_, rfl, .inl ⟨t, rfl, h⟩⟩
def ctB9 {α1 α2 α3 α4 α5 α6 α7 α8 α9 T γ : Type} (o : Option (Ct (α1 × α2 × α3 × α4 × α5 × α6 × α7 × α8 × α9) T)) (g : T → Option γ) (f : α1 → α2 → α3 → α4 → α5 → α6 → α7 → α8 → α9 → Option γ) : Option γ := match o with
  | some (.nx (x1, x2, x3, x4, x5, x6, x7, x8, x9)) => f x1 x2 x3 x4 x5 x6 x7 x8 x9
  | some (.rt t) => g t
  | _ => none
theorem ctB9_nx {α1 α2 α3 α4 α5 α6 α7 α8 α9 T γ : Type} (g : T → Option γ) (f : α1 → α2 → α3 → α4 → α5 → α6 → α7 → α8 → α9 → Option γ) (x1 : α1) (x2 : α2) (x3 : α3) (x4 : α4) (x5 : α5) (x6 : α6) (x7 : α7) (x8 : α8) (x9 : α9) : ctB9 (some (.nx (x1, x2, x3, x4, x5, x6, x7, x8, x9))) g f = f x1 x2 x3 x4 x5 x6 x7 x8 x9 := rfl
theorem ctB9_rt {α1 α2 α3 α4 α5 α6 α7 α8 α9 T γ : Type} (g : T → Option γ) (f : α1 → α2 → α3 → α4 → α5 → α6 → α7 → α8 → α9 → Option γ) (t : T) : ctB9 (some (.rt t)) g f = g t := rfl
theorem obct9 {α1 α2 α3 α4 α5 α6 α7 α8 α9 T γ : Type} {o : Option (Ct (α1 × α2 × α3 × α4 × α5 × α6 × α7 × α8 × α9) T)} {g : T → Option γ} {f : α1 → α2 → α3 → α4 → α5 → α6 → α7 → α8 → α9 → Option γ} {r : γ} (h : ctB9 o g f = some r) :
    ∃ c, o = some c ∧ ((∃ t, c = .rt t ∧ g t = some r) ∨ (∃ x1 x2 x3 x4 x5 x6 x7 x8 x9, c = .nx (x1, x2, x3, x4, x5, x6, x7, x8, x9) ∧ f x1 x2 x3 x4 x5 x6 x7 x8 x9 = some r)) := by
  cases o with
  | none => cases h
  | some c => cases c with
    | nx s => exact ⟨_, rfl, .inr ⟨_, _, _, _, _, _, _, _, _, rfl, h⟩⟩
    | bk s => cases h
    | rt t => exact ⟨_, rfl, .inl ⟨t, rfl, h⟩⟩
/-! ### while -/
def whP {S T : Type} (c : S → Option Bool) (f : S → Option (Ct S T)) : Nat → S → Option (Ct S T)
  | 0, _ => none
  | n + 1, s => (c s).bind fun k => if k = true then (f s).bind fun o => match o with
    | .nx s' => whP c f n s'
    | .bk s' => some (.nx s')
    | .rt t => some (.rt t)
    else some (.nx s)
theorem whP_run {S T : Type} {mc : M Bool} {b : M Fl} {c : S → Option Bool} {f : S → Option (Ct S T)} (I : S → Env → Prop) (Post : T → Fl → Env → Prop)
    (hc : ∀ s ρ k, I s ρ → c s = some k → ∃ ρ1, mc ρ = .ok k ρ1 ∧ I s ρ1) (hb : ∀ s ρ o, I s ρ → c s = some true → f s = some o → Run b ρ (ctQ I Post o)) :
    ∀ (n : Nat) (s : S) (ρ : Env) (o : Ct S T), I s ρ → whP c f n s = some o → Run (whGo mc b n) ρ (ctE I Post o)
  | 0, _, _, _, _, h => by cases h
  | n + 1, s, ρ, o, hi, h => by
    obtain ⟨k, h1, h2⟩ := ob h
    obtain ⟨ρ1, e1, hi1⟩ := hc s ρ k hi h1
    cases k with
    | false =>
      rw [if_neg Bool.false_ne_true] at h2
      cases h2
      exact ⟨.nx, ρ1, by show bnd mc _ ρ = _; rw [bnd_eq e1]; rfl, rfl, hi1⟩
    | true =>
      rw [if_pos rfl] at h2
      obtain ⟨o1, h3, h4⟩ := ob h2
      obtain ⟨fl, ρ2, e2, q⟩ := hb s ρ1 o1 hi1 h1 h3
      have go : whGo mc b (n + 1) ρ = bnd b (fun fl => match fl with
        | .nx => whGo mc b n
        | .ct => whGo mc b n
        | .bk => PL.ret .nx
        | .rt r => PL.ret (.rt r)) ρ1 := by
        show bnd mc _ ρ = _
        rw [bnd_eq e1, if_pos rfl]
        all_goals rfl
      cases o1 with
      | nx s' =>
        obtain ⟨hf, hi'⟩ := q
        obtain ⟨fl', ρ3, e3, q3⟩ := whP_run I Post hc hb n s' ρ2 o hi' h4
        refine ⟨fl', ρ3, ?_, q3⟩
        rw [go, bnd_eq e2]
        rcases hf with rfl | rfl <;> exact e3
      | bk s' =>
        obtain ⟨rfl, hi'⟩ := q
        cases h4
        exact ⟨.nx, ρ2, by rw [go, bnd_eq e2]; rfl, rfl, hi'⟩
      | rt r =>
        obtain ⟨hf, hq⟩ := q
        cases h4
        cases fl with
        | rt r' => exact ⟨.rt r', ρ2, by rw [go, bnd_eq e2]; rfl, trivial, hq⟩
        | _ => exact hf.elim
theorem run_while {mc : M Bool} {b : M Fl} {n : Nat} {ρ : Env} {Q : Fl → Env → Prop} (r : Run (whGo mc b n) ρ Q) : Run (mWhile (fun _ => n) mc b) ρ Q := r
/-! ### comprehensions -/
def lcP {S : Type} (f : D → S → Option (Option D × S)) : List D → S → Option (List D × S)
  | [], s => some ([], s)
  | x :: xs, s => (f x s).bind fun (o, s') => (lcP f xs s').bind fun (out, s2) => match o with
    | some y => some (y :: out, s2)
    | none => some (out, s2)
def lcT {S : Type} (f : D → S → Option (Option D × S)) (xs : List D) (s : S) : Option (List D × S) := (lcP f xs s).bind fun os => if os.1.length ≤ 100000 then some os else none
def mapP (f : D → Option D) : List D → Option (List D)
  | [] => some []
  | x :: xs => (f x).bind fun y => (mapP f xs).bind fun ys => some (y :: ys)
def filP (f : D → Option (Option D)) : List D → Option (List D)
  | [] => some []
  | x :: xs => (f x).bind fun o => (filP f xs).bind fun ys => match o with
    | some y => some (y :: ys)
    | none => some ys
def mapT (f : D → Option D) (xs : List D) : Option (List D) := (mapP f xs).bind fun ys => if ys.length ≤ 100000 then some ys else none
def filT (f : D → Option (Option D)) (xs : List D) : Option (List D) := (filP f xs).bind fun ys => if ys.length ≤ 100000 then some ys else none
/-- where an item of a comprehension ends -/
abbrev lcQ (c : M Bool) (fe : M D) (vs : List Nat) (I : Env → Prop) (ρ1 ρ2 : Env) (o : Option D) : Prop := match o with
  | some y => ∃ ρ3, c ρ1 = .ok true ρ2 ∧ fe ρ2 = .ok y ρ3 ∧ I (wipeE ρ3 vs)
  | none => c ρ1 = .ok false ρ2 ∧ I (wipeE ρ2 vs)
theorem lcP_run {S : Type} {t : D → M Unit} {vs : List Nat} {c : M Bool} {fe : M D} {f : D → S → Option (Option D × S)} (I : S → Env → Prop)
    (hb : ∀ x s ρ o s', I s ρ → f x s = some (o, s') → ∃ ρ1 ρ2, t x ρ = .ok () ρ1 ∧ lcQ c fe vs (I s') ρ1 ρ2 o) :
    ∀ (xs acc : List D) (s : S) (ρ : Env) (out : List D) (s' : S), I s ρ → lcP f xs s = some (out, s') → acc.length + out.length ≤ 100000 → ∃ ρ', lcGo t vs c fe acc xs ρ = .ok (acc ++ out) ρ' ∧ I s' ρ'
  | [], acc, s, ρ, out, s', hi, h, _ => by cases h; exact ⟨ρ, by rw [List.append_nil]; rfl, hi⟩
  | x :: xs, acc, s, ρ, out, s', hi, h, hl => by
    obtain ⟨⟨o, s1⟩, h1, h2⟩ := ob h
    obtain ⟨⟨out1, s2⟩, h3, h4⟩ := ob h2
    obtain ⟨ρ1, ρ2, e1, q⟩ := hb x s ρ o s1 hi h1
    cases o with
    | none =>
      cases h4
      obtain ⟨e2, hi'⟩ := q
      obtain ⟨ρ4, e4, hi4⟩ := lcP_run I hb xs acc s1 _ _ _ hi' h3 hl
      refine ⟨ρ4, ?_, hi4⟩
      show bnd (t x) _ ρ = _
      rw [bnd_eq e1, bnd_eq e2]
      exact e4
    | some y =>
      cases h4
      obtain ⟨ρ3, e2, e3, hi'⟩ := q
      rw [List.length_cons] at hl
      obtain ⟨ρ4, e4, hi4⟩ := lcP_run I hb xs (acc ++ [y]) s1 _ _ _ hi' h3 (by rw [List.length_append, List.length_cons, List.length_nil]; omega)
      refine ⟨ρ4, ?_, hi4⟩
      show bnd (t x) _ ρ = _
      rw [bnd_eq e1, bnd_eq e2, if_pos rfl, bnd_eq e3, if_pos (by omega)]
      rw [List.append_assoc] at e4
      exact e4
theorem lcT_run {S : Type} {fi : M (List D)} {t : D → M Unit} {vs : List Nat} {c : M Bool} {fe : M D} {f : D → S → Option (Option D × S)} (I : S → Env → Prop)
    {ρ0 ρ1 : Env} {xs : List D} {s : S} {out : List D} {s' : S} (h0 : fi ρ0 = .ok xs ρ1) (hi : I s (wipeE ρ1 vs)) (h : lcT f xs s = some (out, s'))
    (hb : ∀ x s ρ o s', I s ρ → f x s = some (o, s') → ∃ ρ1 ρ2, t x ρ = .ok () ρ1 ∧ lcQ c fe vs (I s') ρ1 ρ2 o) : ∃ ρ', mLc fi t vs c fe ρ0 = .ok (.fr (.list out)) (restE ρ1 ρ' vs) ∧ I s' ρ' := by
  obtain ⟨⟨o1, s1⟩, h1, h2⟩ := ob h
  simp only at h2
  split at h2
  · cases h2
    obtain ⟨ρ', e, q⟩ := lcP_run I hb xs [] s (wipeE ρ1 vs) out s' hi h1 (by simpa using ‹_›)
    exact ⟨ρ', mLc_ok h0 e, q⟩
  · cases h2
theorem mapP_lc (f : D → Option D) : ∀ (xs out : List D), mapP f xs = some out → lcP (S := Unit) (fun x _ => (f x).map fun y => (some y, ())) xs () = some (out, ())
  | [], out, h => by cases h; rfl
  | x :: xs, out, h => by
    obtain ⟨y, h1, h2⟩ := ob h
    obtain ⟨ys, h3, h4⟩ := ob h2
    cases h4
    have := mapP_lc f xs ys h3
    simp only [lcP, h1, this, Option.map_some, Option.bind_some]
theorem filP_lc (f : D → Option (Option D)) : ∀ (xs out : List D), filP f xs = some out → lcP (S := Unit) (fun x _ => (f x).map fun y => (y, ())) xs () = some (out, ())
  | [], out, h => by cases h; rfl
  | x :: xs, out, h => by
    obtain ⟨y, h1, h2⟩ := ob h
    obtain ⟨ys, h3, h4⟩ := ob h2
    have := filP_lc f xs ys h3
    cases y <;> cases h4 <;> simp only [lcP, h1, this, Option.map_some, Option.bind_some]
theorem mapT_run {fi : M (List D)} {t : D → M Unit} {vs : List Nat} {c : M Bool} {fe : M D} {f : D → Option D} (I : Env → Prop)
    {ρ0 ρ1 : Env} {xs : List D} {out : List D} (h0 : fi ρ0 = .ok xs ρ1) (hi : I (wipeE ρ1 vs)) (h : mapT f xs = some out)
    (hb : ∀ x ρ y, I ρ → f x = some y → ∃ ρ1 ρ2 ρ3, t x ρ = .ok () ρ1 ∧ c ρ1 = .ok true ρ2 ∧ fe ρ2 = .ok y ρ3 ∧ I (wipeE ρ3 vs)) : ∃ ρ', mLc fi t vs c fe ρ0 = .ok (.fr (.list out)) (restE ρ1 ρ' vs) ∧ I ρ' := by
  obtain ⟨ys, h1, h2⟩ := ob h
  have hl : ys.length ≤ 100000 := by
    split at h2
    · assumption
    · cases h2
  rw [if_pos hl] at h2
  cases h2
  refine lcT_run (S := Unit) (fun _ ρ => I ρ) h0 hi (s' := ()) (s := ()) (by unfold lcT; rw [mapP_lc f xs out h1, Option.bind_some]; exact if_pos hl) fun x s ρ o s' hi' hf => ?_
  cases hfx : f x with
  | none => rw [hfx] at hf; cases hf
  | some y =>
    rw [hfx] at hf
    cases hf
    obtain ⟨ρa, ρb, ρc, e1, e2, e3, q⟩ := hb x ρ y hi' hfx
    exact ⟨ρa, ρb, e1, ρc, e2, e3, q⟩
theorem filT_run {fi : M (List D)} {t : D → M Unit} {vs : List Nat} {c : M Bool} {fe : M D} {f : D → Option (Option D)} (I : Env → Prop)
    {ρ0 ρ1 : Env} {xs : List D} {out : List D} (h0 : fi ρ0 = .ok xs ρ1) (hi : I (wipeE ρ1 vs)) (h : filT f xs = some out)
    (hb : ∀ x ρ o, I ρ → f x = some o → ∃ ρ1 ρ2, t x ρ = .ok () ρ1 ∧ lcQ c fe vs I ρ1 ρ2 o) : ∃ ρ', mLc fi t vs c fe ρ0 = .ok (.fr (.list out)) (restE ρ1 ρ' vs) ∧ I ρ' := by
  obtain ⟨ys, h1, h2⟩ := ob h
  have hl : ys.length ≤ 100000 := by
    split at h2
    · assumption
    · cases h2
  rw [if_pos hl] at h2
  cases h2
  refine lcT_run (S := Unit) (fun _ ρ => I ρ) h0 hi (s' := ()) (s := ()) (by unfold lcT; rw [filP_lc f xs out h1, Option.bind_some]; exact if_pos hl) fun x s ρ o s' hi' hf => ?_
  cases hfx : f x with
  | none => rw [hfx] at hf; cases hf
  | some y =>
    rw [hfx] at hf
    cases hf
    exact hb x ρ _ hi' hfx
end PL
namespace Y
open PySem PySem.Spec L2 PL RT RZ
def topS (i : Nat) : Stmt := PySem.Challenge.pw_boastrow_k00_what_rows_are.main.body.getD i (.Pass ⟨0, 0, 0, 0⟩)
abbrev s_is_number : Stmt := topS 1
theorem sc_is_number : FnScope ["thing"] ["thing"] (defScope s_is_number) := ⟨rfl, rfl, rfl, by decide +kernel, rfl, by decide +kernel, by decide +kernel⟩
abbrev s_is_row : Stmt := topS 2
theorem sc_is_row : FnScope ["thing", "saying", "least", "most"] ["thing"] (defScope s_is_row) := ⟨rfl, rfl, rfl, by decide +kernel, rfl, by decide +kernel, by decide +kernel⟩
abbrev s_is_saying : Stmt := topS 3
theorem sc_is_saying : FnScope ["thing"] ["thing"] (defScope s_is_saying) := ⟨rfl, rfl, rfl, by decide +kernel, rfl, by decide +kernel, by decide +kernel⟩
abbrev s_l_tin : Stmt := topS 5
theorem sc_l_tin : FnScope ["_law_script", "_law_k", "_law_cell"] ["_law_script", "_law_k"] (defScope s_l_tin) := ⟨rfl, rfl, rfl, by decide +kernel, rfl, by decide +kernel, by decide +kernel⟩
abbrev s_l_deal : Stmt := topS 6
theorem sc_l_deal : FnScope ["_law_tin_here", "_law_wide", "_law_found", "_law_mixed"] ["_law_tin_here", "_law_wide"] (defScope s_l_deal) := ⟨rfl, rfl, rfl, by decide +kernel, rfl, by decide +kernel, by decide +kernel⟩
abbrev s_l_said : Stmt := topS 7
theorem sc_l_said : FnScope ["_law_tin_here", "_law_wide", "_law_least", "_law_beyond", "_law_some"] ["_law_tin_here", "_law_wide"] (defScope s_l_said) := ⟨rfl, rfl, rfl, by decide +kernel, rfl, by decide +kernel, by decide +kernel⟩
abbrev s_l_crew : Stmt := topS 8
theorem sc_l_crew : FnScope ["_law_tin_here", "_law_most", "_law_some", "_law_size", "_law_wide", "_law_base", "_law_lore", "_law_kind", "_law_found", "_law_k", "_law_claim"] ["_law_tin_here", "_law_most"] (defScope s_l_crew) := ⟨rfl, rfl, rfl, by decide +kernel, rfl, by decide +kernel, by decide +kernel⟩
abbrev s_l_is_count : Stmt := topS 9
theorem sc_l_is_count : FnScope ["_law_thing"] ["_law_thing"] (defScope s_l_is_count) := ⟨rfl, rfl, rfl, by decide +kernel, rfl, by decide +kernel, by decide +kernel⟩
abbrev s_l_is_said : Stmt := topS 10
theorem sc_l_is_said : FnScope ["_law_thing"] ["_law_thing"] (defScope s_l_is_said) := ⟨rfl, rfl, rfl, by decide +kernel, rfl, by decide +kernel, by decide +kernel⟩
abbrev s_l_is_crew : Stmt := topS 11
theorem sc_l_is_crew : FnScope ["_law_thing", "_law_claim"] ["_law_thing"] (defScope s_l_is_crew) := ⟨rfl, rfl, rfl, by decide +kernel, rfl, by decide +kernel, by decide +kernel⟩
abbrev s_l_odd : Stmt := topS 12
theorem sc_l_odd : FnScope ["_law_tin_here", "_law_some"] ["_law_tin_here"] (defScope s_l_odd) := ⟨rfl, rfl, rfl, by decide +kernel, rfl, by decide +kernel, by decide +kernel⟩
abbrev s_l_bent : Stmt := topS 13
theorem sc_l_bent : FnScope ["_law_tin_here", "_law_crew_here", "_law_at", "_law_way", "_law_found", "_law_claim"] ["_law_tin_here", "_law_crew_here"] (defScope s_l_bent) := ⟨rfl, rfl, rfl, by decide +kernel, rfl, by decide +kernel, by decide +kernel⟩
abbrev s_law : Stmt := topS 14
theorem sc_law : FnScope ["_law_script", "_law_k", "_law_tin_here", "_law_crew_here", "_law_turn", "_law_thing", "_law_kept", "_law_told", "_law_due"] ["_law_script"] (defScope s_law) := ⟨rfl, rfl, rfl, by decide +kernel, rfl, by decide +kernel, by decide +kernel⟩
def m_is_number : M Fl := (mRet (mRv (mPl (mAndV (mUn (gIsi ["int"]) (mVar 0)) (mAndV (mNotV (mUn (gIsi ["bool"]) (mVar 0))) (mOp gGe (mVar 0) (mPl (mC (.int 0)))))))))
def mb_is_row_1 : M Fl := (mSeq (mIf (mOr (mNot (mTr (mPl (mUn (gIsi ["tuple"]) (mVar 1))))) (mB (mOp gNe (mPl (mN gLen (mCons (mVar 1) mNil))) (mPl (mC (.int 2)))))) (mRet (mRv (mPl (mC (.bool false))))) mSkip)
    (mSeq (mAsg (tTupl (tsCons (tName 2) (tsCons (tName 3) tsNil))) (mFz (mRv (mVar 1))))
    (mSeq (mIf (mOr (mNot (mTr (mPl (mUn (gIsi ["int"]) (mVar 2))))) (mOr (mB (mOp gLt (mVar 2) (mPl (mC (.int 0))))) (mOr (mB (mOp gIs (mVar 2) (mPl (mC (.bool true))))) (mB (mOp gIs (mVar 2) (mPl (mC (.bool false)))))))) (mRet (mRv (mPl (mC (.bool false))))) mSkip)
    (mIf (mAnd (mB (mOp gNot (mVar 3) (mPl (mC .none)))) (mOr (mNot (mTr (mPl (mUn (gIsi ["int"]) (mVar 3))))) (mOr (mB (mOp gLt (mVar 3) (mVar 2))) (mOr (mB (mOp gIs (mVar 3) (mPl (mC (.bool true))))) (mB (mOp gIs (mVar 3) (mPl (mC (.bool false))))))))) (mRet (mRv (mPl (mC (.bool false))))) mSkip))))
def m_is_row : M Fl := (mSeq (mIf (mNot (mTr (mPl (mUn (gIsi ["list", "tuple"]) (mVar 0))))) (mRet (mRv (mPl (mC (.bool false))))) mSkip)
    (mSeq (mFor (mIter (mVar 0)) (tName 1) mb_is_row_1)
    (mRet (mRv (mPl (mC (.bool true)))))))
def m_is_saying : M Fl := (mRet (mCall [.b] 3 m_is_row (mCons (mPl (mFz (mLst (mCons (mFz (mRv (mVar 0))) mNil)))) mNil)))
def m_l_tin : M Fl := (mSeq (mSet 2 (mRv (mPl (mC (.int 0)))))
    (mSeq (mIf (mB (mOp gLt (mVar 1) (mPl (mLenS 0)))) (mSet 2 (mRv (mPl (mIxS 0 (mFz (mRv (mVar 1))))))) mSkip)
    (mRet (mLst (mCons (mN gMax2 (mCons (mPl (mC (.int 0))) (mCons (mPl (mOp gSub' (mPl (mN gAbs (mCons (mVar 2) mNil))) (mPl (mOp gPow (mPl (mC (.int 10))) (mPl (mC (.int 18))))))) mNil))) (mCons (mFz (mOpX gAdd (mPl (mFz (mOpX gMul (mPl (mOp gMod (mVar 2) (mPl (mFz (mOpX gAdd (mPl (mOp gPow (mPl (mC (.int 10))) (mPl (mC (.int 37))))) (mPl (mC (.int 43)))))))) (mPl (mC (.int 64)))))) (mVar 1))) (mCons (mC (.int 0)) mNil)))))))
def m_l_deal : M Fl := (mSeq (mIf (mB (mOp gGt (mPl (mOp gIx (mVar 0) (mPl (mC (.int 0))))) (mPl (mC (.int 0))))) (mSeq (mSet 2 (mRv (mPl (mOp gMod (mPl (mOp gIx (mVar 0) (mPl (mC (.int 0))))) (mVar 1)))))
    (mSeq (mSetIx 0 (mOp gDiv (mPl (mOp gIx (mVar 0) (mPl (mC (.int 0))))) (mVar 1)) (mC (.int 0)))
    (mRet (mRv (mVar 2))))) mSkip)
    (mSeq (mSetIx 0 (mFz (mOpX gAdd (mPl (mOp gIx (mVar 0) (mPl (mC (.int 2))))) (mPl (mC (.int 1))))) (mC (.int 2)))
    (mSeq (mSet 3 (mRv (mPl (mOp gMod (mPl (mOp gPow (mPl (mFz (mOpX gAdd (mPl (mOp gIx (mVar 0) (mPl (mC (.int 1))))) (mPl (mFz (mOpX gMul (mPl (mC (.int 9576890767))) (mPl (mOp gIx (mVar 0) (mPl (mC (.int 2))))))))))) (mPl (mC (.int 3))))) (mPl (mFz (mOpX gAdd (mPl (mOp gPow (mPl (mC (.int 10))) (mPl (mC (.int 38))))) (mPl (mC (.int 133))))))))))
    (mSeq (mSet 3 (mRv (mPl (mOp gMod (mPl (mOp gPow (mPl (mFz (mOpX gAdd (mVar 3) (mPl (mFz (mOpX gMul (mPl (mC (.int 32452843))) (mPl (mOp gIx (mVar 0) (mPl (mC (.int 2))))))))))) (mPl (mC (.int 5))))) (mPl (mFz (mOpX gAdd (mPl (mOp gPow (mPl (mC (.int 10))) (mPl (mC (.int 40))))) (mPl (mC (.int 121))))))))))
    (mRet (mRv (mPl (mOp gMod (mPl (mOp gDiv (mVar 3) (mPl (mC (.int 65536))))) (mVar 1)))))))))
def m_l_said : M Fl := (mSeq (mSet 2 (mCall [.io, .b] 2 m_l_deal (mCons (mVar 0) (mCons (mVar 1) mNil))))
    (mSeq (mSet 3 (mOpX gAdd (mVar 2) (mPl (mFz (mCall [.io, .b] 2 m_l_deal (mCons (mVar 0) (mCons (mVar 1) mNil)))))))
    (mSeq (mSet 4 (mLst (mCons (mTup (mCons (mFz (mRv (mVar 2))) (mCons (mC .none) mNil))) (mCons (mTup (mCons (mFz (mRv (mVar 2))) (mCons (mFz (mRv (mVar 2))) mNil))) (mCons (mTup (mCons (mC (.int 0)) (mCons (mFz (mRv (mVar 2))) mNil))) (mCons (mTup (mCons (mFz (mRv (mVar 2))) (mCons (mFz (mRv (mVar 3))) mNil))) (mCons (mTup (mCons (mC (.int 0)) (mCons (mC .none) mNil))) mNil)))))))
    (mRet (mRv (mPl (mOp gIx (mVar 4) (mPl (mOp gMod (mPl (mFz (mCall [.io, .b] 2 m_l_deal (mCons (mVar 0) (mCons (mPl (mC (.int 10))) mNil))))) (mPl (mC (.int 5))))))))))))
def mb_l_crew_1 : M Fl := (mSeq (mSet 10 (mCall [.io, .b] 3 m_l_said (mCons (mVar 0) (mCons (mVar 4) mNil))))
    (mSeq (mIf (mB (mOp gGt (mVar 7) (mPl (mC (.int 2))))) (mSet 10 (mRv (mPl (mOp gIx (mPl (mFz (mLst (mCons (mOp gIx (mVar 6) (mPl (mC (.int 0)))) (mCons (mOp gIx (mVar 6) (mPl (mOp gMod (mVar 9) (mPl (mC (.int 2)))))) (mCons (mTup (mCons (mFz (mRv (mVar 9))) (mCons (mFz (mRv (mVar 9))) mNil))) mNil)))))) (mPl (mOp gSub' (mVar 7) (mPl (mC (.int 3))))))))) mSkip)
    (mDrop (mMut 8 gAppend (mCons (mTup (mCons (mFz (mOpX gAdd (mPl (mOp gIx (mVar 10) (mPl (mC (.int 0))))) (mVar 5))) (mCons (mIf (mB (mOp gIs (mPl (mOp gIx (mVar 10) (mPl (mC (.int 1))))) (mPl (mC .none)))) (mC .none) (mFz (mOpX gAdd (mPl (mOp gIx (mVar 10) (mPl (mC (.int 1))))) (mVar 5)))) mNil))) mNil)))))
def m_l_crew : M Fl := (mSeq (mSet 2 (mLst (mCons (mFz (mCall [.io, .b] 2 m_l_deal (mCons (mVar 0) (mCons (mPl (mC (.int 4))) mNil)))) (mCons (mFz (mCall [.io, .b] 2 m_l_deal (mCons (mVar 0) (mCons (mPl (mC (.int 9))) mNil)))) (mCons (mFz (mCall [.io, .b] 2 m_l_deal (mCons (mVar 0) (mCons (mPl (mFz (mOpX gAdd (mVar 1) (mPl (mC (.int 1)))))) mNil)))) mNil)))))
    (mSeq (mSet 3 (mRv (mPl (mN gMin2 (mCons (mVar 1) (mCons (mPl (mOp gIx (mVar 2) (mPl (mFz (mCall [.io, .b] 2 m_l_deal (mCons (mVar 0) (mCons (mPl (mC (.int 3))) mNil))))))) mNil))))))
    (mSeq (mSet 4 (mRv (mPl (mOp gIx (mPl (mFz (mLst (mCons (mC (.int 2)) (mCons (mC (.int 4)) (mCons (mC (.int 9)) (mCons (mFz (mOpX gAdd (mVar 3) (mPl (mC (.int 2))))) mNil))))))) (mPl (mFz (mCall [.io, .b] 2 m_l_deal (mCons (mVar 0) (mCons (mPl (mC (.int 4))) mNil)))))))))
    (mSeq (mSet 5 (mRv (mPl (mOp gIx (mPl (mFz (mLst (mCons (mC (.int 0)) (mCons (mC (.int 0)) (mCons (mC (.int 0)) (mCons (mFz (mCall [.io, .b] 2 m_l_deal (mCons (mVar 0) (mCons (mPl (mOp gPow (mPl (mC (.int 10))) (mPl (mC (.int 29))))) mNil)))) mNil))))))) (mPl (mFz (mCall [.io, .b] 2 m_l_deal (mCons (mVar 0) (mCons (mPl (mC (.int 4))) mNil)))))))))
    (mSeq (mSet 6 (mLc (mRng1 (mC (.int 2))) (tName 9) [9] mYes (mFz (mCall [.io, .b] 3 m_l_said (mCons (mVar 0) (mCons (mVar 4) mNil))))))
    (mSeq (mSet 7 (mCall [.io, .b] 2 m_l_deal (mCons (mVar 0) (mCons (mPl (mC (.int 6))) mNil))))
    (mSeq (mSet 8 (mLst mNil))
    (mSeq (mFor (mRng1 (mFz (mRv (mVar 3)))) (tName 9) mb_l_crew_1)
    (mRet (mRv (mVar 8)))))))))))
def m_l_is_count : M Fl := (mRet (mRv (mPl (mAndV (mUn (gIsi ["int"]) (mVar 0)) (mAndV (mNotV (mUn (gIsi ["bool"]) (mVar 0))) (mOp gGe (mVar 0) (mPl (mC (.int 0)))))))))
def m_l_is_said : M Fl := (mSeq (mIf (mOr (mNot (mTr (mPl (mUn (gIsi ["tuple"]) (mVar 0))))) (mOr (mB (mOp gNe (mPl (mN gLen (mCons (mVar 0) mNil))) (mPl (mC (.int 2))))) (mNot (mTr (mPl (mFz (mCall [.b] 0 m_l_is_count (mCons (mPl (mOp gIx (mVar 0) (mPl (mC (.int 0))))) mNil)))))))) (mRet (mRv (mPl (mC (.bool false))))) mSkip)
    (mRet (mRv (mPl (mOrV (mOp gIs (mPl (mOp gIx (mVar 0) (mPl (mC (.int 1))))) (mPl (mC .none))) (mAndV (mFz (mCall [.b] 0 m_l_is_count (mCons (mPl (mOp gIx (mVar 0) (mPl (mC (.int 1))))) mNil))) (mOp gGe (mPl (mOp gIx (mVar 0) (mPl (mC (.int 1))))) (mPl (mOp gIx (mVar 0) (mPl (mC (.int 0))))))))))))
def m_l_is_crew : M Fl := (mSeq (mIf (mNot (mTr (mPl (mUn (gIsi ["list", "tuple"]) (mVar 0))))) (mRet (mRv (mPl (mC (.bool false))))) mSkip)
    (mRet (mRv (mPl (mOp gEq (mPl (mFz (mLc (mIter (mVar 0)) (tName 1) [1] (mNot (mTr (mPl (mFz (mCall [.b] 0 m_l_is_said (mCons (mVar 1) mNil)))))) (mC (.int 1))))) (mPl (mFz (mLst mNil))))))))
def m_l_odd : M Fl := (mSeq (mSet 1 (mLst (mCons (mC .none) (mCons (mC (.bool true)) (mCons (mC (.bool false)) (mCons (mNegU (mC (.int 1))) (mCons (mC (.int 0)) (mCons (mC (.int 7)) (mCons (mOp gSub' (mPl (mOp gPow (mPl (mC (.int 10))) (mPl (mC (.int 30))))) (mPl (mC (.int 1)))) (mCons (mNegU (mOp gPow (mPl (mC (.int 10))) (mPl (mC (.int 29))))) (mCons (mC (.str "")) (mCons (mC (.str "3")) (mCons (mC (.str "ab")) (mCons (mFz (mLst mNil)) (mCons (mTup mNil) (mCons mDict0 (mCons (mTup (mCons (mC (.int 0)) mNil)) (mCons (mTup (mCons (mC (.int 0)) (mCons (mC (.int 1)) (mCons (mC (.int 2)) mNil)))) mNil))))))))))))))))))
    (mSeq (mSet 1 (mOpX gAdd (mVar 1) (mPl (mFz (mLst (mCons (mTup (mCons (mC (.int 1)) (mCons (mC (.int 0)) mNil))) (mCons (mTup (mCons (mC (.int 0)) (mCons (mNegU (mC (.int 1))) mNil))) (mCons (mTup (mCons (mNegU (mC (.int 1))) (mCons (mC (.int 0)) mNil))) (mCons (mTup (mCons (mC (.bool true)) (mCons (mC (.int 1)) mNil))) (mCons (mTup (mCons (mC (.int 0)) (mCons (mC (.bool true)) mNil))) (mCons (mTup (mCons (mC (.int 0)) (mCons (mC (.str "1")) mNil))) (mCons (mTup (mCons (mC .none) (mCons (mC (.int 0)) mNil))) (mCons (mTup (mCons (mC .none) (mCons (mC .none) mNil))) mNil)))))))))))))
    (mSeq (mSet 1 (mOpX gAdd (mVar 1) (mPl (mFz (mLst (mCons (mTup (mCons (mTup (mCons (mC (.int 0)) (mCons (mC (.int 1)) mNil))) mNil)) (mCons (mTup (mCons (mC (.int 0)) (mCons (mFz (mLst (mCons (mC (.int 1)) mNil))) mNil))) (mCons (mTup (mCons (mC (.int 3)) (mCons (mC .none) mNil))) (mCons (mTup (mCons (mC (.int 0)) (mCons (mC (.int 0)) mNil))) (mCons (mTup (mCons (mC (.int 2)) (mCons (mOp gSub' (mPl (mOp gPow (mPl (mC (.int 10))) (mPl (mC (.int 30))))) (mPl (mC (.int 1)))) mNil))) (mCons (mFz (mLst (mCons (mTup (mCons (mC (.int 0)) (mCons (mC (.int 1)) mNil))) mNil))) (mCons (mFz (mLst (mCons (mTup (mCons (mC (.int 0)) (mCons (mC (.int 1)) mNil))) (mCons (mTup (mCons (mC (.int 2)) (mCons (mC (.int 1)) mNil))) mNil)))) mNil))))))))))))
    (mSeq (mSet 1 (mOpX gAdd (mVar 1) (mPl (mFz (mLst (mCons (mTup (mCons (mTup (mCons (mC (.int 4)) (mCons (mC .none) mNil))) (mCons (mTup (mCons (mC (.int 4)) (mCons (mC (.int 4)) mNil))) mNil))) (mCons (mFz (mLst (mCons (mFz (mLst (mCons (mC (.int 0)) (mCons (mC (.int 1)) mNil)))) mNil))) (mCons (mTup (mCons (mC (.int 5)) (mCons (mC (.int 4)) mNil))) (mCons (mFz (mLst (mCons (mC (.int 0)) (mCons (mC (.int 1)) mNil)))) (mCons (mFz (mLst (mCons (mC .none) mNil))) (mCons (mFz (mLst (mCons (mTup mNil) mNil))) (mCons (mFz (mFr (mDict1 (mC (.int 0)) (mTup (mCons (mC (.int 0)) (mCons (mC (.int 1)) mNil)))))) mNil))))))))))))
    (mRet (mRv (mPl (mOp gIx (mVar 1) (mPl (mFz (mCall [.io, .b] 2 m_l_deal (mCons (mVar 0) (mCons (mPl (mC (.int 38))) mNil)))))))))))))
def m_l_bent : M Fl := (mSeq (mSet 2 (mCall [.io, .b] 2 m_l_deal (mCons (mVar 0) (mCons (mPl (mFz (mOpX gAdd (mPl (mN gLen (mCons (mVar 1) mNil))) (mPl (mC (.int 1)))))) mNil))))
    (mSeq (mSet 3 (mCall [.io, .b] 2 m_l_deal (mCons (mVar 0) (mCons (mPl (mC (.int 4))) mNil))))
    (mSeq (mSet 4 (mOpX gAdd (mSliceP (mVar 1) none (some (mFz (mRv (mVar 2))))) (mSliceP (mVar 1) (some (mFz (mOpX gAdd (mVar 2) (mPl (mC (.int 1)))))) none)))
    (mSeq (mIf (mB (mOp gLt (mVar 3) (mPl (mC (.int 2))))) (mSet 4 (mOpX gAdd (mPl (mFz (mOpX gAdd (mSliceP (mVar 1) none (some (mFz (mRv (mVar 2))))) (mPl (mFz (mLst (mCons (mFz (mCall [.io] 1 m_l_odd (mCons (mVar 0) mNil))) mNil))))))) (mSliceP (mVar 1) (some (mFz (mOpX gAdd (mVar 2) (mVar 3)))) none))) mSkip)
    (mSeq (mIf (mB (mOp gEq (mVar 3) (mPl (mC (.int 2))))) (mSet 4 (mOpX gAdd (mPl (mFz (mLc (mIter (mPl (mFz (mSlice (mVar 1) (some (mFz (mRv (mVar 2)))) (some (mFz (mOpX gAdd (mVar 2) (mPl (mC (.int 1)))))))))) (tName 5) [5] mYes (mFz (mFr (mN gList (mCons (mVar 5) mNil))))))) (mVar 1))) mSkip)
    (mRet (mRv (mPl (mIf (mB (mOp gEq (mPl (mFz (mCall [.io, .b] 2 m_l_deal (mCons (mVar 0) (mCons (mPl (mC (.int 3))) mNil))))) (mPl (mC (.int 0))))) (mN gTuple (mCons (mVar 4) mNil)) (mFz (mRv (mVar 4))))))))))))
def mb_law_1 : M Fl := (mSeq (mSet 5 (mRv (mPl (mOp gIx (mPl (mFz (mLst (mCons (mFz (mCall [.io] 1 m_l_odd (mCons (mVar 2) mNil))) (mCons (mFz (mCall [.io, .b] 4 m_l_bent (mCons (mVar 2) (mCons (mVar 3) mNil)))) mNil))))) (mPl (mOp gMod (mVar 4) (mPl (mC (.int 2)))))))))
    (mSeq (mIf (mB (mOp gEq (mVar 4) (mPl (mC (.int 0))))) (mSet 5 (mCall [.io, .b] 3 m_l_said (mCons (mVar 2) (mCons (mPl (mOp gPow (mPl (mC (.int 10))) (mPl (mC (.int 29))))) mNil)))) mSkip)
    (mSeq (mSet 6 (mRv (mPl (mN gRepr (mCons (mVar 5) mNil)))))
    (mSeq (mSet 7 (mLst (mCons (mFz (mCall [.b] 0 m_is_number (mCons (mVar 5) mNil))) (mCons (mFz (mCall [.v] 0 m_is_saying (mCons (mPl (mFz (mRv (mVar 5)))) mNil))) (mCons (mFz (mCall [.b] 3 m_is_row (mCons (mVar 5) mNil))) mNil)))))
    (mSeq (mSet 8 (mLst (mCons (mFz (mCall [.b] 0 m_l_is_count (mCons (mVar 5) mNil))) (mCons (mFz (mCall [.b] 0 m_l_is_said (mCons (mVar 5) mNil))) (mCons (mFz (mCall [.b] 1 m_l_is_crew (mCons (mVar 5) mNil))) mNil)))))
    (mIf (mOr (mB (mOp gNe (mPl (mN gRepr (mCons (mVar 7) mNil))) (mPl (mN gRepr (mCons (mVar 8) mNil))))) (mB (mOp gNe (mPl (mN gRepr (mCons (mVar 5) mNil))) (mVar 6)))) (mRet (mRv (mPl (mC (.bool false))))) mSkip))))))
def mb_law_2 : M Fl := (mSeq (mSet 2 (mCall [.s, .b] 1 m_l_tin (mCons (mVar 0) (mCons (mVar 1) mNil))))
    (mSeq (mSet 3 (mCall [.io, .b] 9 m_l_crew (mCons (mVar 2) (mCons (mPl (mC (.int 12))) mNil))))
    (mSeq (mIf (mOr (mB (mOp gNot (mPl (mFz (mCall [.b] 3 m_is_row (mCons (mVar 3) mNil)))) (mPl (mC (.bool true))))) (mOr (mB (mOp gNot (mPl (mFz (mCall [.b] 3 m_is_row (mCons (mPl (mN gTuple (mCons (mVar 3) mNil))) mNil)))) (mPl (mC (.bool true))))) (mB (mOp gNot (mPl (mFz (mCall [.b] 3 m_is_row (mCons (mPl (mFz (mLst mNil))) mNil)))) (mPl (mC (.bool true))))))) (mRet (mRv (mPl (mC (.bool false))))) mSkip)
    (mFor (mRng1 (mC (.int 12))) (tName 4) mb_law_1))))
def m_law : M Fl := (mSeq (mFor (mRng1 (mN gMax2 (mCons (mPl (mC (.int 1))) (mCons (mPl (mN gMin2 (mCons (mPl (mC (.int 12))) (mCons (mPl (mLenS 0)) mNil)))) mNil)))) (tName 1) mb_law_2)
    (mRet (mRv (mPl (mC (.bool true))))))
structure Tx (K : PySem.W.Frag) (mg : Str → Option Value) (a_is_number : Addr) (d_is_number : FuncData) (a_is_row : Addr) (d_is_row : FuncData) (a_is_saying : Addr) (d_is_saying : FuncData) (a_l_tin : Addr) (d_l_tin : FuncData) (a_l_deal : Addr) (d_l_deal : FuncData) (a_l_said : Addr) (d_l_said : FuncData) (a_l_crew : Addr) (d_l_crew : FuncData) (a_l_is_count : Addr) (d_l_is_count : FuncData) (a_l_is_said : Addr) (d_l_is_said : FuncData) (a_l_is_crew : Addr) (d_l_is_crew : FuncData) (a_l_odd : Addr) (d_l_odd : FuncData) (a_l_bent : Addr) (d_l_bent : FuncData) (a_law : Addr) (d_law : FuncData) : Prop where
  n_abs : mg "abs" = none
  n_bool : mg "bool" = none
  n_int : mg "int" = none
  n_isinstance : mg "isinstance" = none
  n_len : mg "len" = none
  n_list : mg "list" = none
  n_max : mg "max" = none
  n_min : mg "min" = none
  n_range : mg "range" = none
  n_repr : mg "repr" = none
  n_tuple : mg "tuple" = none
  f_is_number : Fun K "is_number" "is_number" s_is_number a_is_number d_is_number
  g_is_number : mg "is_number" = some (.ref a_is_number)
  b_is_number : Binds K d_is_number ["thing"] []
  f_is_row : Fun K "is_row" "is_row" s_is_row a_is_row d_is_row
  g_is_row : mg "is_row" = some (.ref a_is_row)
  b_is_row : Binds K d_is_row ["thing"] []
  f_is_saying : Fun K "is_saying" "is_saying" s_is_saying a_is_saying d_is_saying
  g_is_saying : mg "is_saying" = some (.ref a_is_saying)
  b_is_saying : Binds K d_is_saying ["thing"] []
  f_l_tin : Fun K "_law_tin" "_law_tin" s_l_tin a_l_tin d_l_tin
  g_l_tin : mg "_law_tin" = some (.ref a_l_tin)
  b_l_tin : Binds K d_l_tin ["_law_script", "_law_k"] []
  f_l_deal : Fun K "_law_deal" "_law_deal" s_l_deal a_l_deal d_l_deal
  g_l_deal : mg "_law_deal" = some (.ref a_l_deal)
  b_l_deal : Binds K d_l_deal ["_law_tin_here", "_law_wide"] []
  f_l_said : Fun K "_law_said" "_law_said" s_l_said a_l_said d_l_said
  g_l_said : mg "_law_said" = some (.ref a_l_said)
  b_l_said : Binds K d_l_said ["_law_tin_here", "_law_wide"] []
  f_l_crew : Fun K "_law_crew" "_law_crew" s_l_crew a_l_crew d_l_crew
  g_l_crew : mg "_law_crew" = some (.ref a_l_crew)
  b_l_crew : Binds K d_l_crew ["_law_tin_here", "_law_most"] []
  f_l_is_count : Fun K "_law_is_count" "_law_is_count" s_l_is_count a_l_is_count d_l_is_count
  g_l_is_count : mg "_law_is_count" = some (.ref a_l_is_count)
  b_l_is_count : Binds K d_l_is_count ["_law_thing"] []
  f_l_is_said : Fun K "_law_is_said" "_law_is_said" s_l_is_said a_l_is_said d_l_is_said
  g_l_is_said : mg "_law_is_said" = some (.ref a_l_is_said)
  b_l_is_said : Binds K d_l_is_said ["_law_thing"] []
  f_l_is_crew : Fun K "_law_is_crew" "_law_is_crew" s_l_is_crew a_l_is_crew d_l_is_crew
  g_l_is_crew : mg "_law_is_crew" = some (.ref a_l_is_crew)
  b_l_is_crew : Binds K d_l_is_crew ["_law_thing"] []
  f_l_odd : Fun K "_law_odd" "_law_odd" s_l_odd a_l_odd d_l_odd
  g_l_odd : mg "_law_odd" = some (.ref a_l_odd)
  b_l_odd : Binds K d_l_odd ["_law_tin_here"] []
  f_l_bent : Fun K "_law_bent" "_law_bent" s_l_bent a_l_bent d_l_bent
  g_l_bent : mg "_law_bent" = some (.ref a_l_bent)
  b_l_bent : Binds K d_l_bent ["_law_tin_here", "_law_crew_here"] []
  f_law : Fun K "law" "law" s_law a_law d_law
  g_law : mg "law" = some (.ref a_law)
  b_law : Binds K d_law ["_law_script"] []
section
variable {P : Program} {w : World} {K : PySem.W.Frag} {mg : Str → Option Value} {base : Heap} {a_is_number a_is_row a_is_saying a_l_tin a_l_deal a_l_said a_l_crew a_l_is_count a_l_is_said a_l_is_crew a_l_odd a_l_bent a_law : Addr} {d_is_number d_is_row d_is_saying d_l_tin d_l_deal d_l_said d_l_crew d_l_is_count d_l_is_said d_l_is_crew d_l_odd d_l_bent d_law : FuncData}
theorem ok_is_number (T : Tx K mg a_is_number d_is_number a_is_row d_is_row a_is_saying d_is_saying a_l_tin d_l_tin a_l_deal d_l_deal a_l_said d_l_said a_l_crew d_l_crew a_l_is_count d_l_is_count a_l_is_said d_l_is_said a_l_is_crew d_l_is_crew a_l_odd d_l_odd a_l_bent d_l_bent a_law d_law) : FnG P w K mg base 1 a_is_number d_is_number ["thing"] (spD K 1 0 m_is_number) :=
  fnG_pl T.f_is_number sc_is_number rfl rfl fun cdv A outer s H E hG hr => have sc := sc_is_number; (psts_one (pst_ret (pf_of (pp_of (pv_and (pv_isi (by rfl) T.n_isinstance (pp_name 0) (pe_ty (by rfl) T.n_int PyProof.Rows.boot_int) (by decide)) (pv_and (pv_not (pv_isi (by rfl) T.n_isinstance (pp_name 0) (pe_ty (by rfl) T.n_bool PyProof.Rows.boot_bool) (by decide))) (pv_one (pv_ge (pp_name 0) (pp_of pv_int)))))))))
theorem ok_is_row (T : Tx K mg a_is_number d_is_number a_is_row d_is_row a_is_saying d_is_saying a_l_tin d_l_tin a_l_deal d_l_deal a_l_said d_l_said a_l_crew d_l_crew a_l_is_count d_l_is_count a_l_is_said d_l_is_said a_l_is_crew d_l_is_crew a_l_odd d_l_odd a_l_bent d_l_bent a_law d_law) : FnG P w K mg base 1 a_is_row d_is_row ["thing"] (spD K 1 3 m_is_row) :=
  fnG_pl T.f_is_row sc_is_row rfl rfl fun cdv A outer s H E hG hr => have sc := sc_is_row; (psts_cons (pst_if (ptt_not (ptt_truth (pp_of (pv_isiT (by rfl) T.n_isinstance (pp_name 0) (pa_tyC (pe_ty (by rfl) T.n_list PyProof.Rows.boot_list) (pa_tyC (pe_ty (by rfl) T.n_tuple PyProof.Rows.boot_tuple) pa_tyN)) (by decide) (by decide))))) (psts_one (pst_ret (pf_of (pp_of pv_bl)))) psts_nil)
      (psts_cons (pst_for PassesOwn.never rfl (pit_seq (pp_name 0)) (pgt_name (i := 1) sc.nd) (psts_cons (pst_if (pt_of (pwt_or (ptt_not (ptt_truth (pp_of (pv_isi (by rfl) T.n_isinstance (pp_name 1) (pe_ty (by rfl) T.n_tuple PyProof.Rows.boot_tuple) (by decide))))) (pwt_or1 (pt_ne hr.units (pp_of (pv_len (by rfl) T.n_len (pps_cons' (pp_name 1) pps_nil'))) (pp_of pv_int))))) (psts_one (pst_ret (pf_of (pp_of pv_bl)))) psts_nil)
      (psts_cons (pst_asg (pv_of (pf_of (pp_name 1))) (pgt_tup rfl (pgts_cons (pgt_name (i := 2) sc.nd) (pgts_cons (pgt_name (i := 3) sc.nd) pgts_nil)) rfl (tsCons_len (tsCons_len tsNil_len))))
      (psts_cons (pst_if (pt_of (pwt_or (ptt_not (ptt_truth (pp_of (pv_isi (by rfl) T.n_isinstance (pp_name 2) (pe_ty (by rfl) T.n_int PyProof.Rows.boot_int) (by decide))))) (pwt_or (pt_lt (pp_name 2) (pp_of pv_int)) (pwt_or (pt_is (pp_name 2) (pp_of pv_bl)) (pwt_or1 (pt_is (pp_name 2) (pp_of pv_bl))))))) (psts_one (pst_ret (pf_of (pp_of pv_bl)))) psts_nil)
      (psts_one (pst_if (pt_of (pwt_and (pt_isnot (pp_name 3) (pp_of pv_non)) (pwt_and1 (pt_of (pwt_or (ptt_not (ptt_truth (pp_of (pv_isi (by rfl) T.n_isinstance (pp_name 3) (pe_ty (by rfl) T.n_int PyProof.Rows.boot_int) (by decide))))) (pwt_or (pt_lt (pp_name 3) (pp_name 2)) (pwt_or (pt_is (pp_name 3) (pp_of pv_bl)) (pwt_or1 (pt_is (pp_name 3) (pp_of pv_bl)))))))))) (psts_one (pst_ret (pf_of (pp_of pv_bl)))) psts_nil))))))
      (psts_one (pst_ret (pf_of (pp_of pv_bl))))))
theorem ok_is_saying (T : Tx K mg a_is_number d_is_number a_is_row d_is_row a_is_saying d_is_saying a_l_tin d_l_tin a_l_deal d_l_deal a_l_said d_l_said a_l_crew d_l_crew a_l_is_count d_l_is_count a_l_is_said d_l_is_said a_l_is_crew d_l_is_crew a_l_odd d_l_odd a_l_bent d_l_bent a_law d_law) : FnG P w K mg base 2 a_is_saying d_is_saying ["thing"] (spD K 1 0 m_is_saying) :=
  fnG_pl T.f_is_saying sc_is_saying rfl rfl fun cdv A outer s H E hG hr => have sc := sc_is_saying; (psts_one (pst_ret (pf_callG (ok_is_row T) hG (hr.mono (by decide)) (by rfl) T.g_is_row T.f_is_row.kp T.b_is_row (pps_cons' (pp_of (pv_of (pf_lst (pvs_cons (pv_of (pf_of (pp_name 0))) pvs_nil)))) pps_nil') (ms := [.b]) rfl)))
theorem ok_l_tin (T : Tx K mg a_is_number d_is_number a_is_row d_is_row a_is_saying d_is_saying a_l_tin d_l_tin a_l_deal d_l_deal a_l_said d_l_said a_l_crew d_l_crew a_l_is_count d_l_is_count a_l_is_said d_l_is_said a_l_is_crew d_l_is_crew a_l_odd d_l_odd a_l_bent d_l_bent a_law d_law) : FnG P w K mg base 1 a_l_tin d_l_tin ["_law_script", "_law_k"] (spD K 2 1 m_l_tin) :=
  fnG_pl T.f_l_tin sc_l_tin rfl rfl fun cdv A outer s H E hG hr => have sc := sc_l_tin; (psts_cons (pst_set (i := 2) sc.nd (pf_of (pp_of pv_int)))
      (psts_cons (pst_if (pt_lt (pp_name 1) (pp_of (pv_lenS 0 (by rfl) T.n_len))) (psts_one (pst_set (i := 2) sc.nd (pf_of (pp_of (pv_ixS 0 (pv_of (pf_of (pp_name 1)))))))) psts_nil)
      (psts_one (pst_ret (pf_lst (pvs_cons (pv_max2 rfl (by rfl) T.n_max (pps_cons' (pp_of pv_int) (pps_cons' (pp_of (pv_sub (pp_of (pv_abs (by rfl) T.n_abs (pps_cons' (pp_name 2) pps_nil'))) (pp_of (pv_pow (pp_of pv_int) (pp_of pv_int))))) pps_nil'))) (pvs_cons (pv_of (pf_add (pp_of (pv_of (pf_mul (pp_of (pv_mod (pp_name 2) (pp_of (pv_of (pf_add (pp_of (pv_pow (pp_of pv_int) (pp_of pv_int))) (pp_of pv_int)))))) (pp_of pv_int)))) (pp_name 1))) (pvs_cons pv_int pvs_nil))))))))
theorem ok_l_deal (T : Tx K mg a_is_number d_is_number a_is_row d_is_row a_is_saying d_is_saying a_l_tin d_l_tin a_l_deal d_l_deal a_l_said d_l_said a_l_crew d_l_crew a_l_is_count d_l_is_count a_l_is_said d_l_is_said a_l_is_crew d_l_is_crew a_l_odd d_l_odd a_l_bent d_l_bent a_law d_law) : FnG P w K mg base 1 a_l_deal d_l_deal ["_law_tin_here", "_law_wide"] (spD K 2 2 m_l_deal) :=
  fnG_pl T.f_l_deal sc_l_deal rfl rfl fun cdv A outer s H E hG hr => have sc := sc_l_deal; (psts_cons (pst_if (pt_gt (pp_of (pv_ix (pp_name 0) (pp_of pv_int))) (pp_of pv_int)) (psts_cons (pst_set (i := 2) sc.nd (pf_of (pp_of (pv_mod (pp_of (pv_ix (pp_name 0) (pp_of pv_int))) (pp_name 1)))))
      (psts_cons (pst_setix (j := 0) (pv_fdiv (pp_of (pv_ix (pp_name 0) (pp_of pv_int))) (pp_name 1)) pv_int)
      (psts_one (pst_ret (pf_of (pp_name 2)))))) psts_nil)
      (psts_cons (pst_setix (j := 0) (pv_of (pf_add (pp_of (pv_ix (pp_name 0) (pp_of pv_int))) (pp_of pv_int))) pv_int)
      (psts_cons (pst_set (i := 3) sc.nd (pf_of (pp_of (pv_mod (pp_of (pv_pow (pp_of (pv_of (pf_add (pp_of (pv_ix (pp_name 0) (pp_of pv_int))) (pp_of (pv_of (pf_mul (pp_of pv_int) (pp_of (pv_ix (pp_name 0) (pp_of pv_int))))))))) (pp_of pv_int))) (pp_of (pv_of (pf_add (pp_of (pv_pow (pp_of pv_int) (pp_of pv_int))) (pp_of pv_int))))))))
      (psts_cons (pst_set (i := 3) sc.nd (pf_of (pp_of (pv_mod (pp_of (pv_pow (pp_of (pv_of (pf_add (pp_name 3) (pp_of (pv_of (pf_mul (pp_of pv_int) (pp_of (pv_ix (pp_name 0) (pp_of pv_int))))))))) (pp_of pv_int))) (pp_of (pv_of (pf_add (pp_of (pv_pow (pp_of pv_int) (pp_of pv_int))) (pp_of pv_int))))))))
      (psts_one (pst_ret (pf_of (pp_of (pv_mod (pp_of (pv_fdiv (pp_name 3) (pp_of pv_int))) (pp_name 1))))))))))
theorem ok_l_said (T : Tx K mg a_is_number d_is_number a_is_row d_is_row a_is_saying d_is_saying a_l_tin d_l_tin a_l_deal d_l_deal a_l_said d_l_said a_l_crew d_l_crew a_l_is_count d_l_is_count a_l_is_said d_l_is_said a_l_is_crew d_l_is_crew a_l_odd d_l_odd a_l_bent d_l_bent a_law d_law) : FnG P w K mg base 2 a_l_said d_l_said ["_law_tin_here", "_law_wide"] (spD K 2 3 m_l_said) :=
  fnG_pl T.f_l_said sc_l_said rfl rfl fun cdv A outer s H E hG hr => have sc := sc_l_said; (psts_cons (pst_set (i := 2) sc.nd (pf_callG (ok_l_deal T) hG (hr.mono (by decide)) (by rfl) T.g_l_deal T.f_l_deal.kp T.b_l_deal (pps_cons' (pp_name 0) (pps_cons' (pp_name 1) pps_nil')) (ms := [.io, .b]) rfl))
      (psts_cons (pst_set (i := 3) sc.nd (pf_add (pp_name 2) (pp_of (pv_of (pf_callG (ok_l_deal T) hG (hr.mono (by decide)) (by rfl) T.g_l_deal T.f_l_deal.kp T.b_l_deal (pps_cons' (pp_name 0) (pps_cons' (pp_name 1) pps_nil')) (ms := [.io, .b]) rfl)))))
      (psts_cons (pst_set (i := 4) sc.nd (pf_lst (pvs_cons (pv_tup (pvs_cons (pv_of (pf_of (pp_name 2))) (pvs_cons pv_non pvs_nil))) (pvs_cons (pv_tup (pvs_cons (pv_of (pf_of (pp_name 2))) (pvs_cons (pv_of (pf_of (pp_name 2))) pvs_nil))) (pvs_cons (pv_tup (pvs_cons pv_int (pvs_cons (pv_of (pf_of (pp_name 2))) pvs_nil))) (pvs_cons (pv_tup (pvs_cons (pv_of (pf_of (pp_name 2))) (pvs_cons (pv_of (pf_of (pp_name 3))) pvs_nil))) (pvs_cons (pv_tup (pvs_cons pv_int (pvs_cons pv_non pvs_nil))) pvs_nil)))))))
      (psts_one (pst_ret (pf_of (pp_of (pv_ix (pp_name 4) (pp_of (pv_mod (pp_of (pv_of (pf_callG (ok_l_deal T) hG (hr.mono (by decide)) (by rfl) T.g_l_deal T.f_l_deal.kp T.b_l_deal (pps_cons' (pp_name 0) (pps_cons' (pp_of pv_int) pps_nil')) (ms := [.io, .b]) rfl))) (pp_of pv_int)))))))))))
theorem ok_l_crew (T : Tx K mg a_is_number d_is_number a_is_row d_is_row a_is_saying d_is_saying a_l_tin d_l_tin a_l_deal d_l_deal a_l_said d_l_said a_l_crew d_l_crew a_l_is_count d_l_is_count a_l_is_said d_l_is_said a_l_is_crew d_l_is_crew a_l_odd d_l_odd a_l_bent d_l_bent a_law d_law) : FnG P w K mg base 3 a_l_crew d_l_crew ["_law_tin_here", "_law_most"] (spD K 2 9 m_l_crew) :=
  fnG_pl T.f_l_crew sc_l_crew rfl rfl fun cdv A outer s H E hG hr => have sc := sc_l_crew; (psts_cons (pst_set (i := 2) sc.nd (pf_lst (pvs_cons (pv_of (pf_callG (ok_l_deal T) hG (hr.mono (by decide)) (by rfl) T.g_l_deal T.f_l_deal.kp T.b_l_deal (pps_cons' (pp_name 0) (pps_cons' (pp_of pv_int) pps_nil')) (ms := [.io, .b]) rfl)) (pvs_cons (pv_of (pf_callG (ok_l_deal T) hG (hr.mono (by decide)) (by rfl) T.g_l_deal T.f_l_deal.kp T.b_l_deal (pps_cons' (pp_name 0) (pps_cons' (pp_of pv_int) pps_nil')) (ms := [.io, .b]) rfl)) (pvs_cons (pv_of (pf_callG (ok_l_deal T) hG (hr.mono (by decide)) (by rfl) T.g_l_deal T.f_l_deal.kp T.b_l_deal (pps_cons' (pp_name 0) (pps_cons' (pp_of (pv_of (pf_add (pp_name 1) (pp_of pv_int)))) pps_nil')) (ms := [.io, .b]) rfl)) pvs_nil)))))
      (psts_cons (pst_set (i := 3) sc.nd (pf_of (pp_of (pv_min2 rfl (by rfl) T.n_min (pps_cons' (pp_name 1) (pps_cons' (pp_of (pv_ix (pp_name 2) (pp_of (pv_of (pf_callG (ok_l_deal T) hG (hr.mono (by decide)) (by rfl) T.g_l_deal T.f_l_deal.kp T.b_l_deal (pps_cons' (pp_name 0) (pps_cons' (pp_of pv_int) pps_nil')) (ms := [.io, .b]) rfl))))) pps_nil'))))))
      (psts_cons (pst_set (i := 4) sc.nd (pf_of (pp_of (pv_ix (pp_of (pv_of (pf_lst (pvs_cons pv_int (pvs_cons pv_int (pvs_cons pv_int (pvs_cons (pv_of (pf_add (pp_name 3) (pp_of pv_int))) pvs_nil))))))) (pp_of (pv_of (pf_callG (ok_l_deal T) hG (hr.mono (by decide)) (by rfl) T.g_l_deal T.f_l_deal.kp T.b_l_deal (pps_cons' (pp_name 0) (pps_cons' (pp_of pv_int) pps_nil')) (ms := [.io, .b]) rfl)))))))
      (psts_cons (pst_set (i := 5) sc.nd (pf_of (pp_of (pv_ix (pp_of (pv_of (pf_lst (pvs_cons pv_int (pvs_cons pv_int (pvs_cons pv_int (pvs_cons (pv_of (pf_callG (ok_l_deal T) hG (hr.mono (by decide)) (by rfl) T.g_l_deal T.f_l_deal.kp T.b_l_deal (pps_cons' (pp_name 0) (pps_cons' (pp_of (pv_pow (pp_of pv_int) (pp_of pv_int))) pps_nil')) (ms := [.io, .b]) rfl)) pvs_nil))))))) (pp_of (pv_of (pf_callG (ok_l_deal T) hG (hr.mono (by decide)) (by rfl) T.g_l_deal T.f_l_deal.kp T.b_l_deal (pps_cons' (pp_name 0) (pps_cons' (pp_of pv_int) pps_nil')) (ms := [.io, .b]) rfl)))))))
      (psts_cons (pst_setLc (own := [("_law_k", 9)]) (i := 6) rfl sc.nd rfl rfl (sw_true rfl rfl rfl (by decide +kernel)) (pit_rng1 (by rfl) T.n_range pv_int) (blkOk_by (own := [("_law_k", 9)]) (N := ["_law_tin_here", "_law_most", "_law_some", "_law_size", "_law_wide", "_law_base", "_law_lore", "_law_kind", "_law_found", "_law_k", "_law_claim"]) (sc := defScope s_l_crew) (by decide +kernel)) (fun _ _ _ _ _ => (pgt_name (i := 9) sc.nd)) (fun _ _ _ _ _ => (pv_of (pf_callG (ok_l_said T) hG (hr.mono (by decide)) (by rfl) T.g_l_said T.f_l_said.kp T.b_l_said (pps_cons' (pp_name 0) (pps_cons' (pp_name 4) pps_nil')) (ms := [.io, .b]) rfl))))
      (psts_cons (pst_set (i := 7) sc.nd (pf_callG (ok_l_deal T) hG (hr.mono (by decide)) (by rfl) T.g_l_deal T.f_l_deal.kp T.b_l_deal (pps_cons' (pp_name 0) (pps_cons' (pp_of pv_int) pps_nil')) (ms := [.io, .b]) rfl))
      (psts_cons (pst_set (i := 8) sc.nd (pf_lst pvs_nil))
      (psts_cons (pst_for PassesOwn.never rfl (pit_rng1 (by rfl) T.n_range (pv_of (pf_of (pp_name 3)))) (pgt_name (i := 9) sc.nd) (psts_cons (pst_set (i := 10) sc.nd (pf_callG (ok_l_said T) hG (hr.mono (by decide)) (by rfl) T.g_l_said T.f_l_said.kp T.b_l_said (pps_cons' (pp_name 0) (pps_cons' (pp_name 4) pps_nil')) (ms := [.io, .b]) rfl))
      (psts_cons (pst_if (pt_gt (pp_name 7) (pp_of pv_int)) (psts_one (pst_set (i := 10) sc.nd (pf_of (pp_of (pv_ix (pp_of (pv_of (pf_lst (pvs_cons (pv_ix (pp_name 6) (pp_of pv_int)) (pvs_cons (pv_ix (pp_name 6) (pp_of (pv_mod (pp_name 9) (pp_of pv_int)))) (pvs_cons (pv_tup (pvs_cons (pv_of (pf_of (pp_name 9))) (pvs_cons (pv_of (pf_of (pp_name 9))) pvs_nil))) pvs_nil)))))) (pp_of (pv_sub (pp_name 7) (pp_of pv_int)))))))) psts_nil)
      (psts_one (pst_drop (pv_mut (j := 8) PySem.F.slot_list_append PySem.F.type_list_append mt_append pmut_append (pvs_cons (pv_tup (pvs_cons (pv_of (pf_add (pp_of (pv_ix (pp_name 10) (pp_of pv_int))) (pp_name 5))) (pvs_cons (pv_if (pt_is (pp_of (pv_ix (pp_name 10) (pp_of pv_int))) (pp_of pv_non)) pv_non (pv_of (pf_add (pp_of (pv_ix (pp_name 10) (pp_of pv_int))) (pp_name 5)))) pvs_nil))) pvs_nil)))))))
      (psts_one (pst_ret (pf_of (pp_name 8))))))))))))
theorem ok_l_is_count (T : Tx K mg a_is_number d_is_number a_is_row d_is_row a_is_saying d_is_saying a_l_tin d_l_tin a_l_deal d_l_deal a_l_said d_l_said a_l_crew d_l_crew a_l_is_count d_l_is_count a_l_is_said d_l_is_said a_l_is_crew d_l_is_crew a_l_odd d_l_odd a_l_bent d_l_bent a_law d_law) : FnG P w K mg base 1 a_l_is_count d_l_is_count ["_law_thing"] (spD K 1 0 m_l_is_count) :=
  fnG_pl T.f_l_is_count sc_l_is_count rfl rfl fun cdv A outer s H E hG hr => have sc := sc_l_is_count; (psts_one (pst_ret (pf_of (pp_of (pv_and (pv_isi (by rfl) T.n_isinstance (pp_name 0) (pe_ty (by rfl) T.n_int PyProof.Rows.boot_int) (by decide)) (pv_and (pv_not (pv_isi (by rfl) T.n_isinstance (pp_name 0) (pe_ty (by rfl) T.n_bool PyProof.Rows.boot_bool) (by decide))) (pv_one (pv_ge (pp_name 0) (pp_of pv_int)))))))))
theorem ok_l_is_said (T : Tx K mg a_is_number d_is_number a_is_row d_is_row a_is_saying d_is_saying a_l_tin d_l_tin a_l_deal d_l_deal a_l_said d_l_said a_l_crew d_l_crew a_l_is_count d_l_is_count a_l_is_said d_l_is_said a_l_is_crew d_l_is_crew a_l_odd d_l_odd a_l_bent d_l_bent a_law d_law) : FnG P w K mg base 2 a_l_is_said d_l_is_said ["_law_thing"] (spD K 1 0 m_l_is_said) :=
  fnG_pl T.f_l_is_said sc_l_is_said rfl rfl fun cdv A outer s H E hG hr => have sc := sc_l_is_said; (psts_cons (pst_if (pt_of (pwt_or (ptt_not (ptt_truth (pp_of (pv_isi (by rfl) T.n_isinstance (pp_name 0) (pe_ty (by rfl) T.n_tuple PyProof.Rows.boot_tuple) (by decide))))) (pwt_or (pt_ne hr.units (pp_of (pv_len (by rfl) T.n_len (pps_cons' (pp_name 0) pps_nil'))) (pp_of pv_int)) (pwt_or1 (ptt_not (ptt_truth (pp_of (pv_of (pf_callG (ok_l_is_count T) hG (hr.mono (by decide)) (by rfl) T.g_l_is_count T.f_l_is_count.kp T.b_l_is_count (pps_cons' (pp_of (pv_ix (pp_name 0) (pp_of pv_int))) pps_nil') (ms := [.b]) rfl))))))))) (psts_one (pst_ret (pf_of (pp_of pv_bl)))) psts_nil)
      (psts_one (pst_ret (pf_of (pp_of (pv_or (pv_is (pp_of (pv_ix (pp_name 0) (pp_of pv_int))) (pp_of pv_non)) (pv_one (pv_and (pv_of (pf_callG (ok_l_is_count T) hG (hr.mono (by decide)) (by rfl) T.g_l_is_count T.f_l_is_count.kp T.b_l_is_count (pps_cons' (pp_of (pv_ix (pp_name 0) (pp_of pv_int))) pps_nil') (ms := [.b]) rfl)) (pv_one (pv_ge (pp_of (pv_ix (pp_name 0) (pp_of pv_int))) (pp_of (pv_ix (pp_name 0) (pp_of pv_int)))))))))))))
theorem ok_l_is_crew (T : Tx K mg a_is_number d_is_number a_is_row d_is_row a_is_saying d_is_saying a_l_tin d_l_tin a_l_deal d_l_deal a_l_said d_l_said a_l_crew d_l_crew a_l_is_count d_l_is_count a_l_is_said d_l_is_said a_l_is_crew d_l_is_crew a_l_odd d_l_odd a_l_bent d_l_bent a_law d_law) : FnG P w K mg base 3 a_l_is_crew d_l_is_crew ["_law_thing"] (spD K 1 1 m_l_is_crew) :=
  fnG_pl T.f_l_is_crew sc_l_is_crew rfl rfl fun cdv A outer s H E hG hr => have sc := sc_l_is_crew; (psts_cons (pst_if (ptt_not (ptt_truth (pp_of (pv_isiT (by rfl) T.n_isinstance (pp_name 0) (pa_tyC (pe_ty (by rfl) T.n_list PyProof.Rows.boot_list) (pa_tyC (pe_ty (by rfl) T.n_tuple PyProof.Rows.boot_tuple) pa_tyN)) (by decide) (by decide))))) (psts_one (pst_ret (pf_of (pp_of pv_bl)))) psts_nil)
      (psts_one (pst_ret (pf_of (pp_of (pv_eq hr.units (pp_of (pv_of (pf_lcIf (own := [("_law_claim", 1)]) rfl sc.nd (pit_seq (pp_name 0)) (blkOk_by (own := [("_law_claim", 1)]) (N := ["_law_thing", "_law_claim"]) (sc := defScope s_l_is_crew) (by decide +kernel)) (fun _ _ _ _ _ => (pgt_name (i := 1) sc.nd)) (fun _ _ _ _ _ => (ptt_not (ptt_truth (pp_of (pv_of (pf_callG (ok_l_is_said T) hG (hr.mono (by decide)) (by rfl) T.g_l_is_said T.f_l_is_said.kp T.b_l_is_said (pps_cons' (pp_name 1) pps_nil') (ms := [.b]) rfl)))))) (fun _ _ _ _ _ => pv_int)))) (pp_of (pv_of (pf_lst pvs_nil)))))))))
theorem ok_l_odd (T : Tx K mg a_is_number d_is_number a_is_row d_is_row a_is_saying d_is_saying a_l_tin d_l_tin a_l_deal d_l_deal a_l_said d_l_said a_l_crew d_l_crew a_l_is_count d_l_is_count a_l_is_said d_l_is_said a_l_is_crew d_l_is_crew a_l_odd d_l_odd a_l_bent d_l_bent a_law d_law) : FnG P w K mg base 2 a_l_odd d_l_odd ["_law_tin_here"] (spD K 1 1 m_l_odd) :=
  fnG_pl T.f_l_odd sc_l_odd rfl rfl fun cdv A outer s H E hG hr => have sc := sc_l_odd; (psts_cons (pst_set (i := 1) sc.nd (pf_lst (pvs_cons pv_non (pvs_cons pv_bl (pvs_cons pv_bl (pvs_cons (pv_neg pv_int) (pvs_cons pv_int (pvs_cons pv_int (pvs_cons (pv_sub (pp_of (pv_pow (pp_of pv_int) (pp_of pv_int))) (pp_of pv_int)) (pvs_cons (pv_neg (pv_pow (pp_of pv_int) (pp_of pv_int))) (pvs_cons pv_str (pvs_cons pv_str (pvs_cons pv_str (pvs_cons (pv_of (pf_lst pvs_nil)) (pvs_cons (pv_tup pvs_nil) (pvs_cons pv_dict0 (pvs_cons (pv_tup (pvs_cons pv_int pvs_nil)) (pvs_cons (pv_tup (pvs_cons pv_int (pvs_cons pv_int (pvs_cons pv_int pvs_nil)))) pvs_nil))))))))))))))))))
      (psts_cons (pst_set (i := 1) sc.nd (pf_add (pp_name 1) (pp_of (pv_of (pf_lst (pvs_cons (pv_tup (pvs_cons pv_int (pvs_cons pv_int pvs_nil))) (pvs_cons (pv_tup (pvs_cons pv_int (pvs_cons (pv_neg pv_int) pvs_nil))) (pvs_cons (pv_tup (pvs_cons (pv_neg pv_int) (pvs_cons pv_int pvs_nil))) (pvs_cons (pv_tup (pvs_cons pv_bl (pvs_cons pv_int pvs_nil))) (pvs_cons (pv_tup (pvs_cons pv_int (pvs_cons pv_bl pvs_nil))) (pvs_cons (pv_tup (pvs_cons pv_int (pvs_cons pv_str pvs_nil))) (pvs_cons (pv_tup (pvs_cons pv_non (pvs_cons pv_int pvs_nil))) (pvs_cons (pv_tup (pvs_cons pv_non (pvs_cons pv_non pvs_nil))) pvs_nil)))))))))))))
      (psts_cons (pst_set (i := 1) sc.nd (pf_add (pp_name 1) (pp_of (pv_of (pf_lst (pvs_cons (pv_tup (pvs_cons (pv_tup (pvs_cons pv_int (pvs_cons pv_int pvs_nil))) pvs_nil)) (pvs_cons (pv_tup (pvs_cons pv_int (pvs_cons (pv_of (pf_lst (pvs_cons pv_int pvs_nil))) pvs_nil))) (pvs_cons (pv_tup (pvs_cons pv_int (pvs_cons pv_non pvs_nil))) (pvs_cons (pv_tup (pvs_cons pv_int (pvs_cons pv_int pvs_nil))) (pvs_cons (pv_tup (pvs_cons pv_int (pvs_cons (pv_sub (pp_of (pv_pow (pp_of pv_int) (pp_of pv_int))) (pp_of pv_int)) pvs_nil))) (pvs_cons (pv_of (pf_lst (pvs_cons (pv_tup (pvs_cons pv_int (pvs_cons pv_int pvs_nil))) pvs_nil))) (pvs_cons (pv_of (pf_lst (pvs_cons (pv_tup (pvs_cons pv_int (pvs_cons pv_int pvs_nil))) (pvs_cons (pv_tup (pvs_cons pv_int (pvs_cons pv_int pvs_nil))) pvs_nil)))) pvs_nil))))))))))))
      (psts_cons (pst_set (i := 1) sc.nd (pf_add (pp_name 1) (pp_of (pv_of (pf_lst (pvs_cons (pv_tup (pvs_cons (pv_tup (pvs_cons pv_int (pvs_cons pv_non pvs_nil))) (pvs_cons (pv_tup (pvs_cons pv_int (pvs_cons pv_int pvs_nil))) pvs_nil))) (pvs_cons (pv_of (pf_lst (pvs_cons (pv_of (pf_lst (pvs_cons pv_int (pvs_cons pv_int pvs_nil)))) pvs_nil))) (pvs_cons (pv_tup (pvs_cons pv_int (pvs_cons pv_int pvs_nil))) (pvs_cons (pv_of (pf_lst (pvs_cons pv_int (pvs_cons pv_int pvs_nil)))) (pvs_cons (pv_of (pf_lst (pvs_cons pv_non pvs_nil))) (pvs_cons (pv_of (pf_lst (pvs_cons (pv_tup pvs_nil) pvs_nil))) (pvs_cons (pv_of (pf_dict1 pv_int (pv_tup (pvs_cons pv_int (pvs_cons pv_int pvs_nil))))) pvs_nil))))))))))))
      (psts_one (pst_ret (pf_of (pp_of (pv_ix (pp_name 1) (pp_of (pv_of (pf_callG (ok_l_deal T) hG (hr.mono (by decide)) (by rfl) T.g_l_deal T.f_l_deal.kp T.b_l_deal (pps_cons' (pp_name 0) (pps_cons' (pp_of pv_int) pps_nil')) (ms := [.io, .b]) rfl))))))))))))
theorem ok_l_bent (T : Tx K mg a_is_number d_is_number a_is_row d_is_row a_is_saying d_is_saying a_l_tin d_l_tin a_l_deal d_l_deal a_l_said d_l_said a_l_crew d_l_crew a_l_is_count d_l_is_count a_l_is_said d_l_is_said a_l_is_crew d_l_is_crew a_l_odd d_l_odd a_l_bent d_l_bent a_law d_law) : FnG P w K mg base 3 a_l_bent d_l_bent ["_law_tin_here", "_law_crew_here"] (spD K 2 4 m_l_bent) :=
  fnG_pl T.f_l_bent sc_l_bent rfl rfl fun cdv A outer s H E hG hr => have sc := sc_l_bent; (psts_cons (pst_set (i := 2) sc.nd (pf_callG (ok_l_deal T) hG (hr.mono (by decide)) (by rfl) T.g_l_deal T.f_l_deal.kp T.b_l_deal (pps_cons' (pp_name 0) (pps_cons' (pp_of (pv_of (pf_add (pp_of (pv_len (by rfl) T.n_len (pps_cons' (pp_name 1) pps_nil'))) (pp_of pv_int)))) pps_nil')) (ms := [.io, .b]) rfl))
      (psts_cons (pst_set (i := 3) sc.nd (pf_callG (ok_l_deal T) hG (hr.mono (by decide)) (by rfl) T.g_l_deal T.f_l_deal.kp T.b_l_deal (pps_cons' (pp_name 0) (pps_cons' (pp_of pv_int) pps_nil')) (ms := [.io, .b]) rfl))
      (psts_cons (pst_set (i := 4) sc.nd (pf_add (pp_slice (pp_name 1) pot_none (pot_some (pv_of (pf_of (pp_name 2))))) (pp_slice (pp_name 1) (pot_some (pv_of (pf_add (pp_name 2) (pp_of pv_int)))) pot_none)))
      (psts_cons (pst_if (pt_lt (pp_name 3) (pp_of pv_int)) (psts_one (pst_set (i := 4) sc.nd (pf_add (pp_of (pv_of (pf_add (pp_slice (pp_name 1) pot_none (pot_some (pv_of (pf_of (pp_name 2))))) (pp_of (pv_of (pf_lst (pvs_cons (pv_of (pf_callG (ok_l_odd T) hG (hr.mono (by decide)) (by rfl) T.g_l_odd T.f_l_odd.kp T.b_l_odd (pps_cons' (pp_name 0) pps_nil') (ms := [.io]) rfl)) pvs_nil))))))) (pp_slice (pp_name 1) (pot_some (pv_of (pf_add (pp_name 2) (pp_name 3)))) pot_none)))) psts_nil)
      (psts_cons (pst_if (pt_eq hr.units (pp_name 3) (pp_of pv_int)) (psts_one (pst_set (i := 4) sc.nd (pf_add (pp_of (pv_of (pf_lc (own := [("_law_claim", 5)]) rfl sc.nd (pit_seq (pp_of (pv_of (pf_slice (pp_name 1) (pot_some (pv_of (pf_of (pp_name 2)))) (pot_some (pv_of (pf_add (pp_name 2) (pp_of pv_int)))))))) (blkOk_by (own := [("_law_claim", 5)]) (N := ["_law_tin_here", "_law_crew_here", "_law_at", "_law_way", "_law_found", "_law_claim"]) (sc := defScope s_l_bent) (by decide +kernel)) (fun _ _ _ _ _ => (pgt_name (i := 5) sc.nd)) (fun _ _ _ _ _ => (pv_of (pf_list (by rfl) T.n_list (pps_cons' (pp_name 5) pps_nil'))))))) (pp_name 1)))) psts_nil)
      (psts_one (pst_ret (pf_of (pp_of (pv_if (pt_eq hr.units (pp_of (pv_of (pf_callG (ok_l_deal T) hG (hr.mono (by decide)) (by rfl) T.g_l_deal T.f_l_deal.kp T.b_l_deal (pps_cons' (pp_name 0) (pps_cons' (pp_of pv_int) pps_nil')) (ms := [.io, .b]) rfl))) (pp_of pv_int)) (pv_tuple (by rfl) T.n_tuple (pps_cons' (pp_name 4) pps_nil')) (pv_of (pf_of (pp_name 4)))))))))))))
theorem ok_law (T : Tx K mg a_is_number d_is_number a_is_row d_is_row a_is_saying d_is_saying a_l_tin d_l_tin a_l_deal d_l_deal a_l_said d_l_said a_l_crew d_l_crew a_l_is_count d_l_is_count a_l_is_said d_l_is_said a_l_is_crew d_l_is_crew a_l_odd d_l_odd a_l_bent d_l_bent a_law d_law) : FnG P w K mg base 4 a_law d_law ["_law_script"] (spD K 1 8 m_law) :=
  fnG_pl T.f_law sc_law rfl rfl fun cdv A outer s H E hG hr => have sc := sc_law; (psts_cons (pst_for PassesOwn.never rfl (pit_rng1 (by rfl) T.n_range (pv_max2 rfl (by rfl) T.n_max (pps_cons' (pp_of pv_int) (pps_cons' (pp_of (pv_min2 rfl (by rfl) T.n_min (pps_cons' (pp_of pv_int) (pps_cons' (pp_of (pv_lenS 0 (by rfl) T.n_len)) pps_nil')))) pps_nil')))) (pgt_name (i := 1) sc.nd) (psts_cons (pst_set (i := 2) sc.nd (pf_callG (ok_l_tin T) hG (hr.mono (by decide)) (by rfl) T.g_l_tin T.f_l_tin.kp T.b_l_tin (pps_cons' (pp_name 0) (pps_cons' (pp_name 1) pps_nil')) (ms := [.s, .b]) rfl))
      (psts_cons (pst_set (i := 3) sc.nd (pf_callG (ok_l_crew T) hG (hr.mono (by decide)) (by rfl) T.g_l_crew T.f_l_crew.kp T.b_l_crew (pps_cons' (pp_name 2) (pps_cons' (pp_of pv_int) pps_nil')) (ms := [.io, .b]) rfl))
      (psts_cons (pst_if (pt_of (pwt_or (pt_isnot (pp_of (pv_of (pf_callG (ok_is_row T) hG (hr.mono (by decide)) (by rfl) T.g_is_row T.f_is_row.kp T.b_is_row (pps_cons' (pp_name 3) pps_nil') (ms := [.b]) rfl))) (pp_of pv_bl)) (pwt_or (pt_isnot (pp_of (pv_of (pf_callG (ok_is_row T) hG (hr.mono (by decide)) (by rfl) T.g_is_row T.f_is_row.kp T.b_is_row (pps_cons' (pp_of (pv_tuple (by rfl) T.n_tuple (pps_cons' (pp_name 3) pps_nil'))) pps_nil') (ms := [.b]) rfl))) (pp_of pv_bl)) (pwt_or1 (pt_isnot (pp_of (pv_of (pf_callG (ok_is_row T) hG (hr.mono (by decide)) (by rfl) T.g_is_row T.f_is_row.kp T.b_is_row (pps_cons' (pp_of (pv_of (pf_lst pvs_nil))) pps_nil') (ms := [.b]) rfl))) (pp_of pv_bl)))))) (psts_one (pst_ret (pf_of (pp_of pv_bl)))) psts_nil)
      (psts_one (pst_for PassesOwn.never rfl (pit_rng1 (by rfl) T.n_range pv_int) (pgt_name (i := 4) sc.nd) (psts_cons (pst_set (i := 5) sc.nd (pf_of (pp_of (pv_ix (pp_of (pv_of (pf_lst (pvs_cons (pv_of (pf_callG (ok_l_odd T) hG (hr.mono (by decide)) (by rfl) T.g_l_odd T.f_l_odd.kp T.b_l_odd (pps_cons' (pp_name 2) pps_nil') (ms := [.io]) rfl)) (pvs_cons (pv_of (pf_callG (ok_l_bent T) hG (hr.mono (by decide)) (by rfl) T.g_l_bent T.f_l_bent.kp T.b_l_bent (pps_cons' (pp_name 2) (pps_cons' (pp_name 3) pps_nil')) (ms := [.io, .b]) rfl)) pvs_nil))))) (pp_of (pv_mod (pp_name 4) (pp_of pv_int)))))))
      (psts_cons (pst_if (pt_eq hr.units (pp_name 4) (pp_of pv_int)) (psts_one (pst_set (i := 5) sc.nd (pf_callG (ok_l_said T) hG (hr.mono (by decide)) (by rfl) T.g_l_said T.f_l_said.kp T.b_l_said (pps_cons' (pp_name 2) (pps_cons' (pp_of (pv_pow (pp_of pv_int) (pp_of pv_int))) pps_nil')) (ms := [.io, .b]) rfl))) psts_nil)
      (psts_cons (pst_set (i := 6) sc.nd (pf_of (pp_of (pv_repr hG hr.u66 (by rfl) T.n_repr (pps_cons' (pp_name 5) pps_nil')))))
      (psts_cons (pst_set (i := 7) sc.nd (pf_lst (pvs_cons (pv_of (pf_callG (ok_is_number T) hG (hr.mono (by decide)) (by rfl) T.g_is_number T.f_is_number.kp T.b_is_number (pps_cons' (pp_name 5) pps_nil') (ms := [.b]) rfl)) (pvs_cons (pv_of (pf_callG (ok_is_saying T) hG (hr.mono (by decide)) (by rfl) T.g_is_saying T.f_is_saying.kp T.b_is_saying (pps_cons' (pp_of (pv_of (pf_of (pp_name 5)))) pps_nil') (ms := [.v]) rfl)) (pvs_cons (pv_of (pf_callG (ok_is_row T) hG (hr.mono (by decide)) (by rfl) T.g_is_row T.f_is_row.kp T.b_is_row (pps_cons' (pp_name 5) pps_nil') (ms := [.b]) rfl)) pvs_nil)))))
      (psts_cons (pst_set (i := 8) sc.nd (pf_lst (pvs_cons (pv_of (pf_callG (ok_l_is_count T) hG (hr.mono (by decide)) (by rfl) T.g_l_is_count T.f_l_is_count.kp T.b_l_is_count (pps_cons' (pp_name 5) pps_nil') (ms := [.b]) rfl)) (pvs_cons (pv_of (pf_callG (ok_l_is_said T) hG (hr.mono (by decide)) (by rfl) T.g_l_is_said T.f_l_is_said.kp T.b_l_is_said (pps_cons' (pp_name 5) pps_nil') (ms := [.b]) rfl)) (pvs_cons (pv_of (pf_callG (ok_l_is_crew T) hG (hr.mono (by decide)) (by rfl) T.g_l_is_crew T.f_l_is_crew.kp T.b_l_is_crew (pps_cons' (pp_name 5) pps_nil') (ms := [.b]) rfl)) pvs_nil)))))
      (psts_one (pst_if (pt_of (pwt_or (pt_ne hr.units (pp_of (pv_repr hG hr.u66 (by rfl) T.n_repr (pps_cons' (pp_name 7) pps_nil'))) (pp_of (pv_repr hG hr.u66 (by rfl) T.n_repr (pps_cons' (pp_name 8) pps_nil')))) (pwt_or1 (pt_ne hr.units (pp_of (pv_repr hG hr.u66 (by rfl) T.n_repr (pps_cons' (pp_name 5) pps_nil'))) (pp_name 6))))) (psts_one (pst_ret (pf_of (pp_of pv_bl)))) psts_nil)))))))))))))
      (psts_one (pst_ret (pf_of (pp_of pv_bl)))))
end
theorem all_mk {l : PySem.W.OpenLaw} {w : World} {K : PySem.W.Frag} {h : Heap} {mg : Str → Option Value} {fa a_is_number a_is_row a_is_saying a_l_tin a_l_deal a_l_said a_l_crew a_l_is_count a_l_is_said a_l_is_crew a_l_odd a_l_bent a_law : Addr} (X : K.In h) (G : h.Ns mainGlobals mg) (hfa : mg "law" = some (.ref fa))
    {od_is_number an_is_number od_is_row an_is_row od_is_saying an_is_saying od_l_tin an_l_tin od_l_deal an_l_deal od_l_said an_l_said od_l_crew an_l_crew od_l_is_count an_l_is_count od_l_is_said an_l_is_said od_l_is_crew an_l_is_crew od_l_odd an_l_odd od_l_bent an_l_bent od_law an_law : Option Addr} {sl_is_number sl_is_row sl_is_saying sl_l_tin sl_l_deal sl_l_said sl_l_crew sl_l_is_count sl_l_is_said sl_l_is_crew sl_l_odd sl_l_bent sl_law : Array (Option Value)} {oc_is_number kV_is_number dc_is_number pm_is_number cd_is_number ct_is_number oc_is_row kV_is_row dc_is_row pm_is_row cd_is_row ct_is_row oc_is_saying kV_is_saying dc_is_saying pm_is_saying cd_is_saying ct_is_saying oc_l_tin kV_l_tin dc_l_tin pm_l_tin cd_l_tin ct_l_tin oc_l_deal kV_l_deal dc_l_deal pm_l_deal cd_l_deal ct_l_deal oc_l_said kV_l_said dc_l_said pm_l_said cd_l_said ct_l_said oc_l_crew kV_l_crew dc_l_crew pm_l_crew cd_l_crew ct_l_crew oc_l_is_count kV_l_is_count dc_l_is_count pm_l_is_count cd_l_is_count ct_l_is_count oc_l_is_said kV_l_is_said dc_l_is_said pm_l_is_said cd_l_is_said ct_l_is_said oc_l_is_crew kV_l_is_crew dc_l_is_crew pm_l_is_crew cd_l_is_crew ct_l_is_crew oc_l_odd kV_l_odd dc_l_odd pm_l_odd cd_l_odd ct_l_odd oc_l_bent kV_l_bent dc_l_bent pm_l_bent cd_l_bent ct_l_bent oc_law kV_law dc_law pm_law cd_law ct_law : Value}
    (ais_number : PySem.W.nsIn K mainGlobals "is_number" = some (some (.ref a_is_number))) (lis_number : K.lookup a_is_number = some ⟨oc_is_number, od_is_number, .func (PySem.W.fnOf "is_number" "is_number" (defArgs s_is_number) (defBody s_is_number) (defScope s_is_number) .none kV_is_number dc_is_number pm_is_number an_is_number cd_is_number ct_is_number), sl_is_number⟩) (cis_number : PySem.W.codeIn K cd_is_number "is_number" = true) (kis_number : PySem.W.keepIn K (.ref a_is_number) = true)
    (ais_row : PySem.W.nsIn K mainGlobals "is_row" = some (some (.ref a_is_row))) (lis_row : K.lookup a_is_row = some ⟨oc_is_row, od_is_row, .func (PySem.W.fnOf "is_row" "is_row" (defArgs s_is_row) (defBody s_is_row) (defScope s_is_row) .none kV_is_row dc_is_row pm_is_row an_is_row cd_is_row ct_is_row), sl_is_row⟩) (cis_row : PySem.W.codeIn K cd_is_row "is_row" = true) (kis_row : PySem.W.keepIn K (.ref a_is_row) = true)
    (ais_saying : PySem.W.nsIn K mainGlobals "is_saying" = some (some (.ref a_is_saying))) (lis_saying : K.lookup a_is_saying = some ⟨oc_is_saying, od_is_saying, .func (PySem.W.fnOf "is_saying" "is_saying" (defArgs s_is_saying) (defBody s_is_saying) (defScope s_is_saying) .none kV_is_saying dc_is_saying pm_is_saying an_is_saying cd_is_saying ct_is_saying), sl_is_saying⟩) (cis_saying : PySem.W.codeIn K cd_is_saying "is_saying" = true) (kis_saying : PySem.W.keepIn K (.ref a_is_saying) = true)
    (al_tin : PySem.W.nsIn K mainGlobals "_law_tin" = some (some (.ref a_l_tin))) (ll_tin : K.lookup a_l_tin = some ⟨oc_l_tin, od_l_tin, .func (PySem.W.fnOf "_law_tin" "_law_tin" (defArgs s_l_tin) (defBody s_l_tin) (defScope s_l_tin) .none kV_l_tin dc_l_tin pm_l_tin an_l_tin cd_l_tin ct_l_tin), sl_l_tin⟩) (cl_tin : PySem.W.codeIn K cd_l_tin "_law_tin" = true) (kl_tin : PySem.W.keepIn K (.ref a_l_tin) = true)
    (al_deal : PySem.W.nsIn K mainGlobals "_law_deal" = some (some (.ref a_l_deal))) (ll_deal : K.lookup a_l_deal = some ⟨oc_l_deal, od_l_deal, .func (PySem.W.fnOf "_law_deal" "_law_deal" (defArgs s_l_deal) (defBody s_l_deal) (defScope s_l_deal) .none kV_l_deal dc_l_deal pm_l_deal an_l_deal cd_l_deal ct_l_deal), sl_l_deal⟩) (cl_deal : PySem.W.codeIn K cd_l_deal "_law_deal" = true) (kl_deal : PySem.W.keepIn K (.ref a_l_deal) = true)
    (al_said : PySem.W.nsIn K mainGlobals "_law_said" = some (some (.ref a_l_said))) (ll_said : K.lookup a_l_said = some ⟨oc_l_said, od_l_said, .func (PySem.W.fnOf "_law_said" "_law_said" (defArgs s_l_said) (defBody s_l_said) (defScope s_l_said) .none kV_l_said dc_l_said pm_l_said an_l_said cd_l_said ct_l_said), sl_l_said⟩) (cl_said : PySem.W.codeIn K cd_l_said "_law_said" = true) (kl_said : PySem.W.keepIn K (.ref a_l_said) = true)
    (al_crew : PySem.W.nsIn K mainGlobals "_law_crew" = some (some (.ref a_l_crew))) (ll_crew : K.lookup a_l_crew = some ⟨oc_l_crew, od_l_crew, .func (PySem.W.fnOf "_law_crew" "_law_crew" (defArgs s_l_crew) (defBody s_l_crew) (defScope s_l_crew) .none kV_l_crew dc_l_crew pm_l_crew an_l_crew cd_l_crew ct_l_crew), sl_l_crew⟩) (cl_crew : PySem.W.codeIn K cd_l_crew "_law_crew" = true) (kl_crew : PySem.W.keepIn K (.ref a_l_crew) = true)
    (al_is_count : PySem.W.nsIn K mainGlobals "_law_is_count" = some (some (.ref a_l_is_count))) (ll_is_count : K.lookup a_l_is_count = some ⟨oc_l_is_count, od_l_is_count, .func (PySem.W.fnOf "_law_is_count" "_law_is_count" (defArgs s_l_is_count) (defBody s_l_is_count) (defScope s_l_is_count) .none kV_l_is_count dc_l_is_count pm_l_is_count an_l_is_count cd_l_is_count ct_l_is_count), sl_l_is_count⟩) (cl_is_count : PySem.W.codeIn K cd_l_is_count "_law_is_count" = true) (kl_is_count : PySem.W.keepIn K (.ref a_l_is_count) = true)
    (al_is_said : PySem.W.nsIn K mainGlobals "_law_is_said" = some (some (.ref a_l_is_said))) (ll_is_said : K.lookup a_l_is_said = some ⟨oc_l_is_said, od_l_is_said, .func (PySem.W.fnOf "_law_is_said" "_law_is_said" (defArgs s_l_is_said) (defBody s_l_is_said) (defScope s_l_is_said) .none kV_l_is_said dc_l_is_said pm_l_is_said an_l_is_said cd_l_is_said ct_l_is_said), sl_l_is_said⟩) (cl_is_said : PySem.W.codeIn K cd_l_is_said "_law_is_said" = true) (kl_is_said : PySem.W.keepIn K (.ref a_l_is_said) = true)
    (al_is_crew : PySem.W.nsIn K mainGlobals "_law_is_crew" = some (some (.ref a_l_is_crew))) (ll_is_crew : K.lookup a_l_is_crew = some ⟨oc_l_is_crew, od_l_is_crew, .func (PySem.W.fnOf "_law_is_crew" "_law_is_crew" (defArgs s_l_is_crew) (defBody s_l_is_crew) (defScope s_l_is_crew) .none kV_l_is_crew dc_l_is_crew pm_l_is_crew an_l_is_crew cd_l_is_crew ct_l_is_crew), sl_l_is_crew⟩) (cl_is_crew : PySem.W.codeIn K cd_l_is_crew "_law_is_crew" = true) (kl_is_crew : PySem.W.keepIn K (.ref a_l_is_crew) = true)
    (al_odd : PySem.W.nsIn K mainGlobals "_law_odd" = some (some (.ref a_l_odd))) (ll_odd : K.lookup a_l_odd = some ⟨oc_l_odd, od_l_odd, .func (PySem.W.fnOf "_law_odd" "_law_odd" (defArgs s_l_odd) (defBody s_l_odd) (defScope s_l_odd) .none kV_l_odd dc_l_odd pm_l_odd an_l_odd cd_l_odd ct_l_odd), sl_l_odd⟩) (cl_odd : PySem.W.codeIn K cd_l_odd "_law_odd" = true) (kl_odd : PySem.W.keepIn K (.ref a_l_odd) = true)
    (al_bent : PySem.W.nsIn K mainGlobals "_law_bent" = some (some (.ref a_l_bent))) (ll_bent : K.lookup a_l_bent = some ⟨oc_l_bent, od_l_bent, .func (PySem.W.fnOf "_law_bent" "_law_bent" (defArgs s_l_bent) (defBody s_l_bent) (defScope s_l_bent) .none kV_l_bent dc_l_bent pm_l_bent an_l_bent cd_l_bent ct_l_bent), sl_l_bent⟩) (cl_bent : PySem.W.codeIn K cd_l_bent "_law_bent" = true) (kl_bent : PySem.W.keepIn K (.ref a_l_bent) = true)
    (alaw : PySem.W.nsIn K mainGlobals "law" = some (some (.ref a_law))) (llaw : K.lookup a_law = some ⟨oc_law, od_law, .func (PySem.W.fnOf "law" "law" (defArgs s_law) (defBody s_law) (defScope s_law) .none kV_law dc_law pm_law an_law cd_law ct_law), sl_law⟩) (claw : PySem.W.codeIn K cd_law "law" = true) (klaw : PySem.W.keepIn K (.ref a_law) = true)
    (zabs : PySem.W.nsIn K mainGlobals "abs" = some none)
    (zbool : PySem.W.nsIn K mainGlobals "bool" = some none)
    (zint : PySem.W.nsIn K mainGlobals "int" = some none)
    (zisinstance : PySem.W.nsIn K mainGlobals "isinstance" = some none)
    (zlen : PySem.W.nsIn K mainGlobals "len" = some none)
    (zlist : PySem.W.nsIn K mainGlobals "list" = some none)
    (zmax : PySem.W.nsIn K mainGlobals "max" = some none)
    (zmin : PySem.W.nsIn K mainGlobals "min" = some none)
    (zrange : PySem.W.nsIn K mainGlobals "range" = some none)
    (zrepr : PySem.W.nsIn K mainGlobals "repr" = some none)
    (ztuple : PySem.W.nsIn K mainGlobals "tuple" = some none)
    : ∃ fd : FuncData, (∀ (s : Shared) (v : Value), BindsTo s fd ⟨[v], []⟩ [("_law_script", v)]) ∧ ∀ base : Heap, K.In base → base.Ns mainGlobals mg → FnG l.prog w K mg base 4 fa fd ["_law_script"] (spD K 1 8 m_law) := by
  have e := hfa.symm.trans (PySem.W.mg_of X G alaw)
  cases e
  have Fis_number := fun_mk (st := s_is_number) lis_number cis_number kis_number
  have bis_number := Fis_number.binds (ps := ["thing"]) fun _ _ _ _ _ _ us hl => match us, hl with | [_], _ => rfl
  have Fis_row := fun_mk (st := s_is_row) lis_row cis_row kis_row
  have bis_row := Fis_row.binds (ps := ["thing"]) fun _ _ _ _ _ _ us hl => match us, hl with | [_], _ => rfl
  have Fis_saying := fun_mk (st := s_is_saying) lis_saying cis_saying kis_saying
  have bis_saying := Fis_saying.binds (ps := ["thing"]) fun _ _ _ _ _ _ us hl => match us, hl with | [_], _ => rfl
  have Fl_tin := fun_mk (st := s_l_tin) ll_tin cl_tin kl_tin
  have bl_tin := Fl_tin.binds (ps := ["_law_script", "_law_k"]) fun _ _ _ _ _ _ us hl => match us, hl with | [_, _], _ => rfl
  have Fl_deal := fun_mk (st := s_l_deal) ll_deal cl_deal kl_deal
  have bl_deal := Fl_deal.binds (ps := ["_law_tin_here", "_law_wide"]) fun _ _ _ _ _ _ us hl => match us, hl with | [_, _], _ => rfl
  have Fl_said := fun_mk (st := s_l_said) ll_said cl_said kl_said
  have bl_said := Fl_said.binds (ps := ["_law_tin_here", "_law_wide"]) fun _ _ _ _ _ _ us hl => match us, hl with | [_, _], _ => rfl
  have Fl_crew := fun_mk (st := s_l_crew) ll_crew cl_crew kl_crew
  have bl_crew := Fl_crew.binds (ps := ["_law_tin_here", "_law_most"]) fun _ _ _ _ _ _ us hl => match us, hl with | [_, _], _ => rfl
  have Fl_is_count := fun_mk (st := s_l_is_count) ll_is_count cl_is_count kl_is_count
  have bl_is_count := Fl_is_count.binds (ps := ["_law_thing"]) fun _ _ _ _ _ _ us hl => match us, hl with | [_], _ => rfl
  have Fl_is_said := fun_mk (st := s_l_is_said) ll_is_said cl_is_said kl_is_said
  have bl_is_said := Fl_is_said.binds (ps := ["_law_thing"]) fun _ _ _ _ _ _ us hl => match us, hl with | [_], _ => rfl
  have Fl_is_crew := fun_mk (st := s_l_is_crew) ll_is_crew cl_is_crew kl_is_crew
  have bl_is_crew := Fl_is_crew.binds (ps := ["_law_thing"]) fun _ _ _ _ _ _ us hl => match us, hl with | [_], _ => rfl
  have Fl_odd := fun_mk (st := s_l_odd) ll_odd cl_odd kl_odd
  have bl_odd := Fl_odd.binds (ps := ["_law_tin_here"]) fun _ _ _ _ _ _ us hl => match us, hl with | [_], _ => rfl
  have Fl_bent := fun_mk (st := s_l_bent) ll_bent cl_bent kl_bent
  have bl_bent := Fl_bent.binds (ps := ["_law_tin_here", "_law_crew_here"]) fun _ _ _ _ _ _ us hl => match us, hl with | [_, _], _ => rfl
  have Flaw := fun_mk (st := s_law) llaw claw klaw
  have blaw := Flaw.binds (ps := ["_law_script"]) fun _ _ _ _ _ _ us hl => match us, hl with | [_], _ => rfl
  have T : Tx K mg a_is_number _ a_is_row _ a_is_saying _ a_l_tin _ a_l_deal _ a_l_said _ a_l_crew _ a_l_is_count _ a_l_is_said _ a_l_is_crew _ a_l_odd _ a_l_bent _ fa _ := ⟨PySem.W.mg_none_of X G zabs, PySem.W.mg_none_of X G zbool, PySem.W.mg_none_of X G zint, PySem.W.mg_none_of X G zisinstance, PySem.W.mg_none_of X G zlen, PySem.W.mg_none_of X G zlist, PySem.W.mg_none_of X G zmax, PySem.W.mg_none_of X G zmin, PySem.W.mg_none_of X G zrange, PySem.W.mg_none_of X G zrepr, PySem.W.mg_none_of X G ztuple, Fis_number, PySem.W.mg_of X G ais_number, bis_number, Fis_row, PySem.W.mg_of X G ais_row, bis_row, Fis_saying, PySem.W.mg_of X G ais_saying, bis_saying, Fl_tin, PySem.W.mg_of X G al_tin, bl_tin, Fl_deal, PySem.W.mg_of X G al_deal, bl_deal, Fl_said, PySem.W.mg_of X G al_said, bl_said, Fl_crew, PySem.W.mg_of X G al_crew, bl_crew, Fl_is_count, PySem.W.mg_of X G al_is_count, bl_is_count, Fl_is_said, PySem.W.mg_of X G al_is_said, bl_is_said, Fl_is_crew, PySem.W.mg_of X G al_is_crew, bl_is_crew, Fl_odd, PySem.W.mg_of X G al_odd, bl_odd, Fl_bent, PySem.W.mg_of X G al_bent, bl_bent, Flaw, PySem.W.mg_of X G alaw, blaw⟩
  exact ⟨_, fun s v => .of_eq rfl, fun base _ _ => ok_law T⟩
end Y
namespace Y
open PySem PL L2
def p_is_number (d1 : D) : Option (D) :=
  bind1 (
    bind1 ((gIsi ["int"]) d1) fun v15 =>
    bind1 (asBool v15) fun b17 =>
    if b17 = true then
      bind1 ((gIsi ["bool"]) d1) fun v19 =>
      bind1 (asBool v19) fun b21 =>
      if b21 = true then
        some (.bool false)
      else
        bind1 (gGe d1 (.int 0)) fun v23 =>
        some v23
    else
      some (.bool false)) fun v25 =>
  some v25
def p_is_row_b1 (x382 : D) : Option (Ct (Unit) (D)) :=
  bind1 (
    bind1 ((gIsi ["tuple"]) x382) fun v383 =>
    bind1 (truD v383) fun b385 =>
    if b385 = true then
      bind1 (gLen [x382]) fun v387 =>
      bind1 (gNe v387 (.int 2)) fun v389 =>
      bind1 (asBool v389) fun b391 =>
      some b391
    else
      some true) fun b393 =>
  if b393 = true then
    some (.rt (.bool false))
  else
    bind2 (tup2 x382) fun v397 v398 =>
    bind1 (
      bind1 ((gIsi ["int"]) v397) fun v401 =>
      bind1 (truD v401) fun b403 =>
      if b403 = true then
        bind1 (gLt v397 (.int 0)) fun v405 =>
        bind1 (asBool v405) fun b407 =>
        if b407 = true then
          some true
        else
          bind1 (gIs v397 (.bool true)) fun v409 =>
          bind1 (asBool v409) fun b411 =>
          if b411 = true then
            some true
          else
            bind1 (gIs v397 (.bool false)) fun v413 =>
            bind1 (asBool v413) fun b415 =>
            some b415
      else
        some true) fun b417 =>
    if b417 = true then
      some (.rt (.bool false))
    else
      bind1 (
        bind1 (gNot v398 (.none : D)) fun v421 =>
        bind1 (asBool v421) fun b423 =>
        if b423 = true then
          bind1 ((gIsi ["int"]) v398) fun v425 =>
          bind1 (truD v425) fun b427 =>
          if b427 = true then
            bind1 (gLt v398 v397) fun v429 =>
            bind1 (asBool v429) fun b431 =>
            if b431 = true then
              some true
            else
              bind1 (gIs v398 (.bool true)) fun v433 =>
              bind1 (asBool v433) fun b435 =>
              if b435 = true then
                some true
              else
                bind1 (gIs v398 (.bool false)) fun v437 =>
                bind1 (asBool v437) fun b439 =>
                some b439
          else
            some true
        else
          some false) fun b441 =>
      if b441 = true then
        some (.rt (.bool false))
      else
        some (.nx ())
def p_is_row (d28 : D) : Option (D) :=
  bind1 ((gIsi ["list", "tuple"]) d28) fun v240 =>
  bind1 (truD v240) fun b242 =>
  if b242 = true then
    bind2 (itemsD d28) fun q246 x247 =>
    ctB0 (forP (fun x _ => p_is_row_b1 x) x247 ()) (fun r => some r) fun _ =>
    some (.bool true)
  else
    some (.bool false)
def p_is_saying (d452 : D) : Option (D) :=
  bind1 (p_is_row (.list [d452])) fun v457 =>
  some v457
def p_l_tin (d461 : List Int) (d462 : D) : Option (D) :=
  bind1 (
    bind1 (gLt d462 (.int ((d461.length : Nat) : Int))) fun v507 =>
    bind1 (asBool v507) fun b509 =>
    if b509 = true then
      bind1 (atP d462) fun u512 =>
      bind1 (ixSP d461 d462) fun v514 =>
      some v514
    else
      some (.int 0)) fun v517 =>
  bind1 (gAbs [v517]) fun v518 =>
  bind1 (gPow (.int 10) (.int 18)) fun v520 =>
  bind1 (gSub' v518 v520) fun v522 =>
  bind1 (gMax2 [(.int 0), v522]) fun v524 =>
  bind1 (gPow (.int 10) (.int 37)) fun v526 =>
  bind1 (addV v526 (.int 43)) fun v528 =>
  bind1 (gMod v517 v528) fun v530 =>
  bind1 (mulV v530 (.int 64)) fun v532 =>
  bind1 (addV v532 d462) fun v534 =>
  some (.list [v524, v534, (.int 0)])
def p_l_deal (d537 : D) (d538 : D) : Option (D × D) :=
  bind1 (gIx d537 (.int 0)) fun v603 =>
  bind1 (gGt v603 (.int 0)) fun v605 =>
  bind1 (asBool v605) fun b607 =>
  if b607 = true then
    bind1 (gIx d537 (.int 0)) fun v610 =>
    bind1 (gMod v610 d538) fun v612 =>
    bind1 (gIx d537 (.int 0)) fun v615 =>
    bind1 (gDiv v615 d538) fun v617 =>
    bind1 (setP d537 (.int 0) v617) fun v619 =>
    some (v612, v619)
  else
    bind1 (gIx d537 (.int 2)) fun v623 =>
    bind1 (addV v623 (.int 1)) fun v625 =>
    bind1 (setP d537 (.int 2) v625) fun v627 =>
    bind1 (gIx v627 (.int 1)) fun v630 =>
    bind1 (gIx v627 (.int 2)) fun v632 =>
    bind1 (mulV (.int 9576890767) v632) fun v634 =>
    bind1 (addV v630 v634) fun v636 =>
    bind1 (gPow v636 (.int 3)) fun v638 =>
    bind1 (gPow (.int 10) (.int 38)) fun v640 =>
    bind1 (addV v640 (.int 133)) fun v642 =>
    bind1 (gMod v638 v642) fun v644 =>
    bind1 (gIx v627 (.int 2)) fun v647 =>
    bind1 (mulV (.int 32452843) v647) fun v649 =>
    bind1 (addV v644 v649) fun v651 =>
    bind1 (gPow v651 (.int 5)) fun v653 =>
    bind1 (gPow (.int 10) (.int 40)) fun v655 =>
    bind1 (addV v655 (.int 121)) fun v657 =>
    bind1 (gMod v653 v657) fun v659 =>
    bind1 (gDiv v659 (.int 65536)) fun v662 =>
    bind1 (gMod v662 d538) fun v664 =>
    some (v664, v627)
def p_l_said (d668 : D) (d669 : D) : Option (D × D) :=
  bind2 (p_l_deal d668 d669) fun v692 v693 =>
  bind2 (p_l_deal v693 d669) fun v697 v698 =>
  bind1 (addV v692 v697) fun v701 =>
  bind2 (p_l_deal v698 (.int 10)) fun v705 v706 =>
  bind1 (gMod v705 (.int 5)) fun v709 =>
  bind1 (gIx (.list [(.tuple [v692, (.none : D)]), (.tuple [v692, v692]), (.tuple [(.int 0), v692]), (.tuple [v692, v701]), (.tuple [(.int 0), (.none : D)])]) v709) fun v711 =>
  some (v711, v706)
def p_l_crew_c1 (v993 : D) (x1023 : D) (v1016 : D) : Option (Option D × (D)) :=
  bind2 (p_l_said v1016 v993) fun v1024 v1025 =>
  some ((some v1024), v1025)
def p_l_crew_b1 (v993 : D) (v1035 : D) (x1028 : List D) (v1006 : D) (x1152 : D) (v1094 : D) (v1095 : D) : Option (D × D) :=
  bind2 (p_l_said v1094 v993) fun v1153 v1154 =>
  bind1 (
    bind1 (gGt v1035 (.int 2)) fun v1164 =>
    bind1 (asBool v1164) fun b1166 =>
    if b1166 = true then
      bind1 (gIx (.list x1028) (.int 0)) fun v1169 =>
      bind1 (gMod x1152 (.int 2)) fun v1171 =>
      bind1 (gIx (.list x1028) v1171) fun v1173 =>
      bind1 (gSub' v1035 (.int 3)) fun v1175 =>
      bind1 (gIx (.list [v1169, v1173, (.tuple [x1152, x1152])]) v1175) fun v1177 =>
      some v1177
    else
      some v1153) fun v1180 =>
  bind1 (
    bind1 (gIx v1180 (.int 0)) fun v1181 =>
    bind1 (addV v1181 v1006) fun v1183 =>
    bind1 (gIx v1180 (.int 1)) fun v1185 =>
    bind1 (gIs v1185 (.none : D)) fun v1187 =>
    bind1 (asBool v1187) fun b1189 =>
    if b1189 = true then
      bind2 (mutP gAppend v1095 [(.tuple [v1183, (.none : D)])]) fun v1191 v1192 =>
      some v1191
    else
      bind1 (addV v1185 v1006) fun v1194 =>
      bind2 (mutP gAppend v1095 [(.tuple [v1183, v1194])]) fun v1196 v1197 =>
      some v1196) fun v1199 =>
  some (v1154, v1199)
def p_l_crew (d715 : D) (d716 : D) : Option (D × D) :=
  bind2 (p_l_deal d715 (.int 4)) fun v963 v964 =>
  bind2 (p_l_deal v964 (.int 9)) fun v967 v968 =>
  bind1 (addV d716 (.int 1)) fun v971 =>
  bind2 (p_l_deal v968 v971) fun v973 v974 =>
  bind2 (p_l_deal v974 (.int 3)) fun v978 v979 =>
  bind1 (gIx (.list [v963, v967, v973]) v978) fun v982 =>
  bind1 (gMin2 [d716, v982]) fun v984 =>
  bind1 (addV v984 (.int 2)) fun v987 =>
  bind2 (p_l_deal v979 (.int 4)) fun v989 v990 =>
  bind1 (gIx (.list [(.int 2), (.int 4), (.int 9), v987]) v989) fun v993 =>
  bind1 (gPow (.int 10) (.int 29)) fun v996 =>
  bind2 (p_l_deal v990 v996) fun v998 v999 =>
  bind2 (p_l_deal v999 (.int 4)) fun v1002 v1003 =>
  bind1 (gIx (.list [(.int 0), (.int 0), (.int 0), v998]) v1002) fun v1006 =>
  bind1 (rng1P (.int 2)) fun x1009 =>
  bind2 (lcT (fun x s => p_l_crew_c1 v993 x s) x1009 v1003) fun x1028 v1031 =>
  bind2 (p_l_deal v1031 (.int 6)) fun v1035 v1036 =>
  bind1 (rng1P v984) fun x1041 =>
  bind2 (foldP (fun x s => p_l_crew_b1 v993 v1035 x1028 v1006 x s.1 s.2) x1041 (v1036, (.list []))) fun v1202 v1203 =>
  some (v1203, v1202)
def p_l_is_count (d1210 : D) : Option (D) :=
  bind1 (
    bind1 ((gIsi ["int"]) d1210) fun v1224 =>
    bind1 (asBool v1224) fun b1226 =>
    if b1226 = true then
      bind1 ((gIsi ["bool"]) d1210) fun v1228 =>
      bind1 (asBool v1228) fun b1230 =>
      if b1230 = true then
        some (.bool false)
      else
        bind1 (gGe d1210 (.int 0)) fun v1232 =>
        some v1232
    else
      some (.bool false)) fun v1234 =>
  some v1234
def p_l_is_said (d1237 : D) : Option (D) :=
  bind1 (
    bind1 ((gIsi ["tuple"]) d1237) fun v1277 =>
    bind1 (truD v1277) fun b1279 =>
    if b1279 = true then
      bind1 (gLen [d1237]) fun v1281 =>
      bind1 (gNe v1281 (.int 2)) fun v1283 =>
      bind1 (asBool v1283) fun b1285 =>
      if b1285 = true then
        some true
      else
        bind1 (gIx d1237 (.int 0)) fun v1287 =>
        bind1 (p_l_is_count v1287) fun v1289 =>
        bind1 (truD v1289) fun b1292 =>
        some (!b1292)
    else
      some true) fun b1294 =>
  if b1294 = true then
    some (.bool false)
  else
    bind1 (
      bind1 (gIx d1237 (.int 1)) fun v1298 =>
      bind1 (gIs v1298 (.none : D)) fun v1300 =>
      bind1 (asBool v1300) fun b1302 =>
      if b1302 = true then
        some (.bool true)
      else
        bind1 (p_l_is_count v1298) fun v1304 =>
        bind1 (asBool v1304) fun b1307 =>
        if b1307 = true then
          bind1 (gIx d1237 (.int 0)) fun v1309 =>
          bind1 (gGe v1298 v1309) fun v1311 =>
          some v1311
        else
          some (.bool false)) fun v1313 =>
    some v1313
def p_l_is_crew_c1 (x1361 : D) : Option (Option D) :=
  bind1 (p_l_is_said x1361) fun v1362 =>
  bind1 (truD v1362) fun b1365 =>
  if b1365 = true then
    some none
  else
    some (some (.int 1))
def p_l_is_crew (d1316 : D) : Option (D) :=
  bind1 ((gIsi ["list", "tuple"]) d1316) fun v1346 =>
  bind1 (truD v1346) fun b1348 =>
  if b1348 = true then
    bind2 (itemsD d1316) fun q1352 x1353 =>
    bind1 (filT (p_l_is_crew_c1) x1353) fun x1367 =>
    bind1 (gEq (.list x1367) (.list [])) fun v1372 =>
    some v1372
  else
    some (.bool false)
def p_l_odd (d1375 : D) : Option (D × D) :=
  bind1 (negP (.int 1)) fun v1411 =>
  bind1 (gPow (.int 10) (.int 30)) fun v1413 =>
  bind1 (gSub' v1413 (.int 1)) fun v1415 =>
  bind1 (gPow (.int 10) (.int 29)) fun v1417 =>
  bind1 (negP v1417) fun v1419 =>
  bind1 (negP (.int 1)) fun v1422 =>
  bind1 (addF (.list [(.none : D), (.bool true), (.bool false), v1411, (.int 0), (.int 7), v1415, v1419, (.str ""), (.str "3"), (.str "ab"), (.list []), (.tuple []), (.dict []), (.tuple [(.int 0)]), (.tuple [(.int 0), (.int 1), (.int 2)])]) (.list [(.tuple [(.int 1), (.int 0)]), (.tuple [(.int 0), v1422]), (.tuple [v1422, (.int 0)]), (.tuple [(.bool true), (.int 1)]), (.tuple [(.int 0), (.bool true)]), (.tuple [(.int 0), (.str "1")]), (.tuple [(.none : D), (.int 0)]), (.tuple [(.none : D), (.none : D)])])) fun v1424 =>
  bind1 (gPow (.int 10) (.int 30)) fun v1427 =>
  bind1 (gSub' v1427 (.int 1)) fun v1429 =>
  bind1 (addF v1424 (.list [(.tuple [(.tuple [(.int 0), (.int 1)])]), (.tuple [(.int 0), (.list [(.int 1)])]), (.tuple [(.int 3), (.none : D)]), (.tuple [(.int 0), (.int 0)]), (.tuple [(.int 2), v1429]), (.list [(.tuple [(.int 0), (.int 1)])]), (.list [(.tuple [(.int 0), (.int 1)]), (.tuple [(.int 2), (.int 1)])])])) fun v1431 =>
  bind1 (dict1P (.int 0) (.tuple [(.int 0), (.int 1)])) fun v1434 =>
  bind1 (addF v1431 (.list [(.tuple [(.tuple [(.int 4), (.none : D)]), (.tuple [(.int 4), (.int 4)])]), (.list [(.list [(.int 0), (.int 1)])]), (.tuple [(.int 5), (.int 4)]), (.list [(.int 0), (.int 1)]), (.list [(.none : D)]), (.list [(.tuple [])]), v1434])) fun v1436 =>
  bind2 (p_l_deal d1375 (.int 38)) fun v1439 v1440 =>
  bind1 (gIx v1436 v1439) fun v1443 =>
  some (v1443, v1440)
def p_l_bent_c1 (x1644 : D) : Option D :=
  bind1 (gList [x1644]) fun v1645 =>
  some v1645
def p_l_bent (d1447 : D) (d1448 : D) : Option (D × D) :=
  bind1 (gLen [d1448]) fun v1560 =>
  bind1 (addV v1560 (.int 1)) fun v1562 =>
  bind2 (p_l_deal d1447 v1562) fun v1564 v1565 =>
  bind2 (p_l_deal v1565 (.int 4)) fun v1569 v1570 =>
  bind1 (ixP v1564) fun i1574 =>
  bind1 (slW d1448 none (some i1574)) fun v1576 =>
  bind1 (addV v1564 (.int 1)) fun v1578 =>
  bind1 (ixP v1578) fun i1580 =>
  bind1 (slW d1448 (some i1580) none) fun v1582 =>
  bind1 (addF v1576 v1582) fun v1584 =>
  bind2 (
    bind1 (gLt v1569 (.int 2)) fun v1593 =>
    bind1 (asBool v1593) fun b1595 =>
    if b1595 = true then
      bind1 (ixP v1564) fun i1598 =>
      bind1 (slW d1448 none (some i1598)) fun v1600 =>
      bind2 (p_l_odd v1570) fun v1602 v1603 =>
      bind1 (addF v1600 (.list [v1602])) fun v1606 =>
      bind1 (addV v1564 v1569) fun v1608 =>
      bind1 (ixP v1608) fun i1610 =>
      bind1 (slW d1448 (some i1610) none) fun v1612 =>
      bind1 (addF v1606 v1612) fun v1614 =>
      some (v1603, v1614)
    else
      some (v1570, v1584)) fun v1617 v1618 =>
  bind1 (
    bind1 (gEq v1569 (.int 2)) fun v1625 =>
    bind1 (asBool v1625) fun b1627 =>
    if b1627 = true then
      bind1 (ixP v1564) fun i1630 =>
      bind1 (addV v1564 (.int 1)) fun v1632 =>
      bind1 (ixP v1632) fun i1634 =>
      bind1 (slF d1448 (some i1630) (some i1634)) fun v1636 =>
      bind2 (itemsD v1636) fun q1638 x1639 =>
      bind1 (mapT (p_l_bent_c1) x1639) fun x1647 =>
      bind1 (addF (.list x1647) d1448) fun v1652 =>
      some v1652
    else
      some v1618) fun v1655 =>
  bind2 (
    bind2 (p_l_deal v1617 (.int 3)) fun v1656 v1657 =>
    bind1 (gEq v1656 (.int 0)) fun v1660 =>
    bind1 (asBool v1660) fun b1662 =>
    if b1662 = true then
      bind1 (gTuple [v1655]) fun v1664 =>
      some (v1664, v1657)
    else
      some (v1655, v1657)) fun v1668 v1666 =>
  some (v1668, v1666)
def p_law_b1 (v3160 : D) (x3357 : D) (v3270 : D) : Option (Ct (D) (D)) :=
  bind2 (p_l_odd v3270) fun v3358 v3359 =>
  bind2 (p_l_bent v3359 v3160) fun v3362 v3363 =>
  bind1 (gMod x3357 (.int 2)) fun v3366 =>
  bind1 (gIx (.list [v3358, v3362]) v3366) fun v3368 =>
  bind2 (
    bind1 (gEq x3357 (.int 0)) fun v3377 =>
    bind1 (asBool v3377) fun b3379 =>
    if b3379 = true then
      bind1 (gPow (.int 10) (.int 29)) fun v3382 =>
      bind2 (p_l_said v3363 v3382) fun v3384 v3385 =>
      some (v3385, v3384)
    else
      some (v3363, v3368)) fun v3389 v3390 =>
  bind1 (gRepr [v3390]) fun v3391 =>
  bind1 (p_is_number v3390) fun v3394 =>
  bind1 (p_is_saying v3390) fun v3397 =>
  bind1 (p_is_row v3390) fun v3400 =>
  bind1 (p_l_is_count v3390) fun v3404 =>
  bind1 (p_l_is_said v3390) fun v3407 =>
  bind1 (p_l_is_crew v3390) fun v3410 =>
  bind1 (
    bind1 (gRepr [(.list [v3394, v3397, v3400])]) fun v3414 =>
    bind1 (gRepr [(.list [v3404, v3407, v3410])]) fun v3416 =>
    bind1 (gNe v3414 v3416) fun v3418 =>
    bind1 (asBool v3418) fun b3420 =>
    if b3420 = true then
      some true
    else
      bind1 (gRepr [v3390]) fun v3422 =>
      bind1 (gNe v3422 v3391) fun v3424 =>
      bind1 (asBool v3424) fun b3426 =>
      some b3426) fun b3428 =>
  if b3428 = true then
    some (.rt (.bool false))
  else
    some (.nx v3389)
def p_law_b2 (d1672 : List Int) (x3155 : D) : Option (Ct (Unit) (D)) :=
  bind1 (p_l_tin d1672 x3155) fun v3156 =>
  bind2 (p_l_crew v3156 (.int 12)) fun v3160 v3161 =>
  bind1 (
    bind1 (p_is_row v3160) fun v3165 =>
    bind1 (gNot v3165 (.bool true)) fun v3168 =>
    bind1 (asBool v3168) fun b3170 =>
    if b3170 = true then
      some true
    else
      bind1 (gTuple [v3160]) fun v3172 =>
      bind1 (p_is_row v3172) fun v3174 =>
      bind1 (gNot v3174 (.bool true)) fun v3177 =>
      bind1 (asBool v3177) fun b3179 =>
      if b3179 = true then
        some true
      else
        bind1 (p_is_row (.list [])) fun v3181 =>
        bind1 (gNot v3181 (.bool true)) fun v3184 =>
        bind1 (asBool v3184) fun b3186 =>
        some b3186) fun b3188 =>
  if b3188 = true then
    some (.rt (.bool false))
  else
    bind1 (rng1P (.int 12)) fun x3192 =>
    ctB1 (forP (fun x s => p_law_b1 v3160 x s) x3192 v3161) (fun r => some (.rt r)) fun v3432 =>
    some (.nx ())
def p_law (d1672 : List Int) : Option (D) :=
  bind1 (gMin2 [(.int 12), (.int ((d1672.length : Nat) : Int))]) fun v2562 =>
  bind1 (gMax2 [(.int 1), v2562]) fun v2564 =>
  bind1 (rng1P v2564) fun x2566 =>
  ctB0 (forP (fun x _ => p_law_b2 d1672 x) x2566 ()) (fun r => some r) fun _ =>
  some (.bool true)
end Y
namespace Y
open PySem PL L2
theorem tr_is_number (d1 : D) (r : D) (h : p_is_number d1 = some r) : evalD [.b] 0 m_is_number [.bor d1] = some ((.pl (.val r)), [.bor d1]) := by
  unfold p_is_number at h
  refine run_evalD (m := m_is_number) ?_
  show PL.Run m_is_number [.bor d1] _
  unfold m_is_number
  obtain ⟨v25, h27, h⟩ := ob1 h
  have e26 : (mRv (mPl (mAndV (mUn (gIsi ["int"]) (mVar 0)) (mAndV (mNotV (mUn (gIsi ["bool"]) (mVar 0))) (mOp gGe (mVar 0) (mPl (mC (.int 0)))))))) [.bor d1] = .ok (.pl (.val v25)) [.bor d1] := by
    obtain ⟨v15, h16, h27⟩ := ob1 h27
    obtain ⟨b17, h18, h27⟩ := ob1 h27
    rcases b17 with _ | _
    · rw [if_neg Bool.false_ne_true] at h27
      obtain rfl := Option.some.inj h27
      simp [h16, h18]
    · rw [if_pos rfl] at h27
      obtain ⟨v19, h20, h27⟩ := ob1 h27
      obtain ⟨b21, h22, h27⟩ := ob1 h27
      rcases b21 with _ | _
      · rw [if_neg Bool.false_ne_true] at h27
        obtain ⟨v23, h24, h27⟩ := ob1 h27
        obtain rfl := Option.some.inj h27
        simp [h16, h18, h20, h22, h24]
      · rw [if_pos rfl] at h27
        obtain rfl := Option.some.inj h27
        simp [h16, h18, h20, h22]
  obtain rfl := Option.some.inj h
  exact run_ret e26 ⟨by simp [flR], by simp⟩
theorem tb_is_row_1 (d28 : D) (x382 : D) (j313 : Sl) (j314 : Sl) (j315 : Sl) (o : Ct (Unit) (D)) (h : p_is_row_b1 x382 = some o) : ∃ ρ1, (tName 1) x382 [.bor d28, j313, j314, j315] = .ok () ρ1 ∧ PL.Run mb_is_row_1 ρ1 ((ctQ (fun (s : Unit) (ρ : PL.Env) => ∃ (j313 : Sl) (j314 : Sl) (j315 : Sl), ρ = [.bor d28, j313, j314, j315]) (fun (r : D) fl ρ' => flR fl ρ' = some (.pl (.val r)) ∧ ρ'.take 1 = [.bor d28]) o)) := by
  unfold p_is_row_b1 at h
  refine ⟨[.bor d28, .val x382, j314, j315], by simp [], ?_⟩
  unfold mb_is_row_1
  obtain ⟨b393, h395, h⟩ := ob1 h
  have e394 : (mOr (mNot (mTr (mPl (mUn (gIsi ["tuple"]) (mVar 1))))) (mB (mOp gNe (mPl (mN gLen (mCons (mVar 1) mNil))) (mPl (mC (.int 2)))))) [.bor d28, .val x382, j314, j315] = .ok b393 [.bor d28, .val x382, j314, j315] := by
    obtain ⟨v383, h384, h395⟩ := ob1 h395
    obtain ⟨b385, h386, h395⟩ := ob1 h395
    rcases b385 with _ | _
    · rw [if_neg Bool.false_ne_true] at h395
      obtain rfl := Option.some.inj h395
      simp [h384, h386]
    · rw [if_pos rfl] at h395
      obtain ⟨v387, h388, h395⟩ := ob1 h395
      obtain ⟨v389, h390, h395⟩ := ob1 h395
      obtain ⟨b391, h392, h395⟩ := ob1 h395
      obtain rfl := Option.some.inj h395
      simp [h384, h386, h388, h390, h392]
  rcases b393 with _ | _
  · rw [if_neg Bool.false_ne_true] at h
    refine run_seq_if_f e394 ?_
    refine run_seq_skip ?_
    obtain ⟨v397, v398, h399, h⟩ := ob2 h
    have e400 : (mAsg (tTupl (tsCons (tName 2) (tsCons (tName 3) tsNil))) (mFz (mRv (mVar 1)))) [.bor d28, .val x382, j314, j315] = .ok .nx [.bor d28, .val x382, .val v397, .val v398] := by simp [(tT2 h399)]
    refine run_seq e400 ?_
    obtain ⟨b417, h419, h⟩ := ob1 h
    have e418 : (mOr (mNot (mTr (mPl (mUn (gIsi ["int"]) (mVar 2))))) (mOr (mB (mOp gLt (mVar 2) (mPl (mC (.int 0))))) (mOr (mB (mOp gIs (mVar 2) (mPl (mC (.bool true))))) (mB (mOp gIs (mVar 2) (mPl (mC (.bool false)))))))) [.bor d28, .val x382, .val v397, .val v398] = .ok b417 [.bor d28, .val x382, .val v397, .val v398] := by
      obtain ⟨v401, h402, h419⟩ := ob1 h419
      obtain ⟨b403, h404, h419⟩ := ob1 h419
      rcases b403 with _ | _
      · rw [if_neg Bool.false_ne_true] at h419
        obtain rfl := Option.some.inj h419
        simp [h402, h404]
      · rw [if_pos rfl] at h419
        obtain ⟨v405, h406, h419⟩ := ob1 h419
        obtain ⟨b407, h408, h419⟩ := ob1 h419
        rcases b407 with _ | _
        · rw [if_neg Bool.false_ne_true] at h419
          obtain ⟨v409, h410, h419⟩ := ob1 h419
          obtain ⟨b411, h412, h419⟩ := ob1 h419
          rcases b411 with _ | _
          · rw [if_neg Bool.false_ne_true] at h419
            obtain ⟨v413, h414, h419⟩ := ob1 h419
            obtain ⟨b415, h416, h419⟩ := ob1 h419
            obtain rfl := Option.some.inj h419
            simp [h402, h404, h406, h408, h410, h412, h414, h416]
          · rw [if_pos rfl] at h419
            obtain rfl := Option.some.inj h419
            simp [h402, h404, h406, h408, h410, h412]
        · rw [if_pos rfl] at h419
          obtain rfl := Option.some.inj h419
          simp [h402, h404, h406, h408]
    rcases b417 with _ | _
    · rw [if_neg Bool.false_ne_true] at h
      refine run_seq_if_f e418 ?_
      refine run_seq_skip ?_
      obtain ⟨b441, h443, h⟩ := ob1 h
      have e442 : (mAnd (mB (mOp gNot (mVar 3) (mPl (mC .none)))) (mOr (mNot (mTr (mPl (mUn (gIsi ["int"]) (mVar 3))))) (mOr (mB (mOp gLt (mVar 3) (mVar 2))) (mOr (mB (mOp gIs (mVar 3) (mPl (mC (.bool true))))) (mB (mOp gIs (mVar 3) (mPl (mC (.bool false))))))))) [.bor d28, .val x382, .val v397, .val v398] = .ok b441 [.bor d28, .val x382, .val v397, .val v398] := by
        obtain ⟨v421, h422, h443⟩ := ob1 h443
        obtain ⟨b423, h424, h443⟩ := ob1 h443
        rcases b423 with _ | _
        · rw [if_neg Bool.false_ne_true] at h443
          obtain rfl := Option.some.inj h443
          simp [h422, h424]
        · rw [if_pos rfl] at h443
          obtain ⟨v425, h426, h443⟩ := ob1 h443
          obtain ⟨b427, h428, h443⟩ := ob1 h443
          rcases b427 with _ | _
          · rw [if_neg Bool.false_ne_true] at h443
            obtain rfl := Option.some.inj h443
            simp [h422, h424, h426, h428]
          · rw [if_pos rfl] at h443
            obtain ⟨v429, h430, h443⟩ := ob1 h443
            obtain ⟨b431, h432, h443⟩ := ob1 h443
            rcases b431 with _ | _
            · rw [if_neg Bool.false_ne_true] at h443
              obtain ⟨v433, h434, h443⟩ := ob1 h443
              obtain ⟨b435, h436, h443⟩ := ob1 h443
              rcases b435 with _ | _
              · rw [if_neg Bool.false_ne_true] at h443
                obtain ⟨v437, h438, h443⟩ := ob1 h443
                obtain ⟨b439, h440, h443⟩ := ob1 h443
                obtain rfl := Option.some.inj h443
                simp [h422, h424, h426, h428, h430, h432, h434, h436, h438, h440]
              · rw [if_pos rfl] at h443
                obtain rfl := Option.some.inj h443
                simp [h422, h424, h426, h428, h430, h432, h434, h436]
            · rw [if_pos rfl] at h443
              obtain rfl := Option.some.inj h443
              simp [h422, h424, h426, h428, h430, h432]
      rcases b441 with _ | _
      · rw [if_neg Bool.false_ne_true] at h
        refine run_if_f e442 ?_
        obtain rfl := Option.some.inj h
        exact run_end (m := mSkip) (fl := .nx) rfl ⟨.inl rfl, .val x382, .val v397, .val v398, rfl⟩
      · rw [if_pos rfl] at h
        refine run_if_t e442 ?_
        have e444 : (mRv (mPl (mC (.bool false)))) [.bor d28, .val x382, .val v397, .val v398] = .ok (.pl (.val (.bool false))) [.bor d28, .val x382, .val v397, .val v398] := by simp []
        obtain rfl := Option.some.inj h
        exact run_ret e444 ⟨trivial, ⟨by simp [flR], by simp⟩⟩
    · rw [if_pos rfl] at h
      refine run_seq_if_t e418 ?_
      have e420 : (mRv (mPl (mC (.bool false)))) [.bor d28, .val x382, .val v397, .val v398] = .ok (.pl (.val (.bool false))) [.bor d28, .val x382, .val v397, .val v398] := by simp []
      obtain rfl := Option.some.inj h
      exact run_seq_ret e420 ⟨trivial, ⟨by simp [flR], by simp⟩⟩
  · rw [if_pos rfl] at h
    refine run_seq_if_t e394 ?_
    have e396 : (mRv (mPl (mC (.bool false)))) [.bor d28, .val x382, j314, j315] = .ok (.pl (.val (.bool false))) [.bor d28, .val x382, j314, j315] := by simp []
    obtain rfl := Option.some.inj h
    exact run_seq_ret e396 ⟨trivial, ⟨by simp [flR], by simp⟩⟩
theorem tr_is_row (d28 : D) (r : D) (h : p_is_row d28 = some r) : evalD [.b] 3 m_is_row [.bor d28] = some ((.pl (.val r)), [.bor d28]) := by
  unfold p_is_row at h
  refine run_evalD (m := m_is_row) ?_
  show PL.Run m_is_row [.bor d28, .un, .un, .un] _
  unfold m_is_row
  obtain ⟨v240, h241, h⟩ := ob1 h
  obtain ⟨b242, h243, h⟩ := ob1 h
  have e244 : (mNot (mTr (mPl (mUn (gIsi ["list", "tuple"]) (mVar 0))))) [.bor d28, .un, .un, .un] = .ok (!b242) [.bor d28, .un, .un, .un] := by simp [h241, h243]
  rcases b242 with _ | _
  · rw [if_neg Bool.false_ne_true] at h
    refine run_seq_if_t e244 ?_
    have e245 : (mRv (mPl (mC (.bool false)))) [.bor d28, .un, .un, .un] = .ok (.pl (.val (.bool false))) [.bor d28, .un, .un, .un] := by simp []
    obtain rfl := Option.some.inj h
    exact run_seq_ret e245 ⟨by simp [flR], by simp⟩
  · rw [if_pos rfl] at h
    refine run_seq_if_f e244 ?_
    refine run_seq_skip ?_
    obtain ⟨q246, x247, h248, h⟩ := ob2 h
    have e249 : (mIter (mVar 0)) [.bor d28, .un, .un, .un] = .ok x247 [.bor d28, .un, .un, .un] := by simp [h248]
    obtain ⟨o451, h448, h⟩ := obct0 h
    have e449 := forP_run (fun (s : Unit) (ρ : PL.Env) => ∃ (j313 : Sl) (j314 : Sl) (j315 : Sl), ρ = [.bor d28, j313, j314, j315]) (fun (r : D) fl ρ' => flR fl ρ' = some (.pl (.val r)) ∧ ρ'.take 1 = [.bor d28]) (t := (tName 1)) (b := mb_is_row_1) (fun x s ρ o hi hf => by obtain ⟨j313, j314, j315, rfl⟩ := hi; exact tb_is_row_1 d28 x j313 j314 j315 o hf) x247 () _ o451 ⟨.un, .un, .un, rfl⟩ h448
    rcases h with ⟨r, rfl, h⟩ | ⟨rfl, h⟩
    · refine run_seq_ct (run_for e249 e449) (fun t fl ρ' ho hf hq => ?_) (fun s ρ' ho hi => nomatch ho)
      cases ho
      cases h
      exact hq
    · refine run_seq_ct (run_for e249 e449) (fun t fl ρ' ho hf hq => nomatch ho) (fun s ρ' ho hi => ?_)
      cases ho
      obtain ⟨j445, j446, j447, rfl⟩ := hi
      have e450 : (mRv (mPl (mC (.bool true)))) [.bor d28, j445, j446, j447] = .ok (.pl (.val (.bool true))) [.bor d28, j445, j446, j447] := by simp []
      obtain rfl := Option.some.inj h
      exact run_ret e450 ⟨by simp [flR], by simp⟩
theorem tr_is_saying (d452 : D) (r : D) (h : p_is_saying d452 = some r) : evalD [.v] 0 m_is_saying [.val d452] = some ((.pl (.val r)), [.val d452]) := by
  unfold p_is_saying at h
  refine run_evalD (m := m_is_saying) ?_
  show PL.Run m_is_saying [.val d452] _
  unfold m_is_saying
  obtain ⟨v457, h458, h⟩ := ob1 h
  have e459 := tr_is_row (.list [d452]) _ h458
  have e460 : (mCall [.b] 3 m_is_row (mCons (mPl (mFz (mLst (mCons (mFz (mRv (mVar 0))) mNil)))) mNil)) [.val d452] = .ok (.pl (.val v457)) [.val d452] := by simp [e459]
  obtain rfl := Option.some.inj h
  exact run_ret e460 ⟨by simp [flR], by simp⟩
theorem tr_l_tin (d461 : List Int) (d462 : D) (r : D) (h : p_l_tin d461 d462 = some r) : evalD [.s, .b] 1 m_l_tin [.scr d461, .bor d462] = some ((.fr r), [.scr d461, .bor d462]) := by
  unfold p_l_tin at h
  refine run_evalD (m := m_l_tin) ?_
  show PL.Run m_l_tin [.scr d461, .bor d462, .un] _
  unfold m_l_tin
  have e500 : (mSet 2 (mRv (mPl (mC (.int 0))))) [.scr d461, .bor d462, .un] = .ok .nx [.scr d461, .bor d462, .val (.int 0)] := by simp []
  refine run_seq e500 ?_
  obtain ⟨v517, h505, h⟩ := ob1 h
  have e506 : PL.Run (mIf (mB (mOp gLt (mVar 1) (mPl (mLenS 0)))) (mSet 2 (mRv (mPl (mIxS 0 (mFz (mRv (mVar 1))))))) mSkip) [.scr d461, .bor d462, .val (.int 0)] fun fl ρ' => fl = .nx ∧ ρ' = [.scr d461, .bor d462, .val v517] := by
    obtain ⟨v507, h508, h505⟩ := ob1 h505
    obtain ⟨b509, h510, h505⟩ := ob1 h505
    have e511 : (mB (mOp gLt (mVar 1) (mPl (mLenS 0)))) [.scr d461, .bor d462, .val (.int 0)] = .ok b509 [.scr d461, .bor d462, .val (.int 0)] := by simp [h508, h510]
    rcases b509 with _ | _
    · rw [if_neg Bool.false_ne_true] at h505
      refine run_if_f e511 ?_
      obtain rfl := Option.some.inj h505
      exact run_end (m := mSkip) (fl := .nx) rfl ⟨rfl, rfl⟩
    · rw [if_pos rfl] at h505
      refine run_if_t e511 ?_
      obtain ⟨u512, h513, h505⟩ := ob1 h505
      obtain ⟨v514, h515, h505⟩ := ob1 h505
      have e516 : (mSet 2 (mRv (mPl (mIxS 0 (mFz (mRv (mVar 1))))))) [.scr d461, .bor d462, .val (.int 0)] = .ok .nx [.scr d461, .bor d462, .val v514] := by simp [(atP_eq h513), h515, s_ixS]
      obtain rfl := Option.some.inj h505
      exact run_end e516 ⟨rfl, rfl⟩
  obtain ⟨_, _, e506, rfl, rfl⟩ := e506
  refine run_seq e506 ?_
  obtain ⟨v518, h519, h⟩ := ob1 h
  obtain ⟨v520, h521, h⟩ := ob1 h
  obtain ⟨v522, h523, h⟩ := ob1 h
  obtain ⟨v524, h525, h⟩ := ob1 h
  obtain ⟨v526, h527, h⟩ := ob1 h
  obtain ⟨v528, h529, h⟩ := ob1 h
  obtain ⟨v530, h531, h⟩ := ob1 h
  obtain ⟨v532, h533, h⟩ := ob1 h
  obtain ⟨v534, h535, h⟩ := ob1 h
  have e536 : (mLst (mCons (mN gMax2 (mCons (mPl (mC (.int 0))) (mCons (mPl (mOp gSub' (mPl (mN gAbs (mCons (mVar 2) mNil))) (mPl (mOp gPow (mPl (mC (.int 10))) (mPl (mC (.int 18))))))) mNil))) (mCons (mFz (mOpX gAdd (mPl (mFz (mOpX gMul (mPl (mOp gMod (mVar 2) (mPl (mFz (mOpX gAdd (mPl (mOp gPow (mPl (mC (.int 10))) (mPl (mC (.int 37))))) (mPl (mC (.int 43)))))))) (mPl (mC (.int 64)))))) (mVar 1))) (mCons (mC (.int 0)) mNil)))) [.scr d461, .bor d462, .val v517] = .ok (.fr (.list [v524, v534, (.int 0)])) [.scr d461, .bor d462, .val v517] := by simp [h519, h521, h523, h525, h527, (addV_eq h529), h531, (mulV_eq h533), (addV_eq h535)]
  obtain rfl := Option.some.inj h
  exact run_ret e536 ⟨by simp [flR], by simp⟩
theorem tr_l_deal (d537 : D) (d538 : D) (r : D) (v667 : D) (h : p_l_deal d537 d538 = some (r, v667)) : evalD [.io, .b] 2 m_l_deal [.io d537, .bor d538] = some ((.pl (.val r)), [.io v667, .bor d538]) := by
  unfold p_l_deal at h
  refine run_evalD (m := m_l_deal) ?_
  show PL.Run m_l_deal [.io d537, .bor d538, .un, .un] _
  unfold m_l_deal
  obtain ⟨v603, h604, h⟩ := ob1 h
  obtain ⟨v605, h606, h⟩ := ob1 h
  obtain ⟨b607, h608, h⟩ := ob1 h
  have e609 : (mB (mOp gGt (mPl (mOp gIx (mVar 0) (mPl (mC (.int 0))))) (mPl (mC (.int 0))))) [.io d537, .bor d538, .un, .un] = .ok b607 [.io d537, .bor d538, .un, .un] := by simp [h604, h606, h608]
  rcases b607 with _ | _
  · rw [if_neg Bool.false_ne_true] at h
    refine run_seq_if_f e609 ?_
    refine run_seq_skip ?_
    obtain ⟨v623, h624, h⟩ := ob1 h
    obtain ⟨v625, h626, h⟩ := ob1 h
    obtain ⟨v627, h628, h⟩ := ob1 h
    have e629 : (mSetIx 0 (mFz (mOpX gAdd (mPl (mOp gIx (mVar 0) (mPl (mC (.int 2))))) (mPl (mC (.int 1))))) (mC (.int 2))) [.io d537, .bor d538, .un, .un] = .ok .nx [.io v627, .bor d538, .un, .un] := by simp [h624, (addV_eq h626), h628]
    refine run_seq e629 ?_
    obtain ⟨v630, h631, h⟩ := ob1 h
    obtain ⟨v632, h633, h⟩ := ob1 h
    obtain ⟨v634, h635, h⟩ := ob1 h
    obtain ⟨v636, h637, h⟩ := ob1 h
    obtain ⟨v638, h639, h⟩ := ob1 h
    obtain ⟨v640, h641, h⟩ := ob1 h
    obtain ⟨v642, h643, h⟩ := ob1 h
    obtain ⟨v644, h645, h⟩ := ob1 h
    have e646 : (mSet 3 (mRv (mPl (mOp gMod (mPl (mOp gPow (mPl (mFz (mOpX gAdd (mPl (mOp gIx (mVar 0) (mPl (mC (.int 1))))) (mPl (mFz (mOpX gMul (mPl (mC (.int 9576890767))) (mPl (mOp gIx (mVar 0) (mPl (mC (.int 2))))))))))) (mPl (mC (.int 3))))) (mPl (mFz (mOpX gAdd (mPl (mOp gPow (mPl (mC (.int 10))) (mPl (mC (.int 38))))) (mPl (mC (.int 133)))))))))) [.io v627, .bor d538, .un, .un] = .ok .nx [.io v627, .bor d538, .un, .val v644] := by simp [h631, h633, (mulV_eq h635), (addV_eq h637), h639, h641, (addV_eq h643), h645]
    refine run_seq e646 ?_
    obtain ⟨v647, h648, h⟩ := ob1 h
    obtain ⟨v649, h650, h⟩ := ob1 h
    obtain ⟨v651, h652, h⟩ := ob1 h
    obtain ⟨v653, h654, h⟩ := ob1 h
    obtain ⟨v655, h656, h⟩ := ob1 h
    obtain ⟨v657, h658, h⟩ := ob1 h
    obtain ⟨v659, h660, h⟩ := ob1 h
    have e661 : (mSet 3 (mRv (mPl (mOp gMod (mPl (mOp gPow (mPl (mFz (mOpX gAdd (mVar 3) (mPl (mFz (mOpX gMul (mPl (mC (.int 32452843))) (mPl (mOp gIx (mVar 0) (mPl (mC (.int 2))))))))))) (mPl (mC (.int 5))))) (mPl (mFz (mOpX gAdd (mPl (mOp gPow (mPl (mC (.int 10))) (mPl (mC (.int 40))))) (mPl (mC (.int 121)))))))))) [.io v627, .bor d538, .un, .val v644] = .ok .nx [.io v627, .bor d538, .un, .val v659] := by simp [h648, (mulV_eq h650), (addV_eq h652), h654, h656, (addV_eq h658), h660]
    refine run_seq e661 ?_
    obtain ⟨v662, h663, h⟩ := ob1 h
    obtain ⟨v664, h665, h⟩ := ob1 h
    have e666 : (mRv (mPl (mOp gMod (mPl (mOp gDiv (mVar 3) (mPl (mC (.int 65536))))) (mVar 1)))) [.io v627, .bor d538, .un, .val v659] = .ok (.pl (.val v664)) [.io v627, .bor d538, .un, .val v659] := by simp [h663, h665]
    obtain ⟨rfl, rfl⟩ := sinj2 h
    exact run_ret e666 ⟨by simp [flR], by simp⟩
  · rw [if_pos rfl] at h
    refine run_seq_if_t e609 ?_
    refine run_seq_assoc ?_
    obtain ⟨v610, h611, h⟩ := ob1 h
    obtain ⟨v612, h613, h⟩ := ob1 h
    have e614 : (mSet 2 (mRv (mPl (mOp gMod (mPl (mOp gIx (mVar 0) (mPl (mC (.int 0))))) (mVar 1))))) [.io d537, .bor d538, .un, .un] = .ok .nx [.io d537, .bor d538, .val v612, .un] := by simp [h611, h613]
    refine run_seq e614 ?_
    refine run_seq_assoc ?_
    obtain ⟨v615, h616, h⟩ := ob1 h
    obtain ⟨v617, h618, h⟩ := ob1 h
    obtain ⟨v619, h620, h⟩ := ob1 h
    have e621 : (mSetIx 0 (mOp gDiv (mPl (mOp gIx (mVar 0) (mPl (mC (.int 0))))) (mVar 1)) (mC (.int 0))) [.io d537, .bor d538, .val v612, .un] = .ok .nx [.io v619, .bor d538, .val v612, .un] := by simp [h616, h618, h620]
    refine run_seq e621 ?_
    have e622 : (mRv (mVar 2)) [.io v619, .bor d538, .val v612, .un] = .ok (.pl (.val v612)) [.io v619, .bor d538, .val v612, .un] := by simp []
    obtain ⟨rfl, rfl⟩ := sinj2 h
    exact run_seq_ret e622 ⟨by simp [flR], by simp⟩
theorem tr_l_said (d668 : D) (d669 : D) (r : D) (v714 : D) (h : p_l_said d668 d669 = some (r, v714)) : evalD [.io, .b] 3 m_l_said [.io d668, .bor d669] = some ((.pl (.val r)), [.io v714, .bor d669]) := by
  unfold p_l_said at h
  refine run_evalD (m := m_l_said) ?_
  show PL.Run m_l_said [.io d668, .bor d669, .un, .un, .un] _
  unfold m_l_said
  obtain ⟨v692, v693, h694, h⟩ := ob2 h
  have e695 := tr_l_deal d668 d669 _ _ h694
  have e696 : (mSet 2 (mCall [.io, .b] 2 m_l_deal (mCons (mVar 0) (mCons (mVar 1) mNil)))) [.io d668, .bor d669, .un, .un, .un] = .ok .nx [.io v693, .bor d669, .val v692, .un, .un] := by simp [e695]
  refine run_seq e696 ?_
  obtain ⟨v697, v698, h699, h⟩ := ob2 h
  have e700 := tr_l_deal v693 d669 _ _ h699
  obtain ⟨v701, h702, h⟩ := ob1 h
  have e703 : (mSet 3 (mOpX gAdd (mVar 2) (mPl (mFz (mCall [.io, .b] 2 m_l_deal (mCons (mVar 0) (mCons (mVar 1) mNil))))))) [.io v693, .bor d669, .val v692, .un, .un] = .ok .nx [.io v698, .bor d669, .val v692, .val v701, .un] := by simp [e700, (addV_eq h702)]
  refine run_seq e703 ?_
  have e704 : (mSet 4 (mLst (mCons (mTup (mCons (mFz (mRv (mVar 2))) (mCons (mC .none) mNil))) (mCons (mTup (mCons (mFz (mRv (mVar 2))) (mCons (mFz (mRv (mVar 2))) mNil))) (mCons (mTup (mCons (mC (.int 0)) (mCons (mFz (mRv (mVar 2))) mNil))) (mCons (mTup (mCons (mFz (mRv (mVar 2))) (mCons (mFz (mRv (mVar 3))) mNil))) (mCons (mTup (mCons (mC (.int 0)) (mCons (mC .none) mNil))) mNil))))))) [.io v698, .bor d669, .val v692, .val v701, .un] = .ok .nx [.io v698, .bor d669, .val v692, .val v701, .own (.list [(.tuple [v692, (.none : D)]), (.tuple [v692, v692]), (.tuple [(.int 0), v692]), (.tuple [v692, v701]), (.tuple [(.int 0), (.none : D)])])] := by simp []
  refine run_seq e704 ?_
  obtain ⟨v705, v706, h707, h⟩ := ob2 h
  have e708 := tr_l_deal v698 (.int 10) _ _ h707
  obtain ⟨v709, h710, h⟩ := ob1 h
  obtain ⟨v711, h712, h⟩ := ob1 h
  have e713 : (mRv (mPl (mOp gIx (mVar 4) (mPl (mOp gMod (mPl (mFz (mCall [.io, .b] 2 m_l_deal (mCons (mVar 0) (mCons (mPl (mC (.int 10))) mNil))))) (mPl (mC (.int 5)))))))) [.io v698, .bor d669, .val v692, .val v701, .own (.list [(.tuple [v692, (.none : D)]), (.tuple [v692, v692]), (.tuple [(.int 0), v692]), (.tuple [v692, v701]), (.tuple [(.int 0), (.none : D)])])] = .ok (.pl (.val v711)) [.io v706, .bor d669, .val v692, .val v701, .own (.list [(.tuple [v692, (.none : D)]), (.tuple [v692, v692]), (.tuple [(.int 0), v692]), (.tuple [v692, v701]), (.tuple [(.int 0), (.none : D)])])] := by simp [e708, h710, h712]
  obtain ⟨rfl, rfl⟩ := sinj2 h
  exact run_ret e713 ⟨by simp [flR], by simp⟩
theorem tc_l_crew_1 (d716 : D) (v963 : D) (v967 : D) (v973 : D) (v984 : D) (v993 : D) (v1006 : D) (x1023 : D) (v1016 : D) (o : Option D) (s' : D) (h : p_l_crew_c1 v993 x1023 v1016 = some (o, s')) : ∃ ρ1 ρ2, (tName 9) x1023 [.io v1016, .bor d716, .own (.list [v963, v967, v973]), .val v984, .val v993, .val v1006, .un, .un, .un, .un, .un] = .ok () ρ1 ∧ lcQ mYes (mFz (mCall [.io, .b] 3 m_l_said (mCons (mVar 0) (mCons (mVar 4) mNil)))) [9] ((fun (s : D) (ρ : PL.Env) => ρ = [.io s, .bor d716, .own (.list [v963, v967, v973]), .val v984, .val v993, .val v1006, .un, .un, .un, .un, .un]) s') ρ1 ρ2 o := by
  unfold p_l_crew_c1 at h
  obtain ⟨v1024, v1025, h1026, h⟩ := ob2 h
  have e1027 := tr_l_said v1016 v993 _ _ h1026
  obtain ⟨rfl, rfl⟩ := sinj2 h
  exact ⟨[.io v1016, .bor d716, .own (.list [v963, v967, v973]), .val v984, .val v993, .val v1006, .un, .un, .un, .val x1023, .un], [.io v1016, .bor d716, .own (.list [v963, v967, v973]), .val v984, .val v993, .val v1006, .un, .un, .un, .val x1023, .un], by simp [e1027], [.io v1025, .bor d716, .own (.list [v963, v967, v973]), .val v984, .val v993, .val v1006, .un, .un, .un, .val x1023, .un], by simp [e1027], by simp [e1027], by simp⟩
theorem tb_l_crew_1 (d716 : D) (v963 : D) (v967 : D) (v973 : D) (v984 : D) (v993 : D) (v1006 : D) (x1028 : List D) (v1035 : D) (x1152 : D) (v1094 : D) (v1095 : D) (j1096 : Sl) (j1097 : Sl) (s0 : D × D) (h : p_l_crew_b1 v993 v1035 x1028 v1006 x1152 v1094 v1095 = some s0) : ∃ ρ1, (tName 9) x1152 [.io v1094, .bor d716, .own (.list [v963, v967, v973]), .val v984, .val v993, .val v1006, .own (.list x1028), .val v1035, .own v1095, j1096, j1097] = .ok () ρ1 ∧ PL.Run mb_l_crew_1 ρ1 (fun fl ρ' => (fl = .nx ∨ fl = .ct) ∧ (fun (s : D × D) (ρ : PL.Env) => ∃ (j1096 : Sl) (j1097 : Sl), ρ = [.io s.1, .bor d716, .own (.list [v963, v967, v973]), .val v984, .val v993, .val v1006, .own (.list x1028), .val v1035, .own s.2, j1096, j1097]) s0 ρ') := by
  unfold p_l_crew_b1 at h
  refine ⟨[.io v1094, .bor d716, .own (.list [v963, v967, v973]), .val v984, .val v993, .val v1006, .own (.list x1028), .val v1035, .own v1095, .val x1152, j1097], by simp [], ?_⟩
  unfold mb_l_crew_1
  obtain ⟨v1153, v1154, h1155, h⟩ := ob2 h
  have e1156 := tr_l_said v1094 v993 _ _ h1155
  have e1157 : (mSet 10 (mCall [.io, .b] 3 m_l_said (mCons (mVar 0) (mCons (mVar 4) mNil)))) [.io v1094, .bor d716, .own (.list [v963, v967, v973]), .val v984, .val v993, .val v1006, .own (.list x1028), .val v1035, .own v1095, .val x1152, j1097] = .ok .nx [.io v1154, .bor d716, .own (.list [v963, v967, v973]), .val v984, .val v993, .val v1006, .own (.list x1028), .val v1035, .own v1095, .val x1152, .val v1153] := by simp [e1156]
  refine run_seq e1157 ?_
  obtain ⟨v1180, h1162, h⟩ := ob1 h
  have e1163 : PL.Run (mIf (mB (mOp gGt (mVar 7) (mPl (mC (.int 2))))) (mSet 10 (mRv (mPl (mOp gIx (mPl (mFz (mLst (mCons (mOp gIx (mVar 6) (mPl (mC (.int 0)))) (mCons (mOp gIx (mVar 6) (mPl (mOp gMod (mVar 9) (mPl (mC (.int 2)))))) (mCons (mTup (mCons (mFz (mRv (mVar 9))) (mCons (mFz (mRv (mVar 9))) mNil))) mNil)))))) (mPl (mOp gSub' (mVar 7) (mPl (mC (.int 3))))))))) mSkip) [.io v1154, .bor d716, .own (.list [v963, v967, v973]), .val v984, .val v993, .val v1006, .own (.list x1028), .val v1035, .own v1095, .val x1152, .val v1153] fun fl ρ' => fl = .nx ∧ ρ' = [.io v1154, .bor d716, .own (.list [v963, v967, v973]), .val v984, .val v993, .val v1006, .own (.list x1028), .val v1035, .own v1095, .val x1152, .val v1180] := by
    obtain ⟨v1164, h1165, h1162⟩ := ob1 h1162
    obtain ⟨b1166, h1167, h1162⟩ := ob1 h1162
    have e1168 : (mB (mOp gGt (mVar 7) (mPl (mC (.int 2))))) [.io v1154, .bor d716, .own (.list [v963, v967, v973]), .val v984, .val v993, .val v1006, .own (.list x1028), .val v1035, .own v1095, .val x1152, .val v1153] = .ok b1166 [.io v1154, .bor d716, .own (.list [v963, v967, v973]), .val v984, .val v993, .val v1006, .own (.list x1028), .val v1035, .own v1095, .val x1152, .val v1153] := by simp [h1165, h1167]
    rcases b1166 with _ | _
    · rw [if_neg Bool.false_ne_true] at h1162
      refine run_if_f e1168 ?_
      obtain rfl := Option.some.inj h1162
      exact run_end (m := mSkip) (fl := .nx) rfl ⟨rfl, rfl⟩
    · rw [if_pos rfl] at h1162
      refine run_if_t e1168 ?_
      obtain ⟨v1169, h1170, h1162⟩ := ob1 h1162
      obtain ⟨v1171, h1172, h1162⟩ := ob1 h1162
      obtain ⟨v1173, h1174, h1162⟩ := ob1 h1162
      obtain ⟨v1175, h1176, h1162⟩ := ob1 h1162
      obtain ⟨v1177, h1178, h1162⟩ := ob1 h1162
      have e1179 : (mSet 10 (mRv (mPl (mOp gIx (mPl (mFz (mLst (mCons (mOp gIx (mVar 6) (mPl (mC (.int 0)))) (mCons (mOp gIx (mVar 6) (mPl (mOp gMod (mVar 9) (mPl (mC (.int 2)))))) (mCons (mTup (mCons (mFz (mRv (mVar 9))) (mCons (mFz (mRv (mVar 9))) mNil))) mNil)))))) (mPl (mOp gSub' (mVar 7) (mPl (mC (.int 3))))))))) [.io v1154, .bor d716, .own (.list [v963, v967, v973]), .val v984, .val v993, .val v1006, .own (.list x1028), .val v1035, .own v1095, .val x1152, .val v1153] = .ok .nx [.io v1154, .bor d716, .own (.list [v963, v967, v973]), .val v984, .val v993, .val v1006, .own (.list x1028), .val v1035, .own v1095, .val x1152, .val v1177] := by simp [h1170, h1172, h1174, h1176, h1178]
      obtain rfl := Option.some.inj h1162
      exact run_end e1179 ⟨rfl, rfl⟩
  obtain ⟨_, _, e1163, rfl, rfl⟩ := e1163
  refine run_seq e1163 ?_
  obtain ⟨v1199, h1201, h⟩ := ob1 h
  have e1200 : (mDrop (mMut 8 gAppend (mCons (mTup (mCons (mFz (mOpX gAdd (mPl (mOp gIx (mVar 10) (mPl (mC (.int 0))))) (mVar 5))) (mCons (mIf (mB (mOp gIs (mPl (mOp gIx (mVar 10) (mPl (mC (.int 1))))) (mPl (mC .none)))) (mC .none) (mFz (mOpX gAdd (mPl (mOp gIx (mVar 10) (mPl (mC (.int 1))))) (mVar 5)))) mNil))) mNil))) [.io v1154, .bor d716, .own (.list [v963, v967, v973]), .val v984, .val v993, .val v1006, .own (.list x1028), .val v1035, .own v1095, .val x1152, .val v1180] = .ok .nx [.io v1154, .bor d716, .own (.list [v963, v967, v973]), .val v984, .val v993, .val v1006, .own (.list x1028), .val v1035, .own v1199, .val x1152, .val v1180] := by
    obtain ⟨v1181, h1182, h1201⟩ := ob1 h1201
    obtain ⟨v1183, h1184, h1201⟩ := ob1 h1201
    obtain ⟨v1185, h1186, h1201⟩ := ob1 h1201
    obtain ⟨v1187, h1188, h1201⟩ := ob1 h1201
    obtain ⟨b1189, h1190, h1201⟩ := ob1 h1201
    rcases b1189 with _ | _
    · rw [if_neg Bool.false_ne_true] at h1201
      obtain ⟨v1194, h1195, h1201⟩ := ob1 h1201
      obtain ⟨v1196, v1197, h1198, h1201⟩ := ob2 h1201
      obtain rfl := Option.some.inj h1201
      simp [h1182, (addV_eq h1184), h1186, h1188, h1190, (addV_eq h1195), h1198, (mutP_lst h1198)]
    · rw [if_pos rfl] at h1201
      obtain ⟨v1191, v1192, h1193, h1201⟩ := ob2 h1201
      obtain rfl := Option.some.inj h1201
      simp [h1182, (addV_eq h1184), h1186, h1188, h1190, h1193, (mutP_lst h1193)]
  obtain rfl := Option.some.inj h
  exact run_end e1200 ⟨.inl rfl, .val x1152, .val v1180, rfl⟩
theorem tr_l_crew (d715 : D) (d716 : D) (r : D) (v1209 : D) (h : p_l_crew d715 d716 = some (r, v1209)) : evalD [.io, .b] 9 m_l_crew [.io d715, .bor d716] = some ((.fr r), [.io v1209, .bor d716]) := by
  unfold p_l_crew at h
  refine run_evalD (m := m_l_crew) ?_
  show PL.Run m_l_crew [.io d715, .bor d716, .un, .un, .un, .un, .un, .un, .un, .un, .un] _
  unfold m_l_crew
  obtain ⟨v963, v964, h965, h⟩ := ob2 h
  have e966 := tr_l_deal d715 (.int 4) _ _ h965
  obtain ⟨v967, v968, h969, h⟩ := ob2 h
  have e970 := tr_l_deal v964 (.int 9) _ _ h969
  obtain ⟨v971, h972, h⟩ := ob1 h
  obtain ⟨v973, v974, h975, h⟩ := ob2 h
  have e976 := tr_l_deal v968 v971 _ _ h975
  have e977 : (mSet 2 (mLst (mCons (mFz (mCall [.io, .b] 2 m_l_deal (mCons (mVar 0) (mCons (mPl (mC (.int 4))) mNil)))) (mCons (mFz (mCall [.io, .b] 2 m_l_deal (mCons (mVar 0) (mCons (mPl (mC (.int 9))) mNil)))) (mCons (mFz (mCall [.io, .b] 2 m_l_deal (mCons (mVar 0) (mCons (mPl (mFz (mOpX gAdd (mVar 1) (mPl (mC (.int 1)))))) mNil)))) mNil))))) [.io d715, .bor d716, .un, .un, .un, .un, .un, .un, .un, .un, .un] = .ok .nx [.io v974, .bor d716, .own (.list [v963, v967, v973]), .un, .un, .un, .un, .un, .un, .un, .un] := by simp [e966, e970, (addV_eq h972), e976]
  refine run_seq e977 ?_
  obtain ⟨v978, v979, h980, h⟩ := ob2 h
  have e981 := tr_l_deal v974 (.int 3) _ _ h980
  obtain ⟨v982, h983, h⟩ := ob1 h
  obtain ⟨v984, h985, h⟩ := ob1 h
  have e986 : (mSet 3 (mRv (mPl (mN gMin2 (mCons (mVar 1) (mCons (mPl (mOp gIx (mVar 2) (mPl (mFz (mCall [.io, .b] 2 m_l_deal (mCons (mVar 0) (mCons (mPl (mC (.int 3))) mNil))))))) mNil)))))) [.io v974, .bor d716, .own (.list [v963, v967, v973]), .un, .un, .un, .un, .un, .un, .un, .un] = .ok .nx [.io v979, .bor d716, .own (.list [v963, v967, v973]), .val v984, .un, .un, .un, .un, .un, .un, .un] := by simp [e981, h983, h985]
  refine run_seq e986 ?_
  obtain ⟨v987, h988, h⟩ := ob1 h
  obtain ⟨v989, v990, h991, h⟩ := ob2 h
  have e992 := tr_l_deal v979 (.int 4) _ _ h991
  obtain ⟨v993, h994, h⟩ := ob1 h
  have e995 : (mSet 4 (mRv (mPl (mOp gIx (mPl (mFz (mLst (mCons (mC (.int 2)) (mCons (mC (.int 4)) (mCons (mC (.int 9)) (mCons (mFz (mOpX gAdd (mVar 3) (mPl (mC (.int 2))))) mNil))))))) (mPl (mFz (mCall [.io, .b] 2 m_l_deal (mCons (mVar 0) (mCons (mPl (mC (.int 4))) mNil))))))))) [.io v979, .bor d716, .own (.list [v963, v967, v973]), .val v984, .un, .un, .un, .un, .un, .un, .un] = .ok .nx [.io v990, .bor d716, .own (.list [v963, v967, v973]), .val v984, .val v993, .un, .un, .un, .un, .un, .un] := by simp [(addV_eq h988), e992, h994]
  refine run_seq e995 ?_
  obtain ⟨v996, h997, h⟩ := ob1 h
  obtain ⟨v998, v999, h1000, h⟩ := ob2 h
  have e1001 := tr_l_deal v990 v996 _ _ h1000
  obtain ⟨v1002, v1003, h1004, h⟩ := ob2 h
  have e1005 := tr_l_deal v999 (.int 4) _ _ h1004
  obtain ⟨v1006, h1007, h⟩ := ob1 h
  have e1008 : (mSet 5 (mRv (mPl (mOp gIx (mPl (mFz (mLst (mCons (mC (.int 0)) (mCons (mC (.int 0)) (mCons (mC (.int 0)) (mCons (mFz (mCall [.io, .b] 2 m_l_deal (mCons (mVar 0) (mCons (mPl (mOp gPow (mPl (mC (.int 10))) (mPl (mC (.int 29))))) mNil)))) mNil))))))) (mPl (mFz (mCall [.io, .b] 2 m_l_deal (mCons (mVar 0) (mCons (mPl (mC (.int 4))) mNil))))))))) [.io v990, .bor d716, .own (.list [v963, v967, v973]), .val v984, .val v993, .un, .un, .un, .un, .un, .un] = .ok .nx [.io v1003, .bor d716, .own (.list [v963, v967, v973]), .val v984, .val v993, .val v1006, .un, .un, .un, .un, .un] := by simp [h997, e1001, e1005, h1007]
  refine run_seq e1008 ?_
  obtain ⟨x1009, h1010, h⟩ := ob1 h
  obtain ⟨x1028, v1031, h1029, h⟩ := ob2 h
  obtain ⟨r1032, e1030, r1033⟩ := lcT_run (fun (s : D) (ρ : PL.Env) => ρ = [.io s, .bor d716, .own (.list [v963, v967, v973]), .val v984, .val v993, .val v1006, .un, .un, .un, .un, .un]) (fi := (mRng1 (mC (.int 2)))) (t := (tName 9)) (vs := [9]) (c := mYes) (fe := (mFz (mCall [.io, .b] 3 m_l_said (mCons (mVar 0) (mCons (mVar 4) mNil))))) (ρ0 := [.io v1003, .bor d716, .own (.list [v963, v967, v973]), .val v984, .val v993, .val v1006, .un, .un, .un, .un, .un]) (ρ1 := [.io v1003, .bor d716, .own (.list [v963, v967, v973]), .val v984, .val v993, .val v1006, .un, .un, .un, .un, .un]) (s := v1003) (by simp [h1010]) (by simp) h1029 (fun x s ρ o s' hi hf => by subst hi; exact tc_l_crew_1 d716 v963 v967 v973 v984 v993 v1006 x s o s' hf)
  subst r1033
  have e1034 : (mSet 6 (mLc (mRng1 (mC (.int 2))) (tName 9) [9] mYes (mFz (mCall [.io, .b] 3 m_l_said (mCons (mVar 0) (mCons (mVar 4) mNil)))))) [.io v1003, .bor d716, .own (.list [v963, v967, v973]), .val v984, .val v993, .val v1006, .un, .un, .un, .un, .un] = .ok .nx [.io v1031, .bor d716, .own (.list [v963, v967, v973]), .val v984, .val v993, .val v1006, .own (.list x1028), .un, .un, .un, .un] := by simp [h1010, e1030]
  refine run_seq e1034 ?_
  obtain ⟨v1035, v1036, h1037, h⟩ := ob2 h
  have e1038 := tr_l_deal v1031 (.int 6) _ _ h1037
  have e1039 : (mSet 7 (mCall [.io, .b] 2 m_l_deal (mCons (mVar 0) (mCons (mPl (mC (.int 6))) mNil)))) [.io v1031, .bor d716, .own (.list [v963, v967, v973]), .val v984, .val v993, .val v1006, .own (.list x1028), .un, .un, .un, .un] = .ok .nx [.io v1036, .bor d716, .own (.list [v963, v967, v973]), .val v984, .val v993, .val v1006, .own (.list x1028), .val v1035, .un, .un, .un] := by simp [e1038]
  refine run_seq e1039 ?_
  have e1040 : (mSet 8 (mLst mNil)) [.io v1036, .bor d716, .own (.list [v963, v967, v973]), .val v984, .val v993, .val v1006, .own (.list x1028), .val v1035, .un, .un, .un] = .ok .nx [.io v1036, .bor d716, .own (.list [v963, v967, v973]), .val v984, .val v993, .val v1006, .own (.list x1028), .val v1035, .own (.list []), .un, .un] := by simp []
  refine run_seq e1040 ?_
  obtain ⟨x1041, h1042, h⟩ := ob1 h
  have e1043 : (mRng1 (mFz (mRv (mVar 3)))) [.io v1036, .bor d716, .own (.list [v963, v967, v973]), .val v984, .val v993, .val v1006, .own (.list x1028), .val v1035, .own (.list []), .un, .un] = .ok x1041 [.io v1036, .bor d716, .own (.list [v963, v967, v973]), .val v984, .val v993, .val v1006, .own (.list x1028), .val v1035, .own (.list []), .un, .un] := by simp [h1042]
  obtain ⟨v1202, v1203, h1206, h⟩ := ob2 h
  obtain ⟨_, e1207, j1204, j1205, rfl⟩ := run_for_nx e1043 (foldP_run (fun (s : D × D) (ρ : PL.Env) => ∃ (j1096 : Sl) (j1097 : Sl), ρ = [.io s.1, .bor d716, .own (.list [v963, v967, v973]), .val v984, .val v993, .val v1006, .own (.list x1028), .val v1035, .own s.2, j1096, j1097]) (t := (tName 9)) (b := mb_l_crew_1) (fun x s ρ s0 hi hf => by obtain ⟨j1096, j1097, rfl⟩ := hi; exact tb_l_crew_1 d716 v963 v967 v973 v984 v993 v1006 x1028 v1035 x s.1 s.2 j1096 j1097 s0 hf) x1041 (v1036, (.list [])) _ (v1202, v1203) ⟨.un, .un, rfl⟩ h1206)
  refine run_seq e1207 ?_
  have e1208 : (mRv (mVar 8)) [.io v1202, .bor d716, .own (.list [v963, v967, v973]), .val v984, .val v993, .val v1006, .own (.list x1028), .val v1035, .own v1203, j1204, j1205] = .ok (.pl (.slot 8)) [.io v1202, .bor d716, .own (.list [v963, v967, v973]), .val v984, .val v993, .val v1006, .own (.list x1028), .val v1035, .own v1203, j1204, j1205] := by simp []
  obtain ⟨rfl, rfl⟩ := sinj2 h
  exact run_ret e1208 ⟨by simp [flR], by simp⟩
theorem tr_l_is_count (d1210 : D) (r : D) (h : p_l_is_count d1210 = some r) : evalD [.b] 0 m_l_is_count [.bor d1210] = some ((.pl (.val r)), [.bor d1210]) := by
  unfold p_l_is_count at h
  refine run_evalD (m := m_l_is_count) ?_
  show PL.Run m_l_is_count [.bor d1210] _
  unfold m_l_is_count
  obtain ⟨v1234, h1236, h⟩ := ob1 h
  have e1235 : (mRv (mPl (mAndV (mUn (gIsi ["int"]) (mVar 0)) (mAndV (mNotV (mUn (gIsi ["bool"]) (mVar 0))) (mOp gGe (mVar 0) (mPl (mC (.int 0)))))))) [.bor d1210] = .ok (.pl (.val v1234)) [.bor d1210] := by
    obtain ⟨v1224, h1225, h1236⟩ := ob1 h1236
    obtain ⟨b1226, h1227, h1236⟩ := ob1 h1236
    rcases b1226 with _ | _
    · rw [if_neg Bool.false_ne_true] at h1236
      obtain rfl := Option.some.inj h1236
      simp [h1225, h1227]
    · rw [if_pos rfl] at h1236
      obtain ⟨v1228, h1229, h1236⟩ := ob1 h1236
      obtain ⟨b1230, h1231, h1236⟩ := ob1 h1236
      rcases b1230 with _ | _
      · rw [if_neg Bool.false_ne_true] at h1236
        obtain ⟨v1232, h1233, h1236⟩ := ob1 h1236
        obtain rfl := Option.some.inj h1236
        simp [h1225, h1227, h1229, h1231, h1233]
      · rw [if_pos rfl] at h1236
        obtain rfl := Option.some.inj h1236
        simp [h1225, h1227, h1229, h1231]
  obtain rfl := Option.some.inj h
  exact run_ret e1235 ⟨by simp [flR], by simp⟩
theorem tr_l_is_said (d1237 : D) (r : D) (h : p_l_is_said d1237 = some r) : evalD [.b] 0 m_l_is_said [.bor d1237] = some ((.pl (.val r)), [.bor d1237]) := by
  unfold p_l_is_said at h
  refine run_evalD (m := m_l_is_said) ?_
  show PL.Run m_l_is_said [.bor d1237] _
  unfold m_l_is_said
  obtain ⟨b1294, h1296, h⟩ := ob1 h
  have e1295 : (mOr (mNot (mTr (mPl (mUn (gIsi ["tuple"]) (mVar 0))))) (mOr (mB (mOp gNe (mPl (mN gLen (mCons (mVar 0) mNil))) (mPl (mC (.int 2))))) (mNot (mTr (mPl (mFz (mCall [.b] 0 m_l_is_count (mCons (mPl (mOp gIx (mVar 0) (mPl (mC (.int 0))))) mNil)))))))) [.bor d1237] = .ok b1294 [.bor d1237] := by
    obtain ⟨v1277, h1278, h1296⟩ := ob1 h1296
    obtain ⟨b1279, h1280, h1296⟩ := ob1 h1296
    rcases b1279 with _ | _
    · rw [if_neg Bool.false_ne_true] at h1296
      obtain rfl := Option.some.inj h1296
      simp [h1278, h1280]
    · rw [if_pos rfl] at h1296
      obtain ⟨v1281, h1282, h1296⟩ := ob1 h1296
      obtain ⟨v1283, h1284, h1296⟩ := ob1 h1296
      obtain ⟨b1285, h1286, h1296⟩ := ob1 h1296
      rcases b1285 with _ | _
      · rw [if_neg Bool.false_ne_true] at h1296
        obtain ⟨v1287, h1288, h1296⟩ := ob1 h1296
        obtain ⟨v1289, h1290, h1296⟩ := ob1 h1296
        have e1291 := tr_l_is_count v1287 _ h1290
        obtain ⟨b1292, h1293, h1296⟩ := ob1 h1296
        obtain rfl := Option.some.inj h1296
        simp [h1278, h1280, h1282, h1284, h1286, h1288, e1291, h1293]
      · rw [if_pos rfl] at h1296
        obtain rfl := Option.some.inj h1296
        simp [h1278, h1280, h1282, h1284, h1286]
  rcases b1294 with _ | _
  · rw [if_neg Bool.false_ne_true] at h
    refine run_seq_if_f e1295 ?_
    refine run_seq_skip ?_
    obtain ⟨v1313, h1315, h⟩ := ob1 h
    have e1314 : (mRv (mPl (mOrV (mOp gIs (mPl (mOp gIx (mVar 0) (mPl (mC (.int 1))))) (mPl (mC .none))) (mAndV (mFz (mCall [.b] 0 m_l_is_count (mCons (mPl (mOp gIx (mVar 0) (mPl (mC (.int 1))))) mNil))) (mOp gGe (mPl (mOp gIx (mVar 0) (mPl (mC (.int 1))))) (mPl (mOp gIx (mVar 0) (mPl (mC (.int 0)))))))))) [.bor d1237] = .ok (.pl (.val v1313)) [.bor d1237] := by
      obtain ⟨v1298, h1299, h1315⟩ := ob1 h1315
      obtain ⟨v1300, h1301, h1315⟩ := ob1 h1315
      obtain ⟨b1302, h1303, h1315⟩ := ob1 h1315
      rcases b1302 with _ | _
      · rw [if_neg Bool.false_ne_true] at h1315
        obtain ⟨v1304, h1305, h1315⟩ := ob1 h1315
        have e1306 := tr_l_is_count v1298 _ h1305
        obtain ⟨b1307, h1308, h1315⟩ := ob1 h1315
        rcases b1307 with _ | _
        · rw [if_neg Bool.false_ne_true] at h1315
          obtain rfl := Option.some.inj h1315
          simp [h1299, h1301, h1303, e1306, h1308]
        · rw [if_pos rfl] at h1315
          obtain ⟨v1309, h1310, h1315⟩ := ob1 h1315
          obtain ⟨v1311, h1312, h1315⟩ := ob1 h1315
          obtain rfl := Option.some.inj h1315
          simp [h1299, h1301, h1303, e1306, h1308, h1310, h1312]
      · rw [if_pos rfl] at h1315
        obtain rfl := Option.some.inj h1315
        simp [h1299, h1301, h1303]
    obtain rfl := Option.some.inj h
    exact run_ret e1314 ⟨by simp [flR], by simp⟩
  · rw [if_pos rfl] at h
    refine run_seq_if_t e1295 ?_
    have e1297 : (mRv (mPl (mC (.bool false)))) [.bor d1237] = .ok (.pl (.val (.bool false))) [.bor d1237] := by simp []
    obtain rfl := Option.some.inj h
    exact run_seq_ret e1297 ⟨by simp [flR], by simp⟩
theorem tc_l_is_crew_1 (d1316 : D) (x1361 : D) (o : Option D) (h : p_l_is_crew_c1 x1361 = some o) : ∃ ρ1 ρ2, (tName 1) x1361 [.bor d1316, .un] = .ok () ρ1 ∧ lcQ (mNot (mTr (mPl (mFz (mCall [.b] 0 m_l_is_said (mCons (mVar 1) mNil)))))) (mC (.int 1)) [1] (fun (ρ : PL.Env) => ρ = [.bor d1316, .un]) ρ1 ρ2 o := by
  unfold p_l_is_crew_c1 at h
  obtain ⟨v1362, h1363, h⟩ := ob1 h
  have e1364 := tr_l_is_said x1361 _ h1363
  obtain ⟨b1365, h1366, h⟩ := ob1 h
  rcases b1365 with _ | _
  · rw [if_neg Bool.false_ne_true] at h
    obtain rfl := Option.some.inj h
    exact ⟨[.bor d1316, .val x1361], [.bor d1316, .val x1361], by simp [e1364, h1366], [.bor d1316, .val x1361], by simp [e1364, h1366], by simp [e1364, h1366], by simp⟩
  · rw [if_pos rfl] at h
    obtain rfl := Option.some.inj h
    exact ⟨[.bor d1316, .val x1361], [.bor d1316, .val x1361], by simp [e1364, h1366], by simp [e1364, h1366], by simp⟩
theorem tr_l_is_crew (d1316 : D) (r : D) (h : p_l_is_crew d1316 = some r) : evalD [.b] 1 m_l_is_crew [.bor d1316] = some ((.pl (.val r)), [.bor d1316]) := by
  unfold p_l_is_crew at h
  refine run_evalD (m := m_l_is_crew) ?_
  show PL.Run m_l_is_crew [.bor d1316, .un] _
  unfold m_l_is_crew
  obtain ⟨v1346, h1347, h⟩ := ob1 h
  obtain ⟨b1348, h1349, h⟩ := ob1 h
  have e1350 : (mNot (mTr (mPl (mUn (gIsi ["list", "tuple"]) (mVar 0))))) [.bor d1316, .un] = .ok (!b1348) [.bor d1316, .un] := by simp [h1347, h1349]
  rcases b1348 with _ | _
  · rw [if_neg Bool.false_ne_true] at h
    refine run_seq_if_t e1350 ?_
    have e1351 : (mRv (mPl (mC (.bool false)))) [.bor d1316, .un] = .ok (.pl (.val (.bool false))) [.bor d1316, .un] := by simp []
    obtain rfl := Option.some.inj h
    exact run_seq_ret e1351 ⟨by simp [flR], by simp⟩
  · rw [if_pos rfl] at h
    refine run_seq_if_f e1350 ?_
    refine run_seq_skip ?_
    obtain ⟨q1352, x1353, h1354, h⟩ := ob2 h
    obtain ⟨x1367, h1368, h⟩ := ob1 h
    obtain ⟨r1370, e1369, r1371⟩ := filT_run (fun (ρ : PL.Env) => ρ = [.bor d1316, .un]) (fi := (mIter (mVar 0))) (t := (tName 1)) (vs := [1]) (c := (mNot (mTr (mPl (mFz (mCall [.b] 0 m_l_is_said (mCons (mVar 1) mNil))))))) (fe := (mC (.int 1))) (ρ0 := [.bor d1316, .un]) (ρ1 := [.bor d1316, .un]) (by simp [h1354]) (by simp) h1368 (fun x ρ o hi hf => by subst hi; exact tc_l_is_crew_1 d1316 x o hf)
    subst r1371
    obtain ⟨v1372, h1373, h⟩ := ob1 h
    have e1374 : (mRv (mPl (mOp gEq (mPl (mFz (mLc (mIter (mVar 0)) (tName 1) [1] (mNot (mTr (mPl (mFz (mCall [.b] 0 m_l_is_said (mCons (mVar 1) mNil)))))) (mC (.int 1))))) (mPl (mFz (mLst mNil)))))) [.bor d1316, .un] = .ok (.pl (.val v1372)) [.bor d1316, .un] := by simp [h1354, e1369, h1373]
    obtain rfl := Option.some.inj h
    exact run_ret e1374 ⟨by simp [flR], by simp⟩
theorem tr_l_odd (d1375 : D) (r : D) (v1446 : D) (h : p_l_odd d1375 = some (r, v1446)) : evalD [.io] 1 m_l_odd [.io d1375] = some ((.pl (.val r)), [.io v1446]) := by
  unfold p_l_odd at h
  refine run_evalD (m := m_l_odd) ?_
  show PL.Run m_l_odd [.io d1375, .un] _
  unfold m_l_odd
  obtain ⟨v1411, h1412, h⟩ := ob1 h
  obtain ⟨v1413, h1414, h⟩ := ob1 h
  obtain ⟨v1415, h1416, h⟩ := ob1 h
  obtain ⟨v1417, h1418, h⟩ := ob1 h
  obtain ⟨v1419, h1420, h⟩ := ob1 h
  have e1421 : (mSet 1 (mLst (mCons (mC .none) (mCons (mC (.bool true)) (mCons (mC (.bool false)) (mCons (mNegU (mC (.int 1))) (mCons (mC (.int 0)) (mCons (mC (.int 7)) (mCons (mOp gSub' (mPl (mOp gPow (mPl (mC (.int 10))) (mPl (mC (.int 30))))) (mPl (mC (.int 1)))) (mCons (mNegU (mOp gPow (mPl (mC (.int 10))) (mPl (mC (.int 29))))) (mCons (mC (.str "")) (mCons (mC (.str "3")) (mCons (mC (.str "ab")) (mCons (mFz (mLst mNil)) (mCons (mTup mNil) (mCons mDict0 (mCons (mTup (mCons (mC (.int 0)) mNil)) (mCons (mTup (mCons (mC (.int 0)) (mCons (mC (.int 1)) (mCons (mC (.int 2)) mNil)))) mNil)))))))))))))))))) [.io d1375, .un] = .ok .nx [.io d1375, .own (.list [(.none : D), (.bool true), (.bool false), v1411, (.int 0), (.int 7), v1415, v1419, (.str ""), (.str "3"), (.str "ab"), (.list []), (.tuple []), (.dict []), (.tuple [(.int 0)]), (.tuple [(.int 0), (.int 1), (.int 2)])])] := by simp [h1412, h1414, h1416, h1418, h1420]
  refine run_seq e1421 ?_
  obtain ⟨v1422, h1423, h⟩ := ob1 h
  obtain ⟨v1424, h1425, h⟩ := ob1 h
  have e1426 : (mSet 1 (mOpX gAdd (mVar 1) (mPl (mFz (mLst (mCons (mTup (mCons (mC (.int 1)) (mCons (mC (.int 0)) mNil))) (mCons (mTup (mCons (mC (.int 0)) (mCons (mNegU (mC (.int 1))) mNil))) (mCons (mTup (mCons (mNegU (mC (.int 1))) (mCons (mC (.int 0)) mNil))) (mCons (mTup (mCons (mC (.bool true)) (mCons (mC (.int 1)) mNil))) (mCons (mTup (mCons (mC (.int 0)) (mCons (mC (.bool true)) mNil))) (mCons (mTup (mCons (mC (.int 0)) (mCons (mC (.str "1")) mNil))) (mCons (mTup (mCons (mC .none) (mCons (mC (.int 0)) mNil))) (mCons (mTup (mCons (mC .none) (mCons (mC .none) mNil))) mNil))))))))))))) [.io d1375, .own (.list [(.none : D), (.bool true), (.bool false), v1411, (.int 0), (.int 7), v1415, v1419, (.str ""), (.str "3"), (.str "ab"), (.list []), (.tuple []), (.dict []), (.tuple [(.int 0)]), (.tuple [(.int 0), (.int 1), (.int 2)])])] = .ok .nx [.io d1375, .own v1424] := by simp [h1423, (addF_eq h1425)]
  refine run_seq e1426 ?_
  obtain ⟨v1427, h1428, h⟩ := ob1 h
  obtain ⟨v1429, h1430, h⟩ := ob1 h
  obtain ⟨v1431, h1432, h⟩ := ob1 h
  have e1433 : (mSet 1 (mOpX gAdd (mVar 1) (mPl (mFz (mLst (mCons (mTup (mCons (mTup (mCons (mC (.int 0)) (mCons (mC (.int 1)) mNil))) mNil)) (mCons (mTup (mCons (mC (.int 0)) (mCons (mFz (mLst (mCons (mC (.int 1)) mNil))) mNil))) (mCons (mTup (mCons (mC (.int 3)) (mCons (mC .none) mNil))) (mCons (mTup (mCons (mC (.int 0)) (mCons (mC (.int 0)) mNil))) (mCons (mTup (mCons (mC (.int 2)) (mCons (mOp gSub' (mPl (mOp gPow (mPl (mC (.int 10))) (mPl (mC (.int 30))))) (mPl (mC (.int 1)))) mNil))) (mCons (mFz (mLst (mCons (mTup (mCons (mC (.int 0)) (mCons (mC (.int 1)) mNil))) mNil))) (mCons (mFz (mLst (mCons (mTup (mCons (mC (.int 0)) (mCons (mC (.int 1)) mNil))) (mCons (mTup (mCons (mC (.int 2)) (mCons (mC (.int 1)) mNil))) mNil)))) mNil)))))))))))) [.io d1375, .own v1424] = .ok .nx [.io d1375, .own v1431] := by simp [h1428, h1430, (addF_eq h1432)]
  refine run_seq e1433 ?_
  obtain ⟨v1434, h1435, h⟩ := ob1 h
  obtain ⟨v1436, h1437, h⟩ := ob1 h
  have e1438 : (mSet 1 (mOpX gAdd (mVar 1) (mPl (mFz (mLst (mCons (mTup (mCons (mTup (mCons (mC (.int 4)) (mCons (mC .none) mNil))) (mCons (mTup (mCons (mC (.int 4)) (mCons (mC (.int 4)) mNil))) mNil))) (mCons (mFz (mLst (mCons (mFz (mLst (mCons (mC (.int 0)) (mCons (mC (.int 1)) mNil)))) mNil))) (mCons (mTup (mCons (mC (.int 5)) (mCons (mC (.int 4)) mNil))) (mCons (mFz (mLst (mCons (mC (.int 0)) (mCons (mC (.int 1)) mNil)))) (mCons (mFz (mLst (mCons (mC .none) mNil))) (mCons (mFz (mLst (mCons (mTup mNil) mNil))) (mCons (mFz (mFr (mDict1 (mC (.int 0)) (mTup (mCons (mC (.int 0)) (mCons (mC (.int 1)) mNil)))))) mNil)))))))))))) [.io d1375, .own v1431] = .ok .nx [.io d1375, .own v1436] := by simp [h1435, (addF_eq h1437)]
  refine run_seq e1438 ?_
  obtain ⟨v1439, v1440, h1441, h⟩ := ob2 h
  have e1442 := tr_l_deal d1375 (.int 38) _ _ h1441
  obtain ⟨v1443, h1444, h⟩ := ob1 h
  have e1445 : (mRv (mPl (mOp gIx (mVar 1) (mPl (mFz (mCall [.io, .b] 2 m_l_deal (mCons (mVar 0) (mCons (mPl (mC (.int 38))) mNil)))))))) [.io d1375, .own v1436] = .ok (.pl (.val v1443)) [.io v1440, .own v1436] := by simp [e1442, h1444]
  obtain ⟨rfl, rfl⟩ := sinj2 h
  exact run_ret e1445 ⟨by simp [flR], by simp⟩
theorem tc_l_bent_1 (v1617 : D) (d1448 : D) (v1564 : D) (v1569 : D) (v1618 : D) (x1644 : D) (y : D) (h : p_l_bent_c1 x1644 = some y) : ∃ ρ1 ρ2 ρ3, (tName 5) x1644 [.io v1617, .bor d1448, .val v1564, .val v1569, .own v1618, .un] = .ok () ρ1 ∧ mYes ρ1 = .ok true ρ2 ∧ (mFz (mFr (mN gList (mCons (mVar 5) mNil)))) ρ2 = .ok y ρ3 ∧ (fun (ρ : PL.Env) => ρ = [.io v1617, .bor d1448, .val v1564, .val v1569, .own v1618, .un]) (wipeE ρ3 [5]) := by
  unfold p_l_bent_c1 at h
  obtain ⟨v1645, h1646, h⟩ := ob1 h
  obtain rfl := Option.some.inj h
  exact ⟨[.io v1617, .bor d1448, .val v1564, .val v1569, .own v1618, .val x1644], [.io v1617, .bor d1448, .val v1564, .val v1569, .own v1618, .val x1644], [.io v1617, .bor d1448, .val v1564, .val v1569, .own v1618, .val x1644], by simp [h1646], by simp [h1646], by simp [h1646], by simp⟩
theorem tr_l_bent (d1447 : D) (d1448 : D) (r : D) (v1671 : D) (h : p_l_bent d1447 d1448 = some (r, v1671)) : evalD [.io, .b] 4 m_l_bent [.io d1447, .bor d1448] = some ((.pl (.val r)), [.io v1671, .bor d1448]) := by
  unfold p_l_bent at h
  refine run_evalD (m := m_l_bent) ?_
  show PL.Run m_l_bent [.io d1447, .bor d1448, .un, .un, .un, .un] _
  unfold m_l_bent
  obtain ⟨v1560, h1561, h⟩ := ob1 h
  obtain ⟨v1562, h1563, h⟩ := ob1 h
  obtain ⟨v1564, v1565, h1566, h⟩ := ob2 h
  have e1567 := tr_l_deal d1447 v1562 _ _ h1566
  have e1568 : (mSet 2 (mCall [.io, .b] 2 m_l_deal (mCons (mVar 0) (mCons (mPl (mFz (mOpX gAdd (mPl (mN gLen (mCons (mVar 1) mNil))) (mPl (mC (.int 1)))))) mNil)))) [.io d1447, .bor d1448, .un, .un, .un, .un] = .ok .nx [.io v1565, .bor d1448, .val v1564, .un, .un, .un] := by simp [h1561, (addV_eq h1563), e1567]
  refine run_seq e1568 ?_
  obtain ⟨v1569, v1570, h1571, h⟩ := ob2 h
  have e1572 := tr_l_deal v1565 (.int 4) _ _ h1571
  have e1573 : (mSet 3 (mCall [.io, .b] 2 m_l_deal (mCons (mVar 0) (mCons (mPl (mC (.int 4))) mNil)))) [.io v1565, .bor d1448, .val v1564, .un, .un, .un] = .ok .nx [.io v1570, .bor d1448, .val v1564, .val v1569, .un, .un] := by simp [e1572]
  refine run_seq e1573 ?_
  obtain ⟨i1574, h1575, h⟩ := ob1 h
  obtain ⟨v1576, h1577, h⟩ := ob1 h
  obtain ⟨v1578, h1579, h⟩ := ob1 h
  obtain ⟨i1580, h1581, h⟩ := ob1 h
  obtain ⟨v1582, h1583, h⟩ := ob1 h
  obtain ⟨v1584, h1585, h⟩ := ob1 h
  have e1586 : (mSet 4 (mOpX gAdd (mSliceP (mVar 1) none (some (mFz (mRv (mVar 2))))) (mSliceP (mVar 1) (some (mFz (mOpX gAdd (mVar 2) (mPl (mC (.int 1)))))) none))) [.io v1570, .bor d1448, .val v1564, .val v1569, .un, .un] = .ok .nx [.io v1570, .bor d1448, .val v1564, .val v1569, .own v1584, .un] := by simp [h1575, (slW_eq h1577), (addV_eq h1579), h1581, (slW_eq h1583), (addF_eq h1585)]
  refine run_seq e1586 ?_
  obtain ⟨v1617, v1618, h1591, h⟩ := ob2 h
  have e1592 : PL.Run (mIf (mB (mOp gLt (mVar 3) (mPl (mC (.int 2))))) (mSet 4 (mOpX gAdd (mPl (mFz (mOpX gAdd (mSliceP (mVar 1) none (some (mFz (mRv (mVar 2))))) (mPl (mFz (mLst (mCons (mFz (mCall [.io] 1 m_l_odd (mCons (mVar 0) mNil))) mNil))))))) (mSliceP (mVar 1) (some (mFz (mOpX gAdd (mVar 2) (mVar 3)))) none))) mSkip) [.io v1570, .bor d1448, .val v1564, .val v1569, .own v1584, .un] fun fl ρ' => fl = .nx ∧ ρ' = [.io v1617, .bor d1448, .val v1564, .val v1569, .own v1618, .un] := by
    obtain ⟨v1593, h1594, h1591⟩ := ob1 h1591
    obtain ⟨b1595, h1596, h1591⟩ := ob1 h1591
    have e1597 : (mB (mOp gLt (mVar 3) (mPl (mC (.int 2))))) [.io v1570, .bor d1448, .val v1564, .val v1569, .own v1584, .un] = .ok b1595 [.io v1570, .bor d1448, .val v1564, .val v1569, .own v1584, .un] := by simp [h1594, h1596]
    rcases b1595 with _ | _
    · rw [if_neg Bool.false_ne_true] at h1591
      refine run_if_f e1597 ?_
      obtain ⟨rfl, rfl⟩ := sinj2 h1591
      exact run_end (m := mSkip) (fl := .nx) rfl ⟨rfl, rfl⟩
    · rw [if_pos rfl] at h1591
      refine run_if_t e1597 ?_
      obtain ⟨i1598, h1599, h1591⟩ := ob1 h1591
      obtain ⟨v1600, h1601, h1591⟩ := ob1 h1591
      obtain ⟨v1602, v1603, h1604, h1591⟩ := ob2 h1591
      have e1605 := tr_l_odd v1570 _ _ h1604
      obtain ⟨v1606, h1607, h1591⟩ := ob1 h1591
      obtain ⟨v1608, h1609, h1591⟩ := ob1 h1591
      obtain ⟨i1610, h1611, h1591⟩ := ob1 h1591
      obtain ⟨v1612, h1613, h1591⟩ := ob1 h1591
      obtain ⟨v1614, h1615, h1591⟩ := ob1 h1591
      have e1616 : (mSet 4 (mOpX gAdd (mPl (mFz (mOpX gAdd (mSliceP (mVar 1) none (some (mFz (mRv (mVar 2))))) (mPl (mFz (mLst (mCons (mFz (mCall [.io] 1 m_l_odd (mCons (mVar 0) mNil))) mNil))))))) (mSliceP (mVar 1) (some (mFz (mOpX gAdd (mVar 2) (mVar 3)))) none))) [.io v1570, .bor d1448, .val v1564, .val v1569, .own v1584, .un] = .ok .nx [.io v1603, .bor d1448, .val v1564, .val v1569, .own v1614, .un] := by simp [h1599, (slW_eq h1601), e1605, (addF_eq h1607), (addV_eq h1609), h1611, (slW_eq h1613), (addF_eq h1615)]
      obtain ⟨rfl, rfl⟩ := sinj2 h1591
      exact run_end e1616 ⟨rfl, rfl⟩
  obtain ⟨_, _, e1592, rfl, rfl⟩ := e1592
  refine run_seq e1592 ?_
  obtain ⟨v1655, h1623, h⟩ := ob1 h
  have e1624 : PL.Run (mIf (mB (mOp gEq (mVar 3) (mPl (mC (.int 2))))) (mSet 4 (mOpX gAdd (mPl (mFz (mLc (mIter (mPl (mFz (mSlice (mVar 1) (some (mFz (mRv (mVar 2)))) (some (mFz (mOpX gAdd (mVar 2) (mPl (mC (.int 1)))))))))) (tName 5) [5] mYes (mFz (mFr (mN gList (mCons (mVar 5) mNil))))))) (mVar 1))) mSkip) [.io v1617, .bor d1448, .val v1564, .val v1569, .own v1618, .un] fun fl ρ' => fl = .nx ∧ ρ' = [.io v1617, .bor d1448, .val v1564, .val v1569, .own v1655, .un] := by
    obtain ⟨v1625, h1626, h1623⟩ := ob1 h1623
    obtain ⟨b1627, h1628, h1623⟩ := ob1 h1623
    have e1629 : (mB (mOp gEq (mVar 3) (mPl (mC (.int 2))))) [.io v1617, .bor d1448, .val v1564, .val v1569, .own v1618, .un] = .ok b1627 [.io v1617, .bor d1448, .val v1564, .val v1569, .own v1618, .un] := by simp [h1626, h1628]
    rcases b1627 with _ | _
    · rw [if_neg Bool.false_ne_true] at h1623
      refine run_if_f e1629 ?_
      obtain rfl := Option.some.inj h1623
      exact run_end (m := mSkip) (fl := .nx) rfl ⟨rfl, rfl⟩
    · rw [if_pos rfl] at h1623
      refine run_if_t e1629 ?_
      obtain ⟨i1630, h1631, h1623⟩ := ob1 h1623
      obtain ⟨v1632, h1633, h1623⟩ := ob1 h1623
      obtain ⟨i1634, h1635, h1623⟩ := ob1 h1623
      obtain ⟨v1636, h1637, h1623⟩ := ob1 h1623
      obtain ⟨q1638, x1639, h1640, h1623⟩ := ob2 h1623
      obtain ⟨x1647, h1648, h1623⟩ := ob1 h1623
      obtain ⟨r1650, e1649, r1651⟩ := mapT_run (fun (ρ : PL.Env) => ρ = [.io v1617, .bor d1448, .val v1564, .val v1569, .own v1618, .un]) (fi := (mIter (mPl (mFz (mSlice (mVar 1) (some (mFz (mRv (mVar 2)))) (some (mFz (mOpX gAdd (mVar 2) (mPl (mC (.int 1))))))))))) (t := (tName 5)) (vs := [5]) (c := mYes) (fe := (mFz (mFr (mN gList (mCons (mVar 5) mNil))))) (ρ0 := [.io v1617, .bor d1448, .val v1564, .val v1569, .own v1618, .un]) (ρ1 := [.io v1617, .bor d1448, .val v1564, .val v1569, .own v1618, .un]) (by simp [h1631, (addV_eq h1633), h1635, (slF_eq h1637), h1640]) (by simp) h1648 (fun x ρ y hi hf => by subst hi; exact tc_l_bent_1 v1617 d1448 v1564 v1569 v1618 x y hf)
      subst r1651
      obtain ⟨v1652, h1653, h1623⟩ := ob1 h1623
      have e1654 : (mSet 4 (mOpX gAdd (mPl (mFz (mLc (mIter (mPl (mFz (mSlice (mVar 1) (some (mFz (mRv (mVar 2)))) (some (mFz (mOpX gAdd (mVar 2) (mPl (mC (.int 1)))))))))) (tName 5) [5] mYes (mFz (mFr (mN gList (mCons (mVar 5) mNil))))))) (mVar 1))) [.io v1617, .bor d1448, .val v1564, .val v1569, .own v1618, .un] = .ok .nx [.io v1617, .bor d1448, .val v1564, .val v1569, .own v1652, .un] := by simp [h1631, (addV_eq h1633), h1635, (slF_eq h1637), h1640, e1649, (addF_eq h1653)]
      obtain rfl := Option.some.inj h1623
      exact run_end e1654 ⟨rfl, rfl⟩
  obtain ⟨_, _, e1624, rfl, rfl⟩ := e1624
  refine run_seq e1624 ?_
  obtain ⟨v1668, v1666, h1670, h⟩ := ob2 h
  have e1669 : ∃ (g1667 : Bool), (mRv (mPl (mIf (mB (mOp gEq (mPl (mFz (mCall [.io, .b] 2 m_l_deal (mCons (mVar 0) (mCons (mPl (mC (.int 3))) mNil))))) (mPl (mC (.int 0))))) (mN gTuple (mCons (mVar 4) mNil)) (mFz (mRv (mVar 4)))))) [.io v1617, .bor d1448, .val v1564, .val v1569, .own v1655, .un] = .ok (.pl (.val v1668)) [.io v1666, .bor d1448, .val v1564, .val v1569, (ovS g1667 v1655), .un] := by
    obtain ⟨v1656, v1657, h1658, h1670⟩ := ob2 h1670
    have e1659 := tr_l_deal v1617 (.int 3) _ _ h1658
    obtain ⟨v1660, h1661, h1670⟩ := ob1 h1670
    obtain ⟨b1662, h1663, h1670⟩ := ob1 h1670
    rcases b1662 with _ | _
    · rw [if_neg Bool.false_ne_true] at h1670
      obtain ⟨rfl, rfl⟩ := sinj2 h1670
      exact ⟨false, by simp [e1659, h1661, h1663]⟩
    · rw [if_pos rfl] at h1670
      obtain ⟨v1664, h1665, h1670⟩ := ob1 h1670
      obtain ⟨rfl, rfl⟩ := sinj2 h1670
      exact ⟨true, by simp [e1659, h1661, h1663, h1665]⟩
  obtain ⟨g1667, e1669⟩ := e1669
  obtain ⟨rfl, rfl⟩ := sinj2 h
  exact run_ret e1669 ⟨by simp [flR], by simp⟩
theorem tb_law_1 (d1672 : List Int) (x3155 : D) (v3160 : D) (x3357 : D) (v3270 : D) (j3271 : Sl) (j3272 : Sl) (j3273 : Sl) (j3274 : Sl) (j3275 : Sl) (o : Ct (D) (D)) (h : p_law_b1 v3160 x3357 v3270 = some o) : ∃ ρ1, (tName 4) x3357 [.scr d1672, .val x3155, .own v3270, .own v3160, j3271, j3272, j3273, j3274, j3275] = .ok () ρ1 ∧ PL.Run mb_law_1 ρ1 ((ctQ (fun (s : D) (ρ : PL.Env) => ∃ (j3271 : Sl) (j3272 : Sl) (j3273 : Sl) (j3274 : Sl) (j3275 : Sl), ρ = [.scr d1672, .val x3155, .own s, .own v3160, j3271, j3272, j3273, j3274, j3275]) (fun (r : D) (fl : Fl) (_ : PL.Env) => fl = .rt (.pl (.val r))) o)) := by
  unfold p_law_b1 at h
  refine ⟨[.scr d1672, .val x3155, .own v3270, .own v3160, .val x3357, j3272, j3273, j3274, j3275], by simp [], ?_⟩
  unfold mb_law_1
  obtain ⟨v3358, v3359, h3360, h⟩ := ob2 h
  have e3361 := tr_l_odd v3270 _ _ h3360
  obtain ⟨v3362, v3363, h3364, h⟩ := ob2 h
  have e3365 := tr_l_bent v3359 v3160 _ _ h3364
  obtain ⟨v3366, h3367, h⟩ := ob1 h
  obtain ⟨v3368, h3369, h⟩ := ob1 h
  have e3370 : (mSet 5 (mRv (mPl (mOp gIx (mPl (mFz (mLst (mCons (mFz (mCall [.io] 1 m_l_odd (mCons (mVar 2) mNil))) (mCons (mFz (mCall [.io, .b] 4 m_l_bent (mCons (mVar 2) (mCons (mVar 3) mNil)))) mNil))))) (mPl (mOp gMod (mVar 4) (mPl (mC (.int 2))))))))) [.scr d1672, .val x3155, .own v3270, .own v3160, .val x3357, j3272, j3273, j3274, j3275] = .ok .nx [.scr d1672, .val x3155, .own v3363, .own v3160, .val x3357, .val v3368, j3273, j3274, j3275] := by simp [e3361, e3365, h3367, h3369]
  refine run_seq e3370 ?_
  obtain ⟨v3389, v3390, h3375, h⟩ := ob2 h
  have e3376 : PL.Run (mIf (mB (mOp gEq (mVar 4) (mPl (mC (.int 0))))) (mSet 5 (mCall [.io, .b] 3 m_l_said (mCons (mVar 2) (mCons (mPl (mOp gPow (mPl (mC (.int 10))) (mPl (mC (.int 29))))) mNil)))) mSkip) [.scr d1672, .val x3155, .own v3363, .own v3160, .val x3357, .val v3368, j3273, j3274, j3275] fun fl ρ' => fl = .nx ∧ ρ' = [.scr d1672, .val x3155, .own v3389, .own v3160, .val x3357, .val v3390, j3273, j3274, j3275] := by
    obtain ⟨v3377, h3378, h3375⟩ := ob1 h3375
    obtain ⟨b3379, h3380, h3375⟩ := ob1 h3375
    have e3381 : (mB (mOp gEq (mVar 4) (mPl (mC (.int 0))))) [.scr d1672, .val x3155, .own v3363, .own v3160, .val x3357, .val v3368, j3273, j3274, j3275] = .ok b3379 [.scr d1672, .val x3155, .own v3363, .own v3160, .val x3357, .val v3368, j3273, j3274, j3275] := by simp [h3378, h3380]
    rcases b3379 with _ | _
    · rw [if_neg Bool.false_ne_true] at h3375
      refine run_if_f e3381 ?_
      obtain ⟨rfl, rfl⟩ := sinj2 h3375
      exact run_end (m := mSkip) (fl := .nx) rfl ⟨rfl, rfl⟩
    · rw [if_pos rfl] at h3375
      refine run_if_t e3381 ?_
      obtain ⟨v3382, h3383, h3375⟩ := ob1 h3375
      obtain ⟨v3384, v3385, h3386, h3375⟩ := ob2 h3375
      have e3387 := tr_l_said v3363 v3382 _ _ h3386
      have e3388 : (mSet 5 (mCall [.io, .b] 3 m_l_said (mCons (mVar 2) (mCons (mPl (mOp gPow (mPl (mC (.int 10))) (mPl (mC (.int 29))))) mNil)))) [.scr d1672, .val x3155, .own v3363, .own v3160, .val x3357, .val v3368, j3273, j3274, j3275] = .ok .nx [.scr d1672, .val x3155, .own v3385, .own v3160, .val x3357, .val v3384, j3273, j3274, j3275] := by simp [h3383, e3387]
      obtain ⟨rfl, rfl⟩ := sinj2 h3375
      exact run_end e3388 ⟨rfl, rfl⟩
  obtain ⟨_, _, e3376, rfl, rfl⟩ := e3376
  refine run_seq e3376 ?_
  obtain ⟨v3391, h3392, h⟩ := ob1 h
  have e3393 : (mSet 6 (mRv (mPl (mN gRepr (mCons (mVar 5) mNil))))) [.scr d1672, .val x3155, .own v3389, .own v3160, .val x3357, .val v3390, j3273, j3274, j3275] = .ok .nx [.scr d1672, .val x3155, .own v3389, .own v3160, .val x3357, .val v3390, .val v3391, j3274, j3275] := by simp [h3392]
  refine run_seq e3393 ?_
  obtain ⟨v3394, h3395, h⟩ := ob1 h
  have e3396 := tr_is_number v3390 _ h3395
  obtain ⟨v3397, h3398, h⟩ := ob1 h
  have e3399 := tr_is_saying v3390 _ h3398
  obtain ⟨v3400, h3401, h⟩ := ob1 h
  have e3402 := tr_is_row v3390 _ h3401
  have e3403 : (mSet 7 (mLst (mCons (mFz (mCall [.b] 0 m_is_number (mCons (mVar 5) mNil))) (mCons (mFz (mCall [.v] 0 m_is_saying (mCons (mPl (mFz (mRv (mVar 5)))) mNil))) (mCons (mFz (mCall [.b] 3 m_is_row (mCons (mVar 5) mNil))) mNil))))) [.scr d1672, .val x3155, .own v3389, .own v3160, .val x3357, .val v3390, .val v3391, j3274, j3275] = .ok .nx [.scr d1672, .val x3155, .own v3389, .own v3160, .val x3357, .val v3390, .val v3391, .own (.list [v3394, v3397, v3400]), j3275] := by simp [e3396, e3399, e3402]
  refine run_seq e3403 ?_
  obtain ⟨v3404, h3405, h⟩ := ob1 h
  have e3406 := tr_l_is_count v3390 _ h3405
  obtain ⟨v3407, h3408, h⟩ := ob1 h
  have e3409 := tr_l_is_said v3390 _ h3408
  obtain ⟨v3410, h3411, h⟩ := ob1 h
  have e3412 := tr_l_is_crew v3390 _ h3411
  have e3413 : (mSet 8 (mLst (mCons (mFz (mCall [.b] 0 m_l_is_count (mCons (mVar 5) mNil))) (mCons (mFz (mCall [.b] 0 m_l_is_said (mCons (mVar 5) mNil))) (mCons (mFz (mCall [.b] 1 m_l_is_crew (mCons (mVar 5) mNil))) mNil))))) [.scr d1672, .val x3155, .own v3389, .own v3160, .val x3357, .val v3390, .val v3391, .own (.list [v3394, v3397, v3400]), j3275] = .ok .nx [.scr d1672, .val x3155, .own v3389, .own v3160, .val x3357, .val v3390, .val v3391, .own (.list [v3394, v3397, v3400]), .own (.list [v3404, v3407, v3410])] := by simp [e3406, e3409, e3412]
  refine run_seq e3413 ?_
  obtain ⟨b3428, h3430, h⟩ := ob1 h
  have e3429 : (mOr (mB (mOp gNe (mPl (mN gRepr (mCons (mVar 7) mNil))) (mPl (mN gRepr (mCons (mVar 8) mNil))))) (mB (mOp gNe (mPl (mN gRepr (mCons (mVar 5) mNil))) (mVar 6)))) [.scr d1672, .val x3155, .own v3389, .own v3160, .val x3357, .val v3390, .val v3391, .own (.list [v3394, v3397, v3400]), .own (.list [v3404, v3407, v3410])] = .ok b3428 [.scr d1672, .val x3155, .own v3389, .own v3160, .val x3357, .val v3390, .val v3391, .own (.list [v3394, v3397, v3400]), .own (.list [v3404, v3407, v3410])] := by
    obtain ⟨v3414, h3415, h3430⟩ := ob1 h3430
    obtain ⟨v3416, h3417, h3430⟩ := ob1 h3430
    obtain ⟨v3418, h3419, h3430⟩ := ob1 h3430
    obtain ⟨b3420, h3421, h3430⟩ := ob1 h3430
    rcases b3420 with _ | _
    · rw [if_neg Bool.false_ne_true] at h3430
      obtain ⟨v3422, h3423, h3430⟩ := ob1 h3430
      obtain ⟨v3424, h3425, h3430⟩ := ob1 h3430
      obtain ⟨b3426, h3427, h3430⟩ := ob1 h3430
      obtain rfl := Option.some.inj h3430
      simp [h3415, h3417, h3419, h3421, h3423, h3425, h3427]
    · rw [if_pos rfl] at h3430
      obtain rfl := Option.some.inj h3430
      simp [h3415, h3417, h3419, h3421]
  rcases b3428 with _ | _
  · rw [if_neg Bool.false_ne_true] at h
    refine run_if_f e3429 ?_
    obtain rfl := Option.some.inj h
    exact run_end (m := mSkip) (fl := .nx) rfl ⟨.inl rfl, .val x3357, .val v3390, .val v3391, .own (.list [v3394, v3397, v3400]), .own (.list [v3404, v3407, v3410]), rfl⟩
  · rw [if_pos rfl] at h
    refine run_if_t e3429 ?_
    have e3431 : (mRv (mPl (mC (.bool false)))) [.scr d1672, .val x3155, .own v3389, .own v3160, .val x3357, .val v3390, .val v3391, .own (.list [v3394, v3397, v3400]), .own (.list [v3404, v3407, v3410])] = .ok (.pl (.val (.bool false))) [.scr d1672, .val x3155, .own v3389, .own v3160, .val x3357, .val v3390, .val v3391, .own (.list [v3394, v3397, v3400]), .own (.list [v3404, v3407, v3410])] := by simp []
    obtain rfl := Option.some.inj h
    exact run_ret e3431 ⟨trivial, rfl⟩
theorem tb_law_2 (d1672 : List Int) (x3155 : D) (j2854 : Sl) (j2855 : Sl) (j2856 : Sl) (j2857 : Sl) (j2858 : Sl) (j2859 : Sl) (j2860 : Sl) (j2861 : Sl) (o : Ct (Unit) (D)) (h : p_law_b2 d1672 x3155 = some o) : ∃ ρ1, (tName 1) x3155 [.scr d1672, j2854, j2855, j2856, j2857, j2858, j2859, j2860, j2861] = .ok () ρ1 ∧ PL.Run mb_law_2 ρ1 ((ctQ (fun (s : Unit) (ρ : PL.Env) => ∃ (j2854 : Sl) (j2855 : Sl) (j2856 : Sl) (j2857 : Sl) (j2858 : Sl) (j2859 : Sl) (j2860 : Sl) (j2861 : Sl), ρ = [.scr d1672, j2854, j2855, j2856, j2857, j2858, j2859, j2860, j2861]) (fun (r : D) (fl : Fl) (_ : PL.Env) => fl = .rt (.pl (.val r))) o)) := by
  unfold p_law_b2 at h
  refine ⟨[.scr d1672, .val x3155, j2855, j2856, j2857, j2858, j2859, j2860, j2861], by simp [], ?_⟩
  unfold mb_law_2
  obtain ⟨v3156, h3157, h⟩ := ob1 h
  have e3158 := tr_l_tin d1672 x3155 _ h3157
  have e3159 : (mSet 2 (mCall [.s, .b] 1 m_l_tin (mCons (mVar 0) (mCons (mVar 1) mNil)))) [.scr d1672, .val x3155, j2855, j2856, j2857, j2858, j2859, j2860, j2861] = .ok .nx [.scr d1672, .val x3155, .own v3156, j2856, j2857, j2858, j2859, j2860, j2861] := by simp [e3158]
  refine run_seq e3159 ?_
  obtain ⟨v3160, v3161, h3162, h⟩ := ob2 h
  have e3163 := tr_l_crew v3156 (.int 12) _ _ h3162
  have e3164 : (mSet 3 (mCall [.io, .b] 9 m_l_crew (mCons (mVar 2) (mCons (mPl (mC (.int 12))) mNil)))) [.scr d1672, .val x3155, .own v3156, j2856, j2857, j2858, j2859, j2860, j2861] = .ok .nx [.scr d1672, .val x3155, .own v3161, .own v3160, j2857, j2858, j2859, j2860, j2861] := by simp [e3163]
  refine run_seq e3164 ?_
  obtain ⟨b3188, h3190, h⟩ := ob1 h
  have e3189 : (mOr (mB (mOp gNot (mPl (mFz (mCall [.b] 3 m_is_row (mCons (mVar 3) mNil)))) (mPl (mC (.bool true))))) (mOr (mB (mOp gNot (mPl (mFz (mCall [.b] 3 m_is_row (mCons (mPl (mN gTuple (mCons (mVar 3) mNil))) mNil)))) (mPl (mC (.bool true))))) (mB (mOp gNot (mPl (mFz (mCall [.b] 3 m_is_row (mCons (mPl (mFz (mLst mNil))) mNil)))) (mPl (mC (.bool true))))))) [.scr d1672, .val x3155, .own v3161, .own v3160, j2857, j2858, j2859, j2860, j2861] = .ok b3188 [.scr d1672, .val x3155, .own v3161, .own v3160, j2857, j2858, j2859, j2860, j2861] := by
    obtain ⟨v3165, h3166, h3190⟩ := ob1 h3190
    have e3167 := tr_is_row v3160 _ h3166
    obtain ⟨v3168, h3169, h3190⟩ := ob1 h3190
    obtain ⟨b3170, h3171, h3190⟩ := ob1 h3190
    rcases b3170 with _ | _
    · rw [if_neg Bool.false_ne_true] at h3190
      obtain ⟨v3172, h3173, h3190⟩ := ob1 h3190
      obtain ⟨v3174, h3175, h3190⟩ := ob1 h3190
      have e3176 := tr_is_row v3172 _ h3175
      obtain ⟨v3177, h3178, h3190⟩ := ob1 h3190
      obtain ⟨b3179, h3180, h3190⟩ := ob1 h3190
      rcases b3179 with _ | _
      · rw [if_neg Bool.false_ne_true] at h3190
        obtain ⟨v3181, h3182, h3190⟩ := ob1 h3190
        have e3183 := tr_is_row (.list []) _ h3182
        obtain ⟨v3184, h3185, h3190⟩ := ob1 h3190
        obtain ⟨b3186, h3187, h3190⟩ := ob1 h3190
        obtain rfl := Option.some.inj h3190
        simp [e3167, h3169, h3171, h3173, e3176, h3178, h3180, e3183, h3185, h3187]
      · rw [if_pos rfl] at h3190
        obtain rfl := Option.some.inj h3190
        simp [e3167, h3169, h3171, h3173, e3176, h3178, h3180]
    · rw [if_pos rfl] at h3190
      obtain rfl := Option.some.inj h3190
      simp [e3167, h3169, h3171]
  rcases b3188 with _ | _
  · rw [if_neg Bool.false_ne_true] at h
    refine run_seq_if_f e3189 ?_
    refine run_seq_skip ?_
    obtain ⟨x3192, h3193, h⟩ := ob1 h
    have e3194 : (mRng1 (mC (.int 12))) [.scr d1672, .val x3155, .own v3161, .own v3160, j2857, j2858, j2859, j2860, j2861] = .ok x3192 [.scr d1672, .val x3155, .own v3161, .own v3160, j2857, j2858, j2859, j2860, j2861] := by simp [h3193]
    obtain ⟨o3440, h3438, h⟩ := obct1 h
    have e3439 := forP_run (fun (s : D) (ρ : PL.Env) => ∃ (j3271 : Sl) (j3272 : Sl) (j3273 : Sl) (j3274 : Sl) (j3275 : Sl), ρ = [.scr d1672, .val x3155, .own s, .own v3160, j3271, j3272, j3273, j3274, j3275]) (fun (r : D) (fl : Fl) (_ : PL.Env) => fl = .rt (.pl (.val r))) (t := (tName 4)) (b := mb_law_1) (fun x s ρ o hi hf => by obtain ⟨j3271, j3272, j3273, j3274, j3275, rfl⟩ := hi; exact tb_law_1 d1672 x3155 v3160 x s j3271 j3272 j3273 j3274 j3275 o hf) x3192 v3161 _ o3440 ⟨j2857, j2858, j2859, j2860, j2861, rfl⟩ h3438
    rcases h with ⟨r, rfl, h⟩ | ⟨v3432, rfl, h⟩
    · refine run_ct (run_for e3194 e3439) (fun t fl ρ' ho hf hq => ?_) (fun s ρ' ho hi => nomatch ho)
      cases ho
      cases h
      exact ⟨hf, hq⟩
    · refine run_ct (run_for e3194 e3439) (fun t fl ρ' ho hf hq => nomatch ho) (fun s ρ' ho hi => ?_)
      cases ho
      obtain ⟨j3433, j3434, j3435, j3436, j3437, rfl⟩ := hi
      obtain rfl := Option.some.inj h
      exact ⟨.inl rfl, .val x3155, .own v3432, .own v3160, j3433, j3434, j3435, j3436, j3437, rfl⟩
  · rw [if_pos rfl] at h
    refine run_seq_if_t e3189 ?_
    have e3191 : (mRv (mPl (mC (.bool false)))) [.scr d1672, .val x3155, .own v3161, .own v3160, j2857, j2858, j2859, j2860, j2861] = .ok (.pl (.val (.bool false))) [.scr d1672, .val x3155, .own v3161, .own v3160, j2857, j2858, j2859, j2860, j2861] := by simp []
    obtain rfl := Option.some.inj h
    exact run_seq_ret e3191 ⟨trivial, rfl⟩
theorem tr_law (d1672 : List Int) (r : D) (h : p_law d1672 = some r) : ∃ ρ, m_law [.scr d1672, .un, .un, .un, .un, .un, .un, .un, .un] = .ok (.rt (.pl (.val r))) ρ := by
  unfold p_law at h
  have e0 : PL.Run m_law [.scr d1672, .un, .un, .un, .un, .un, .un, .un, .un] (fun fl _ => fl = .rt (.pl (.val r))) := by
    unfold m_law
    obtain ⟨v2562, h2563, h⟩ := ob1 h
    obtain ⟨v2564, h2565, h⟩ := ob1 h
    obtain ⟨x2566, h2567, h⟩ := ob1 h
    have e2568 : (mRng1 (mN gMax2 (mCons (mPl (mC (.int 1))) (mCons (mPl (mN gMin2 (mCons (mPl (mC (.int 12))) (mCons (mPl (mLenS 0)) mNil)))) mNil)))) [.scr d1672, .un, .un, .un, .un, .un, .un, .un, .un] = .ok x2566 [.scr d1672, .un, .un, .un, .un, .un, .un, .un, .un] := by simp [h2563, h2565, h2567]
    obtain ⟨o3452, h3449, h⟩ := obct0 h
    have e3450 := forP_run (fun (s : Unit) (ρ : PL.Env) => ∃ (j2854 : Sl) (j2855 : Sl) (j2856 : Sl) (j2857 : Sl) (j2858 : Sl) (j2859 : Sl) (j2860 : Sl) (j2861 : Sl), ρ = [.scr d1672, j2854, j2855, j2856, j2857, j2858, j2859, j2860, j2861]) (fun (r : D) (fl : Fl) (_ : PL.Env) => fl = .rt (.pl (.val r))) (t := (tName 1)) (b := mb_law_2) (fun x s ρ o hi hf => by obtain ⟨j2854, j2855, j2856, j2857, j2858, j2859, j2860, j2861, rfl⟩ := hi; exact tb_law_2 d1672 x j2854 j2855 j2856 j2857 j2858 j2859 j2860 j2861 o hf) x2566 () _ o3452 ⟨.un, .un, .un, .un, .un, .un, .un, .un, rfl⟩ h3449
    rcases h with ⟨r, rfl, h⟩ | ⟨rfl, h⟩
    · refine run_seq_ct (run_for e2568 e3450) (fun t fl ρ' ho hf hq => ?_) (fun s ρ' ho hi => nomatch ho)
      cases ho
      cases h
      exact hq
    · refine run_seq_ct (run_for e2568 e3450) (fun t fl ρ' ho hf hq => nomatch ho) (fun s ρ' ho hi => ?_)
      cases ho
      obtain ⟨j3441, j3442, j3443, j3444, j3445, j3446, j3447, j3448, rfl⟩ := hi
      have e3451 : (mRv (mPl (mC (.bool true)))) [.scr d1672, j3441, j3442, j3443, j3444, j3445, j3446, j3447, j3448] = .ok (.pl (.val (.bool true))) [.scr d1672, j3441, j3442, j3443, j3444, j3445, j3446, j3447, j3448] := by simp []
      obtain rfl := Option.some.inj h
      exact run_ret e3451 rfl
  obtain ⟨fl, ρ', e0, e1⟩ := e0
  exact ⟨ρ', by rw [e0, e1]⟩
end Y
namespace PL
open PySem PySem.Spec L2 RT RZ
section
variable {α β : Type} (ρ ρ' : PL.Env) (i j : Nat) (d e : D) (ds es : List D) (x y : Int) (b : Bool)
@[simp] theorem q_tru_b : truD (.bool b) = some b := Eq.trans rfl rfl
@[simp] theorem q_tru_l : truD (.list ds) = some (!ds.isEmpty) := Eq.trans rfl rfl
@[simp] theorem q_tru_i : truD (.int x) = some (x != 0) := Eq.trans rfl rfl
@[simp] theorem q_tru_n : truD .none = some false := Eq.trans rfl rfl
@[simp] theorem q_add_i : gAdd (.int x) (.int y) = some (false, .int (x + y)) := Eq.trans rfl rfl
@[simp] theorem q_add_l : gAdd (.list ds) (.list es) = if ds.length + es.length ≤ 100000 then some (true, .list (ds ++ es)) else none := Eq.trans rfl rfl
@[simp] theorem q_mul_i : gMul (.int x) (.int y) = if cMulW x y = true then some (false, .int (x * y)) else none := Eq.trans rfl rfl
@[simp] theorem q_on0 (f : Int → Int → D) : onInts0 f (.int x) (.int y) = some (f x y) := Eq.trans rfl rfl
@[simp] theorem q_onIB (f : Int → Int → Bool) : onIB f (.int x) (.int y) = some (.bool (f x y)) := Eq.trans rfl rfl
@[simp] theorem q_onIBb (f : Int → Int → Bool) : onIB f (.bool b) (.int y) = some (.bool (f (if b then 1 else 0) y)) := Eq.trans rfl rfl
@[simp] theorem q_on (c : Int → Int → Bool) (f : Int → Int → D) : onInts c f (.int x) (.int y) = if c x y = true then some (f x y) else none := Eq.trans rfl rfl
@[simp] theorem q_ix_l : gIx (.list ds) (.int x) = atI ds x := Eq.trans rfl rfl
@[simp] theorem q_ix_t : gIx (.tuple ds) (.int x) = atI ds x := Eq.trans rfl rfl
@[simp] theorem q_is_n : gIs d .none = some (.bool (isNone d)) := Eq.trans rfl rfl
@[simp] theorem q_not_n : gNot d .none = some (.bool (!isNone d)) := Eq.trans rfl rfl
@[simp] theorem q_is_b : gIs (.bool b) (.bool c) = some (.bool (decide (b = c))) := Eq.trans rfl rfl
@[simp] theorem q_not_b : gNot (.bool b) (.bool c) = some (.bool (!decide (b = c))) := Eq.trans rfl rfl
@[simp] theorem q_isNone_n : isNone .none = true := Eq.trans rfl rfl
@[simp] theorem q_isNone_i : isNone (.int x) = false := Eq.trans rfl rfl
@[simp] theorem q_isNone_b : isNone (.bool b) = false := Eq.trans rfl rfl
@[simp] theorem q_isNone_l : isNone (.list ds) = false := Eq.trans rfl rfl
@[simp] theorem q_isNone_t : isNone (.tuple ds) = false := Eq.trans rfl rfl
@[simp] theorem q_isNone_s (s : Str) : isNone (.str s) = false := Eq.trans rfl rfl
@[simp] theorem q_isNone_d (kv : List (D × D)) : isNone (.dict kv) = false := Eq.trans rfl rfl
@[simp] theorem q_eq_ii : gEq (.int x) (.int y) = some (.bool (x == y)) := Eq.trans rfl rfl
@[simp] theorem q_ne_ii : gNe (.int x) (.int y) = some (.bool (!(x == y))) := Eq.trans rfl rfl
@[simp] theorem q_eq_bb (c : Bool) : gEq (.bool b) (.bool c) = some (.bool (b == c)) := Eq.trans rfl rfl
@[simp] theorem q_ne_bb (c : Bool) : gNe (.bool b) (.bool c) = some (.bool (!(b == c))) := Eq.trans rfl rfl
@[simp] theorem q_len_l : gLen [.list ds] = some (.int ds.length) := Eq.trans rfl rfl
@[simp] theorem q_len_t : gLen [.tuple ds] = some (.int ds.length) := Eq.trans rfl rfl
@[simp] theorem q_abs : gAbs [.int x] = some (.int (if x < 0 then -x else x)) := Eq.trans rfl rfl
@[simp] theorem q_max2 : gMax2 [.int x, .int y] = some (.int (if y > x then y else x)) := Eq.trans rfl rfl
@[simp] theorem q_min2 : gMin2 [.int x, .int y] = some (.int (if y < x then y else x)) := Eq.trans rfl rfl
@[simp] theorem q_int1_i : gInt1 [.int x] = some (.int x) := Eq.trans rfl rfl
@[simp] theorem q_int1_b : gInt1 [.bool b] = some (.int (if b then 1 else 0)) := Eq.trans rfl rfl
@[simp] theorem q_list_l : gList [.list ds] = some (.list ds) := Eq.trans rfl rfl
@[simp] theorem q_list_t : gList [.tuple ds] = some (.list ds) := Eq.trans rfl rfl
@[simp] theorem q_tuple_l : gTuple [.list ds] = some (.tuple ds) := Eq.trans rfl rfl
@[simp] theorem q_all : gAll [.list ds] = (bools ds).map fun bs => .bool (bs.all id) := Eq.trans rfl rfl
@[simp] theorem q_revs : gRevs (.list ds) = some (.list ds.reverse) := Eq.trans rfl rfl
@[simp] theorem q_append : gAppend ds [d] = if ds.length < 100000 then some (ds ++ [d], .none) else none := Eq.trans rfl rfl
@[simp] theorem q_isi (Ts : List String) : gIsi Ts d = some (.bool (Ts.any fun T => isTy (tyD d) T)) := Eq.trans rfl rfl
@[simp] theorem q_tyD_n : tyD .none = "NoneType" := Eq.trans rfl rfl
@[simp] theorem q_tyD_b : tyD (.bool b) = "bool" := Eq.trans rfl rfl
@[simp] theorem q_tyD_i : tyD (.int x) = "int" := Eq.trans rfl rfl
@[simp] theorem q_tyD_s (s : Str) : tyD (.str s) = "str" := Eq.trans rfl rfl
@[simp] theorem q_tyD_l : tyD (.list ds) = "list" := Eq.trans rfl rfl
@[simp] theorem q_tyD_t : tyD (.tuple ds) = "tuple" := Eq.trans rfl rfl
@[simp] theorem q_tyD_d (kv : List (D × D)) : tyD (.dict kv) = "dict" := Eq.trans rfl rfl
@[simp] theorem q_isTy (t T : String) : isTy t T = if T = "int" then (t == "int" || t == "bool") else t == T := by
  unfold isTy
  split
  · rfl
  · rename_i h; rw [if_neg (fun z => h z)]
@[simp] theorem q_items_l : itemsD (.list ds) = some (false, ds) := Eq.trans rfl rfl
@[simp] theorem q_items_t : itemsD (.tuple ds) = some (true, ds) := Eq.trans rfl rfl
@[simp] theorem q_atom_i : atom (.int x) = true := Eq.trans rfl rfl
@[simp] theorem q_atom_b : atom (.bool b) = true := Eq.trans rfl rfl
@[simp] theorem q_atom_n : atom .none = true := Eq.trans rfl rfl
@[simp] theorem q_isL : isL (.list ds) = some (.list ds) := Eq.trans rfl rfl
@[simp] theorem v_isbI (c : Bool) : gIs (.int x) (.bool c) = some (.bool false) := Eq.trans rfl rfl
@[simp] theorem v_isbN (c : Bool) : gIs .none (.bool c) = some (.bool false) := Eq.trans rfl rfl
@[simp] theorem v_isbS (s : Str) (c : Bool) : gIs (.str s) (.bool c) = some (.bool false) := Eq.trans rfl rfl
@[simp] theorem v_isbL (c : Bool) : gIs (.list ds) (.bool c) = some (.bool false) := Eq.trans rfl rfl
@[simp] theorem v_isbT (c : Bool) : gIs (.tuple ds) (.bool c) = some (.bool false) := Eq.trans rfl rfl
@[simp] theorem v_isbD (k : List (D × D)) (c : Bool) : gIs (.dict k) (.bool c) = some (.bool false) := Eq.trans rfl rfl
@[simp] theorem v_notbI (c : Bool) : gNot (.int x) (.bool c) = some (.bool true) := Eq.trans rfl rfl
@[simp] theorem v_tup2 : tup2 (.tuple [d, e]) = some (d, e) := Eq.trans rfl rfl
@[simp] theorem v_tup3 (f : D) : tup3 (.tuple [d, e, f]) = some (d, e, f) := Eq.trans rfl rfl
@[simp] theorem v_ixP : ixP (.int x) = some x := Eq.trans rfl rfl
@[simp] theorem v_atP_i : atP (.int x) = some () := Eq.trans rfl rfl
@[simp] theorem v_atP_b : atP (.bool b) = some () := Eq.trans rfl rfl
@[simp] theorem v_atP_n : atP .none = some () := Eq.trans rfl rfl
@[simp] theorem v_negP : negP (.int x) = some (.int (-x)) := Eq.trans rfl rfl
@[simp] theorem v_rng1P : rng1P (.int x) = if small62 x = true then some (rngD 0 x) else none := Eq.trans rfl rfl
@[simp] theorem v_rng2P : rng2P (.int x) (.int y) = if (small62 x && small62 y) = true then some (rngD x y) else none := Eq.trans rfl rfl
@[simp] theorem v_lrgP : lrgP (.int x) = if (decide (-100000 ≤ x) && decide (x ≤ 100000)) = true then some (.list (rngD 0 x)) else none := Eq.trans rfl rfl
@[simp] theorem v_dict1P : dict1P (.int x) d = some (.dict [(.int x, d)]) := Eq.trans rfl rfl
@[simp] theorem v_rngdP : rngdP (.int x) (.int y) = if (small62 x && small62 y) = true then some (rngdD x y) else none := Eq.trans rfl rfl
@[simp] theorem v_addV : addV (.int x) (.int y) = some (.int (x + y)) := Eq.trans rfl rfl
@[simp] theorem v_addF : addF (.list ds) (.list es) = if ds.length + es.length ≤ 100000 then some (.list (ds ++ es)) else none := by
  unfold addF; rw [q_add_l]; by_cases h : ds.length + es.length ≤ 100000 <;> simp only [h, if_true, if_false]
@[simp] theorem v_mulV : mulV (.int x) (.int y) = if cMulW x y = true then some (.int (x * y)) else none := by
  unfold mulV; rw [q_mul_i]; by_cases h : cMulW x y = true
  · rw [if_pos h, if_pos h]
  · rw [if_neg h, if_neg h]
@[simp] theorem v_slF (l h : Option Int) : slF (.list ds) l h = some (.list (cutD ds l h)) := Eq.trans rfl rfl
@[simp] theorem v_sl (l h : Option Int) : sliceD (.list ds) l h = some (true, .list (cutD ds l h)) := Eq.trans rfl rfl
@[simp] theorem v_slW (l h : Option Int) : slW (.list ds) l h = some (.list (cutD ds l h)) := Eq.trans rfl rfl
@[simp] theorem v_sliceW (l h : Option Int) : sliceW (.list ds) l h = some (false, .list (cutD ds l h)) := Eq.trans rfl rfl
@[simp] theorem v_mutP (g : List D → List D → Option (List D × D)) (as : List D) : mutP g (.list ds) as = (g ds as).map fun nr => (.list nr.1, nr.2) := Eq.trans rfl rfl
@[simp] theorem v_setP : setP (.list ds) (.int x) e = (ixN ds.length x).map fun i => .list (ds.set i e) := Eq.trans rfl rfl
@[simp] theorem v_ixSP (ns : List Int) : ixSP ns (.int x) = (atI ns x).map .int := Eq.trans rfl rfl
@[simp] theorem v_gAddI : gAddI (.int x) (.int y) = some (.int (x + y)) := Eq.trans rfl rfl
@[simp] theorem v_sorted : gSorted [.list ds] = (nums ds).map fun ns => .list ((sortI ns).map .int) := Eq.trans rfl rfl
@[simp] theorem v_neg_c : negP (.int x) = some (.int (-x)) := Eq.trans rfl rfl
@[simp] theorem v_bind1 {α γ : Type} (f : α → Option γ) (x : α) : bind1 (some x) f = f x := Eq.trans rfl rfl
@[simp] theorem v_bind1n {α γ : Type} (f : α → Option γ) : bind1 none f = none := Eq.trans rfl rfl
@[simp] theorem v_bind2 {α1 α2 γ : Type} (f : α1 → α2 → Option γ) (x1 : α1) (x2 : α2) : bind2 (some (x1, x2)) f = f x1 x2 := Eq.trans rfl rfl
@[simp] theorem v_bind2n {α1 α2 γ : Type} (f : α1 → α2 → Option γ) : bind2 none f = none := Eq.trans rfl rfl
@[simp] theorem v_bind3 {α1 α2 α3 γ : Type} (f : α1 → α2 → α3 → Option γ) (x1 : α1) (x2 : α2) (x3 : α3) : bind3 (some (x1, x2, x3)) f = f x1 x2 x3 := Eq.trans rfl rfl
@[simp] theorem v_bind3n {α1 α2 α3 γ : Type} (f : α1 → α2 → α3 → Option γ) : bind3 none f = none := Eq.trans rfl rfl
@[simp] theorem v_bind4 {α1 α2 α3 α4 γ : Type} (f : α1 → α2 → α3 → α4 → Option γ) (x1 : α1) (x2 : α2) (x3 : α3) (x4 : α4) : bind4 (some (x1, x2, x3, x4)) f = f x1 x2 x3 x4 := Eq.trans rfl rfl
@[simp] theorem v_bind4n {α1 α2 α3 α4 γ : Type} (f : α1 → α2 → α3 → α4 → Option γ) : bind4 none f = none := Eq.trans rfl rfl
@[simp] theorem v_bind5 {α1 α2 α3 α4 α5 γ : Type} (f : α1 → α2 → α3 → α4 → α5 → Option γ) (x1 : α1) (x2 : α2) (x3 : α3) (x4 : α4) (x5 : α5) : bind5 (some (x1, x2, x3, x4, x5)) f = f x1 x2 x3 x4 x5 := Eq.trans rfl rfl
@[simp] theorem v_bind5n {α1 α2 α3 α4 α5 γ : Type} (f : α1 → α2 → α3 → α4 → α5 → Option γ) : bind5 none f = none := Eq.trans rfl rfl
@[simp] theorem v_bind6 {α1 α2 α3 α4 α5 α6 γ : Type} (f : α1 → α2 → α3 → α4 → α5 → α6 → Option γ) (x1 : α1) (x2 : α2) (x3 : α3) (x4 : α4) (x5 : α5) (x6 : α6) : bind6 (some (x1, x2, x3, x4, x5, x6)) f = f x1 x2 x3 x4 x5 x6 := Eq.trans rfl rfl
@[simp] theorem v_bind6n {α1 α2 α3 α4 α5 α6 γ : Type} (f : α1 → α2 → α3 → α4 → α5 → α6 → Option γ) : bind6 none f = none := Eq.trans rfl rfl
@[simp] theorem v_bind7 {α1 α2 α3 α4 α5 α6 α7 γ : Type} (f : α1 → α2 → α3 → α4 → α5 → α6 → α7 → Option γ) (x1 : α1) (x2 : α2) (x3 : α3) (x4 : α4) (x5 : α5) (x6 : α6) (x7 : α7) : bind7 (some (x1, x2, x3, x4, x5, x6, x7)) f = f x1 x2 x3 x4 x5 x6 x7 := Eq.trans rfl rfl
@[simp] theorem v_bind7n {α1 α2 α3 α4 α5 α6 α7 γ : Type} (f : α1 → α2 → α3 → α4 → α5 → α6 → α7 → Option γ) : bind7 none f = none := Eq.trans rfl rfl
@[simp] theorem v_bind8 {α1 α2 α3 α4 α5 α6 α7 α8 γ : Type} (f : α1 → α2 → α3 → α4 → α5 → α6 → α7 → α8 → Option γ) (x1 : α1) (x2 : α2) (x3 : α3) (x4 : α4) (x5 : α5) (x6 : α6) (x7 : α7) (x8 : α8) : bind8 (some (x1, x2, x3, x4, x5, x6, x7, x8)) f = f x1 x2 x3 x4 x5 x6 x7 x8 := Eq.trans rfl rfl
@[simp] theorem v_bind8n {α1 α2 α3 α4 α5 α6 α7 α8 γ : Type} (f : α1 → α2 → α3 → α4 → α5 → α6 → α7 → α8 → Option γ) : bind8 none f = none := Eq.trans rfl rfl
@[simp] theorem v_bind9 {α1 α2 α3 α4 α5 α6 α7 α8 α9 γ : Type} (f : α1 → α2 → α3 → α4 → α5 → α6 → α7 → α8 → α9 → Option γ) (x1 : α1) (x2 : α2) (x3 : α3) (x4 : α4) (x5 : α5) (x6 : α6) (x7 : α7) (x8 : α8) (x9 : α9) : bind9 (some (x1, x2, x3, x4, x5, x6, x7, x8, x9)) f = f x1 x2 x3 x4 x5 x6 x7 x8 x9 := Eq.trans rfl rfl
@[simp] theorem v_bind9n {α1 α2 α3 α4 α5 α6 α7 α8 α9 γ : Type} (f : α1 → α2 → α3 → α4 → α5 → α6 → α7 → α8 → α9 → Option γ) : bind9 none f = none := Eq.trans rfl rfl
@[simp] theorem v_bind10 {α1 α2 α3 α4 α5 α6 α7 α8 α9 α10 γ : Type} (f : α1 → α2 → α3 → α4 → α5 → α6 → α7 → α8 → α9 → α10 → Option γ) (x1 : α1) (x2 : α2) (x3 : α3) (x4 : α4) (x5 : α5) (x6 : α6) (x7 : α7) (x8 : α8) (x9 : α9) (x10 : α10) : bind10 (some (x1, x2, x3, x4, x5, x6, x7, x8, x9, x10)) f = f x1 x2 x3 x4 x5 x6 x7 x8 x9 x10 := Eq.trans rfl rfl
@[simp] theorem v_bind10n {α1 α2 α3 α4 α5 α6 α7 α8 α9 α10 γ : Type} (f : α1 → α2 → α3 → α4 → α5 → α6 → α7 → α8 → α9 → α10 → Option γ) : bind10 none f = none := Eq.trans rfl rfl
@[simp] theorem v_ctB0 { T γ : Type} (g : T → Option γ) (f : Unit → Option γ) : ctB0 (some (.nx ())) g f = f () := Eq.trans rfl rfl
@[simp] theorem v_ctB0r { T γ : Type} (g : T → Option γ) (f : Unit → Option γ) (t : T) : ctB0 (some (.rt t)) g f = g t := Eq.trans rfl rfl
@[simp] theorem v_ctB1 {α1 T γ : Type} (g : T → Option γ) (f : α1 → Option γ) (x1 : α1) : ctB1 (some (.nx x1)) g f = f x1 := Eq.trans rfl rfl
@[simp] theorem v_ctB1r {α1 T γ : Type} (g : T → Option γ) (f : α1 → Option γ) (t : T) : ctB1 (some (.rt t)) g f = g t := Eq.trans rfl rfl
@[simp] theorem v_ctB2 {α1 α2 T γ : Type} (g : T → Option γ) (f : α1 → α2 → Option γ) (x1 : α1) (x2 : α2) : ctB2 (some (.nx (x1, x2))) g f = f x1 x2 := Eq.trans rfl rfl
@[simp] theorem v_ctB2r {α1 α2 T γ : Type} (g : T → Option γ) (f : α1 → α2 → Option γ) (t : T) : ctB2 (some (.rt t)) g f = g t := Eq.trans rfl rfl
@[simp] theorem v_ctB3 {α1 α2 α3 T γ : Type} (g : T → Option γ) (f : α1 → α2 → α3 → Option γ) (x1 : α1) (x2 : α2) (x3 : α3) : ctB3 (some (.nx (x1, x2, x3))) g f = f x1 x2 x3 := Eq.trans rfl rfl
@[simp] theorem v_ctB3r {α1 α2 α3 T γ : Type} (g : T → Option γ) (f : α1 → α2 → α3 → Option γ) (t : T) : ctB3 (some (.rt t)) g f = g t := Eq.trans rfl rfl
@[simp] theorem v_ctB4 {α1 α2 α3 α4 T γ : Type} (g : T → Option γ) (f : α1 → α2 → α3 → α4 → Option γ) (x1 : α1) (x2 : α2) (x3 : α3) (x4 : α4) : ctB4 (some (.nx (x1, x2, x3, x4))) g f = f x1 x2 x3 x4 := Eq.trans rfl rfl
@[simp] theorem v_ctB4r {α1 α2 α3 α4 T γ : Type} (g : T → Option γ) (f : α1 → α2 → α3 → α4 → Option γ) (t : T) : ctB4 (some (.rt t)) g f = g t := Eq.trans rfl rfl
@[simp] theorem v_ctB5 {α1 α2 α3 α4 α5 T γ : Type} (g : T → Option γ) (f : α1 → α2 → α3 → α4 → α5 → Option γ) (x1 : α1) (x2 : α2) (x3 : α3) (x4 : α4) (x5 : α5) : ctB5 (some (.nx (x1, x2, x3, x4, x5))) g f = f x1 x2 x3 x4 x5 := Eq.trans rfl rfl
@[simp] theorem v_ctB5r {α1 α2 α3 α4 α5 T γ : Type} (g : T → Option γ) (f : α1 → α2 → α3 → α4 → α5 → Option γ) (t : T) : ctB5 (some (.rt t)) g f = g t := Eq.trans rfl rfl
@[simp] theorem v_ctB6 {α1 α2 α3 α4 α5 α6 T γ : Type} (g : T → Option γ) (f : α1 → α2 → α3 → α4 → α5 → α6 → Option γ) (x1 : α1) (x2 : α2) (x3 : α3) (x4 : α4) (x5 : α5) (x6 : α6) : ctB6 (some (.nx (x1, x2, x3, x4, x5, x6))) g f = f x1 x2 x3 x4 x5 x6 := Eq.trans rfl rfl
@[simp] theorem v_ctB6r {α1 α2 α3 α4 α5 α6 T γ : Type} (g : T → Option γ) (f : α1 → α2 → α3 → α4 → α5 → α6 → Option γ) (t : T) : ctB6 (some (.rt t)) g f = g t := Eq.trans rfl rfl
@[simp] theorem v_ctB7 {α1 α2 α3 α4 α5 α6 α7 T γ : Type} (g : T → Option γ) (f : α1 → α2 → α3 → α4 → α5 → α6 → α7 → Option γ) (x1 : α1) (x2 : α2) (x3 : α3) (x4 : α4) (x5 : α5) (x6 : α6) (x7 : α7) : ctB7 (some (.nx (x1, x2, x3, x4, x5, x6, x7))) g f = f x1 x2 x3 x4 x5 x6 x7 := Eq.trans rfl rfl
@[simp] theorem v_ctB7r {α1 α2 α3 α4 α5 α6 α7 T γ : Type} (g : T → Option γ) (f : α1 → α2 → α3 → α4 → α5 → α6 → α7 → Option γ) (t : T) : ctB7 (some (.rt t)) g f = g t := Eq.trans rfl rfl
@[simp] theorem v_ctB8 {α1 α2 α3 α4 α5 α6 α7 α8 T γ : Type} (g : T → Option γ) (f : α1 → α2 → α3 → α4 → α5 → α6 → α7 → α8 → Option γ) (x1 : α1) (x2 : α2) (x3 : α3) (x4 : α4) (x5 : α5) (x6 : α6) (x7 : α7) (x8 : α8) : ctB8 (some (.nx (x1, x2, x3, x4, x5, x6, x7, x8))) g f = f x1 x2 x3 x4 x5 x6 x7 x8 := Eq.trans rfl rfl
@[simp] theorem v_ctB8r {α1 α2 α3 α4 α5 α6 α7 α8 T γ : Type} (g : T → Option γ) (f : α1 → α2 → α3 → α4 → α5 → α6 → α7 → α8 → Option γ) (t : T) : ctB8 (some (.rt t)) g f = g t := Eq.trans rfl rfl
@[simp] theorem v_ctB9 {α1 α2 α3 α4 α5 α6 α7 α8 α9 T γ : Type} (g : T → Option γ) (f : α1 → α2 → α3 → α4 → α5 → α6 → α7 → α8 → α9 → Option γ) (x1 : α1) (x2 : α2) (x3 : α3) (x4 : α4) (x5 : α5) (x6 : α6) (x7 : α7) (x8 : α8) (x9 : α9) : ctB9 (some (.nx (x1, x2, x3, x4, x5, x6, x7, x8, x9))) g f = f x1 x2 x3 x4 x5 x6 x7 x8 x9 := Eq.trans rfl rfl
@[simp] theorem v_ctB9r {α1 α2 α3 α4 α5 α6 α7 α8 α9 T γ : Type} (g : T → Option γ) (f : α1 → α2 → α3 → α4 → α5 → α6 → α7 → α8 → α9 → Option γ) (t : T) : ctB9 (some (.rt t)) g f = g t := Eq.trans rfl rfl
end
theorem bools_map (f : D → Bool) : ∀ ds : List D, bools (ds.map fun d => .bool (f d)) = some (ds.map f)
  | [] => rfl
  | d :: ds => by
    show (bools (ds.map fun d => .bool (f d))).map (f d :: ·) = _
    rw [bools_map f ds]; rfl
theorem nums_ints : ∀ ns : List Int, nums (ns.map PyData.int) = some ns
  | [] => rfl
  | n :: ns => by
    show (nums (ns.map PyData.int)).map (n :: ·) = _
    rw [nums_ints ns]; rfl
/-! ### loops by what holds -/
theorem foldP_inv {S : Type} {f : D → S → Option S} (I : List D → S → Prop) : ∀ (xs done : List D) (s : S), I done s →
    (∀ pre x s, x ∈ xs → pre.length < done.length + xs.length → I pre s → ∃ s', f x s = some s' ∧ I (pre ++ [x]) s') → ∃ s', foldP f xs s = some s' ∧ I (done ++ xs) s'
  | [], done, s, h0, _ => ⟨s, rfl, by rw [List.append_nil]; exact h0⟩
  | x :: xs, done, s, h0, hs => by
    obtain ⟨s1, e1, h1⟩ := hs done x s List.mem_cons_self (by rw [List.length_cons]; omega) h0
    obtain ⟨s', e2, h2⟩ := foldP_inv I xs (done ++ [x]) s1 h1 fun pre y s hy hl => hs pre y s (List.mem_cons_of_mem _ hy) (by rw [List.length_append, List.length_cons, List.length_nil] at hl; rw [List.length_cons]; omega)
    refine ⟨s', ?_, by rw [List.append_assoc] at h2; exact h2⟩
    show (f x s).bind _ = _
    rw [e1]; exact e2
/-- a fold by its invariant over what is done -/
theorem foldP_by {S : Type} {f : D → S → Option S} (I : List D → S → Prop) {xs : List D} {s : S} (h0 : I [] s)
    (hs : ∀ pre x s, x ∈ xs → pre.length < xs.length → I pre s → ∃ s', f x s = some s' ∧ I (pre ++ [x]) s') : ∃ s', foldP f xs s = some s' ∧ I xs s' := by
  have := foldP_inv I xs [] s h0 (fun pre x s hx hl => hs pre x s hx (by simpa using hl))
  simpa using this
theorem forP_inv {S T : Type} {f : D → S → Option (Ct S T)} (I : List D → S → Prop) : ∀ (xs done : List D) (s : S), I done s →
    (∀ pre x s, x ∈ xs → pre.length < done.length + xs.length → I pre s → ∃ s', f x s = some (.nx s') ∧ I (pre ++ [x]) s') → ∃ s', forP f xs s = some (.nx s') ∧ I (done ++ xs) s'
  | [], done, s, h0, _ => ⟨s, rfl, by rw [List.append_nil]; exact h0⟩
  | x :: xs, done, s, h0, hs => by
    obtain ⟨s1, e1, h1⟩ := hs done x s List.mem_cons_self (by rw [List.length_cons]; omega) h0
    obtain ⟨s', e2, h2⟩ := forP_inv I xs (done ++ [x]) s1 h1 fun pre y s hy hl => hs pre y s (List.mem_cons_of_mem _ hy) (by rw [List.length_append, List.length_cons, List.length_nil] at hl; rw [List.length_cons]; omega)
    refine ⟨s', ?_, by rw [List.append_assoc] at h2; exact h2⟩
    show (f x s).bind _ = _
    rw [e1]; exact e2
/-- a loop that is never left, by its invariant -/
theorem forP_by {S T : Type} {f : D → S → Option (Ct S T)} (I : List D → S → Prop) {xs : List D} {s : S} (h0 : I [] s)
    (hs : ∀ pre x s, x ∈ xs → pre.length < xs.length → I pre s → ∃ s', f x s = some (.nx s') ∧ I (pre ++ [x]) s') : ∃ s', forP f xs s = some (.nx s') ∧ I xs s' := by
  have := forP_inv I xs [] s h0 (fun pre x s hx hl => hs pre x s hx (by simpa using hl))
  simpa using this
theorem mapP_of {f : D → Option D} {φ : D → D} : ∀ {xs : List D}, (∀ x ∈ xs, f x = some (φ x)) → mapP f xs = some (xs.map φ)
  | [], _ => rfl
  | x :: xs, h => by
    show (f x).bind _ = _
    rw [h x List.mem_cons_self, Option.bind_some, mapP_of fun y hy => h y (List.mem_cons_of_mem _ hy)]; rfl
theorem mapT_of {f : D → Option D} {φ : D → D} {xs : List D} (hl : xs.length ≤ 100000) (h : ∀ x ∈ xs, f x = some (φ x)) : mapT f xs = some (xs.map φ) := by
  unfold mapT
  rw [mapP_of h, Option.bind_some, if_pos (by rw [List.length_map]; exact hl)]
theorem filP_of {f : D → Option (Option D)} {φ : D → Option D} : ∀ {xs : List D}, (∀ x ∈ xs, f x = some (φ x)) → filP f xs = some (xs.filterMap φ)
  | [], _ => rfl
  | x :: xs, h => by
    show (f x).bind _ = _
    rw [h x List.mem_cons_self, Option.bind_some, filP_of fun y hy => h y (List.mem_cons_of_mem _ hy), Option.bind_some, List.filterMap_cons]
    cases φ x <;> rfl
theorem filT_of {f : D → Option (Option D)} {φ : D → Option D} {xs : List D} (hl : xs.length ≤ 100000) (h : ∀ x ∈ xs, f x = some (φ x)) : filT f xs = some (xs.filterMap φ) := by
  unfold filT
  rw [filP_of h, Option.bind_some, if_pos (Nat.le_trans (List.length_filterMap_le _ _) hl)]
/-- the same, typed: the things gone through are written -/
theorem mapT_enc {α : Type} {f : D → Option D} {e : α → D} {φ : α → D} {xs : List α} (hl : xs.length ≤ 100000) (h : ∀ x ∈ xs, f (e x) = some (φ x)) : mapT f (xs.map e) = some (xs.map φ) := by
  have key : ∀ ys : List α, (∀ x ∈ ys, f (e x) = some (φ x)) → mapP f (ys.map e) = some (ys.map φ) := by
    intro ys
    induction ys with
    | nil => intro _; rfl
    | cons y ys ih =>
      intro h
      show (f (e y)).bind _ = _
      rw [h y List.mem_cons_self, Option.bind_some, ih fun z hz => h z (List.mem_cons_of_mem _ hz)]; rfl
  unfold mapT
  rw [key xs h, Option.bind_some, if_pos (by rw [List.length_map]; exact hl)]
theorem foldP_enc {α S : Type} {f : D → S → Option S} {e : α → D} (I : List α → S → Prop) {xs : List α} {s : S} (h0 : I [] s)
    (hs : ∀ pre x post s, xs = pre ++ x :: post → I pre s → ∃ s', f (e x) s = some s' ∧ I (pre ++ [x]) s') : ∃ s', foldP f (xs.map e) s = some s' ∧ I xs s' := by
  have key : ∀ (ys done : List α) (s : S), xs = done ++ ys → I done s → ∃ s', foldP f (ys.map e) s = some s' ∧ I xs s' := by
    intro ys
    induction ys with
    | nil => intro done s hx hi; rw [List.append_nil] at hx; subst hx; exact ⟨s, rfl, hi⟩
    | cons y ys ih =>
      intro done s hx hi
      obtain ⟨s1, e1, h1⟩ := hs done y ys s hx hi
      obtain ⟨s', e2, h2⟩ := ih (done ++ [y]) s1 (by rw [hx, List.append_assoc]; rfl) h1
      refine ⟨s', ?_, h2⟩
      show (f (e y) s).bind _ = _
      rw [e1]; exact e2
  exact key xs [] s rfl h0
theorem forP_enc {α S T : Type} {f : D → S → Option (Ct S T)} {e : α → D} (I : List α → S → Prop) {xs : List α} {s : S} (h0 : I [] s)
    (hs : ∀ pre x post s, xs = pre ++ x :: post → I pre s → ∃ s', f (e x) s = some (.nx s') ∧ I (pre ++ [x]) s') : ∃ s', forP f (xs.map e) s = some (.nx s') ∧ I xs s' := by
  have key : ∀ (ys done : List α) (s : S), xs = done ++ ys → I done s → ∃ s', forP f (ys.map e) s = some (.nx s') ∧ I xs s' := by
    intro ys
    induction ys with
    | nil => intro done s hx hi; rw [List.append_nil] at hx; subst hx; exact ⟨s, rfl, hi⟩
    | cons y ys ih =>
      intro done s hx hi
      obtain ⟨s1, e1, h1⟩ := hs done y ys s hx hi
      obtain ⟨s', e2, h2⟩ := ih (done ++ [y]) s1 (by rw [hx, List.append_assoc]; rfl) h1
      refine ⟨s', ?_, h2⟩
      show (f (e y) s).bind _ = _
      rw [e1]; exact e2
  exact key xs [] s rfl h0
end PL
namespace Y
open PySem PL L2
/-! ### numbers, sayings, rows -/
abbrev Say := Int × Option Int
def mostD : Option Int → D
  | none => .none
  | some m => .int m
@[simp] theorem mostD_none : mostD none = .none := rfl
@[simp] theorem mostD_some (m : Int) : mostD (some m) = .int m := rfl
def sayD (s : Say) : D := .tuple [.int s.1, mostD s.2]
theorem sayD_mk (l : Int) (m : Option Int) : sayD (l, m) = .tuple [.int l, mostD m] := rfl
def okSay (s : Say) : Prop := 0 ≤ s.1 ∧ ∀ m, s.2 = some m → s.1 ≤ m
def rowD (r : List Say) : List D := r.map sayD
@[simp] theorem rowD_len (r : List Say) : (rowD r).length = r.length := by simp [rowD]
theorem sayD_inj {s t : Say} (h : sayD s = sayD t) : s = t := by
  obtain ⟨a, b⟩ := s
  obtain ⟨c, d⟩ := t
  unfold sayD at h
  simp only [PyData.tuple.injEq, List.cons.injEq, PyData.int.injEq, and_true] at h
  obtain ⟨h1, h2⟩ := h
  cases b <;> cases d <;> simp [mostD] at h2 <;> simp [h1, h2]
theorem rowD_inj : ∀ {q r : List Say}, rowD q = rowD r → q = r
  | [], [], _ => rfl
  | [], _ :: _, h => by simp [rowD] at h
  | _ :: _, [], h => by simp [rowD] at h
  | a :: q, b :: r, h => by
    have h' : sayD a :: rowD q = sayD b :: rowD r := h
    rw [List.cons.injEq] at h'
    rw [sayD_inj h'.1, rowD_inj h'.2]
theorem rowD_rev (r : List Say) : (rowD r).reverse = rowD r.reverse := by simp [rowD]
theorem rowD_snoc (q : List Say) (s : Say) : rowD q ++ [sayD s] = rowD (q ++ [s]) := by simp [rowD]
theorem rowD_take (r : List Say) (i : Nat) : (rowD r).take i = rowD (r.take i) := by simp [rowD]
theorem rowD_drop (r : List Say) (i : Nat) : (rowD r).drop i = rowD (r.drop i) := by simp [rowD]
def intsD (is : List Int) : List D := is.map PyData.int
def boolsD (bs : List Bool) : List D := bs.map PyData.bool
@[simp] theorem intsD_len (is : List Int) : (intsD is).length = is.length := by simp [intsD]
@[simp] theorem boolsD_len (is : List Bool) : (boolsD is).length = is.length := by simp [boolsD]
/-! ### slices -/
theorem cut_from (ds : List D) (i : Nat) (h : i ≤ ds.length) : cutD ds (some (i : Int)) none = ds.drop i := by
  unfold cutD
  rw [HT.sIx_nat, HT.sIx_none, Nat.min_eq_left h]
  exact List.take_of_length_le (by simp)
theorem cut_to (ds : List D) (i : Nat) (h : i ≤ ds.length) : cutD ds none (some (i : Int)) = ds.take i := by
  unfold cutD
  rw [HT.sIx_nat, HT.sIx_none, Nat.min_eq_left h]
  simp
theorem ix_nat {ds : List D} {i : Nat} {d : D} (h : ds[i]? = some d) : atI ds (i : Int) = some d := atI_nat h
theorem rng_mem {lo hi : Int} {d : D} (h : d ∈ rngD lo hi) : ∃ i : Int, d = .int i ∧ lo ≤ i ∧ i < hi := by
  unfold rngD at h
  obtain ⟨k, hk, rfl⟩ := List.mem_map.mp h
  rw [List.mem_range] at hk
  exact ⟨_, rfl, by omega, by omega⟩
theorem rng_len (lo hi : Int) : (rngD lo hi).length = (hi - lo).toNat := by simp [rngD]
/-- range of a length -/
theorem rng_nat (n : Nat) : rngD 0 (n : Int) = (List.range n).map fun (i : Nat) => .int (i : Int) := by
  unfold rngD
  simp
theorem map_range_get {α : Type} {f : Nat → α} {xs : List α} (n : Nat) (hl : xs.length = n) (h : ∀ i, i < n → xs[i]? = some (f i)) : (List.range n).map f = xs := by
  apply List.ext_getElem?
  intro i
  by_cases hi : i < n
  · rw [List.getElem?_map, List.getElem?_range hi, h i hi]; rfl
  · rw [List.getElem?_eq_none (by simp; omega), List.getElem?_eq_none (by omega)]
theorem small_nat {n : Nat} (h : n ≤ 100000) : small62 (n : Int) = true := by simp [small62]; omega
/-! ### the law's own draws -/
def TinOk (t : D) (n : Nat) : Prop := ∃ a b c : Int, t = .list [.int a, .int b, .int c] ∧ 0 ≤ a ∧ b.natAbs < 2 ^ 200 ∧ 0 ≤ c ∧ c ≤ n
theorem TinOk.mono {t : D} {n m : Nat} (h : TinOk t n) (hm : n ≤ m) : TinOk t m := by
  obtain ⟨a, b, c, e, h1, h2, h3, h4⟩ := h
  exact ⟨a, b, c, e, h1, h2, h3, by omega⟩
theorem log_lt {x : Nat} {k : Nat} (h : x < 2 ^ k) (hk : 0 < k) : x.log2 < k := PySem.Flt.log2_lt_of hk h
theorem natAbs_mul_lt {i j : Int} {a b : Nat} (ha : i.natAbs < 2 ^ a) (hb : j.natAbs < 2 ^ b) : (i * j).natAbs < 2 ^ (a + b) := wide_lt ha hb
theorem natAbs_add_lt {i j : Int} {a : Nat} (ha : i.natAbs < 2 ^ a) (hb : j.natAbs < 2 ^ a) : (i + j).natAbs < 2 ^ (a + 1) := by
  have : (i + j).natAbs ≤ i.natAbs + j.natAbs := Int.natAbs_add_le i j
  rw [Nat.pow_succ]; omega
theorem pow_ok {i j : Int} (h0 : 0 ≤ j) (h1 : j ≤ 64) (h : i.natAbs < 2 ^ 250) : cPowW i j = true := by
  simp only [cPowW, Bool.and_eq_true, decide_eq_true_eq]
  exact ⟨⟨h0, h1⟩, Nat.lt_trans (log_lt h (by decide)) (by decide)⟩
theorem mulW_ok {i j : Int} {a b : Nat} (ha : i.natAbs < 2 ^ a) (hb : j.natAbs < 2 ^ b) (h0 : 0 < a) (h1 : 0 < b) (h : a + b ≤ 1000000) : cMulW i j = true := by
  simp only [cMulW, decide_eq_true_eq]
  exact wide_mul ha hb h0 h1 h
theorem divW_ok {i j : Int} {b : Nat} (h : 0 < j) (hb : j.natAbs < 2 ^ b) (h0 : 0 < b) (h9 : b ≤ 9000) : cDivW i j = true := by
  simp only [cDivW, Bool.and_eq_true, decide_eq_true_eq]
  exact wide_div (i := i) h hb h0 h9
theorem mod_ok {i j : Int} (h : 0 < j) : cMod i j = true := by simp [cMod, h]
theorem mod_rng (x : Int) {w : Int} (h : 0 < w) : 0 ≤ x % w ∧ x % w < w := ⟨Int.emod_nonneg _ (by omega), Int.emod_lt_of_pos _ h⟩
def mixB (b c : Int) : Int := ((b + 9576890767 * c) ^ 3 % 100000000000000000000000000000000000133 + 32452843 * c) ^ 5 % 10000000000000000000000000000000000000121
theorem pe_deal (t : D) (n : Nat) (w : Int) (ht : TinOk t n) (hn : n < 2 ^ 40) (hw : 0 < w) (hw2 : w < 2 ^ 200) :
    ∃ r t', p_l_deal t (.int w) = some (.int r, t') ∧ 0 ≤ r ∧ r < w ∧ TinOk t' (n + 1) := by
  obtain ⟨a, b, c, rfl, ha, hb, hc, hcn⟩ := ht
  have hw3 : w.natAbs < 2 ^ 200 := by omega
  have e0 : ∀ x y z : D, atI [x, y, z] 0 = some x := fun _ _ _ => rfl
  have e1 : ∀ x y z : D, atI [x, y, z] 1 = some y := fun _ _ _ => rfl
  have e2 : ∀ x y z : D, atI [x, y, z] 2 = some z := fun _ _ _ => rfl
  have i0 : ixN 3 0 = some 0 := rfl
  have i2 : ixN 3 2 = some 2 := rfl
  by_cases h : 0 < a
  · refine ⟨a % w, .list [.int (a / w), .int b, .int c], ?_, (mod_rng a hw).1, (mod_rng a hw).2, _, b, c, rfl, Int.ediv_nonneg ha (by omega), hb, hc, by omega⟩
    unfold p_l_deal
    simp [e0, i0, h, mod_ok hw, divW_ok (i := a) hw hw3 (by omega) (by omega)]
  · have hc' : (c + 1).natAbs < 2 ^ 41 := by omega
    have k1 : (9576890767 * (c + 1)).natAbs < 2 ^ (34 + 41) := natAbs_mul_lt (by decide) hc'
    have k2 : (b + 9576890767 * (c + 1)).natAbs < 2 ^ (200 + 1) := natAbs_add_lt hb (Nat.lt_trans k1 (by decide))
    have m1 : (0 : Int) < 100000000000000000000000000000000000133 := by decide
    have r1 := mod_rng ((b + 9576890767 * (c + 1)) ^ 3) m1
    have k3 : (((b + 9576890767 * (c + 1)) ^ 3) % 100000000000000000000000000000000000133).natAbs < 2 ^ 200 := by
      have : (100000000000000000000000000000000000133 : Int) < 2 ^ 200 := by decide
      omega
    have k4 : (32452843 * (c + 1)).natAbs < 2 ^ (25 + 41) := natAbs_mul_lt (by decide) hc'
    have k5 := natAbs_add_lt k3 (Nat.lt_trans k4 (by decide))
    have e5 : ((32452843 : Int)).natAbs < 2 ^ 25 := by decide
    have e9 : ((9576890767 : Int)).natAbs < 2 ^ 34 := by decide
    have q1 : cMulW 9576890767 (c + 1) = true := mulW_ok e9 hc' (by omega) (by omega) (by omega)
    have q2 : cPowW (b + 9576890767 * (c + 1)) 3 = true := pow_ok (by omega) (by omega) (Nat.lt_of_lt_of_le k2 (Nat.pow_le_pow_right (by omega) (by omega)))
    have q3 : cMulW 32452843 (c + 1) = true := mulW_ok e5 hc' (by omega) (by omega) (by omega)
    have q4 : cPowW ((b + 9576890767 * (c + 1)) ^ 3 % 100000000000000000000000000000000000133 + 32452843 * (c + 1)) 5 = true := pow_ok (by omega) (by omega) (Nat.lt_of_lt_of_le k5 (Nat.pow_le_pow_right (by omega) (by omega)))
    have q5 : cPowW 10 38 = true := pow_ok (by omega) (by omega) (by decide)
    have q6 : cPowW 10 40 = true := pow_ok (by omega) (by omega) (by decide)
    have q7 : ∀ i : Int, cDivW i 65536 = true := fun i => divW_ok (b := 17) (by omega) (by decide) (by omega) (by omega)
    refine ⟨mixB b (c + 1) / 65536 % w, .list [.int a, .int b, .int (c + 1)], ?_, (mod_rng _ hw).1, (mod_rng _ hw).2, a, b, c + 1, rfl, ha, hb, by omega, by omega⟩
    unfold p_l_deal
    simp [e0, e1, e2, i0, i2, h, q1, q2, q3, q4, q5, q6, q7, mod_ok hw, mod_ok m1, mod_ok (show (0 : Int) < 10000000000000000000000000000000000000121 by decide), mixB]
def okB (B : Int) (s : Say) : Prop := okSay s ∧ s.1 < B ∧ ∀ m, s.2 = some m → m < B
theorem okB.mono {B C : Int} {s : Say} (h : okB B s) (hc : B ≤ C) : okB C s := ⟨h.1, by have := h.2.1; omega, fun m hm => by have := h.2.2 m hm; omega⟩
/-- an item of a written list at a drawn place -/
theorem at_mem {ds : List D} {i : Int} (h0 : 0 ≤ i) (h1 : i < ds.length) : ∃ d, atI ds i = some d ∧ d ∈ ds := by
  obtain ⟨k, rfl⟩ := Int.eq_ofNat_of_zero_le h0
  have h : k < ds.length := by omega
  exact ⟨ds[k], ix_nat (List.getElem?_eq_getElem h), List.getElem_mem h⟩
theorem pe_said (t : D) (n : Nat) (w : Int) (ht : TinOk t n) (hn : n + 3 < 2 ^ 40) (hw : 0 < w) (hw2 : w < 2 ^ 199) :
    ∃ s t', p_l_said t (.int w) = some (sayD s, t') ∧ okB (w + w) s ∧ TinOk t' (n + 3) := by
  obtain ⟨r1, t1, e1, a1, b1, k1⟩ := pe_deal t n w ht (by omega) hw (by omega)
  obtain ⟨r2, t2, e2, a2, b2, k2⟩ := pe_deal t1 (n + 1) w k1 (by omega) hw (by omega)
  obtain ⟨r3, t3, e3, a3, b3, k3⟩ := pe_deal t2 (n + 1 + 1) 10 k2 (by omega) (by omega) (by decide)
  obtain ⟨d, ed, hd⟩ := at_mem (ds := [sayD (r1, none), sayD (r1, some r1), sayD (0, some r1), sayD (r1, some (r1 + r2)), sayD (0, none)]) (i := r3 % 5) (by omega) (by simp; omega)
  have key : ∃ s, d = sayD s ∧ okB (w + w) s := by
    simp only [List.mem_cons, List.not_mem_nil, or_false] at hd
    rcases hd with rfl | rfl | rfl | rfl | rfl
    · exact ⟨_, rfl, ⟨a1, by simp⟩, by simp only; omega, by intro m hm; cases hm⟩
    · exact ⟨_, rfl, ⟨a1, by simp⟩, by simp only; omega, by intro m hm; cases hm; omega⟩
    · exact ⟨_, rfl, ⟨by simp, by simpa using a1⟩, by simp only; omega, by intro m hm; cases hm; omega⟩
    · exact ⟨_, rfl, ⟨a1, by simp; omega⟩, by simp only; omega, by intro m hm; cases hm; omega⟩
    · exact ⟨_, rfl, ⟨by simp, by simp⟩, by simp only; omega, by intro m hm; cases hm⟩
  obtain ⟨s, rfl, hs⟩ := key
  simp only [sayD_mk, mostD_none, mostD_some] at ed
  refine ⟨s, t3, ?_, hs, k3⟩
  unfold p_l_said
  simp [e1, e2, e3, mod_ok, ed]
theorem atI_scr {ns : List Int} {k : Nat} (h : k < ns.length) : atI ns (k : Int) = some (ns[k]'h) := atI_nat (List.getElem?_eq_getElem h)
theorem pe_tin (ns : List Int) (k : Nat) (hk : k ≤ 63) : ∃ t, p_l_tin ns (.int k) = some t ∧ TinOk t 0 := by
  have q5 : cPowW 10 18 = true := pow_ok (by omega) (by omega) (by decide)
  have q6 : cPowW 10 37 = true := pow_ok (by omega) (by omega) (by decide)
  have m0 : (0 : Int) < 10000000000000000000000000000000000043 := by decide
  have core : ∀ cell : Int, TinOk (.list [.int (if (if cell < 0 then -cell else cell) - 1000000000000000000 > 0 then (if cell < 0 then -cell else cell) - 1000000000000000000 else 0), .int (cell % 10000000000000000000000000000000000043 * 64 + k), .int 0]) 0 := by
    intro cell
    have m := mod_rng cell m0
    refine ⟨_, _, _, rfl, ?_, ?_, by omega, by omega⟩
    · split <;> omega
    · have : (10000000000000000000000000000000000043 : Int) * 64 + 64 < 2 ^ 200 := by decide
      omega
  have q7 : ∀ cell : Int, cMulW (cell % 10000000000000000000000000000000000043) 64 = true := by
    intro cell
    have m := mod_rng cell m0
    exact mulW_ok (a := 200) (b := 7) (by
      have : (10000000000000000000000000000000000043 : Int) < 2 ^ 200 := by decide
      omega) (by decide) (by omega) (by omega) (by omega)
  by_cases h : k < ns.length
  · refine ⟨_, ?_, core ns[k]⟩
    unfold p_l_tin
    simp [h, atI_scr h, q5, q6, q7 ns[k], mod_ok m0]
  · refine ⟨_, ?_, core 0⟩
    unfold p_l_tin
    have := q7 0
    simp at this
    simp [h, q5, q6, this, mod_ok m0]
def shiftS (s : Say) (b : Int) : Say := (s.1 + b, s.2.map (· + b))
theorem shift_B {s : Say} {b B : Int} (h : okB B s) : (shiftS s b).1 < B + b ∧ ∀ m, (shiftS s b).2 = some m → m < B + b := by
  obtain ⟨l, m⟩ := s
  obtain ⟨_, h1, h2⟩ := h
  refine ⟨by simp only [shiftS]; simp only at h1; omega, ?_⟩
  intro m' hm'
  cases m with
  | none => simp [shiftS] at hm'
  | some x =>
    have := h2 x rfl
    simp [shiftS] at hm'
    omega
theorem shift_ok {s : Say} {b : Int} (h : okSay s) (hb : 0 ≤ b) : okSay (shiftS s b) := by
  obtain ⟨l, m⟩ := s
  obtain ⟨h1, h2⟩ := h
  refine ⟨by simp only [shiftS]; simp only at h1; omega, ?_⟩
  intro m' hm'
  cases m with
  | none => simp [shiftS] at hm'
  | some x =>
    have := h2 x rfl
    simp [shiftS] at hm'
    simp only [shiftS]
    simp only at this
    omega
theorem crew_step (t : D) (n : Nat) (w base kind k : Int) (l0 l1 : Say) (out : List D) (ht : TinOk t n) (hn : n + 3 < 2 ^ 40) (hw : 0 < w) (hw3 : w ≤ 1000)
    (hb : 0 ≤ base) (hk0 : 0 ≤ kind) (hk : kind < 6) (h0 : okB 3000 l0) (h1 : okB 3000 l1) (hi : 0 ≤ k) (hi2 : k < 900) (hl : out.length < 1000) :
    ∃ s t', p_l_crew_b1 (.int w) (.int kind) [sayD l0, sayD l1] (.int base) (.int k) t (.list out) = some (t', .list (out ++ [sayD s])) ∧ okB (3000 + base) s ∧ TinOk t' (n + 3) := by
  obtain ⟨s, t', e, hs, k'⟩ := pe_said t n w ht hn hw (by omega)
  have hl' : out.length < 100000 := by omega
  have i0 : atI [sayD l0, sayD l1] 0 = some (sayD l0) := rfl
  obtain ⟨d, ed, hd⟩ := at_mem (ds := [sayD l0, sayD l1]) (i := k % 2) (by omega) (by simp; omega)
  have hd' : ∃ q, d = sayD q ∧ okB 3000 q := by
    simp only [List.mem_cons, List.not_mem_nil, or_false] at hd
    rcases hd with rfl | rfl
    · exact ⟨_, rfl, h0⟩
    · exact ⟨_, rfl, h1⟩
  obtain ⟨q, rfl, hq⟩ := hd'
  have pick : ∃ s', okB 3000 s' ∧ (if kind > 2 then (gIx (.list [sayD l0, sayD q, .tuple [.int k, .int k]]) (.int (kind - 3))) else some (sayD s)) = some (sayD s') := by
    by_cases h : kind > 2
    · rw [if_pos h]
      obtain ⟨d, e2, hd⟩ := at_mem (ds := [sayD l0, sayD q, sayD (k, some k)]) (i := kind - 3) (by omega) (by simp; omega)
      simp only [List.mem_cons, List.not_mem_nil, or_false] at hd
      rcases hd with rfl | rfl | rfl
      · exact ⟨_, h0, e2⟩
      · exact ⟨_, hq, e2⟩
      · exact ⟨_, ⟨⟨hi, by simp⟩, by simp only; omega, by intro m hm; cases hm; omega⟩, e2⟩
    · rw [if_neg h]
      exact ⟨s, hs.mono (by omega), rfl⟩
  obtain ⟨s', hs', ep⟩ := pick
  refine ⟨shiftS s' base, t', ?_, ⟨shift_ok hs'.1 hb, shift_B hs'⟩, k'⟩
  have ep2 : (bind1 (gGt (.int kind) (.int 2)) fun v => bind1 (asBool v) fun b => if b = true then
      bind1 (gIx (.list [sayD l0, sayD l1]) (.int 0)) fun v1 => bind1 (gMod (.int k) (.int 2)) fun v2 => bind1 (gIx (.list [sayD l0, sayD l1]) v2) fun v3 => bind1 (gSub' (.int kind) (.int 3)) fun v4 => bind1 (gIx (.list [v1, v3, (.tuple [.int k, .int k])]) v4) fun v5 => some v5
    else some (sayD s)) = some (sayD s') := by
    by_cases h : kind > 2
    · rw [if_pos h] at ep
      simp only [q_ix_l] at ep
      simp [h, i0, ed, mod_ok, ep]
    · rw [if_neg h] at ep
      simp [h, ep]
  unfold p_l_crew_b1
  rw [e, v_bind2, ep2, v_bind1]
  obtain ⟨a, m⟩ := s'
  have j0 : ∀ x y : D, atI [x, y] 0 = some x := fun _ _ => rfl
  have j1 : ∀ x y : D, atI [x, y] 1 = some y := fun _ _ => rfl
  cases m with
  | none => simp [sayD, shiftS, j0, j1, hl']
  | some m => simp [sayD, shiftS, j0, j1, hl']
theorem pe_crew (t : D) (n : Nat) (most : Int) (ht : TinOk t n) (hn : n + 4000 < 2 ^ 40) (hm : 0 ≤ most) (hm2 : most ≤ 200) :
    ∃ r t', p_l_crew t (.int most) = some (.list (rowD r), t') ∧ (∀ s ∈ r, okB 100000000000000000000000010000 s) ∧ (r.length : Int) ≤ most ∧ TinOk t' (n + 700) := by
  obtain ⟨r1, t1, e1, a1, b1, k1⟩ := pe_deal t n 4 ht (by omega) (by omega) (by omega)
  obtain ⟨r2, t2, e2, a2, b2, k2⟩ := pe_deal t1 _ 9 k1 (by omega) (by omega) (by omega)
  obtain ⟨r3, t3, e3, a3, b3, k3⟩ := pe_deal t2 _ (most + 1) k2 (by omega) (by omega) (by omega)
  obtain ⟨r4, t4, e4, a4, b4, k4⟩ := pe_deal t3 _ 3 k3 (by omega) (by omega) (by omega)
  have c1 : ∃ x, atI [PyData.int r1, .int r2, .int r3] r4 = some (.int x) ∧ 0 ≤ x := by
    obtain ⟨d, h, hd⟩ := at_mem (ds := [PyData.int r1, .int r2, .int r3]) a4 (by simpa using b4)
    simp only [List.mem_cons, List.not_mem_nil, or_false] at hd
    rcases hd with rfl | rfl | rfl <;> exact ⟨_, h, by assumption⟩
  obtain ⟨x, c1, hx⟩ := c1
  obtain ⟨size, hsz⟩ : ∃ size : Nat, (if x < most then x else most) = (size : Int) := by
    refine ⟨(if x < most then x else most).toNat, ?_⟩
    split <;> omega
  have hszm : (size : Int) ≤ most := by rw [← hsz]; split <;> omega
  obtain ⟨r5, t5, e5, a5, b5, k5⟩ := pe_deal t4 _ 4 k4 (by omega) (by omega) (by omega)
  have c2 : ∃ w, atI [PyData.int 2, .int 4, .int 9, .int ((size : Int) + 2)] r5 = some (.int w) ∧ 0 < w ∧ w ≤ 1000 := by
    obtain ⟨d, h, hd⟩ := at_mem (ds := [PyData.int 2, .int 4, .int 9, .int ((size : Int) + 2)]) a5 (by simpa using b5)
    simp only [List.mem_cons, List.not_mem_nil, or_false] at hd
    rcases hd with rfl | rfl | rfl | rfl <;> exact ⟨_, h, by omega, by omega⟩
  obtain ⟨w, c2, hw, hw3⟩ := c2
  obtain ⟨r6, t6, e6, a6, b6, k6⟩ := pe_deal t5 _ 100000000000000000000000000000 k5 (by omega) (by omega) (by decide)
  obtain ⟨r7, t7, e7, a7, b7, k7⟩ := pe_deal t6 _ 4 k6 (by omega) (by omega) (by omega)
  have c3 : ∃ b, atI [PyData.int 0, .int 0, .int 0, .int r6] r7 = some (.int b) ∧ 0 ≤ b ∧ b < 100000000000000000000000000000 := by
    obtain ⟨d, h, hd⟩ := at_mem (ds := [PyData.int 0, .int 0, .int 0, .int r6]) a7 (by simpa using b7)
    simp only [List.mem_cons, List.not_mem_nil, or_false] at hd
    rcases hd with rfl | rfl | rfl | rfl <;> exact ⟨_, h, by omega, by omega⟩
  obtain ⟨base, c3, hb, hb2⟩ := c3
  obtain ⟨l0, t8, e8, o0, k8⟩ := pe_said t7 _ w k7 (by omega) hw (by omega)
  obtain ⟨l1, t9, e9, o1, k9⟩ := pe_said t8 _ w k8 (by omega) hw (by omega)
  obtain ⟨kind, ta, ea, aa, ba, ka⟩ := pe_deal t9 _ 6 k9 (by omega) (by omega) (by omega)
  have q5 : cPowW 10 29 = true := pow_ok (by omega) (by omega) (by decide)
  have lore : lcT (fun x s => p_l_crew_c1 (.int w) x s) (rngD 0 2) t7 = some ([sayD l0, sayD l1], t9) := by
    have : rngD 0 2 = [.int 0, .int 1] := rfl
    rw [this]
    simp [lcT, lcP, p_l_crew_c1, e8, e9]
  obtain ⟨⟨tb, fd⟩, eb, q, rfl, kb, hq, ho⟩ := foldP_by (f := fun x (s : D × D) => p_l_crew_b1 (.int w) (.int kind) [sayD l0, sayD l1] (.int base) x s.1 s.2) (xs := rngD 0 size) (s := (ta, .list []))
    (fun done s => ∃ q, s.2 = .list (rowD q) ∧ TinOk s.1 (n + 1 + 1 + 1 + 1 + 1 + 1 + 1 + 3 + 3 + 1 + 3 * done.length) ∧ q.length = done.length ∧ ∀ s ∈ q, okB (3000 + base) s) ⟨[], rfl, ka, rfl, by simp⟩ (by
      rintro pre d ⟨t', fd⟩ hd hlen ⟨q, hfd, kt, hq, ho⟩
      simp only at hfd kt
      subst hfd
      obtain ⟨i, rfl, hi, hi2⟩ := rng_mem hd
      rw [rng_len] at hlen
      obtain ⟨s, t'', e, hs, k2⟩ := crew_step t' _ w base kind i l0 l1 (rowD q) kt (by omega) hw hw3 hb aa ba (o0.mono (by omega)) (o1.mono (by omega)) hi (by omega) (by rw [rowD_len]; omega)
      refine ⟨_, e, q ++ [s], ?_, ?_, ?_, ?_⟩
      · rw [rowD_snoc]
      · rw [List.length_append]; exact k2.mono (by simp; omega)
      · rw [List.length_append, List.length_append, hq]; rfl
      · intro y hy
        rcases List.mem_append.mp hy with h1 | h1
        · exact ho y h1
        · rw [List.mem_singleton] at h1; subst h1; exact hs)
  simp only at kb
  rw [rng_len] at kb hq
  refine ⟨q, tb, ?_, fun s hs => (ho s hs).mono (by omega), by omega, kb.mono (by omega)⟩
  unfold p_l_crew
  have sm : small62 (size : Int) = true := small_nat (by omega)
  have sm2 : small62 2 = true := by decide
  simp [e1, e2, e3, e4, c1, hsz, e5, c2, q5, e6, e7, c3, sm2, lore, ea, sm, eb]
theorem lay_bools : ∀ bs : List Bool, PyData.canLayAll0 (boolsD bs) = true
  | [] => by simp [boolsD, PyData.canLayAll0]
  | b :: bs => by
    have := lay_bools bs
    show PyData.canLayAll0 (.bool b :: boolsD bs) = true
    simp [PyData.canLayAll0, PyData.canLay0, this]
theorem dep_bools : ∀ bs : List Bool, PyData.depthAll (boolsD bs) = 0
  | [] => by simp [boolsD, PyData.depthAll]
  | b :: bs => by
    have := dep_bools bs
    show PyData.depthAll (.bool b :: boolsD bs) = 0
    simp [PyData.depthAll, PyData.depth, this]
theorem shaped_bools (bs : List Bool) : SeqAt.shaped (.list (boolsD bs)) = true := by
  simp [SeqAt.shaped, PyData.canLay0, PyData.depth, lay_bools, dep_bools]
theorem lay_ints : ∀ bs : List Int, PyData.canLayAll0 (intsD bs) = true
  | [] => by simp [intsD, PyData.canLayAll0]
  | b :: bs => by
    have := lay_ints bs
    show PyData.canLayAll0 (.int b :: intsD bs) = true
    simp [PyData.canLayAll0, PyData.canLay0, this]
theorem dep_ints : ∀ bs : List Int, PyData.depthAll (intsD bs) = 0
  | [] => by simp [intsD, PyData.depthAll]
  | b :: bs => by
    have := dep_ints bs
    show PyData.depthAll (.int b :: intsD bs) = 0
    simp [PyData.depthAll, PyData.depth, this]
theorem shaped_ints (bs : List Int) : SeqAt.shaped (.list (intsD bs)) = true := by
  simp [SeqAt.shaped, PyData.canLay0, PyData.depth, lay_ints, dep_ints]
theorem eqv_bools : ∀ bs : List Bool, PyData.eqvAll (boolsD bs) (boolsD bs) = true
  | [] => by simp [boolsD, PyData.eqvAll]
  | b :: bs => by
    have := eqv_bools bs
    show PyData.eqvAll (.bool b :: boolsD bs) (.bool b :: boolsD bs) = true
    cases b <;> simp [PyData.eqvAll, PyData.eqv, this]
theorem eqv_ints : ∀ bs : List Int, PyData.eqvAll (intsD bs) (intsD bs) = true
  | [] => by simp [intsD, PyData.eqvAll]
  | b :: bs => by
    have := eqv_ints bs
    show PyData.eqvAll (.int b :: intsD bs) (.int b :: intsD bs) = true
    simp [PyData.eqvAll, PyData.eqv, this]
theorem ne_bools (bs : List Bool) : gNe (.list (boolsD bs)) (.list (boolsD bs)) = some (.bool false) := by
  simp [gNe, shaped_bools, PyData.eqv, eqv_bools]
theorem ne_ints (bs : List Int) : gNe (.list (intsD bs)) (.list (intsD bs)) = some (.bool false) := by
  simp [gNe, shaped_ints, PyData.eqv, eqv_ints]
theorem eq_ints (bs : List Int) : gEq (.list (intsD bs)) (.list (intsD bs)) = some (.bool true) := by
  simp [gEq, shaped_ints, PyData.eqv, eqv_ints]
theorem forP_find {α T : Type} {f : D → Unit → Option (Ct Unit T)} {e : α → D} {t : α → T} (p : α → Bool) : ∀ (xs : List α), (∀ x ∈ xs, f (e x) () = some (if p x = true then .rt (t x) else .nx ())) →
    forP f (xs.map e) () = some (match xs.find? p with | some x => .rt (t x) | none => .nx ())
  | [], _ => rfl
  | x :: xs, h => by
    show (f (e x) ()).bind _ = _
    rw [h x List.mem_cons_self, List.find?_cons]
    cases hp : p x with
    | true => rfl
    | false => exact forP_find p xs fun y hy => h y (List.mem_cons_of_mem _ hy)
theorem find_not_all {α : Type} (p : α → Bool) : ∀ xs : List α, (xs.find? fun x => !(p x)) = none ↔ xs.all p = true := by
  intro xs
  simp [List.find?_eq_none]
/-- a loop that is left with False at the first that is not so -/
theorem forP_all {α : Type} {f : D → Unit → Option (Ct Unit D)} {e : α → D} (p : α → Bool) (xs : List α) (h : ∀ x ∈ xs, f (e x) () = some (if p x = true then .nx () else .rt (.bool false))) :
    forP f (xs.map e) () = some (if xs.all p = true then .nx () else .rt (.bool false)) := by
  rw [forP_find (t := fun _ => PyData.bool false) (fun x => !(p x)) xs fun x hx => by
    rw [h x hx]
    cases p x <;> rfl]
  have := find_not_all p xs
  cases h1 : xs.find? fun x => !(p x) with
  | none => rw [if_pos (this.mp h1)]
  | some y =>
    have h2 : ¬ xs.all p = true := fun h3 => by rw [this.mpr h3] at h1; cases h1
    rw [if_neg h2]
/-! ### small data -/
structure Sm (w dep : Nat) (d : D) : Prop where
  lay : d.canLay0 = true
  ls : d.leavesShort 60 = true
  sh : PyData.showable d = true
  dp : d.depth ≤ dep
  wt : d.weight ≤ w
theorem Sm.mono {w dep w' dep' : Nat} {d : D} (h : Sm w dep d) (hw : w ≤ w') (hd : dep ≤ dep') : Sm w' dep' d := ⟨h.lay, h.ls, h.sh, Nat.le_trans h.dp hd, Nat.le_trans h.wt hw⟩
theorem sm_none : Sm 200 0 .none := ⟨by simp [PyData.canLay0], by simp [PyData.leavesShort], by simp [PyData.showable], by simp [PyData.depth], by simp [PyData.weight]⟩
theorem sm_bool (b : Bool) : Sm 200 0 (.bool b) := ⟨by simp [PyData.canLay0], by simp [PyData.leavesShort], by simp [PyData.showable], by simp [PyData.depth], by simp [PyData.weight]⟩
theorem sm_int {i : Int} (h : i.natAbs < 10 ^ 50) : Sm 200 0 (.int i) := by
  have h2 : i.natAbs < 2 ^ 180 := Nat.lt_trans h (by decide)
  have h3 := log_lt h2 (by decide)
  refine ⟨by simp [PyData.canLay0], ?_, ?_, by simp [PyData.depth], ?_⟩
  · have e := int_text_length_le10 (k := 50) (by decide) h
    simp only [PyData.leavesShort, decide_eq_true_eq]
    show (Str.ofString (toString i)).length ≤ 60
    rw [ofString_length]; omega
  · simp only [PyData.showable, decide_eq_true_eq]; omega
  · simp only [PyData.weight]
    split <;> omega
theorem smAll {w dep : Nat} : ∀ {xs : List D}, (∀ x ∈ xs, Sm w dep x) → PyData.canLayAll0 xs = true ∧ PyData.leavesShortAll 60 xs = true ∧ PyData.showableAll xs = true ∧ PyData.depthAll xs ≤ dep ∧ PyData.weightAll xs ≤ xs.length * (w + 1)
  | [], _ => ⟨by simp [PyData.canLayAll0], by simp [PyData.leavesShortAll], by simp [PyData.showableAll], by simp [PyData.depthAll], by simp [PyData.weightAll]⟩
  | x :: xs, h => by
    obtain ⟨h1, h2, h3, h4, h5⟩ := smAll fun y hy => h y (List.mem_cons_of_mem _ hy)
    obtain ⟨g1, g2, g3, g4, g5⟩ := h x List.mem_cons_self
    refine ⟨by simp [PyData.canLayAll0, h1, g1], by simp [PyData.leavesShortAll, h2, g2], by simp [PyData.showableAll, h3, g3], by simp only [PyData.depthAll]; omega, ?_⟩
    simp only [PyData.weightAll, List.length_cons, Nat.succ_mul]
    omega
theorem sm_list {w dep n : Nat} {xs : List D} (h : ∀ x ∈ xs, Sm w dep x) (hl : xs.length ≤ n) : Sm (n * (w + 1)) (dep + 1) (.list xs) := by
  obtain ⟨h1, h2, h3, h4, h5⟩ := smAll h
  have := Nat.mul_le_mul_right (w + 1) hl
  exact ⟨by simp [PyData.canLay0, h1], by simp [PyData.leavesShort, h2], by simp [PyData.showable, h3], by simp only [PyData.depth]; omega, by simp only [PyData.weight]; omega⟩
theorem sm_tuple {w dep n : Nat} {xs : List D} (h : ∀ x ∈ xs, Sm w dep x) (hl : xs.length ≤ n) : Sm (n * (w + 1)) (dep + 1) (.tuple xs) := by
  obtain ⟨h1, h2, h3, h4, h5⟩ := smAll h
  have := Nat.mul_le_mul_right (w + 1) hl
  exact ⟨by simp [PyData.canLay0, h1], by simp [PyData.leavesShort, h2], by simp [PyData.showable, h3], by simp only [PyData.depth]; omega, by simp only [PyData.weight]; omega⟩
theorem Sm.shaped {w dep : Nat} {d : D} (h : Sm w dep d) (hd : dep ≤ 64) : SeqAt.shaped d = true := by
  have := h.dp
  simp [SeqAt.shaped, h.lay]; omega
theorem Sm.okRepr {w dep : Nat} {d : D} (h : Sm w dep d) (hd : dep ≤ 64) (hw : w ≤ 200000) : okRepr d = true := by
  have h1 := PyData.shown_le 60 (by decide) d h.ls
  have h2 := h.wt
  have h3 := h.dp
  have h4 : (60 + 2) * d.weight ≤ (60 + 2) * 200000 := Nat.mul_le_mul_left _ (Nat.le_trans h2 hw)
  have h5 : d.shown.length ≤ sizeLine := by rw [sizeLine_eq]; omega
  simp [PL.okRepr, h.lay, h.sh, h5]
  omega
theorem Sm.repr {w dep : Nat} {d : D} (h : Sm w dep d) (hd : dep ≤ 64) (hw : w ≤ 200000) : gRepr [d] = some (PyData.str d.shown) := by
  show (if PL.okRepr d = true then some (PyData.str d.shown) else none) = _
  rw [if_pos (h.okRepr hd hw)]
theorem ne_str_self (s : Str) : gNe (.str s) (.str s) = some (.bool false) := by
  show some (PyData.bool (s.cps.toList != s.cps.toList)) = _
  simp
end Y
namespace Y
open PySem PL L2
/-! ### k00: what rows are -/
theorem tsm_int {i : Int} (h0 : -200000000000000000000000000000 ≤ i) (h1 : i ≤ 1000000000000000000000000000000) : Sm 200 0 (.int i) := sm_int (by
  have : (10 : Nat) ^ 50 = 100000000000000000000000000000000000000000000000000 := by decide
  omega)
theorem pick_mem {ds : List D} {i : Int} (h0 : 0 ≤ i) (h1 : i < ds.length) : ∃ d, gIx (.list ds) (.int i) = some d ∧ d ∈ ds := at_mem h0 h1
theorem eqI (x y : Int) : gEq (.int x) (.int y) = some (.bool (x == y)) := rfl
theorem ltI (x y : Int) : gLt (.int x) (.int y) = some (.bool (decide (x < y))) := rfl
theorem subI (x y : Int) : gSub' (.int x) (.int y) = some (.int (x - y)) := rfl
theorem asB (b : Bool) : asBool (.bool b) = some b := rfl
def numB : D → Bool
  | .int i => decide (0 ≤ i)
  | _ => false
/-- a saying -/
def sayB : D → Bool
  | .tuple [.int l, .none] => decide (0 ≤ l)
  | .tuple [.int l, .int m] => decide (0 ≤ l) && decide (l ≤ m)
  | _ => false
def rowB : D → Bool
  | .list ds => ds.all sayB
  | .tuple ds => ds.all sayB
  | _ => false
theorem sayB_D {s : Say} (h : okSay s) : sayB (sayD s) = true := by
  obtain ⟨l, m⟩ := s
  obtain ⟨h1, h2⟩ := h
  dsimp only at h1
  cases m with
  | none => simp [sayD, sayB, h1]
  | some m =>
    have := h2 m rfl
    dsimp only at this
    simp [sayD, sayB, h1, this]
theorem pe_is_number (d : D) : p_is_number d = some (.bool (numB d)) := by
  unfold p_is_number
  cases d <;> simp [numB]
theorem pe_is_count (d : D) : p_l_is_count d = some (.bool (numB d)) := by
  unfold p_l_is_count
  cases d <;> simp [numB]
theorem row_turn (x : D) : p_is_row_b1 x = some (if sayB x = true then .nx () else .rt (.bool false)) := by
  cases x with
  | tuple ds =>
    match ds with
    | [] => rfl
    | [_] =>
      unfold p_is_row_b1
      simp [sayB]
    | _ :: _ :: _ :: r =>
      unfold p_is_row_b1
      have hl : ¬ ((r.length : Int) + 1 + 1 + 1 = 2) := by omega
      simp [sayB, hl]
    | [l, m] =>
      cases l with
      | int l =>
        by_cases h1 : l < 0
        · have h2 : ¬ 0 ≤ l := by omega
          unfold p_is_row_b1
          cases m <;> simp [sayB, h1, h2]
        · have h2 : 0 ≤ l := by omega
          cases m with
          | none =>
            unfold p_is_row_b1
            simp [sayB, h1, h2]
          | int m =>
            unfold p_is_row_b1
            by_cases h3 : m < l
            · have h4 : ¬ l ≤ m := by omega
              simp [sayB, h1, h2, h3, h4]
            · have h4 : l ≤ m := by omega
              simp [sayB, h1, h2, h3, h4]
          | bool b =>
            unfold p_is_row_b1
            by_cases h3 : (if b = true then (1 : Int) else 0) < l
            · simp [sayB, h1, h3]
            · cases b <;> simp [sayB, h1] at h3 ⊢ <;> simp [h3]
          | _ =>
            unfold p_is_row_b1
            simp [sayB, h1]
      | bool b =>
        unfold p_is_row_b1
        by_cases h1 : (if b = true then (1 : Int) else 0) < 0
        · simp [sayB, h1]
        · cases b <;> simp [sayB]
      | _ =>
        unfold p_is_row_b1
        simp [sayB]
  | _ => rfl
theorem row_loop (xs : List D) : forP (fun x (_ : Unit) => p_is_row_b1 x) xs () = some (if xs.all sayB = true then .nx () else .rt (.bool false)) := by
  have := forP_all (f := fun x (_ : Unit) => p_is_row_b1 x) (e := fun x : D => x) sayB xs fun x _ => row_turn x
  rwa [List.map_id'] at this
theorem pe_is_row (d : D) : p_is_row d = some (.bool (rowB d)) := by
  cases d with
  | list ds =>
    have lp := row_loop ds
    unfold p_is_row
    cases h : ds.all sayB with
    | true =>
      rw [h] at lp
      have hb : rowB (.list ds) = true := h
      have hc : rowB (.tuple ds) = true := h
      simp [lp, hb, hc]
    | false =>
      rw [h] at lp
      have hb : rowB (.list ds) = false := h
      have hc : rowB (.tuple ds) = false := h
      simp [lp, hb, hc]
  | tuple ds =>
    have lp := row_loop ds
    unfold p_is_row
    cases h : ds.all sayB with
    | true =>
      rw [h] at lp
      have hb : rowB (.list ds) = true := h
      have hc : rowB (.tuple ds) = true := h
      simp [lp, hb, hc]
    | false =>
      rw [h] at lp
      have hb : rowB (.list ds) = false := h
      have hc : rowB (.tuple ds) = false := h
      simp [lp, hb, hc]
  | _ => rfl
theorem pe_is_saying (d : D) : p_is_saying d = some (.bool (sayB d)) := by
  unfold p_is_saying
  rw [pe_is_row]
  simp [rowB]
theorem pe_l_is_said (d : D) : p_l_is_said d = some (.bool (sayB d)) := by
  cases d with
  | tuple ds =>
    match ds with
    | [] => rfl
    | [_] =>
      unfold p_l_is_said
      simp [sayB]
    | _ :: _ :: _ :: r =>
      unfold p_l_is_said
      have hl : ¬ ((r.length : Int) + 1 + 1 + 1 = 2) := by omega
      simp [sayB, hl]
    | [l, m] =>
      have a0 : atI [l, m] 0 = some l := rfl
      have a1 : atI [l, m] 1 = some m := rfl
      unfold p_l_is_said
      cases l with
      | int l =>
        by_cases h1 : 0 ≤ l
        · cases m with
          | int m =>
            by_cases h2 : 0 ≤ m
            · simp [a0, a1, pe_is_count, numB, sayB, h1, h2]
            · have h3 : ¬ l ≤ m := by omega
              simp [a0, a1, pe_is_count, numB, sayB, h1, h2, h3]
          | _ => simp [a0, a1, pe_is_count, numB, sayB, h1]
        · cases m <;> simp [a0, a1, pe_is_count, numB, sayB, h1]
      | _ => simp [a0, a1, pe_is_count, numB, sayB]
  | _ => rfl
theorem filt_ints (p : D → Bool) (xs : List D) : (xs.filterMap fun x => if p x = true then none else some (PyData.int 1)) = intsD (xs.filterMap fun x => if p x = true then none else some 1) := by
  induction xs with
  | nil => rfl
  | cons x xs ih =>
    rw [List.filterMap_cons, List.filterMap_cons]
    cases p x with
    | true => exact ih
    | false => show _ :: _ = _ :: _; rw [ih]; rfl
theorem filt_empty (p : D → Bool) (xs : List D) : (xs.filterMap fun x => if p x = true then none else some (1 : Int)).isEmpty = xs.all p := by
  induction xs with
  | nil => rfl
  | cons x xs ih =>
    rw [List.filterMap_cons, List.all_cons]
    cases p x with
    | true => exact ih
    | false => rfl
theorem eq_nil_ints (is : List Int) : gEq (.list (intsD is)) (.list []) = some (.bool is.isEmpty) := by
  have h := shaped_ints is
  have h0 : SeqAt.shaped (.list []) = true := shaped_ints []
  show (if (SeqAt.shaped (.list (intsD is)) && SeqAt.shaped (.list [])) = true then some (PyData.bool (PyData.eqv (.list (intsD is)) (.list []))) else none) = _
  rw [h, h0]
  cases is <;> simp [PyData.eqv, PyData.eqvAll, intsD]
theorem crew_filt (xs : List D) (hl : xs.length ≤ 60000) : filT p_l_is_crew_c1 xs = some (intsD (xs.filterMap fun x => if sayB x = true then none else some 1)) := by
  rw [← filt_ints]
  exact filT_of (by omega) fun y _ => by
    unfold p_l_is_crew_c1
    rw [pe_l_is_said]
    show _ = some (if sayB y = true then none else some (PyData.int 1))
    cases sayB y <;> simp
theorem pe_l_is_crew (d : D) (hl : ∀ k xs, itemsD d = some (k, xs) → xs.length ≤ 60000) : p_l_is_crew d = some (.bool (rowB d)) := by
  cases d with
  | list xs =>
    have e := crew_filt xs (hl _ _ rfl)
    have e2 := eq_nil_ints (xs.filterMap fun x => if sayB x = true then none else some 1)
    rw [filt_empty] at e2
    unfold p_l_is_crew
    simp [e, e2, rowB]
  | tuple xs =>
    have e := crew_filt xs (hl _ _ rfl)
    have e2 := eq_nil_ints (xs.filterMap fun x => if sayB x = true then none else some 1)
    rw [filt_empty] at e2
    unfold p_l_is_crew
    simp [e, e2, rowB]
  | _ => rfl
/-! ### what is shown -/
structure Sn (w dep : Nat) (d : D) : Prop where
  ls : d.leavesShort 60 = true
  sh : PyData.showable d = true
  dp : d.depth ≤ dep
  wt : d.weight ≤ w
theorem Sm.sn {w dep : Nat} {d : D} (h : Sm w dep d) : Sn w dep d := ⟨h.ls, h.sh, h.dp, h.wt⟩
theorem Sn.mono {w dep w' dep' : Nat} {d : D} (h : Sn w dep d) (hw : w ≤ w') (hd : dep ≤ dep') : Sn w' dep' d := ⟨h.ls, h.sh, Nat.le_trans h.dp hd, Nat.le_trans h.wt hw⟩
theorem snAll {w dep : Nat} : ∀ {xs : List D}, (∀ x ∈ xs, Sn w dep x) → PyData.leavesShortAll 60 xs = true ∧ PyData.showableAll xs = true ∧ PyData.depthAll xs ≤ dep ∧ PyData.weightAll xs ≤ xs.length * (w + 1)
  | [], _ => ⟨by simp [PyData.leavesShortAll], by simp [PyData.showableAll], by simp [PyData.depthAll], by simp [PyData.weightAll]⟩
  | x :: xs, h => by
    obtain ⟨h2, h3, h4, h5⟩ := snAll fun y hy => h y (List.mem_cons_of_mem _ hy)
    obtain ⟨g2, g3, g4, g5⟩ := h x List.mem_cons_self
    refine ⟨by simp [PyData.leavesShortAll, h2, g2], by simp [PyData.showableAll, h3, g3], by simp only [PyData.depthAll]; omega, ?_⟩
    simp only [PyData.weightAll, List.length_cons, Nat.succ_mul]
    omega
theorem sn_list {w dep n : Nat} {xs : List D} (h : ∀ x ∈ xs, Sn w dep x) (hl : xs.length ≤ n) : Sn (n * (w + 1)) (dep + 1) (.list xs) := by
  obtain ⟨h2, h3, h4, h5⟩ := snAll h
  have := Nat.mul_le_mul_right (w + 1) hl
  exact ⟨by simp [PyData.leavesShort, h2], by simp [PyData.showable, h3], by simp only [PyData.depth]; omega, by simp only [PyData.weight]; omega⟩
theorem sn_tuple {w dep n : Nat} {xs : List D} (h : ∀ x ∈ xs, Sn w dep x) (hl : xs.length ≤ n) : Sn (n * (w + 1)) (dep + 1) (.tuple xs) := by
  obtain ⟨h2, h3, h4, h5⟩ := snAll h
  have := Nat.mul_le_mul_right (w + 1) hl
  exact ⟨by simp [PyData.leavesShort, h2], by simp [PyData.showable, h3], by simp only [PyData.depth]; omega, by simp only [PyData.weight]; omega⟩
theorem Sn.repr {w dep : Nat} {d : D} (h : Sn w dep d) (c : (d.canLay0 || (flatD d || mixD d)) = true) (hd : dep ≤ 64) (hw : w ≤ 200000) : gRepr [d] = some (PyData.str d.shown) := by
  have h1 := PyData.shown_le 60 (by decide) d h.ls
  have h2 := h.wt
  have h3 := h.dp
  have h4 : (60 + 2) * d.weight ≤ (60 + 2) * 200000 := Nat.mul_le_mul_left _ (Nat.le_trans h2 hw)
  have h5 : d.shown.length ≤ sizeLine := by rw [sizeLine_eq]; omega
  have ok : PL.okRepr d = true := by
    unfold PL.okRepr
    rw [c, h.sh, decide_eq_true h5, decide_eq_true (show d.depth ≤ 64 by omega)]
    rfl
  show (if PL.okRepr d = true then some (PyData.str d.shown) else none) = _
  rw [if_pos ok]
/-- what may stand in a row that is shown -/
def El (d : D) : Prop := (d.canLay0 || flatD d) = true ∧ Sn 1000 3 d
def elB (d : D) : Bool := (d.canLay0 || flatD d) && (d.leavesShort 60 && (PyData.showable d && (decide (d.depth ≤ 3) && decide (d.weight ≤ 1000))))
theorem el_of {d : D} (h : elB d = true) : El d := by
  simp only [elB, Bool.and_eq_true, decide_eq_true_eq] at h
  exact ⟨h.1, h.2.1, h.2.2.1, h.2.2.2.1, h.2.2.2.2⟩
theorem El.repr {d : D} (h : El d) : gRepr [d] = some (PyData.str d.shown) := h.2.repr (by
  have := h.1
  rw [Bool.or_eq_true] at this
  rcases this with c | c <;> simp [c]) (by omega) (by omega)
theorem sm_el {d : D} (h : Sm 1000 3 d) : El d := ⟨by rw [h.lay]; rfl, h.sn⟩
theorem say_el {s : Say} {B : Int} (h : okB B s) (hB : B ≤ 1000000000000000000000000000000) : El (sayD s) ∧ El (.list [.int s.1, mostD s.2]) := by
  obtain ⟨⟨h1, h2⟩, h3, h4⟩ := h
  have s1 : Sm 200 0 (.int s.1) := tsm_int (by omega) (by omega)
  have s2 : Sm 200 0 (mostD s.2) := by
    cases h : s.2 with
    | none => exact sm_none
    | some m =>
      have := h2 m h
      have := h4 m h
      exact tsm_int (by omega) (by omega)
  have al : ∀ x ∈ [PyData.int s.1, mostD s.2], Sm 200 0 x := by
    intro x hx
    simp only [List.mem_cons, List.not_mem_nil, or_false] at hx
    rcases hx with rfl | rfl
    · exact s1
    · exact s2
  exact ⟨sm_el ((sm_tuple (n := 2) al (by simp)).mono (by omega) (by omega)), sm_el ((sm_list (n := 2) al (by simp)).mono (by omega) (by omega))⟩
/-- a list of such -/
def Els (xs : List D) (n : Nat) : Prop := xs.length ≤ n ∧ ∀ x ∈ xs, El x
theorem Els.app {xs ys : List D} {n m : Nat} (h : Els xs n) (g : Els ys m) : Els (xs ++ ys) (n + m) := ⟨by rw [List.length_append]; have := h.1; have := g.1; omega, fun x hx => by
  rcases List.mem_append.mp hx with hx | hx
  · exact h.2 x hx
  · exact g.2 x hx⟩
theorem Els.cut {xs : List D} {n : Nat} (h : Els xs n) (l u : Option Int) : Els (cutD xs l u) n := ⟨by
  have := h.1
  unfold cutD
  rw [List.length_take, List.length_drop]; omega, fun x hx => h.2 x (List.mem_of_mem_drop (List.mem_of_mem_take hx))⟩
theorem Els.one {x : D} (h : El x) : Els [x] 1 := ⟨Nat.le_refl _, fun y hy => by rw [List.mem_singleton.mp hy]; exact h⟩
theorem Els.addF {xs ys : List D} {n m : Nat} (h : Els xs n) (g : Els ys m) (hs : n + m ≤ 1000) : addF (.list xs) (.list ys) = some (.list (xs ++ ys)) := by
  rw [v_addF, if_pos]
  have := h.1; have := g.1; omega
/-- a thing that is asked of -/
def Asked (d : D) : Prop := (∃ s, gRepr [d] = some (.str s)) ∧ ∀ k xs, itemsD d = some (k, xs) → xs.length ≤ 60000
theorem Els.mix {xs : List D} {n : Nat} (h : Els xs n) : mixD (.list xs) = true ∧ mixD (.tuple xs) = true := by
  have : (xs.all fun d => d.canLay0 || flatD d) = true := List.all_eq_true.mpr fun x hx => (h.2 x hx).1
  exact ⟨this, this⟩
theorem Els.asked {xs : List D} {n : Nat} (h : Els xs n) (hn : n ≤ 90) : Asked (.list xs) ∧ Asked (.tuple xs) := by
  have hw : n * (1000 + 1) ≤ 90 * 1001 := Nat.mul_le_mul_right _ hn
  have hl := h.1
  refine ⟨⟨⟨_, (sn_list (fun x hx => (h.2 x hx).2) h.1).repr (by rw [h.mix.1]; simp) (by omega) (by omega)⟩, fun k ys e => ?_⟩, ⟨⟨_, (sn_tuple (fun x hx => (h.2 x hx).2) h.1).repr (by rw [h.mix.2]; simp) (by omega) (by omega)⟩, fun k ys e => ?_⟩⟩
  · cases e; omega
  · cases e; omega
/-! ### odd things -/
def odds : List D := [.none, .bool true, .bool false, .int (-1), .int 0, .int 7, .int 999999999999999999999999999999, .int (-100000000000000000000000000000), .str "", .str "3", .str "ab", .list [], .tuple [], .dict [], .tuple [.int 0], .tuple [.int 0, .int 1, .int 2],
  .tuple [.int 1, .int 0], .tuple [.int 0, .int (-1)], .tuple [.int (-1), .int 0], .tuple [.bool true, .int 1], .tuple [.int 0, .bool true], .tuple [.int 0, .str "1"], .tuple [.none, .int 0], .tuple [.none, .none],
  .tuple [.tuple [.int 0, .int 1]], .tuple [.int 0, .list [.int 1]], .tuple [.int 3, .none], .tuple [.int 0, .int 0], .tuple [.int 2, .int 999999999999999999999999999999], .list [.tuple [.int 0, .int 1]], .list [.tuple [.int 0, .int 1], .tuple [.int 2, .int 1]],
  .tuple [.tuple [.int 4, .none], .tuple [.int 4, .int 4]], .list [.list [.int 0, .int 1]], .tuple [.int 5, .int 4], .list [.int 0, .int 1], .list [.none], .list [.tuple []], .dict [(.int 0, .tuple [.int 0, .int 1])]]
def lenD : D → Nat
  | .list xs => xs.length
  | .tuple xs => xs.length
  | _ => 0
theorem odds_ok : (odds.all fun d => elB d && decide (lenD d ≤ 60000)) = true := by decide +kernel
theorem odd_of {d : D} (h : d ∈ odds) : El d ∧ Asked d := by
  have := List.all_eq_true.mp odds_ok d h
  simp only [Bool.and_eq_true, decide_eq_true_eq] at this
  have e := el_of this.1
  refine ⟨e, ⟨_, e.repr⟩, fun k xs ei => ?_⟩
  have h2 := this.2
  cases d with
  | list ys => cases ei; exact h2
  | tuple ys => cases ei; exact h2
  | _ => cases ei
theorem pw30 : gPow (.int 10) (.int 30) = some (.int 1000000000000000000000000000000) := by
  have q : cPowW 10 30 = true := pow_ok (by omega) (by omega) (by decide)
  simp [q]
theorem pw29 : gPow (.int 10) (.int 29) = some (.int 100000000000000000000000000000) := by
  have q : cPowW 10 29 = true := pow_ok (by omega) (by omega) (by decide)
  simp [q]
theorem addL (xs ys : List D) (h : xs.length + ys.length ≤ 100) : addF (.list xs) (.list ys) = some (.list (xs ++ ys)) := by
  rw [v_addF, if_pos (by omega)]
theorem pe_odd (t : D) (n : Nat) (ht : TinOk t n) (hn : n + 10 < 2 ^ 40) : ∃ d t', p_l_odd t = some (d, t') ∧ d ∈ odds ∧ TinOk t' (n + 1) := by
  obtain ⟨r, t1, e1, a1, b1, k1⟩ := pe_deal t n 38 ht (by omega) (by omega) (by omega)
  obtain ⟨d, ed, md⟩ := pick_mem (ds := odds) a1 (by simpa [odds] using b1)
  refine ⟨d, t1, ?_, md, k1⟩
  unfold p_l_odd
  rw [v_negP, v_bind1, pw30, v_bind1, subI, v_bind1, pw29, v_bind1, v_negP, v_bind1, v_bind1, addL _ _ (by simp), v_bind1, v_bind1, subI, v_bind1, addL _ _ (by simp), v_bind1, v_dict1P, v_bind1, addL _ _ (by simp), v_bind1, e1, v_bind2]
  have ed' : gIx (.list odds) (.int r) = some d := ed
  unfold odds at ed'
  simp only [List.cons_append, List.nil_append]
  exact (congrArg (fun o => bind1 o fun v => some (v, t1)) ed').trans rfl
theorem row_els {r : List Say} {B : Int} (h : ∀ s ∈ r, okB B s) (hB : B ≤ 1000000000000000000000000000000) : Els (rowD r) r.length := ⟨by simp, fun x hx => by
  obtain ⟨s, hs, rfl⟩ := List.mem_map.mp hx
  exact (say_el (h s hs) hB).1⟩
theorem pe_bent (t : D) (n : Nat) (r : List Say) (ht : TinOk t n) (hn : n + 20 < 2 ^ 40) (ho : ∀ s ∈ r, okB 100000000000000000000000010000 s) (hr : r.length ≤ 12) : ∃ d t', p_l_bent t (.list (rowD r)) = some (d, t') ∧ Asked d ∧ TinOk t' (n + 4) := by
  have L0 : Els (rowD r) 12 := by
    have := row_els ho (by decide)
    exact ⟨by rw [rowD_len]; exact hr, this.2⟩
  obtain ⟨a, t1, e1, a1, b1, k1⟩ := pe_deal t n ((r.length : Int) + 1) ht (by omega) (by omega) (by omega)
  obtain ⟨w, t2, e2, a2, b2, k2⟩ := pe_deal t1 _ 4 k1 (by omega) (by omega) (by omega)
  have f0 := Els.addF (L0.cut none (some a)) (L0.cut (some (a + 1)) none) (by omega)
  have step1 : ∃ xs t3, bind1 (gLt (.int w) (.int 2)) (fun v => bind1 (asBool v) fun b => if b = true then
      bind1 (ixP (.int a)) fun i1 => bind1 (slW (.list (rowD r)) none (some i1)) fun v1 => bind2 (p_l_odd t2) fun v2 v3 => bind1 (addF v1 (.list [v2])) fun v4 => bind1 (addV (.int a) (.int w)) fun v5 => bind1 (ixP v5) fun i2 => bind1 (slW (.list (rowD r)) (some i2) none) fun v6 => bind1 (addF v4 v6) fun v7 => some (v3, v7)
      else some (t2, .list (cutD (rowD r) none (some a) ++ cutD (rowD r) (some (a + 1)) none))) = some (t3, .list xs) ∧ Els xs 30 ∧ TinOk t3 (n + 3) := by
    by_cases h : w < 2
    · obtain ⟨z, t3, e3, mz, k3⟩ := pe_odd t2 _ k2 (by omega)
      have Lz := Els.one (odd_of mz).1
      have f1 := Els.addF (L0.cut none (some a)) Lz (by omega)
      have f2 := Els.addF ((L0.cut none (some a)).app Lz) (L0.cut (some (a + w)) none) (by omega)
      have L3 := ((L0.cut none (some a)).app Lz).app (L0.cut (some (a + w)) none)
      refine ⟨_, t3, ?_, ⟨Nat.le_trans L3.1 (by omega), L3.2⟩, k3⟩
      simp only [ltI, v_bind1, asB, h, decide_true, if_true, v_ixP, v_slW, e3, v_bind2, f1, v_addV, f2]
    · have L3 := (L0.cut none (some a)).app (L0.cut (some (a + 1)) none)
      refine ⟨_, t2, ?_, ⟨Nat.le_trans L3.1 (by omega), L3.2⟩, k2.mono (by omega)⟩
      simp only [ltI, v_bind1, asB, h, decide_false, Bool.false_eq_true, if_false]
  obtain ⟨xs, t3, s1, L1, k3⟩ := step1
  have step2 : ∃ ys, bind1 (gEq (.int w) (.int 2)) (fun v => bind1 (asBool v) fun b => if b = true then
      bind1 (ixP (.int a)) fun i1 => bind1 (addV (.int a) (.int 1)) fun v1 => bind1 (ixP v1) fun i2 => bind1 (slF (.list (rowD r)) (some i1) (some i2)) fun v2 => bind2 (itemsD v2) fun q x2 => bind1 (mapT p_l_bent_c1 x2) fun x3 => bind1 (addF (.list x3) (.list (rowD r))) fun v4 => some v4
      else some (.list xs)) = some (.list ys) ∧ Els ys 30 := by
    by_cases h : w = 2
    · have hb : (w == 2) = true := by simp [h]
      have ec : ∃ q : List Say, cutD (rowD r) (some a) (some (a + 1)) = rowD q ∧ q.length ≤ 12 ∧ ∀ s ∈ q, s ∈ r := by
        refine ⟨(r.drop (HT.sIx (rowD r).length 0 (some a))).take (HT.sIx (rowD r).length (rowD r).length (some (a + 1)) - HT.sIx (rowD r).length 0 (some a)), ?_, ?_, fun s hs => List.mem_of_mem_drop (List.mem_of_mem_take hs)⟩
        · unfold cutD
          rw [rowD_drop, rowD_take]
        · rw [List.length_take, List.length_drop]; omega
      obtain ⟨q, eq, lq, mq⟩ := ec
      have mp : mapT p_l_bent_c1 (rowD q) = some (q.map fun s => PyData.list [.int s.1, mostD s.2]) := mapT_enc (e := sayD) (φ := fun s => PyData.list [.int s.1, mostD s.2]) (by omega) fun s _ => by
        unfold p_l_bent_c1
        rfl
      have Lq : Els (q.map fun s => PyData.list [.int s.1, mostD s.2]) 12 := ⟨by rw [List.length_map]; exact lq, fun x hx => by
        obtain ⟨s, hs, rfl⟩ := List.mem_map.mp hx
        exact (say_el (ho s (mq s hs)) (by decide)).2⟩
      have f3 := Els.addF Lq L0 (by omega)
      have L3 := Lq.app L0
      refine ⟨_, ?_, ⟨Nat.le_trans L3.1 (by omega), L3.2⟩⟩
      simp only [eqI, v_bind1, asB, hb, if_true, v_ixP, v_addV, v_slF, q_items_l, v_bind2, eq, mp, f3]
    · have hb : (w == 2) = false := by simp [h]
      refine ⟨xs, ?_, L1⟩
      simp only [eqI, v_bind1, asB, hb, Bool.false_eq_true, if_false]
  obtain ⟨ys, s2, L2⟩ := step2
  obtain ⟨u, t4, e4, a4, b4, k4⟩ := pe_deal t3 _ 3 k3 (by omega) (by omega) (by omega)
  have as := L2.asked (by omega)
  cases hu : (u == 0) with
  | true =>
    refine ⟨.tuple ys, t4, ?_, as.2, k4⟩
    unfold p_l_bent
    simp only [v_bind1, v_ixP, v_slW, v_addV] at s1
    simp only [v_bind1, v_ixP, v_addV, v_slF, q_items_l, v_bind2] at s2
    simp only [q_len_l, rowD_len, v_addV, v_bind1, v_bind2, e1, e2, v_ixP, v_slW, f0, s1, v_slF, q_items_l, s2, e4]
    simp only [v_bind1, v_bind2, eqI, asB, hu, if_true, q_tuple_l]
  | false =>
    refine ⟨.list ys, t4, ?_, as.1, k4⟩
    unfold p_l_bent
    simp only [v_bind1, v_ixP, v_slW, v_addV] at s1
    simp only [v_bind1, v_ixP, v_addV, v_slF, q_items_l, v_bind2] at s2
    simp only [q_len_l, rowD_len, v_addV, v_bind1, v_bind2, e1, e2, v_ixP, v_slW, f0, s1, v_slF, q_items_l, s2, e4]
    simp only [v_bind1, v_bind2, eqI, asB, hu, Bool.false_eq_true, if_false]
/-! ### the law -/
theorem told_repr (a b c : Bool) : ∃ s, gRepr [.list [.bool a, .bool b, .bool c]] = some (.str s) :=
  ⟨_, (sm_list (n := 3) (w := 200) (dep := 0) (fun x hx => by
    simp only [List.mem_cons, List.not_mem_nil, or_false] at hx
    rcases hx with rfl | rfl | rfl <;> exact sm_bool _) (by simp)).repr (by omega) (by omega)⟩
theorem asked_eq (x : D) (h : Asked x) : ∃ s u, gRepr [x] = some (.str s) ∧ gRepr [.list [.bool (numB x), .bool (sayB x), .bool (rowB x)]] = some (.str u) ∧ p_l_is_crew x = some (.bool (rowB x)) := by
  obtain ⟨⟨s, es⟩, hl⟩ := h
  obtain ⟨u, eu⟩ := told_repr (numB x) (sayB x) (rowB x)
  exact ⟨s, u, es, eu, pe_l_is_crew x hl⟩
theorem turn_step (t : D) (n k : Nat) (r : List Say) (ht : TinOk t n) (hn : n + 40 < 2 ^ 40) (ho : ∀ s ∈ r, okB 100000000000000000000000010000 s) (hr : r.length ≤ 12) : ∃ t', p_law_b1 (.list (rowD r)) (.int (k : Int)) t = some (.nx t') ∧ TinOk t' (n + 8) := by
  obtain ⟨z, t1, e1, mz, k1⟩ := pe_odd t n ht (by omega)
  obtain ⟨y, t2, e2, ay, k2⟩ := pe_bent t1 _ r k1 (by omega) ho hr
  obtain ⟨v, ev, mv⟩ := pick_mem (ds := [z, y]) (mod_rng (k : Int) (show (0 : Int) < 2 by omega)).1 (by simpa using (mod_rng (k : Int) (show (0 : Int) < 2 by omega)).2)
  have av : Asked v := by
    simp only [List.mem_cons, List.not_mem_nil, or_false] at mv
    rcases mv with rfl | rfl
    · exact (odd_of mz).2
    · exact ay
  have mo : gMod (.int (k : Int)) (.int 2) = some (.int ((k : Int) % 2)) := by simp [mod_ok (i := (k : Int)) (show (0 : Int) < 2 by omega)]
  have step : ∃ t3 x, bind1 (gEq (.int (k : Int)) (.int 0)) (fun v0 => bind1 (asBool v0) fun b => if b = true then
      bind1 (gPow (.int 10) (.int 29)) fun v1 => bind2 (p_l_said t2 v1) fun v2 v3 => some (v3, v2) else some (t2, v)) = some (t3, x) ∧ Asked x ∧ TinOk t3 (n + 8) := by
    cases hk : ((k : Int) == 0) with
    | true =>
      obtain ⟨s, t3, e3, os, k3⟩ := pe_said t2 _ 100000000000000000000000000000 k2 (by omega) (by decide) (by decide)
      have es := say_el os (by decide)
      refine ⟨t3, sayD s, ?_, ⟨⟨_, es.1.repr⟩, fun k xs e => by cases e; simp⟩, k3⟩
      simp only [eqI, hk, v_bind1, asB, if_true, pw29, e3, v_bind2]
    | false =>
      refine ⟨t2, v, ?_, av, k2.mono (by omega)⟩
      simp only [eqI, hk, v_bind1, asB, Bool.false_eq_true, if_false]
  obtain ⟨t3, x, s1, ax, k3⟩ := step
  obtain ⟨s, u, es, eu, ec⟩ := asked_eq x ax
  refine ⟨t3, ?_, k3⟩
  unfold p_law_b1
  simp only [e1, e2, v_bind2, mo, v_bind1, ev]
  rw [s1]
  simp only [v_bind2, es, v_bind1, pe_is_number, pe_is_saying, pe_is_row, pe_is_count, pe_l_is_said, ec, eu, ne_str_self, asB, Bool.false_eq_true, if_false]
theorem law_step (ns : List Int) (k : Nat) (hk : k ≤ 63) : p_law_b2 ns (.int k) = some (.nx ()) := by
  obtain ⟨t, e1, k1⟩ := pe_tin ns k hk
  obtain ⟨r, t1, e2, o2, l2, k2⟩ := pe_crew t 0 12 k1 (by omega) (by omega) (by omega)
  have al : (rowD r).all sayB = true := List.all_eq_true.mpr fun x hx => by
    obtain ⟨s, hs, rfl⟩ := List.mem_map.mp hx
    exact sayB_D (o2 s hs).1
  have r1 : rowB (.list (rowD r)) = true := al
  have r2 : rowB (.tuple (rowD r)) = true := al
  have r3 : rowB (.list []) = true := rfl
  obtain ⟨t2, lp, -⟩ := forP_by (T := D) (f := fun x s => p_law_b1 (.list (rowD r)) x s) (xs := rngD 0 12) (s := t1) (fun done s => ∃ m, TinOk s m ∧ m ≤ 700 + 8 * done.length) ⟨_, k2, by simp⟩ (by
    rintro pre d s hd hlen ⟨m, km, hm⟩
    rw [rng_len] at hlen
    obtain ⟨i, rfl, hi, hi2⟩ := rng_mem hd
    obtain ⟨j, rfl⟩ := Int.eq_ofNat_of_zero_le hi
    obtain ⟨t', e, k'⟩ := turn_step s m j r km (by omega) o2 (by omega)
    exact ⟨t', e, _, k', by simp; omega⟩)
  have sm : small62 12 = true := by decide
  unfold p_law_b2
  simp only [e1, e2, v_bind1, v_bind2, pe_is_row, r1, r2, r3, q_not_b, decide_true, Bool.not_true, asB, Bool.false_eq_true, if_false, q_tuple_l, v_rng1P, sm, if_true, lp, v_ctB1]
theorem pe_law (ns : List Int) (hl : ns.length ≤ 63) : p_law ns = some (.bool true) := by
  obtain ⟨m, hm, hm1, hm2⟩ : ∃ m : Int, (if 1 < (if (ns.length : Int) < 12 then (ns.length : Int) else 12) then (if (ns.length : Int) < 12 then (ns.length : Int) else 12) else 1) = m ∧ 0 ≤ m ∧ m ≤ 63 := ⟨_, rfl, by split <;> (try split) <;> omega, by split <;> (try split) <;> omega⟩
  have sm : small62 m = true := by simp [small62]; omega
  obtain ⟨⟨⟩, e, -⟩ := forP_by (T := D) (f := fun x _ => p_law_b2 ns x) (xs := rngD 0 m) (s := ()) (fun _ _ => True) trivial (by
    rintro pre d ⟨⟩ hd - -
    obtain ⟨i, rfl, hi, hi2⟩ := rng_mem hd
    obtain ⟨k, rfl⟩ := Int.eq_ofNat_of_zero_le hi
    exact ⟨(), law_step ns k (by omega), trivial⟩)
  unfold p_law
  simp [hm, sm, e]
end Y
namespace Y
open PySem PL L2
theorem law_runs (ns : List Int) (hl : ns.length ≤ 63) : ∃ ρ, m_law (.scr ns :: List.replicate 8 .un) = .ok (.rt (.pl (.val (.bool true)))) ρ := tr_law ns _ (pe_law ns hl)
end Y
open PySem PySem.W PyProof.Rows
set_option maxHeartbeats 0 in
theorem PySem.Challenge.cw_boastrow_k00_what_rows_are_holds : PySem.Challenge.rw_boastrow_k00_what_rows_are.Holds := by
  w_on; o_law; k_head; (case hw => w_witness2)
  k_fill
  refine PL.walk_ofG (l := PySem.Challenge.rw_boastrow_k00_what_rows_are) (n := 63) (k := 4) (x := "_law_script") (sp := fun w => PL.spD _ 1 8 Y.m_law) rfl (by decide) rfl ⟨rfl, by decide, by decide⟩ (fun w h Y => PySem.W.kIn_of Y) ?F (fun _ H a ns hl _ hS => let ⟨_, h⟩ := Y.law_runs ns hl; PL.law_true hS h)
  case F =>
    intro w mg fa h KX G hmg
    refine' Y.all_mk KX G hmg ?ais_number ?lis_number ?cis_number ?kis_number ?ais_row ?lis_row ?cis_row ?kis_row ?ais_saying ?lis_saying ?cis_saying ?kis_saying ?al_tin ?ll_tin ?cl_tin ?kl_tin ?al_deal ?ll_deal ?cl_deal ?kl_deal ?al_said ?ll_said ?cl_said ?kl_said ?al_crew ?ll_crew ?cl_crew ?kl_crew ?al_is_count ?ll_is_count ?cl_is_count ?kl_is_count ?al_is_said ?ll_is_said ?cl_is_said ?kl_is_said ?al_is_crew ?ll_is_crew ?cl_is_crew ?kl_is_crew ?al_odd ?ll_odd ?cl_odd ?kl_odd ?al_bent ?ll_bent ?cl_bent ?kl_bent ?alaw ?llaw ?claw ?klaw ?zabs ?zbool ?zint ?zisinstance ?zlen ?zlist ?zmax ?zmin ?zrange ?zrepr ?ztuple
    (case ais_number => k_is); (case lis_number => k_is); (case cis_number => k_is); (case kis_number => k_is); (case ais_row => k_is); (case lis_row => k_is); (case cis_row => k_is); (case kis_row => k_is); (case ais_saying => k_is); (case lis_saying => k_is); (case cis_saying => k_is); (case kis_saying => k_is); (case al_tin => k_is); (case ll_tin => k_is); (case cl_tin => k_is); (case kl_tin => k_is); (case al_deal => k_is); (case ll_deal => k_is); (case cl_deal => k_is); (case kl_deal => k_is); (case al_said => k_is); (case ll_said => k_is); (case cl_said => k_is); (case kl_said => k_is); (case al_crew => k_is); (case ll_crew => k_is); (case cl_crew => k_is); (case kl_crew => k_is); (case al_is_count => k_is); (case ll_is_count => k_is); (case cl_is_count => k_is); (case kl_is_count => k_is); (case al_is_said => k_is); (case ll_is_said => k_is); (case cl_is_said => k_is); (case kl_is_said => k_is); (case al_is_crew => k_is); (case ll_is_crew => k_is); (case cl_is_crew => k_is); (case kl_is_crew => k_is); (case al_odd => k_is); (case ll_odd => k_is); (case cl_odd => k_is); (case kl_odd => k_is); (case al_bent => k_is); (case ll_bent => k_is); (case cl_bent => k_is); (case kl_bent => k_is); (case alaw => k_is); (case llaw => k_is); (case claw => k_is); (case klaw => k_is); (case zabs => k_is); (case zbool => k_is); (case zint => k_is); (case zisinstance => k_is); (case zlen => k_is); (case zlist => k_is); (case zmax => k_is); (case zmin => k_is); (case zrange => k_is); (case zrepr => k_is); (case ztuple => k_is)
