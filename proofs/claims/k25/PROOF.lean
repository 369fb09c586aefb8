import PyProof.Rows.All
import Wide.All
import OpenK.AllK
import Wide.FinOn
import HandS.ForMost
import HandS.IsInst
import HandS.Wide
import HandS.Style
import HandS.SortInts
import HandS.More
import HandS.Rev
import HandS.Zip
import HandS.SetFor
import PyProof.EqAt
import HandS.SetKeys
import HandS.DictComp
import HandS.Iter
import HandS.Conv
import HandS.Defaults
import HandS.Small
import KE.GoesMore
import KE.GoesEnum
import PySem.Challenge.RW_boastrow_k25_whole_wishes_undo_totals
set_option Elab.async false
set_option linter.all false
set_option maxRecDepth 100000
/-! PL: readings over plain data. -/
namespace PL
open PySem PySem.Spec L2
abbrev D := PyData
/-! ### data that stand in a heap of frozen objects -/
def keyD : Key → D
  | .inl i => .int i
  | .inr s => .str s
mutual
inductive Rp (G : Hp) : V → D → Prop
  | non : Rp G .non .none
  | bl (b : Bool) : Rp G (.bl b) (.bool b)
  | int (i : Int) : Rp G (.int i) (.int i)
  | str (x : Str) : Rp G (.str x) (.str x)
  | lst {a : Addr} {xs : List V} {ds : List D} : G a = some (.lst xs) → RpA G xs ds → Rp G (.ref a) (.list ds)
  | tup {a : Addr} {xs : List V} {ds : List D} : G a = some (.tup xs) → RpA G xs ds → Rp G (.ref a) (.tuple ds)
  | dct {a : Addr} {es : List (Key × V)} {ks : List (D × D)} : G a = some (.dK es) → RpK G es ks → Rp G (.ref a) (.dict ks)
inductive RpA (G : Hp) : List V → List D → Prop
  | nil : RpA G [] []
  | cons {v : V} {vs : List V} {d : D} {ds : List D} : Rp G v d → RpA G vs ds → RpA G (v :: vs) (d :: ds)
inductive RpK (G : Hp) : List (Key × V) → List (D × D) → Prop
  | nil : RpK G [] []
  | cons {k : Key} {v : V} {es : List (Key × V)} {d : D} {ks : List (D × D)} : Rp G v d → RpK G es ks → RpK G ((k, v) :: es) ((keyD k, d) :: ks)
end
mutual
theorem Rp.mono {G G' : Hp} (e : Same G G') : ∀ {v : V} {d : D}, Rp G v d → Rp G' v d
  | _, _, .non => .non
  | _, _, .bl b => .bl b
  | _, _, .int i => .int i
  | _, _, .str x => .str x
  | _, _, .lst h r => .lst (e _ _ h) (RpA.mono e r)
  | _, _, .tup h r => .tup (e _ _ h) (RpA.mono e r)
  | _, _, .dct h r => .dct (e _ _ h) (RpK.mono e r)
theorem RpA.mono {G G' : Hp} (e : Same G G') : ∀ {vs : List V} {ds : List D}, RpA G vs ds → RpA G' vs ds
  | _, _, .nil => .nil
  | _, _, .cons h r => .cons (Rp.mono e h) (RpA.mono e r)
theorem RpK.mono {G G' : Hp} (e : Same G G') : ∀ {vs : List (Key × V)} {ds : List (D × D)}, RpK G vs ds → RpK G' vs ds
  | _, _, .nil => .nil
  | _, _, .cons h r => .cons (Rp.mono e h) (RpK.mono e r)
end
theorem RpA.length {G : Hp} : ∀ {vs : List V} {ds : List D}, RpA G vs ds → vs.length = ds.length
  | _, _, .nil => rfl
  | _, _, .cons _ r => by simp [RpA.length r]
theorem RpA.get {G : Hp} : ∀ {vs : List V} {ds : List D} {i : Nat} {d : D}, RpA G vs ds → ds[i]? = some d → ∃ v, vs[i]? = some v ∧ Rp G v d
  | _, _, _, _, .nil, h => by simp at h
  | _, _, 0, _, .cons h r, e => by
    simp at e; subst e; exact ⟨_, rfl, h⟩
  | _, _, i + 1, _, .cons h r, e => by
    have := RpA.get (i := i) r (by simpa using e)
    simpa using this
theorem RpA.get' {G : Hp} : ∀ {vs : List V} {ds : List D} {i : Nat} {v : V}, RpA G vs ds → vs[i]? = some v → ∃ d, ds[i]? = some d ∧ Rp G v d
  | _, _, _, _, .nil, h => by simp at h
  | _, _, 0, _, .cons h r, e => by
    simp at e; subst e; exact ⟨_, rfl, h⟩
  | _, _, i + 1, _, .cons h r, e => by
    have := RpA.get' (i := i) r (by simpa using e)
    simpa using this
theorem RpA.append {G : Hp} : ∀ {vs ws : List V} {ds es : List D}, RpA G vs ds → RpA G ws es → RpA G (vs ++ ws) (ds ++ es)
  | _, _, _, _, .nil, s => s
  | _, _, _, _, .cons h r, s => .cons h (RpA.append r s)
theorem RpA.one {G : Hp} {v : V} {d : D} (h : Rp G v d) : RpA G [v] [d] := .cons h .nil
theorem RpA.take {G : Hp} : ∀ {vs : List V} {ds : List D} (n : Nat), RpA G vs ds → RpA G (vs.take n) (ds.take n)
  | _, _, 0, _ => by simpa using RpA.nil
  | _, _, n + 1, .nil => by simpa using RpA.nil
  | _, _, n + 1, .cons h r => .cons h (RpA.take n r)
theorem RpA.drop {G : Hp} : ∀ {vs : List V} {ds : List D} (n : Nat), RpA G vs ds → RpA G (vs.drop n) (ds.drop n)
  | _, _, 0, r => r
  | _, _, n + 1, .nil => by simpa using RpA.nil
  | _, _, n + 1, .cons h r => RpA.drop n r
theorem RpA.set {G : Hp} {v : V} {d : D} (h : Rp G v d) : ∀ {vs : List V} {ds : List D} (n : Nat), RpA G vs ds → RpA G (vs.set n v) (ds.set n d)
  | _, _, _, .nil => .nil
  | _, _, 0, .cons _ r => .cons h r
  | _, _, n + 1, .cons q r => .cons q (RpA.set h n r)
theorem RpA.reverse {G : Hp} : ∀ {vs : List V} {ds : List D}, RpA G vs ds → RpA G vs.reverse ds.reverse
  | _, _, .nil => .nil
  | _, _, .cons h r => by
    rw [List.reverse_cons, List.reverse_cons]
    exact (RpA.reverse r).append (.one h)
theorem RpA.ints {G : Hp} : ∀ (ns : List Int), RpA G (ns.map V.int) (ns.map PyData.int)
  | [] => .nil
  | n :: r => .cons (.int n) (RpA.ints r)
theorem RpA.of_ints {G : Hp} : ∀ (ns : List Int) {vs : List V}, RpA G vs (ns.map PyData.int) → vs = ns.map V.int
  | [], _, .nil => rfl
  | n :: r, _, .cons (.int _) h => by rw [RpA.of_ints r h]; rfl
theorem RpA.of_bools {G : Hp} : ∀ (ns : List Bool) {vs : List V}, RpA G vs (ns.map PyData.bool) → vs = ns.map V.bl
  | [], _, .nil => rfl
  | n :: r, _, .cons (.bl _) h => by rw [RpA.of_bools r h]; rfl
/-- the object itself stands in H, what is in it in G -/
inductive Sh (G H : Hp) : V → D → Prop
  | non : Sh G H .non .none
  | bl (b : Bool) : Sh G H (.bl b) (.bool b)
  | int (i : Int) : Sh G H (.int i) (.int i)
  | str (x : Str) : Sh G H (.str x) (.str x)
  | lst {a : Addr} {xs : List V} {ds : List D} : H a = some (.lst xs) → RpA G xs ds → Sh G H (.ref a) (.list ds)
  | tup {a : Addr} {xs : List V} {ds : List D} : H a = some (.tup xs) → RpA G xs ds → Sh G H (.ref a) (.tuple ds)
  | dct {a : Addr} {es : List (Key × V)} {ks : List (D × D)} : H a = some (.dK es) → RpK G es ks → Sh G H (.ref a) (.dict ks)
theorem Rp.sh {G H : Hp} (e : Same G H) {v : V} {d : D} (h : Rp G v d) : Sh G H v d := by
  cases h with
  | non => exact .non
  | bl b => exact .bl b
  | int i => exact .int i
  | str x => exact .str x
  | lst h r => exact .lst (e _ _ h) r
  | tup h r => exact .tup (e _ _ h) r
  | dct h r => exact .dct (e _ _ h) r
theorem Sh.mono {G G' H H' : Hp} (e : Same G G') (f : Same H H') {v : V} {d : D} (h : Sh G H v d) : Sh G' H' v d := by
  cases h with
  | non => exact .non
  | bl b => exact .bl b
  | int i => exact .int i
  | str x => exact .str x
  | lst h r => exact .lst (f _ _ h) (r.mono e)
  | tup h r => exact .tup (f _ _ h) (r.mono e)
  | dct h r => exact .dct (f _ _ h) (r.mono e)
/-- only the very object is looked at -/
theorem Sh.at {G G' H H' : Hp} (e : Same G G') {v : V} {d : D} (f : ∀ a, v = .ref a → ∀ o, H a = some o → H' a = some o) (h : Sh G H v d) : Sh G' H' v d := by
  cases h with
  | non => exact .non
  | bl b => exact .bl b
  | int i => exact .int i
  | str x => exact .str x
  | lst h r => exact .lst (f _ rfl _ h) (r.mono e)
  | tup h r => exact .tup (f _ rfl _ h) (r.mono e)
  | dct h r => exact .dct (f _ rfl _ h) (r.mono e)
def atom : D → Bool
  | .none => true
  | .bool _ => true
  | .int _ => true
  | .str _ => true
  | _ => false
theorem Sh.atom {G H : Hp} {v : V} {d : D} (h : Sh G H v d) (a : atom d = true) (G' : Hp) : Rp G' v d := by
  cases h with
  | non => exact .non
  | bl b => exact .bl b
  | int i => exact .int i
  | str x => exact .str x
  | lst h r => cases a
  | tup h r => cases a
  | dct h r => cases a
/-- the object is frozen -/
theorem Sh.frozen {G H : Hp} {a : Addr} {d : D} (h : Sh G H (.ref a) d) (hn : G a = none) : ∃ G', Same G G' ∧ (∀ b, G' b ≠ none → G b ≠ none ∨ b = a) ∧ (∀ b o, G' b = some o → G b = some o ∨ H b = some o) ∧ Rp G' (.ref a) d := by
  have key : ∀ (o : HO), H a = some o → Same G (upd G a o) ∧ (∀ b, upd G a o b ≠ none → G b ≠ none ∨ b = a) ∧ (∀ b u, upd G a o b = some u → G b = some u ∨ H b = some u) := by
    intro o ho
    refine ⟨fun b u e => ?_, fun b e => ?_, fun b u e => ?_⟩
    · rw [upd_ne (ne_of_none e hn)]; exact e
    · by_cases hb : b = a
      · exact .inr hb
      · rw [upd_ne hb] at e; exact .inl e
    · by_cases hb : b = a
      · subst hb; rw [upd_same] at e; cases e; exact .inr ho
      · rw [upd_ne hb] at e; exact .inl e
  cases h with
  | lst h r => exact ⟨_, (key _ h).1, (key _ h).2.1, (key _ h).2.2, .lst upd_same (r.mono (key _ h).1)⟩
  | tup h r => exact ⟨_, (key _ h).1, (key _ h).2.1, (key _ h).2.2, .tup upd_same (r.mono (key _ h).1)⟩
  | dct h r => exact ⟨_, (key _ h).1, (key _ h).2.1, (key _ h).2.2, .dct upd_same (r.mono (key _ h).1)⟩
/-! ### the names' state -/
inductive Sl where
  | un | val (d : D) | own (d : D) | io (d : D) | bor (d : D) | scr (ns : List Int)
inductive Pl where
  | val (d : D) | slot (i : Nat)
inductive Rv where
  | pl (p : Pl) | fr (d : D)
abbrev Env := List Sl
inductive R (α : Type) where
  | stuck | ok (a : α) (ρ : Env)
abbrev M (α : Type) := Env → R α
structure Ctx where
  K : PySem.W.Frag
  G0 : Hp
  B : Hp
  A : Addr → Prop
  P : Nat → Option V
  S : Nat → Sl
def BorOk (K : PySem.W.Frag) (G B : Hp) (v : V) : Sl → Prop
  | .bor d => Sh G B v d
  | .scr ns => ∃ a, v = .ref a ∧ SqL K B a (ns.map V.int)
  | _ => True
def SlOk (C : Ctx) (G H : Hp) (i : Nat) (o : Option V) : Sl → Prop
  | .un => True
  | .val d => ∃ v, o = some v ∧ Rp G v d
  | .own d => ∃ a, o = some (.ref a) ∧ Sh G H (.ref a) d ∧ G a = none ∧ C.B a = none ∧ C.A a
  | .io d => ∃ a, o = some (.ref a) ∧ Sh G H (.ref a) d ∧ G a = none ∧ C.B a = none ∧ C.P i = some (.ref a)
  | .bor d => ∃ v, o = some v ∧ C.P i = some v ∧ C.S i = .bor d
  | .scr ns => ∃ v, o = some v ∧ C.P i = some v ∧ C.S i = .scr ns
def ownK : Sl → Bool
  | .own _ => true
  | .io _ => true
  | _ => false
def Own (σ : St) (ρ : Env) (i : Nat) (a : Addr) : Prop := σ[i]? = some (some (.ref a)) ∧ ∃ s, ρ[i]? = some s ∧ ownK s = true
structure StOk (C : Ctx) (G : Hp) (σ : St) (H : Hp) (ρ : Env) : Prop where
  gh : Same G H
  bh : Same C.B H
  g0 : Same C.G0 G
  fr : ∀ a, H a = none → C.A a
  ga : ∀ a, G a ≠ none → C.G0 a ≠ none ∨ C.A a
  wf : ∀ (i : Nat) (v : V), C.P i = some v → BorOk C.K C.G0 C.B v (C.S i)
  len : σ.length = ρ.length
  sl : ∀ (i : Nat) (s : Sl), ρ[i]? = some s → ∃ o, σ[i]? = some o ∧ SlOk C G H i o s
  ds : ∀ (i j : Nat) (a : Addr), Own σ ρ i a → Own σ ρ j a → i = j
theorem BorOk.mono {K : PySem.W.Frag} {G G' B B' : Hp} {v : V} {s : Sl} (e : Same G G') (f : Same B B') (h : BorOk K G B v s) : BorOk K G' B' v s := by
  cases s with
  | bor d => exact Sh.mono e f h
  | scr ns => obtain ⟨a, e1, q⟩ := h; exact ⟨a, e1, Same.seq f q⟩
  | _ => trivial
/-- what stood stands, what is frozen anew is new -/
structure Grow (G H G' H' : Hp) : Prop where
  g : Same G G'
  h : Same H H'
  gh : Same G' H'
  nw : ∀ a, G' a ≠ none → G a ≠ none ∨ H a = none
theorem Grow.refl {G H : Hp} (e : Same G H) : Grow G H G H := ⟨Same.refl _, Same.refl _, e, fun _ h => .inl h⟩
theorem Grow.new {G H : Hp} {p : Addr} {o : HO} (e : Same G H) (hp : H p = none) : Grow G H (upd G p o) (upd H p o) := by
  have gp : G p = none := e.free hp
  refine ⟨fun b u q => ?_, fun b u q => ?_, fun b u q => ?_, fun b q => ?_⟩
  · rw [upd_ne (ne_of_none q gp)]; exact q
  · rw [upd_ne (ne_of_none q hp)]; exact q
  · by_cases hb : b = p
    · subst hb; rw [upd_same] at q ⊢; exact q
    · rw [upd_ne hb] at q ⊢; exact e b u q
  · by_cases hb : b = p
    · subst hb; exact .inr hp
    · rw [upd_ne hb] at q; exact .inl q
/-- a new object that isn't frozen -/
theorem Grow.newF {G H : Hp} {p : Addr} {o : HO} (e : Same G H) (hp : H p = none) : Grow G H G (upd H p o) := by
  refine ⟨Same.refl _, fun b u q => ?_, fun b u q => ?_, fun b q => .inl q⟩
  · rw [upd_ne (ne_of_none q hp)]; exact q
  · rw [upd_ne (ne_of_none (e b u q) hp)]; exact e b u q
theorem Grow.trans {G H G1 H1 G2 H2 : Hp} (a : Grow G H G1 H1) (b : Grow G1 H1 G2 H2) : Grow G H G2 H2 :=
  ⟨a.g.trans b.g, a.h.trans b.h, b.gh, fun x hx => (b.nw x hx).elim (a.nw x) fun q => .inr (a.h.free q)⟩
theorem ne_none_of {H : Hp} {a : Addr} {o : HO} (h : H a = some o) : H a ≠ none := by rw [h]; intro z; cases z
theorem Sh.tracked {G H : Hp} {a : Addr} {d : D} (h : Sh G H (.ref a) d) : H a ≠ none := by
  cases h with
  | lst h r => exact ne_none_of h
  | tup h r => exact ne_none_of h
  | dct h r => exact ne_none_of h
theorem SlOk.grow {C : Ctx} {G H G' H' : Hp} (w : Grow G H G' H') {i : Nat} {o : Option V} {s : Sl} (h : SlOk C G H i o s) : SlOk C G' H' i o s := by
  have fz : ∀ {a : Addr}, H a ≠ none → G a = none → G' a = none := fun {a} h1 h2 => by
    cases q : G' a with
    | none => rfl
    | some u =>
      rcases w.nw a (ne_none_of q) with z | z
      · exact absurd h2 z
      · exact absurd z h1
  cases s with
  | un => trivial
  | val d => obtain ⟨v, e, r⟩ := h; exact ⟨v, e, r.mono w.g⟩
  | own d => obtain ⟨a, e, r, h1, h2, h3⟩ := h; exact ⟨a, e, r.mono w.g w.h, fz r.tracked h1, h2, h3⟩
  | io d => obtain ⟨a, e, r, h1, h2⟩ := h; exact ⟨a, e, r.mono w.g w.h, fz r.tracked h1, h2⟩
  | bor d => exact h
  | scr ns => exact h
theorem StOk.grow {C : Ctx} {G H G' H' : Hp} {σ : St} {ρ : Env} (S : StOk C G σ H ρ) (w : Grow G H G' H') : StOk C G' σ H' ρ where
  gh := w.gh
  bh := S.bh.trans w.h
  g0 := S.g0.trans w.g
  fr := fun a h => S.fr a (w.h.free h)
  ga := fun a h => (w.nw a h).elim (S.ga a) fun q => .inr (S.fr a q)
  wf := S.wf
  len := S.len
  sl := fun i s e => let ⟨o, e1, q⟩ := S.sl i s e; ⟨o, e1, q.grow w⟩
  ds := S.ds
end PL
namespace PL
open PySem PySem.Spec L2
abbrev St' := L2.St
def okP (G : Hp) (σ : L2.St) (v : V) : Pl → Prop
  | .val d => Rp G v d
  | .slot i => σ[i]? = some (some v)
def okR (C : Ctx) (G : Hp) (σ : L2.St) (H : Hp) (ρ : Env) (v : V) : Rv → Prop
  | .pl p => okP G σ v p
  | .fr d => ∃ a, v = .ref a ∧ Sh G H (.ref a) d ∧ G a = none ∧ C.B a = none ∧ C.A a ∧ ∀ i, ¬ Own σ ρ i a
inductive okPs (G : Hp) (σ : L2.St) : List V → List Pl → Prop
  | nil : okPs G σ [] []
  | cons {v : V} {vs : List V} {p : Pl} {ps : List Pl} : okP G σ v p → okPs G σ vs ps → okPs G σ (v :: vs) (p :: ps)
theorem okP.mono {G G' : Hp} {σ : L2.St} {v : V} (e : Same G G') : ∀ {p : Pl}, okP G σ v p → okP G' σ v p
  | .val _, h => Rp.mono e h
  | .slot _, h => h
theorem okPs.mono {G G' : Hp} {σ : L2.St} (e : Same G G') : ∀ {vs : List V} {ps : List Pl}, okPs G σ vs ps → okPs G' σ vs ps
  | _, _, .nil => .nil
  | _, _, .cons h r => .cons (h.mono e) (okPs.mono e r)
/-! ### readings -/
def RdV (K : PySem.W.Frag) (t : TE) (f : M D) : Prop := ∀ (C : Ctx) (G : Hp) (σ : L2.St) (H : Hp) (ρ : Env) (Q : VK), C.K = K → StOk C G σ H ρ → ∀ (d : D) (ρ' : Env), f ρ = .ok d ρ' →
  (∀ (v : V) (G' H' : Hp), Same G G' → StOk C G' σ H' ρ' → Rp G' v d → Q v H') → t σ H Q
def RdP (K : PySem.W.Frag) (t : TE) (f : M Pl) : Prop := ∀ (C : Ctx) (G : Hp) (σ : L2.St) (H : Hp) (ρ : Env) (Q : VK), C.K = K → StOk C G σ H ρ → ∀ (d : Pl) (ρ' : Env), f ρ = .ok d ρ' →
  (∀ (v : V) (G' H' : Hp), Same G G' → StOk C G' σ H' ρ' → okP G' σ v d → Q v H') → t σ H Q
def RdF (K : PySem.W.Frag) (t : TE) (f : M Rv) : Prop := ∀ (C : Ctx) (G : Hp) (σ : L2.St) (H : Hp) (ρ : Env) (Q : VK), C.K = K → StOk C G σ H ρ → ∀ (d : Rv) (ρ' : Env), f ρ = .ok d ρ' →
  (∀ (v : V) (G' H' : Hp), Same G G' → StOk C G' σ H' ρ' → okR C G' σ H' ρ' v d → Q v H') → t σ H Q
def RdT (K : PySem.W.Frag) (t : TT) (f : M Bool) : Prop := ∀ (C : Ctx) (G : Hp) (σ : L2.St) (H : Hp) (ρ : Env) (Q : Bool → Hp → Prop), C.K = K → StOk C G σ H ρ → ∀ (b : Bool) (ρ' : Env), f ρ = .ok b ρ' →
  (∀ (G' H' : Hp), Same G G' → StOk C G' σ H' ρ' → Q b H') → t σ H Q
def RdA (K : PySem.W.Frag) (t : TA) (f : M (List D)) : Prop := ∀ (C : Ctx) (G : Hp) (σ : L2.St) (H : Hp) (ρ : Env) (Q : List V → Hp → Prop), C.K = K → StOk C G σ H ρ → ∀ (ds : List D) (ρ' : Env), f ρ = .ok ds ρ' →
  (∀ (vs : List V) (G' H' : Hp), Same G G' → StOk C G' σ H' ρ' → RpA G' vs ds → Q vs H') → t σ H Q
def RdPs (K : PySem.W.Frag) (t : TA) (f : M (List Pl)) : Prop := ∀ (C : Ctx) (G : Hp) (σ : L2.St) (H : Hp) (ρ : Env) (Q : List V → Hp → Prop), C.K = K → StOk C G σ H ρ → ∀ (ds : List Pl) (ρ' : Env), f ρ = .ok ds ρ' →
  (∀ (vs : List V) (G' H' : Hp), Same G G' → StOk C G' σ H' ρ' → okPs G' σ vs ds → Q vs H') → t σ H Q
/-- an expression that gives data | a place or data | also a new object of its own -/
def PV (X : Cx) (e : Expr) (f : M D) : Prop := ∃ t, PE X e t ∧ RdV X.K t f
def PP (X : Cx) (e : Expr) (f : M Pl) : Prop := ∃ t, PE X e t ∧ RdP X.K t f
def PF (X : Cx) (e : Expr) (f : M Rv) : Prop := ∃ t, PE X e t ∧ RdF X.K t f
def PTt (X : Cx) (e : Expr) (f : M Bool) : Prop := ∃ t, PT X e t ∧ RdT X.K t f
def PWt (X : Cx) (e : Expr) (f : M Bool) : Prop := ∃ t, PW X e t ∧ RdT X.K t f
def PVs (X : Cx) (es : List Expr) (f : M (List D)) : Prop := ∃ t, PA X es t ∧ RdA X.K t f
def PPs (X : Cx) (es : List Expr) (f : M (List Pl)) : Prop := ∃ t, PA X es t ∧ RdPs X.K t f
/-! ### the words of the mirror -/
def bnd {α β : Type} (f : M α) (g : α → M β) : M β := fun ρ => match f ρ with
  | .stuck => .stuck
  | .ok a ρ' => g a ρ'
def ret {α : Type} (a : α) : M α := fun ρ => .ok a ρ
def ofO {α : Type} : Option α → M α
  | some a => ret a
  | none => fun _ => .stuck
theorem bnd_ok {α β : Type} {f : M α} {g : α → M β} {ρ ρ' : Env} {b : β} (h : bnd f g ρ = .ok b ρ') : ∃ a ρ1, f ρ = .ok a ρ1 ∧ g a ρ1 = .ok b ρ' := by
  unfold bnd at h
  cases q : f ρ with
  | stuck => rw [q] at h; cases h
  | ok a ρ1 => rw [q] at h; exact ⟨a, ρ1, rfl, h⟩
theorem ofO_ok {α : Type} {o : Option α} {a : α} {ρ ρ' : Env} (h : ofO o ρ = .ok a ρ') : o = some a ∧ ρ' = ρ := by
  cases o with
  | none => cases h
  | some b => cases h; exact ⟨rfl, rfl⟩
def mVar (i : Nat) : M Pl := fun ρ => match ρ[i]? with
  | some .un => .stuck
  | none => .stuck
  | some (.val d) => .ok (.val d) ρ
  | some _ => .ok (.slot i) ρ
def mC (d : D) : M D := ret d
/-- data taken from a place: an object of one's own is frozen -/
def mGet (i : Nat) : M D := fun ρ => match ρ[i]? with
  | some (.val d) => .ok d ρ
  | some (.own d) => .ok d (ρ.set i (.val d))
  | some (.bor d) => if atom d = true then .ok d ρ else .stuck
  | _ => .stuck
def mFz (f : M Rv) : M D := bnd f fun r => match r with
  | .fr d => ret d
  | .pl (.val d) => ret d
  | .pl (.slot i) => mGet i
def mPl (f : M D) : M Pl := bnd f fun d => ret (.val d)
def mRv (f : M Pl) : M Rv := bnd f fun p => ret (.pl p)
/-- what stands at a place -/
def rsv (ρ : Env) : Pl → Option D
  | .val d => some d
  | .slot i => match ρ[i]? with
    | some (.val d) => some d
    | some (.own d) => some d
    | some (.io d) => some d
    | some (.bor d) => some d
    | _ => none
def look (p : Pl) : M D := fun ρ => match rsv ρ p with
  | some d => .ok d ρ
  | none => .stuck
def lookAll : List Pl → M (List D)
  | [] => ret []
  | p :: ps => bnd (look p) fun d => bnd (lookAll ps) fun ds => ret (d :: ds)
def mOp {α : Type} (g : D → D → Option α) (fa fb : M Pl) : M α := bnd fa fun p => bnd fb fun q => bnd (look p) fun d => bnd (look q) fun e => ofO (g d e)
def mUn {α : Type} (g : D → Option α) (fa : M Pl) : M α := bnd fa fun p => bnd (look p) fun d => ofO (g d)
def mNil {α : Type} : M (List α) := ret []
def mCons {α : Type} (fa : M α) (fr : M (List α)) : M (List α) := bnd fa fun p => bnd fr fun q => ret (p :: q)
def mN {α : Type} (g : List D → Option α) (fs : M (List Pl)) : M α := bnd fs fun ps => bnd (lookAll ps) fun ds => ofO (g ds)
def mFr (f : M D) : M Rv := bnd f fun d => ret (.fr d)
def mTup (f : M (List D)) : M D := bnd f fun ds => if ds.length ≤ 100000 then ret (.tuple ds) else fun _ => .stuck
def mLst (f : M (List D)) : M Rv := bnd f fun ds => if ds.length ≤ 100000 then ret (.fr (.list ds)) else fun _ => .stuck
def asBool : D → Option Bool
  | .bool b => some b
  | _ => none
def mB (f : M D) : M Bool := bnd f fun d => ofO (asBool d)
def mIf {α : Type} (c : M Bool) (a b : M α) : M α := bnd c fun k => if k = true then a else b
def mNot (c : M Bool) : M Bool := bnd c fun k => ret (!k)
def mAnd (a b : M Bool) : M Bool := bnd a fun k => if k = true then b else ret false
def mOr (a b : M Bool) : M Bool := bnd a fun k => if k = true then ret true else b
def mBool (c : M Bool) : M D := bnd c fun k => ret (.bool k)
def mAndV (a b : M D) : M D := bnd (mB a) fun k => if k = true then b else ret (.bool false)
def mOrV (a b : M D) : M D := bnd (mB a) fun k => if k = true then ret (.bool true) else b
def mNotV (a : M D) : M D := bnd (mB a) fun k => ret (.bool (!k))
/-! ### places -/
section
variable {C : Ctx} {G H : Hp} {σ : L2.St} {ρ ρ' : Env} {v : V} {p : Pl} {d : D}
theorem StOk.get (S : StOk C G σ H ρ) {i : Nat} {s : Sl} (e : ρ[i]? = some s) (hv : σ[i]? = some (some v)) : SlOk C G H i (some v) s := by
  obtain ⟨o, e1, q⟩ := S.sl i s e
  rw [hv] at e1; cases e1; exact q
theorem StOk.bor (S : StOk C G σ H ρ) {i : Nat} (h1 : C.P i = some v) (h2 : C.S i = .bor d) : Sh G H v d := by
  have := S.wf i v h1
  rw [h2] at this
  exact Sh.mono S.g0 S.bh this
theorem rsv_ok (S : StOk C G σ H ρ) (h : okP G σ v p) (e : rsv ρ p = some d) : Sh G H v d := by
  cases p with
  | val d' =>
    cases e
    exact Rp.sh S.gh h
  | slot i =>
    have hv : σ[i]? = some (some v) := h
    simp only [rsv] at e
    cases q : ρ[i]? with
    | none => rw [q] at e; cases e
    | some s =>
      have k := S.get q hv
      rw [q] at e
      cases s with
      | un => cases e
      | scr ns => cases e
      | val d' => cases e; obtain ⟨_, z, r⟩ := k; cases z; exact r.sh S.gh
      | own d' => cases e; obtain ⟨a, e2, r, _⟩ := k; cases e2; exact r
      | io d' => cases e; obtain ⟨a, e2, r, _⟩ := k; cases e2; exact r
      | bor d' => cases e; obtain ⟨_, z, p1, p2⟩ := k; cases z; exact S.bor p1 p2
theorem look_ok (S : StOk C G σ H ρ) (h : okP G σ v p) (e : look p ρ = .ok d ρ') : Sh G H v d ∧ ρ' = ρ := by
  unfold look at e
  cases q : rsv ρ p with
  | none => rw [q] at e; cases e
  | some d' => rw [q] at e; cases e; exact ⟨rsv_ok S h q, rfl⟩
/-- one name is given another thing -/
theorem Own.tracked (S : StOk C G σ H ρ) {i : Nat} {a : Addr} (h : Own σ ρ i a) : H a ≠ none ∧ G a = none ∧ C.B a = none := by
  obtain ⟨h1, s, h2, h3⟩ := h
  have k := S.get h2 h1
  cases s with
  | own d => obtain ⟨b, e, r, x, y, _⟩ := k; cases e; exact ⟨r.tracked, x, y⟩
  | io d => obtain ⟨b, e, r, x, y⟩ := k; cases e; exact ⟨r.tracked, x, y.1⟩
  | un => cases h3
  | val d => cases h3
  | bor d => cases h3
  | scr d => cases h3
/-- an own object is frozen: the name holds data from now on -/
theorem StOk.freeze (S : StOk C G σ H ρ) {i : Nat} (e : ρ[i]? = some (.own d)) (hv : σ[i]? = some (some v)) :
    ∃ G', Same G G' ∧ StOk C G' σ H (ρ.set i (.val d)) ∧ Rp G' v d := by
  obtain ⟨a, e2, r, gn, bn, aa⟩ := S.get e hv
  cases e2
  obtain ⟨G', g1, g2, g3, g4⟩ := r.frozen gn
  have hi : i < ρ.length := (List.getElem?_eq_some_iff.mp e).1
  have dist : ∀ {j : Nat} {s : Sl} {b : Addr}, j ≠ i → ρ[j]? = some s → ownK s = true → σ[j]? = some (some (.ref b)) → b ≠ a := fun {j s b} hj q k hb z => by
    subst z
    exact hj (S.ds j i b ⟨hb, s, q, k⟩ ⟨hv, _, e, rfl⟩)
  have still : ∀ {b : Addr}, b ≠ a → G b = none → G' b = none := fun {b} hb hg => by
    cases q : G' b with
    | none => rfl
    | some u => exact ((g2 b (ne_none_of q)).elim (fun z => (z hg).elim) fun z => (hb z).elim)
  refine ⟨G', g1, ⟨?_, S.bh, S.g0.trans g1, S.fr, ?_, S.wf, ?_, ?_, ?_⟩, g4⟩
  · intro b u q
    exact (g3 b u q).elim (fun z => S.gh b u z) id
  · intro b q
    rcases g2 b q with z | z
    · exact S.ga b z
    · subst z; exact .inr aa
  · rw [List.length_set]; exact S.len
  · intro j s q
    by_cases hj : j = i
    · subst hj
      rw [List.getElem?_set_self hi] at q
      cases q
      exact ⟨_, hv, _, rfl, g4⟩
    · rw [List.getElem?_set_ne (fun z => hj z.symm)] at q
      obtain ⟨o, e1, k⟩ := S.sl j s q
      refine ⟨o, e1, ?_⟩
      cases s with
      | un => trivial
      | val d' => obtain ⟨w, e, r⟩ := k; exact ⟨w, e, r.mono g1⟩
      | own d' =>
        obtain ⟨b, e3, r, x, y, z⟩ := k
        subst e3
        exact ⟨b, rfl, r.mono g1 (Same.refl _), still (dist hj q rfl e1) x, y, z⟩
      | io d' =>
        obtain ⟨b, e3, r, x, y⟩ := k
        subst e3
        exact ⟨b, rfl, r.mono g1 (Same.refl _), still (dist hj q rfl e1) x, y⟩
      | bor d' => exact k
      | scr ns => exact k
  · intro j k b hj hk
    have sub : ∀ {m : Nat}, Own σ (ρ.set i (.val d)) m b → Own σ ρ m b := fun {m} ⟨x, s, y, z⟩ => by
      by_cases hm : m = i
      · subst hm
        rw [List.getElem?_set_self hi] at y
        cases y; cases z
      · rw [List.getElem?_set_ne (fun z => hm z.symm)] at y
        exact ⟨x, s, y, z⟩
    exact S.ds j k b (sub hj) (sub hk)
/-- a new object of nobody is frozen -/
theorem StOk.freezeF (S : StOk C G σ H ρ) {a : Addr} (r : Sh G H (.ref a) d) (gn : G a = none) (aa : C.A a) (no : ∀ i, ¬ Own σ ρ i a) :
    ∃ G', Same G G' ∧ StOk C G' σ H ρ ∧ Rp G' (.ref a) d := by
  obtain ⟨G', g1, g2, g3, g4⟩ := r.frozen gn
  have still : ∀ {b : Addr}, b ≠ a → G b = none → G' b = none := fun {b} hb hg => by
    cases q : G' b with
    | none => rfl
    | some u => exact ((g2 b (ne_none_of q)).elim (fun z => (z hg).elim) fun z => (hb z).elim)
  refine ⟨G', g1, ⟨?_, S.bh, S.g0.trans g1, S.fr, ?_, S.wf, S.len, ?_, S.ds⟩, g4⟩
  · intro b u q
    exact (g3 b u q).elim (fun z => S.gh b u z) id
  · intro b q
    rcases g2 b q with z | z
    · exact S.ga b z
    · subst z; exact .inr aa
  · intro j s q
    obtain ⟨o, e1, k⟩ := S.sl j s q
    refine ⟨o, e1, ?_⟩
    have dist : ∀ {b : Addr}, ownK s = true → o = some (.ref b) → b ≠ a := fun {b} hk e z => by
      subst z; subst e
      exact no j ⟨e1, s, q, hk⟩
    cases s with
    | un => trivial
    | val d' => obtain ⟨w, e, r⟩ := k; exact ⟨w, e, r.mono g1⟩
    | own d' =>
      obtain ⟨b, e3, r, x, y, z⟩ := k
      exact ⟨b, e3, r.mono g1 (Same.refl _), still (dist rfl e3) x, y, z⟩
    | io d' =>
      obtain ⟨b, e3, r, x, y⟩ := k
      exact ⟨b, e3, r.mono g1 (Same.refl _), still (dist rfl e3) x, y⟩
    | bor d' => exact k
    | scr ns => exact k
theorem mGet_ok (S : StOk C G σ H ρ) {i : Nat} (hv : σ[i]? = some (some v)) (e : mGet i ρ = .ok d ρ') : ∃ G', Same G G' ∧ StOk C G' σ H ρ' ∧ Rp G' v d := by
  unfold mGet at e
  cases q : ρ[i]? with
  | none => rw [q] at e; cases e
  | some s =>
    rw [q] at e
    cases s with
    | un => cases e
    | scr ns => cases e
    | io d' => cases e
    | val d' => cases e; obtain ⟨_, z, r⟩ := S.get q hv; cases z; exact ⟨G, Same.refl _, S, r⟩
    | own d' => cases e; exact S.freeze q hv
    | bor d' =>
      by_cases ha : atom d' = true
      · simp only [ha, if_true] at e
        cases e
        obtain ⟨_, z, p1, p2⟩ := S.get q hv
        cases z
        exact ⟨G, Same.refl _, S, (S.bor p1 p2).atom ha G⟩
      · simp only [ha, if_false] at e
        cases e
end
/-! ### expressions -/
section
variable {X : Cx} {e a b c : Expr} {es : List Expr} {pos : Pos} {f fa fb : M D} {g ga gb : M Pl} {k : M Rv}
theorem pp_name (i : Nat) {x : Str} (hN : X.N[i]? = some x := by rfl) (hv : Vis X.env.scope x := by first | exact Or.inl rfl | exact Or.inr (Or.inl rfl) | exact Or.inr (Or.inr rfl)) (hd : (x == ("__debug__" : Str)) = false := by decide)
    (hcd : (x == ("__classdict__" : Str)) = false := by decide) : PP X (.Name x pos) (mVar i) := by
  refine ⟨_, pe_var hN hv hd hcd, fun C G σ H ρ Q hK S d ρ' hf q => ?_⟩
  unfold mVar at hf
  cases r : ρ[i]? with
  | none => rw [r] at hf; cases hf
  | some s =>
    rw [r] at hf
    obtain ⟨o, e1, k⟩ := S.sl i s r
    cases s with
    | un => cases hf
    | val d' => cases hf; obtain ⟨v, rfl, rr⟩ := k; exact ⟨v, e1, q v G H (Same.refl _) S rr⟩
    | own d' => cases hf; obtain ⟨a, rfl, _⟩ := k; exact ⟨_, e1, q _ G H (Same.refl _) S e1⟩
    | io d' => cases hf; obtain ⟨a, rfl, _⟩ := k; exact ⟨_, e1, q _ G H (Same.refl _) S e1⟩
    | bor d' => cases hf; obtain ⟨v, rfl, _⟩ := k; exact ⟨_, e1, q _ G H (Same.refl _) S e1⟩
    | scr ns => cases hf; obtain ⟨v, rfl, _⟩ := k; exact ⟨_, e1, q _ G H (Same.refl _) S e1⟩
theorem pv_const {v : V} {d : D} (h : PE X e (tC v)) (r : ∀ G, Rp G v d) : PV X e (mC d) := ⟨_, h, fun C G σ H ρ Q hK S d' ρ' hf q => by
  cases hf
  exact q v G H (Same.refl _) S (r G)⟩
theorem pv_int {i : Int} {j : Nat} : PV X (.Constant (.int i) j pos) (mC (.int i)) := pv_const pe_int fun _ => .int i
theorem pv_bl {b : Bool} {j : Nat} : PV X (.Constant (.bool b) j pos) (mC (.bool b)) := pv_const pe_bl fun _ => .bl b
theorem pv_non {j : Nat} : PV X (.Constant .none j pos) (mC .none) := pv_const pe_non fun _ => .non
theorem pv_str {x : String} {j : Nat} : PV X (.Constant (.str x) j pos) (mC (.str x)) := pv_const pe_str fun _ => .str x
theorem pp_of (h : PV X e f) : PP X e (mPl f) := by
  obtain ⟨t, ht, r⟩ := h
  refine ⟨t, ht, fun C G σ H ρ Q hK S d ρ' hf q => ?_⟩
  obtain ⟨d', ρ1, h1, h2⟩ := bnd_ok hf
  cases h2
  exact r C G σ H ρ Q hK S d' _ h1 q
theorem pf_of (h : PP X e g) : PF X e (mRv g) := by
  obtain ⟨t, ht, r⟩ := h
  refine ⟨t, ht, fun C G σ H ρ Q hK S d ρ' hf q => ?_⟩
  obtain ⟨d', ρ1, h1, h2⟩ := bnd_ok hf
  cases h2
  exact r C G σ H ρ Q hK S d' _ h1 q
theorem pv_of (h : PF X e k) : PV X e (mFz k) := by
  obtain ⟨t, ht, r⟩ := h
  refine ⟨t, ht, fun C G σ H ρ Q hK S d ρ' hf q => ?_⟩
  obtain ⟨d', ρ1, h1, h2⟩ := bnd_ok hf
  refine r C G σ H ρ Q hK S d' ρ1 h1 fun v G1 H1 g1 S1 o => ?_
  cases d' with
  | fr d2 =>
    cases h2
    obtain ⟨a, rfl, rr, gn, bn, aa, no⟩ := o
    obtain ⟨G2, g2, S2, r2⟩ := S1.freezeF rr gn aa no
    exact q _ G2 H1 (g1.trans g2) S2 r2
  | pl p =>
    cases p with
    | val d2 => cases h2; exact q v G1 H1 g1 S1 o
    | slot i =>
      obtain ⟨G2, g2, S2, r2⟩ := mGet_ok S1 (show σ[i]? = some (some v) from o) h2
      exact q _ G2 H1 (g1.trans g2) S2 r2
/-- an operation upon two things that are looked at -/
def POpV (r : R2) (g : D → D → Option D) : Prop := ∀ (G H : Hp) (x y : V) (d e z : D) (Q : VK), Same G H → Sh G H x d → Sh G H y e → g d e = some z → (∀ v G' H', Grow G H G' H' → Rp G' v z → Q v H') → r x y H Q
def POpF (r : R2) (g : D → D → Option D) : Prop := ∀ (G H : Hp) (x y : V) (d e z : D) (Q : VK), Same G H → Sh G H x d → Sh G H y e → g d e = some z → (∀ p H', H p = none → Grow G H G H' → Sh G H' (.ref p) z → Q (.ref p) H') → r x y H Q
theorem fresh_ok {C : Ctx} {G H H' : Hp} {σ : L2.St} {ρ : Env} {p : Addr} {z : D} (S : StOk C G σ H ρ) (hp : H p = none) (w : Grow G H G H') (s : Sh G H' (.ref p) z) : okR C G σ H' ρ (.ref p) (.fr z) :=
  ⟨p, rfl, s, S.gh.free hp, S.bh.free hp, S.fr p hp, fun i o => (Own.tracked S o).1 hp⟩
theorem rd_op {r : R2} {g' : D → D → Option D} {ta tb : TE} (hp : POpV r g') (ha : RdP X.K ta ga) (hb : RdP X.K tb gb) : RdV X.K (tOp r ta tb) (mOp g' ga gb) := by
  intro C G σ H ρ Q hK S d ρ' hf q
  obtain ⟨p, ρ1, h1, hf2⟩ := bnd_ok hf
  obtain ⟨p2, ρ2, h2, hf3⟩ := bnd_ok hf2
  refine ha C G σ H ρ _ hK S p ρ1 h1 fun v1 G1 H1 g1 S1 o1 => ?_
  refine hb C G1 σ H1 ρ1 _ hK S1 p2 ρ2 h2 fun v2 G2 H2 g2 S2 o2 => ?_
  obtain ⟨d1, ρ3, h3, hf4⟩ := bnd_ok hf3
  obtain ⟨s1, rfl⟩ := look_ok S2 (o1.mono g2) h3
  obtain ⟨d2, ρ4, h4, hf5⟩ := bnd_ok hf4
  obtain ⟨s2, rfl⟩ := look_ok S2 o2 h4
  obtain ⟨e, rfl⟩ := ofO_ok hf5
  exact hp G2 H2 v1 v2 d1 d2 d Q S2.gh s1 s2 e fun v G' H' w r => q v G' H' ((g1.trans g2).trans w.g) (S2.grow w) r
theorem rd_opF {r : R2} {g' : D → D → Option D} {ta tb : TE} (hp : POpF r g') (ha : RdP X.K ta ga) (hb : RdP X.K tb gb) : RdF X.K (tOp r ta tb) (mFr (mOp g' ga gb)) := by
  intro C G σ H ρ Q hK S d ρ' hf q
  obtain ⟨d', ρ0, hf0, h0⟩ := bnd_ok hf
  cases h0
  obtain ⟨p, ρ1, h1, hf2⟩ := bnd_ok hf0
  obtain ⟨p2, ρ2, h2, hf3⟩ := bnd_ok hf2
  refine ha C G σ H ρ _ hK S p ρ1 h1 fun v1 G1 H1 g1 S1 o1 => ?_
  refine hb C G1 σ H1 ρ1 _ hK S1 p2 ρ2 h2 fun v2 G2 H2 g2 S2 o2 => ?_
  obtain ⟨d1, ρ3, h3, hf4⟩ := bnd_ok hf3
  obtain ⟨s1, rfl⟩ := look_ok S2 (o1.mono g2) h3
  obtain ⟨d2, ρ4, h4, hf5⟩ := bnd_ok hf4
  obtain ⟨s2, rfl⟩ := look_ok S2 o2 h4
  obtain ⟨e, rfl⟩ := ofO_ok hf5
  exact hp G2 H2 v1 v2 d1 d2 d' Q S2.gh s1 s2 e fun p H' hn w s => q _ G2 H' (g1.trans g2) (S2.grow w) (fresh_ok S2 hn w s)
theorem pv_op {op : Operator} {r : R2} {g' : D → D → Option D} (ho : OpR X (binaryOp op) r) (hp : POpV r g') (ha : PP X a ga) (hb : PP X b gb) : PV X (.BinOp a op b pos) (mOp g' ga gb) := by
  obtain ⟨ta, ha, ra⟩ := ha
  obtain ⟨tb, hb, rb⟩ := hb
  exact ⟨_, pe_op ho ha hb, rd_op hp ra rb⟩
theorem pf_op {op : Operator} {r : R2} {g' : D → D → Option D} (ho : OpR X (binaryOp op) r) (hp : POpF r g') (ha : PP X a ga) (hb : PP X b gb) : PF X (.BinOp a op b pos) (mFr (mOp g' ga gb)) := by
  obtain ⟨ta, ha, ra⟩ := ha
  obtain ⟨tb, hb, rb⟩ := hb
  exact ⟨_, pe_op ho ha hb, rd_opF hp ra rb⟩
theorem pv_cmp {op : CmpOp} {r : R2} {g' : D → D → Option D} (ho : OpR X (compareOp op) r) (hp : POpV r g') (ha : PP X a ga) (hb : PP X b gb) (hm : behindInMarks op b = false) : PV X (.Compare a [op] [b] pos) (mOp g' ga gb) := by
  obtain ⟨ta, ha, ra⟩ := ha
  obtain ⟨tb, hb, rb⟩ := hb
  exact ⟨_, pe_cmpR ho ha hb hm, rd_op hp ra rb⟩
theorem rd_test {t : TE} (h : RdV X.K t f) : RdT X.K (tTest t) (mB f) := by
  intro C G σ H ρ Q hK S k ρ' hf q
  obtain ⟨d, ρ1, h1, hf⟩ := bnd_ok hf
  obtain ⟨e, rfl⟩ := ofO_ok hf
  refine h C G σ H ρ _ hK S d _ h1 fun v G' H' g S' r => ?_
  cases d with
  | bool b' => cases e; cases r; exact ⟨_, rfl, q G' H' g S'⟩
  | _ => cases e
theorem pt_cmp' {op : CmpOp} {r : R2} {g' : D → D → Option D} (ho : OpR X (compareOp op) r) (hp : POpV r g') (ha : PP X a ga) (hb : PP X b gb) (hm : behindInMarks op b = false) : PTt X (.Compare a [op] [b] pos) (mB (mOp g' ga gb)) := by
  obtain ⟨ta, ha, ra⟩ := ha
  obtain ⟨tb, hb, rb⟩ := hb
  exact ⟨_, pt_cmpR ho ha hb hm, rd_test (rd_op hp ra rb)⟩
theorem ptt_val (h : PV X e f) (he : ∀ whole, isTrue e X.env whole = (do let v ← whole; standAt e.pos; holding [v] (truthy v)) := by intro _; rfl) : PTt X e (mB f) := by
  obtain ⟨t, ht, r⟩ := h
  exact ⟨_, pt_val ht he, rd_test r⟩
theorem pt_of {gT : M Bool} (h : PWt X e gT) : PTt X e gT := let ⟨t, h, r⟩ := h; ⟨t, h.pt, r⟩
variable {ma mb : M Bool} {rest : List Expr}
theorem pwt_and1 (h : PTt X a ma) : PWt X (.BoolOp .And [a] pos) ma := let ⟨t, h, r⟩ := h; ⟨t, pw_and1 h, r⟩
theorem pwt_or1 (h : PTt X a ma) : PWt X (.BoolOp .Or [a] pos) ma := let ⟨t, h, r⟩ := h; ⟨t, pw_or1 h, r⟩
theorem pwt_and (h : PTt X a ma) (h2 : PWt X (.BoolOp .And (b :: rest) pos) mb) : PWt X (.BoolOp .And (a :: b :: rest) pos) (mAnd ma mb) := by
  obtain ⟨t, h, r⟩ := h
  obtain ⟨u, h2, r2⟩ := h2
  refine ⟨_, pw_and h h2, fun C G σ H ρ Q hK S k ρ' hf q => ?_⟩
  obtain ⟨k1, ρ1, h1, hf⟩ := bnd_ok hf
  refine r C G σ H ρ _ hK S k1 ρ1 h1 fun G1 H1 g1 S1 => ?_
  cases k1 with
  | true => exact r2 C G1 σ H1 ρ1 _ hK S1 k ρ' hf fun G2 H2 g2 S2 => q G2 H2 (g1.trans g2) S2
  | false => cases hf; exact q G1 H1 g1 S1
theorem pwt_or (h : PTt X a ma) (h2 : PWt X (.BoolOp .Or (b :: rest) pos) mb) : PWt X (.BoolOp .Or (a :: b :: rest) pos) (mOr ma mb) := by
  obtain ⟨t, h, r⟩ := h
  obtain ⟨u, h2, r2⟩ := h2
  refine ⟨_, pw_or h h2, fun C G σ H ρ Q hK S k ρ' hf q => ?_⟩
  obtain ⟨k1, ρ1, h1, hf⟩ := bnd_ok hf
  refine r C G σ H ρ _ hK S k1 ρ1 h1 fun G1 H1 g1 S1 => ?_
  cases k1 with
  | false => exact r2 C G1 σ H1 ρ1 _ hK S1 k ρ' hf fun G2 H2 g2 S2 => q G2 H2 (g1.trans g2) S2
  | true => cases hf; exact q G1 H1 g1 S1
theorem ptt_not (h : PTt X a ma) : PTt X (.UnaryOp .Not a pos) (mNot ma) := by
  obtain ⟨t, h, r⟩ := h
  refine ⟨_, pt_not h, fun C G σ H ρ Q hK S k ρ' hf q => ?_⟩
  obtain ⟨k1, ρ1, h1, hf⟩ := bnd_ok hf
  cases hf
  exact r C G σ H ρ _ hK S k1 _ h1 fun G1 H1 g1 S1 => q G1 H1 g1 S1
/-- and, or, not as values: all but the last one truths -/
theorem rdB {t : TE} (r : RdV X.K t f) {C : Ctx} {G : Hp} {σ : L2.St} {H : Hp} {ρ ρ1 : Env} {k : Bool} {Q : VK} (hK : C.K = X.K) (S : StOk C G σ H ρ) (h1 : mB f ρ = .ok k ρ1) (q : ∀ G' H', Same G G' → StOk C G' σ H' ρ1 → Q (.bl k) H') : t σ H Q := by
  obtain ⟨d, ρ2, h2, h3⟩ := bnd_ok h1
  obtain ⟨e, rfl⟩ := ofO_ok h3
  refine r C G σ H ρ _ hK S d _ h2 fun v G' H' g S' rr => ?_
  cases d with
  | bool b' => cases e; cases rr; exact q G' H' g S'
  | _ => cases e
theorem pv_one {op : BoolOp} (h : PV X a fa) : PV X (.BoolOp op [a] pos) fa := let ⟨t, h, r⟩ := h; ⟨t, pe_one h, r⟩
theorem pv_and (h : PV X a fa) (h2 : PV X (.BoolOp .And (b :: rest) pos) fb) : PV X (.BoolOp .And (a :: b :: rest) pos) (mAndV fa fb) := by
  obtain ⟨t, h, r⟩ := h
  obtain ⟨u, h2, r2⟩ := h2
  refine ⟨_, pe_and h h2, fun C G σ H ρ Q hK S d ρ' hf q => ?_⟩
  obtain ⟨k, ρ1, h1, hf⟩ := bnd_ok hf
  refine rdB r hK S h1 fun G1 H1 g1 S1 => ⟨k, rfl, ?_⟩
  cases k with
  | true => rw [if_pos rfl]; exact r2 C G1 σ H1 ρ1 _ hK S1 d ρ' hf fun v G2 H2 g2 S2 => q v G2 H2 (g1.trans g2) S2
  | false => cases hf; rw [if_neg Bool.false_ne_true]; exact q _ G1 H1 g1 S1 (.bl _)
theorem pv_or (h : PV X a fa) (h2 : PV X (.BoolOp .Or (b :: rest) pos) fb) : PV X (.BoolOp .Or (a :: b :: rest) pos) (mOrV fa fb) := by
  obtain ⟨t, h, r⟩ := h
  obtain ⟨u, h2, r2⟩ := h2
  refine ⟨_, pe_or h h2, fun C G σ H ρ Q hK S d ρ' hf q => ?_⟩
  obtain ⟨k, ρ1, h1, hf⟩ := bnd_ok hf
  refine rdB r hK S h1 fun G1 H1 g1 S1 => ⟨k, rfl, ?_⟩
  cases k with
  | false => rw [if_neg Bool.false_ne_true]; exact r2 C G1 σ H1 ρ1 _ hK S1 d ρ' hf fun v G2 H2 g2 S2 => q v G2 H2 (g1.trans g2) S2
  | true => cases hf; rw [if_pos rfl]; exact q _ G1 H1 g1 S1 (.bl _)
theorem pv_not (h : PV X a fa) : PV X (.UnaryOp .Not a pos) (mNotV fa) := by
  obtain ⟨t, h, r⟩ := h
  refine ⟨_, pe_not h, fun C G σ H ρ Q hK S d ρ' hf q => ?_⟩
  obtain ⟨k, ρ1, h1, hf⟩ := bnd_ok hf
  cases hf
  exact rdB r hK S h1 fun G1 H1 g1 S1 => ⟨_, rfl, q _ G1 H1 g1 S1 (.bl _)⟩
theorem pv_if (hc : PTt X c ma) (ha : PV X a fa) (hb : PV X b fb) : PV X (.IfExp c a b pos) (mIf ma fa fb) := by
  obtain ⟨t, hc, rc⟩ := hc
  obtain ⟨u, ha, ra⟩ := ha
  obtain ⟨w, hb, rb⟩ := hb
  refine ⟨_, pe_ifExp hc ha hb, fun C G σ H ρ Q hK S d ρ' hf q => ?_⟩
  obtain ⟨k, ρ1, h1, hf⟩ := bnd_ok hf
  refine rc C G σ H ρ _ hK S k ρ1 h1 fun G1 H1 g1 S1 => ?_
  cases k with
  | true => rw [if_pos rfl]; exact ra C G1 σ H1 ρ1 _ hK S1 d ρ' hf fun v G2 H2 g2 S2 => q v G2 H2 (g1.trans g2) S2
  | false => rw [if_neg Bool.false_ne_true]; exact rb C G1 σ H1 ρ1 _ hK S1 d ρ' hf fun v G2 H2 g2 S2 => q v G2 H2 (g1.trans g2) S2
/-! ### lists of expressions, displays -/
theorem pvs_nil : PVs X [] mNil := ⟨_, pa_nil, fun C G σ H ρ Q hK S d ρ' hf q => by cases hf; exact q [] G H (Same.refl _) S .nil⟩
theorem pvs_cons {fs : M (List D)} (h : PV X e f) (hr : PVs X es fs) (hs : starEach (e :: es) X.env = (false, eval e X.env) :: starEach es X.env := by rfl) : PVs X (e :: es) (mCons f fs) := by
  obtain ⟨t, h, r⟩ := h
  obtain ⟨u, hr, rr⟩ := hr
  refine ⟨_, pa_cons h hr hs, fun C G σ H ρ Q hK S ds ρ' hf q => ?_⟩
  obtain ⟨d, ρ1, h1, hf⟩ := bnd_ok hf
  obtain ⟨ds', ρ2, h2, hf⟩ := bnd_ok hf
  cases hf
  refine r C G σ H ρ _ hK S d ρ1 h1 fun v G1 H1 g1 S1 o1 => ?_
  exact rr C G1 σ H1 ρ1 _ hK S1 ds' _ h2 fun vs G2 H2 g2 S2 o2 => q _ G2 H2 (g1.trans g2) S2 (.cons (o1.mono g2) o2)
theorem pps_nil' : PPs X [] mNil := ⟨_, pa_nil, fun C G σ H ρ Q hK S d ρ' hf q => by cases hf; exact q [] G H (Same.refl _) S .nil⟩
theorem pps_cons' {fs : M (List Pl)} (h : PP X e g) (hr : PPs X es fs) (hs : starEach (e :: es) X.env = (false, eval e X.env) :: starEach es X.env := by rfl) : PPs X (e :: es) (mCons g fs) := by
  obtain ⟨t, h, r⟩ := h
  obtain ⟨u, hr, rr⟩ := hr
  refine ⟨_, pa_cons h hr hs, fun C G σ H ρ Q hK S ds ρ' hf q => ?_⟩
  obtain ⟨d, ρ1, h1, hf⟩ := bnd_ok hf
  obtain ⟨ds', ρ2, h2, hf⟩ := bnd_ok hf
  cases hf
  refine r C G σ H ρ _ hK S d ρ1 h1 fun v G1 H1 g1 S1 o1 => ?_
  exact rr C G1 σ H1 ρ1 _ hK S1 ds' _ h2 fun vs G2 H2 g2 S2 o2 => q _ G2 H2 (g1.trans g2) S2 (.cons (o1.mono g2) o2)
theorem line_of {n : Nat} (h : n ≤ 100000) : n ≤ sizeLine := Nat.le_trans h (by decide)
theorem pv_tup {x1} {fs : M (List D)} (h : PVs X es fs) : PV X (.Tuple es x1 pos) (mTup fs) := by
  obtain ⟨t, h, r⟩ := h
  refine ⟨_, pe_tup h, fun C G σ H ρ Q hK S d ρ' hf q => ?_⟩
  obtain ⟨ds, ρ1, h1, hf⟩ := bnd_ok hf
  by_cases hl : ds.length ≤ 100000
  · rw [if_pos hl] at hf
    cases hf
    refine r C G σ H ρ _ hK S ds _ h1 fun vs G1 H1 g1 S1 o1 => ⟨by rw [o1.length]; exact line_of hl, fun p hp => ?_⟩
    have w : Grow G1 H1 (upd G1 p (.tup vs)) (upd H1 p (.tup vs)) := Grow.new S1.gh hp
    exact q _ _ _ (g1.trans w.g) (S1.grow w) (.tup upd_same (o1.mono w.g))
  · rw [if_neg hl] at hf
    cases hf
theorem pf_lst {fs : M (List D)} (h : PVs X es fs) : PF X (.List es pos) (mLst fs) := by
  obtain ⟨t, h, r⟩ := h
  refine ⟨_, pe_lst h, fun C G σ H ρ Q hK S d ρ' hf q => ?_⟩
  obtain ⟨ds, ρ1, h1, hf⟩ := bnd_ok hf
  by_cases hl : ds.length ≤ 100000
  · rw [if_pos hl] at hf
    cases hf
    refine r C G σ H ρ _ hK S ds _ h1 fun vs G1 H1 g1 S1 o1 => ⟨by rw [o1.length]; exact line_of hl, fun p hp => ?_⟩
    have w : Grow G1 H1 G1 (upd H1 p (.lst vs)) := Grow.newF S1.gh hp
    exact q _ _ _ g1 (S1.grow w) (fresh_ok S1 hp w (.lst upd_same o1))
  · rw [if_neg hl] at hf
    cases hf
/-! ### built-ins by values -/
inductive ShA (G H : Hp) : List V → List D → Prop
  | nil : ShA G H [] []
  | cons {v : V} {vs : List V} {d : D} {ds : List D} : Sh G H v d → ShA G H vs ds → ShA G H (v :: vs) (d :: ds)
theorem lookAll_ok {C : Ctx} {G H : Hp} {σ : L2.St} {ρ : Env} (S : StOk C G σ H ρ) : ∀ {vs : List V} {ps : List Pl} {ds : List D} {ρ' : Env}, okPs G σ vs ps → lookAll ps ρ = .ok ds ρ' → ShA G H vs ds ∧ ρ' = ρ
  | _, _, _, _, .nil, e => by cases e; exact ⟨.nil, rfl⟩
  | _, _, _, _, .cons h r, e => by
    obtain ⟨d, ρ1, h1, e⟩ := bnd_ok e
    obtain ⟨ds', ρ2, h2, e⟩ := bnd_ok e
    cases e
    obtain ⟨s1, rfl⟩ := look_ok S h h1
    obtain ⟨s2, rfl⟩ := lookAll_ok S r h2
    exact ⟨.cons s1 s2, rfl⟩
def PClV (r : List V → Hp → VK → Prop) (g : List D → Option D) : Prop := ∀ (G H : Hp) (vs : List V) (ds : List D) (z : D) (Q : VK), Same G H → ShA G H vs ds → g ds = some z → (∀ v G' H', Grow G H G' H' → Rp G' v z → Q v H') → r vs H Q
def PClF (r : List V → Hp → VK → Prop) (g : List D → Option D) : Prop := ∀ (G H : Hp) (vs : List V) (ds : List D) (z : D) (Q : VK), Same G H → ShA G H vs ds → g ds = some z → (∀ p H', H p = none → Grow G H G H' → Sh G H' (.ref p) z → Q (.ref p) H') → r vs H Q
theorem rd_cl {r : List V → Hp → VK → Prop} {g' : List D → Option D} {t : TA} {fs : M (List Pl)} (hp : PClV r g') (ha : RdPs X.K t fs) : RdV X.K (tCB r t) (mN g' fs) := by
  intro C G σ H ρ Q hK S d ρ' hf q
  obtain ⟨ps, ρ1, h1, hf2⟩ := bnd_ok hf
  refine ha C G σ H ρ _ hK S ps ρ1 h1 fun vs G1 H1 g1 S1 o1 => ?_
  obtain ⟨ds, ρ2, h2, hf3⟩ := bnd_ok hf2
  obtain ⟨s, rfl⟩ := lookAll_ok S1 o1 h2
  obtain ⟨e, rfl⟩ := ofO_ok hf3
  exact hp G1 H1 vs ds d Q S1.gh s e fun v G' H' w rr => q v G' H' (g1.trans w.g) (S1.grow w) rr
theorem rd_clF {r : List V → Hp → VK → Prop} {g' : List D → Option D} {t : TA} {fs : M (List Pl)} (hp : PClF r g') (ha : RdPs X.K t fs) : RdF X.K (tCB r t) (mFr (mN g' fs)) := by
  intro C G σ H ρ Q hK S d ρ' hf q
  obtain ⟨d', ρ0, hf0, h0⟩ := bnd_ok hf
  cases h0
  obtain ⟨ps, ρ1, h1, hf2⟩ := bnd_ok hf0
  refine ha C G σ H ρ _ hK S ps ρ1 h1 fun vs G1 H1 g1 S1 o1 => ?_
  obtain ⟨ds, ρ2, h2, hf3⟩ := bnd_ok hf2
  obtain ⟨s, rfl⟩ := lookAll_ok S1 o1 h2
  obtain ⟨e, rfl⟩ := ofO_ok hf3
  exact hp G1 H1 vs ds d' Q S1.gh s e fun p H' hn w rr => q _ G1 H' g1 (S1.grow w) (fresh_ok S1 hn w rr)
end
end PL
namespace PL
open PySem PySem.Spec L2
inductive Fl where
  | nx | rt (r : Rv) | bk | ct
def endAt (D : Ends) (C : Ctx) (G : Hp) (σ : L2.St) (H : Hp) (ρ : Env) : Fl → Prop
  | .nx => D.nx σ H
  | .bk => D.bk σ H
  | .ct => D.ct σ H
  | .rt r => ∀ v, okR C G σ H ρ v r → D.rt v H
def RdS (K : PySem.W.Frag) (t : TS) (f : M Fl) : Prop := ∀ (C : Ctx) (G : Hp) (σ : L2.St) (H : Hp) (ρ : Env) (D : Ends), C.K = K → StOk C G σ H ρ → ∀ (fl : Fl) (ρ' : Env), f ρ = .ok fl ρ' →
  (∀ (σ' : L2.St) (G' H' : Hp), Same G G' → StOk C G' σ' H' ρ' → endAt D C G' σ' H' ρ' fl) → t D σ H
def RdG (K : PySem.W.Frag) (g : TG) (ts : List Nat) (m : D → M Unit) : Prop := ∀ (C : Ctx) (G : Hp) (σ : L2.St) (H : Hp) (ρ : Env) (v : V) (d : D) (Q : L2.St → Hp → Prop), C.K = K → StOk C G σ H ρ → Rp G v d → ∀ (ρ' : Env), m d ρ = .ok () ρ' →
  (∀ (σ' : L2.St), StOk C G σ' H ρ' → (∀ vs, (∀ i ∈ ts, i ∈ vs) → wipe σ' vs = wipe σ vs) → Q σ' H) → g v σ H Q
def RdGs (K : PySem.W.Frag) (g : TGs) (ts : List Nat) (m : List D → M Unit) : Prop := ∀ (C : Ctx) (G : Hp) (σ : L2.St) (H : Hp) (ρ : Env) (vs : List V) (ds : List D) (Q : L2.St → Hp → Prop), C.K = K → StOk C G σ H ρ → RpA G vs ds → ∀ (ρ' : Env), m ds ρ = .ok () ρ' →
  (∀ (σ' : L2.St), StOk C G σ' H ρ' → (∀ vs, (∀ i ∈ ts, i ∈ vs) → wipe σ' vs = wipe σ vs) → Q σ' H) → g vs σ H Q
structure JOk (J : It) (B G1 : Hp) (ds : List D) : Prop where
  go : ∀ (i : Nat) (G H : Hp), Same B H → Same G1 G → Same G H → i < ds.length → J.go i H
  yld : ∀ (i : Nat) (G H : Hp) (x : V) (H' : Hp) (d : D), Same B H → Same G1 G → Same G H → ds[i]? = some d → J.yld i H x H' → ∃ G', Grow G H G' H' ∧ Rp G' x d
  stop : ∀ (G H : Hp), Same B H → Same G1 G → Same G H → J.stop ds.length H
def RdI (K : PySem.W.Frag) (wi : TI) (f : M (List D)) : Prop := ∀ (C : Ctx) (G : Hp) (σ : L2.St) (H : Hp) (ρ : Env) (R : It → Hp → Prop), C.K = K → StOk C G σ H ρ → ∀ (ds : List D) (ρ' : Env), f ρ = .ok ds ρ' →
  (∀ (J : It) (G' H' : Hp), Same G G' → StOk C G' σ H' ρ' → JOk J C.B G' ds → R J H') → wi σ H R
def PSt (X : Cx) (st : Stmt) (f : M Fl) : Prop := ∃ t, PS X st t ∧ RdS X.K t f
def PSts (X : Cx) (st : List Stmt) (f : M Fl) : Prop := ∃ t, PSs X st t ∧ RdS X.K t f
def PGt (X : Cx) (e : Expr) (ts : List Nat) (m : D → M Unit) : Prop := ∃ g, PG X e g ∧ RdG X.K g ts m
def PGts (X : Cx) (es : List Expr) (ts : List Nat) (m : List D → M Unit) : Prop := ∃ g, PGs X es g ∧ RdGs X.K g ts m
def PIt (X : Cx) (tg e : Expr) (f : M (List D)) : Prop := ∃ wi, PI X tg e wi ∧ RdI X.K wi f
/-! ### the mirror's statements -/
def setS (i : Nat) (s : Sl) : M Unit := fun ρ => if i < ρ.length then .ok () (ρ.set i s) else .stuck
def mSet (i : Nat) (f : M Rv) : M Fl := bnd f fun r => match r with
  | .fr d => bnd (setS i (.own d)) fun _ => ret .nx
  | .pl (.val d) => bnd (setS i (.val d)) fun _ => ret .nx
  | .pl (.slot j) => bnd (mGet j) fun d => bnd (setS i (.val d)) fun _ => ret .nx
def mSeq (a b : M Fl) : M Fl := bnd a fun fl => match fl with
  | .nx => b
  | fl => ret fl
def mSkip : M Fl := ret .nx
def mRet (f : M Rv) : M Fl := bnd f fun r => ret (.rt r)
def mRetN : M Fl := ret (.rt (.pl (.val .none)))
def mDrop {α : Type} (f : M α) : M Fl := bnd f fun _ => ret .nx
def mBrk : M Fl := ret .bk
def mCnt : M Fl := ret .ct
def mNever {α : Type} : M α := fun _ => .stuck
def tName (i : Nat) : D → M Unit := fun d => setS i (.val d)
def tsNil : List D → M Unit
  | [] => ret ()
  | _ => fun _ => .stuck
def tsCons (t : D → M Unit) (u : List D → M Unit) : List D → M Unit
  | d :: ds => bnd (t d) fun _ => u ds
  | _ => fun _ => .stuck
def tTupl (u : List D → M Unit) : D → M Unit
  | .tuple ds => u ds
  | _ => fun _ => .stuck
def mAsg (t : D → M Unit) (f : M D) : M Fl := bnd f fun d => bnd (t d) fun _ => ret .nx
def forGo (t : D → M Unit) (b : M Fl) : List D → M Fl
  | [] => ret .nx
  | d :: ds => bnd (t d) fun _ => bnd b fun fl => match fl with
    | .nx => forGo t b ds
    | .ct => forGo t b ds
    | .bk => ret .nx
    | .rt r => ret (.rt r)
def mFor (f : M (List D)) (t : D → M Unit) (b : M Fl) : M Fl := bnd f fun ds => forGo t b ds
def whGo (c : M Bool) (b : M Fl) : Nat → M Fl
  | 0 => fun _ => .stuck
  | n + 1 => bnd c fun k => if k = true then bnd b fun fl => match fl with
    | .nx => whGo c b n
    | .ct => whGo c b n
    | .bk => ret .nx
    | .rt r => ret (.rt r)
    else ret .nx
def mWhile (n : Env → Nat) (c : M Bool) (b : M Fl) : M Fl := fun ρ => whGo c b (n ρ) ρ
section
variable {C : Ctx} {G H : Hp} {σ : L2.St} {ρ ρ' : Env} {v : V} {p : Pl} {d : D}
theorem setS_ok {i : Nat} {s : Sl} {u : Unit} (h : setS i s ρ = .ok u ρ') : i < ρ.length ∧ ρ' = ρ.set i s := by
  unfold setS at h
  by_cases q : i < ρ.length
  · rw [if_pos q] at h; cases h; exact ⟨q, rfl⟩
  · rw [if_neg q] at h; cases h
/-- a name is given a thing -/
theorem StOk.put (S : StOk C G σ H ρ) {i : Nat} {s : Sl} (hi : i < ρ.length) (h : SlOk C G H i (some v) s) (ho : ownK s = true → ∀ (j : Nat) (a : Addr), v = .ref a → ¬ Own σ ρ j a) : StOk C G (σ.set i (some v)) H (ρ.set i s) := by
  have hs : i < σ.length := by rw [S.len]; exact hi
  have sub : ∀ {m : Nat} {b : Addr}, m ≠ i → Own (σ.set i (some v)) (ρ.set i s) m b → Own σ ρ m b := fun {m b} hm ⟨x, s', y, z⟩ => by
    rw [List.getElem?_set_ne (fun z => hm z.symm)] at x y
    exact ⟨x, s', y, z⟩
  have self : ∀ {b : Addr}, Own (σ.set i (some v)) (ρ.set i s) i b → v = .ref b ∧ ownK s = true := fun {b} ⟨x, s', y, z⟩ => by
    rw [List.getElem?_set_self hs] at x
    rw [List.getElem?_set_self hi] at y
    cases y
    exact ⟨Option.some.inj (Option.some.inj x), z⟩
  refine ⟨S.gh, S.bh, S.g0, S.fr, S.ga, S.wf, by rw [List.length_set, List.length_set]; exact S.len, fun j s' q => ?_, fun j k b hj hk => ?_⟩
  · by_cases hj : j = i
    · subst hj
      rw [List.getElem?_set_self hi] at q
      cases q
      exact ⟨some v, List.getElem?_set_self hs, h⟩
    · rw [List.getElem?_set_ne (fun z => hj z.symm)] at q ⊢
      exact S.sl j s' q
  · by_cases h1 : j = i
    · by_cases h2 : k = i
      · rw [h1, h2]
      · subst h1
        obtain ⟨e, z⟩ := self hj
        exact absurd (sub h2 hk) (ho z k b e)
    · by_cases h2 : k = i
      · subst h2
        obtain ⟨e, z⟩ := self hk
        exact absurd (sub h1 hj) (ho z j b e)
      · exact S.ds j k b (sub h1 hj) (sub h2 hk)
theorem StOk.putV (S : StOk C G σ H ρ) {i : Nat} (hi : i < ρ.length) (h : Rp G v d) : StOk C G (σ.set i (some v)) H (ρ.set i (.val d)) :=
  S.put hi ⟨v, rfl, h⟩ fun z => nomatch z
/-- an own object is changed in place -/
theorem StOk.mut (S : StOk C G σ H ρ) {i : Nat} {a : Addr} {o : HO} {s s' : Sl} (e : ρ[i]? = some s) (k : ownK s = true) (hv : σ[i]? = some (some (.ref a)))
    (h : (∃ d, s = .own d ∧ ∃ d', s' = .own d' ∧ Sh G (upd H a o) (.ref a) d') ∨ ∃ d, s = .io d ∧ ∃ d', s' = .io d' ∧ Sh G (upd H a o) (.ref a) d') : StOk C G σ (upd H a o) (ρ.set i s') := by
  have hi : i < ρ.length := (List.getElem?_eq_some_iff.mp e).1
  have own0 : Own σ ρ i a := ⟨hv, s, e, k⟩
  obtain ⟨tr, ga, ba⟩ := Own.tracked S own0
  have k' : ownK s' = true := by
    rcases h with ⟨_, _, _, rfl, _⟩ | ⟨_, _, _, rfl, _⟩ <;> rfl
  have nb : ∀ {b : Addr} {u : HO}, G b = some u → b ≠ a := fun {b u} q z => by subst z; rw [ga] at q; cases q
  have nbB : ∀ {b : Addr} {u : HO}, C.B b = some u → b ≠ a := fun {b u} q z => by subst z; rw [ba] at q; cases q
  have sub : ∀ {m : Nat} {b : Addr}, Own σ (ρ.set i s') m b → Own σ ρ m b := fun {m b} ⟨x, s2, y, z⟩ => by
    by_cases hm : m = i
    · subst hm
      exact ⟨x, s, e, k⟩
    · rw [List.getElem?_set_ne (fun z => hm z.symm)] at y
      exact ⟨x, s2, y, z⟩
  refine ⟨fun b u q => ?_, fun b u q => ?_, S.g0, fun b q => ?_, S.ga, S.wf, by rw [List.length_set]; exact S.len, fun j s2 q => ?_, fun j k b hj hk => S.ds j k b (sub hj) (sub hk)⟩
  · rw [upd_ne (nb q)]; exact S.gh b u q
  · rw [upd_ne (nbB q)]; exact S.bh b u q
  · by_cases hb : b = a
    · subst hb; rw [upd_same] at q; cases q
    · rw [upd_ne hb] at q; exact S.fr b q
  · by_cases hj : j = i
    · subst hj
      rw [List.getElem?_set_self hi] at q
      cases q
      obtain ⟨oo, e1, q1⟩ := S.sl j s e
      rw [hv] at e1
      cases e1
      refine ⟨_, hv, ?_⟩
      rcases h with ⟨d, rfl, d', rfl, sh⟩ | ⟨d, rfl, d', rfl, sh⟩
      · obtain ⟨b, e3, _, x, y, z⟩ := q1
        cases e3
        exact ⟨_, rfl, sh, x, y, z⟩
      · obtain ⟨b, e3, _, x, y⟩ := q1
        cases e3
        exact ⟨_, rfl, sh, x, y⟩
    · rw [List.getElem?_set_ne (fun z => hj z.symm)] at q
      obtain ⟨oo, e1, q1⟩ := S.sl j s2 q
      refine ⟨oo, e1, ?_⟩
      have far : ∀ {b : Addr}, oo = some (.ref b) → ownK s2 = true → b ≠ a := fun {b} e2 k2 z => by
        subst z; subst e2
        exact hj (S.ds j i _ ⟨e1, s2, q, k2⟩ own0)
      cases s2 with
      | un => trivial
      | val d' => exact q1
      | own d' =>
        obtain ⟨b, e3, r, x, y, z⟩ := q1
        refine ⟨b, e3, r.at (Same.refl _) fun c ec u hu => ?_, x, y, z⟩
        cases ec
        rw [upd_ne (far e3 rfl)]; exact hu
      | io d' =>
        obtain ⟨b, e3, r, x, y⟩ := q1
        refine ⟨b, e3, r.at (Same.refl _) fun c ec u hu => ?_, x, y⟩
        cases ec
        rw [upd_ne (far e3 rfl)]; exact hu
      | bor d' => exact q1
      | scr ns => exact q1
end
/-! ### statements -/
section
variable {X : Cx} {e a b c : Expr} {es : List Expr} {pos pos' : Pos} {f fa fb : M D} {g ga gb : M Pl} {k : M Rv} {st : Stmt} {sts us : List Stmt} {m m1 m2 : M Fl} {x : Str}
theorem psts_nil : PSts X [] mSkip := ⟨_, pss_nil, fun C G σ H ρ D hK S fl ρ' hf q => by cases hf; exact q σ G H (Same.refl _) S⟩
theorem psts_one (h : PSt X st m) : PSts X [st] m := let ⟨t, h, r⟩ := h; ⟨t, pss_one h, r⟩
theorem psts_cons (h : PSt X st m1) (h2 : PSts X sts m2) : PSts X (st :: sts) (mSeq m1 m2) := by
  obtain ⟨t, h, r⟩ := h
  obtain ⟨u, h2, r2⟩ := h2
  refine ⟨_, pss_cons h h2, fun C G σ H ρ D hK S fl ρ' hf q => ?_⟩
  obtain ⟨f1, ρ1, h1, hf2⟩ := bnd_ok hf
  refine r C G σ H ρ _ hK S f1 ρ1 h1 fun σ1 G1 H1 g1 S1 => ?_
  cases f1 with
  | nx => exact r2 C G1 σ1 H1 ρ1 D hK S1 fl ρ' hf2 fun σ2 G2 H2 g2 S2 => q σ2 G2 H2 (g1.trans g2) S2
  | rt w => cases hf2; exact q σ1 G1 H1 g1 S1
  | bk => cases hf2; exact q σ1 G1 H1 g1 S1
  | ct => cases hf2; exact q σ1 G1 H1 g1 S1
theorem pst_pass : PSt X (.Pass pos) mSkip := ⟨_, ps_pass, fun C G σ H ρ D hK S fl ρ' hf q => by cases hf; exact q σ G H (Same.refl _) S⟩
theorem pst_break : PSt X (.Break pos) mBrk := ⟨_, ps_break, fun C G σ H ρ D hK S fl ρ' hf q => by cases hf; exact q σ G H (Same.refl _) S⟩
theorem pst_continue : PSt X (.Continue pos) mCnt := ⟨_, ps_continue, fun C G σ H ρ D hK S fl ρ' hf q => by cases hf; exact q σ G H (Same.refl _) S⟩
theorem pst_never : PSt X st mNever := ⟨_, ps_never, fun C G σ H ρ D hK S fl ρ' hf q => by cases hf⟩
theorem pst_ret (h : PF X e k) : PSt X (.Return (some e) pos) (mRet k) := by
  obtain ⟨t, h, r⟩ := h
  refine ⟨_, ps_ret h, fun C G σ H ρ D hK S fl ρ' hf q => ?_⟩
  obtain ⟨w, ρ1, h1, hf2⟩ := bnd_ok hf
  cases hf2
  exact r C G σ H ρ _ hK S w _ h1 fun v G1 H1 g1 S1 o => q σ G1 H1 g1 S1 v o
theorem pst_retN : PSt X (.Return none pos) mRetN := ⟨_, ps_retN, fun C G σ H ρ D hK S fl ρ' hf q => by
  cases hf
  exact q σ G H (Same.refl _) S .non .non⟩
theorem pst_drop (h : PV X e f) (hs : swapsWith e none pos.line X.env = pure false := by rfl) : PSt X (.Expr e pos) (mDrop f) := by
  obtain ⟨t, h, r⟩ := h
  refine ⟨_, ps_expr h hs, fun C G σ H ρ D hK S fl ρ' hf q => ?_⟩
  obtain ⟨w, ρ1, h1, hf2⟩ := bnd_ok hf
  cases hf2
  exact r C G σ H ρ _ hK S w _ h1 fun v G1 H1 g1 S1 o => q σ G1 H1 g1 S1
theorem pst_if (hc : PTt X c mc) (ha : PSts X sts m1) (hb : PSts X us m2) : PSt X (.If c sts us pos) (mIf mc m1 m2) := by
  obtain ⟨t, hc, rc⟩ := hc
  obtain ⟨u, ha, ra⟩ := ha
  obtain ⟨w, hb, rb⟩ := hb
  refine ⟨_, ps_if hc ha hb, fun C G σ H ρ D hK S fl ρ' hf q => ?_⟩
  obtain ⟨k, ρ1, h1, hf2⟩ := bnd_ok hf
  refine rc C G σ H ρ _ hK S k ρ1 h1 fun G1 H1 g1 S1 => ?_
  cases k with
  | true => rw [if_pos rfl]; exact ra C G1 σ H1 ρ1 D hK S1 fl ρ' hf2 fun σ2 G2 H2 g2 S2 => q σ2 G2 H2 (g1.trans g2) S2
  | false => rw [if_neg Bool.false_ne_true]; exact rb C G1 σ H1 ρ1 D hK S1 fl ρ' hf2 fun σ2 G2 H2 g2 S2 => q σ2 G2 H2 (g1.trans g2) S2
/-- x = e -/
theorem rd_set {t : TE} {i : Nat} (r : RdF X.K t k) : RdS X.K (tAsg t (gName i)) (mSet i k) := by
  intro C G σ H ρ D hK S fl ρ' hf q
  obtain ⟨w, ρ1, h1, hf2⟩ := bnd_ok hf
  refine r C G σ H ρ _ hK S w ρ1 h1 fun v G1 H1 g1 S1 o => ?_
  show D.nx (σ.set i (some v)) H1
  cases w with
  | fr d =>
    obtain ⟨u, ρ2, h2, hf3⟩ := bnd_ok hf2
    cases hf3
    obtain ⟨hi, rfl⟩ := setS_ok h2
    obtain ⟨a, rfl, sh, x, y, z, no⟩ := o
    exact q _ G1 H1 g1 (S1.put hi ⟨a, rfl, sh, x, y, z⟩ fun _ j b eb ow => by cases eb; exact no j ow)
  | pl p =>
    cases p with
    | val d =>
      obtain ⟨u, ρ2, h2, hf3⟩ := bnd_ok hf2
      cases hf3
      obtain ⟨hi, rfl⟩ := setS_ok h2
      exact q _ G1 H1 g1 (S1.putV hi o)
    | slot j =>
      obtain ⟨d, ρ2, h2, hf3⟩ := bnd_ok hf2
      obtain ⟨u, ρ3, h3, hf4⟩ := bnd_ok hf3
      cases hf4
      obtain ⟨hi, rfl⟩ := setS_ok h3
      obtain ⟨G2, g2, S2, r2⟩ := mGet_ok S1 (show σ[j]? = some (some v) from o) h2
      exact q _ G2 H1 (g1.trans g2) (S2.putV hi r2)
theorem pst_set {i : Nat} (hN : X.N.Nodup) (h : PF X e k) (hi : X.N[i]? = some x := by rfl) (hx : Loc X.env.scope x := by first | exact Or.inl rfl | exact Or.inr rfl) (hs : swapsWith e (some (.Name x pos')) pos.line X.env = pure false := by rfl)
    (hf : X.fn x = true ∨ X.env.scope.names.lookup x = some .local := by first | exact .inl rfl | exact .inr rfl | assumption) : PSt X (.Assign [.Name x pos'] e pos) (mSet i k) := by
  obtain ⟨t, h, r⟩ := h
  exact ⟨_, ps_set hN hi hx h hs hf, rd_set r⟩
/-! ### targets -/
theorem wipe_set {i : Nat} {o : Option V} : ∀ {vs : List Nat} {σ : L2.St}, i ∈ vs → wipe (σ.set i o) vs = wipe σ vs
  | [], _, h => by cases h
  | v :: vs, σ, h => by
    show (wipe (σ.set i o) vs).set v none = (wipe σ vs).set v none
    by_cases hv : i ∈ vs
    · rw [wipe_set hv]
    · have e : i = v := by
        cases h with
        | head => rfl
        | tail _ h => exact absurd h hv
      subst e
      have k : ∀ {ws : List Nat} {τ : L2.St}, i ∉ ws → wipe (τ.set i o) ws = (wipe τ ws).set i o := by
        intro ws
        induction ws with
        | nil => intro τ _; rfl
        | cons w ws ih =>
          intro τ hn
          show (wipe (τ.set i o) ws).set w none = ((wipe τ ws).set w none).set i o
          rw [ih (fun z => hn (List.mem_cons_of_mem _ z)), List.set_comm _ _ (fun z => hn (by rw [z]; exact List.mem_cons_self))]
      rw [k hv, List.set_set]
theorem pgt_name {i : Nat} (hN : X.N.Nodup) (hi : X.N[i]? = some x := by rfl) (hx : Loc X.env.scope x := by first | exact Or.inl rfl | exact Or.inr rfl) (hf : X.fn x = true ∨ X.env.scope.names.lookup x = some .local := by first | exact .inl rfl | exact .inr rfl | assumption) : PGt X (.Name x pos) [i] (tName i) :=
  ⟨_, pg_name hN hi hx hf, fun C G σ H ρ v d Q hK S rr ρ' hm q => by
    obtain ⟨hi, rfl⟩ := setS_ok hm
    exact q _ (S.putV hi rr) fun vs hv => wipe_set (hv i List.mem_cons_self)⟩
theorem pgts_nil : PGts X [] [] tsNil := ⟨_, pgs_nil, fun C G σ H ρ vs ds Q hK S rr ρ' hm q => by
  cases rr with
  | nil => cases hm; exact ⟨rfl, q σ S fun _ _ => rfl⟩
  | cons => cases hm⟩
theorem pgts_cons {t : D → M Unit} {u : List D → M Unit} {ts us : List Nat} (h : PGt X e ts t) (h2 : PGts X es us u) (hs : (assignEach (e :: es) X.env).map (·.2) = assign e X.env :: (assignEach es X.env).map (·.2) := by rfl) : PGts X (e :: es) (ts ++ us) (tsCons t u) := by
  obtain ⟨g, h, r⟩ := h
  obtain ⟨g2, h2, r2⟩ := h2
  refine ⟨_, pgs_cons h h2 hs, fun C G σ H ρ vs ds Q hK S rr ρ' hm q => ?_⟩
  cases rr with
  | nil => cases hm
  | @cons v vs d ds hv hr =>
    obtain ⟨uu, ρ1, h1, hm2⟩ := bnd_ok hm
    exact ⟨v, vs, rfl, r C G σ H ρ v d _ hK S hv ρ1 h1 fun σ1 S1 w1 => r2 C G σ1 H ρ1 vs ds Q hK S1 hr ρ' hm2 fun σ2 S2 w2 => q σ2 S2 fun ws hw => (w2 ws fun i hi => hw i (List.mem_append_right _ hi)).trans (w1 ws fun i hi => hw i (List.mem_append_left _ hi))⟩
end
end PL
namespace PL
open PySem PySem.Spec L2
def isOwn (j : Nat) : M Unit := fun ρ => match ρ[j]? with
  | some (.own _) => .ok () ρ
  | some (.io _) => .ok () ρ
  | _ => .stuck
def setAt (j : Nat) (d k : D) : M Fl := fun ρ => match ρ[j]? with
  | some (.own (.list ds)) => match k with
    | .int n => match ixN ds.length n with
      | some i => .ok .nx (ρ.set j (.own (.list (ds.set i d))))
      | none => .stuck
    | _ => .stuck
  | some (.io (.list ds)) => match k with
    | .int n => match ixN ds.length n with
      | some i => .ok .nx (ρ.set j (.io (.list (ds.set i d))))
      | none => .stuck
    | _ => .stuck
  | _ => .stuck
def mSetIx (j : Nat) (fe fi : M D) : M Fl := bnd fe fun d => bnd (isOwn j) fun _ => bnd fi fun k => setAt j d k
theorem isOwn_ok {C : Ctx} {G H : Hp} {σ : L2.St} {ρ ρ' : Env} {j : Nat} {u : Unit} (S : StOk C G σ H ρ) (h : isOwn j ρ = .ok u ρ') : ∃ a, σ[j]? = some (some (.ref a)) ∧ ρ' = ρ := by
  unfold isOwn at h
  cases q : ρ[j]? with
  | none => rw [q] at h; cases h
  | some s =>
    rw [q] at h
    obtain ⟨o, e1, q1⟩ := S.sl j s q
    cases s with
    | own d => cases h; obtain ⟨a, rfl, _⟩ := q1; exact ⟨a, e1, rfl⟩
    | io d => cases h; obtain ⟨a, rfl, _⟩ := q1; exact ⟨a, e1, rfl⟩
    | _ => cases h
theorem setAt_ok {j : Nat} {d : D} {n : Int} {ρ ρ' : Env} {fl : Fl} (h : setAt j d (.int n) ρ = .ok fl ρ') : ∃ s ds i, ρ[j]? = some s ∧ ((s = .own (.list ds) ∧ ρ' = ρ.set j (.own (.list (ds.set i d)))) ∨ (s = .io (.list ds) ∧ ρ' = ρ.set j (.io (.list (ds.set i d))))) ∧ ixN ds.length n = some i ∧ fl = .nx ∧ True := by
  unfold setAt at h
  cases q : ρ[j]? with
  | none => rw [q] at h; cases h
  | some s =>
    rw [q] at h
    cases s with
    | own d' =>
      cases d' with
      | list ds =>
        simp only at h
        cases r : ixN ds.length n with
        | none => rw [r] at h; cases h
        | some i => rw [r] at h; cases h; exact ⟨_, ds, i, rfl, .inl ⟨rfl, rfl⟩, r, rfl, trivial⟩
      | _ => cases h
    | io d' =>
      cases d' with
      | list ds =>
        simp only at h
        cases r : ixN ds.length n with
        | none => rw [r] at h; cases h
        | some i => rw [r] at h; cases h; exact ⟨_, ds, i, rfl, .inr ⟨rfl, rfl⟩, r, rfl, trivial⟩
      | _ => cases h
    | _ => cases h
theorem setAt_int {j : Nat} {d k : D} {ρ ρ' : Env} {fl : Fl} (h : setAt j d k ρ = .ok fl ρ') (hk : ∀ n, k ≠ .int n := by intro n z; cases z) : False := by
  unfold setAt at h
  cases q : ρ[j]? with
  | none => rw [q] at h; cases h
  | some s =>
    rw [q] at h
    cases s with
    | own d' =>
      cases d' with
      | list ds => cases k with
        | int n => exact hk n rfl
        | _ => cases h
      | _ => cases h
    | io d' =>
      cases d' with
      | list ds => cases k with
        | int n => exact hk n rfl
        | _ => cases h
      | _ => cases h
    | _ => cases h
/-- a method that changes the list at a name -/
def mutAt (j : Nat) (g : List D → List D → Option (List D × D)) (as : List D) : M D := fun ρ => match ρ[j]? with
  | some (.own (.list ds)) => match g ds as with
    | some nr => .ok nr.2 (ρ.set j (.own (.list nr.1)))
    | none => .stuck
  | some (.io (.list ds)) => match g ds as with
    | some nr => .ok nr.2 (ρ.set j (.io (.list nr.1)))
    | none => .stuck
  | _ => .stuck
def isOwnL (j : Nat) : M Unit := fun ρ => match ρ[j]? with
  | some (.own (.list _)) => .ok () ρ
  | some (.io (.list _)) => .ok () ρ
  | _ => .stuck
def mMut (j : Nat) (g : List D → List D → Option (List D × D)) (fs : M (List D)) : M D := bnd (isOwnL j) fun _ => bnd fs fun as => mutAt j g as
theorem isOwnL_ok {C : Ctx} {G H : Hp} {σ : L2.St} {ρ ρ' : Env} {j : Nat} {u : Unit} (S : StOk C G σ H ρ) (h : isOwnL j ρ = .ok u ρ') : ∃ a xs, σ[j]? = some (some (.ref a)) ∧ H a = some (.lst xs) ∧ ρ' = ρ := by
  unfold isOwnL at h
  cases q : ρ[j]? with
  | none => rw [q] at h; cases h
  | some s =>
    rw [q] at h
    obtain ⟨o, e1, q1⟩ := S.sl j s q
    cases s with
    | own d => cases d with
      | list ds => cases h; obtain ⟨a, rfl, sh, _⟩ := q1; cases sh with
        | lst hh r => exact ⟨a, _, e1, hh, rfl⟩
      | _ => cases h
    | io d => cases d with
      | list ds => cases h; obtain ⟨a, rfl, sh, _⟩ := q1; cases sh with
        | lst hh r => exact ⟨a, _, e1, hh, rfl⟩
      | _ => cases h
    | _ => cases h
theorem mutAt_ok {j : Nat} {g : List D → List D → Option (List D × D)} {as : List D} {ρ ρ' : Env} {z : D} (h : mutAt j g as ρ = .ok z ρ') : ∃ s ds new, ρ[j]? = some s ∧ g ds as = some (new, z) ∧ ((s = .own (.list ds) ∧ ρ' = ρ.set j (.own (.list new))) ∨ (s = .io (.list ds) ∧ ρ' = ρ.set j (.io (.list new)))) := by
  unfold mutAt at h
  cases q : ρ[j]? with
  | none => rw [q] at h; cases h
  | some s =>
    rw [q] at h
    cases s with
    | own d' =>
      cases d' with
      | list ds =>
        simp only at h
        cases r : g ds as with
        | none => rw [r] at h; cases h
        | some nr => rw [r] at h; cases h; exact ⟨_, ds, nr.1, rfl, r, .inl ⟨rfl, rfl⟩⟩
      | _ => cases h
    | io d' =>
      cases d' with
      | list ds =>
        simp only at h
        cases r : g ds as with
        | none => rw [r] at h; cases h
        | some nr => rw [r] at h; cases h; exact ⟨_, ds, nr.1, rfl, r, .inr ⟨rfl, rfl⟩⟩
      | _ => cases h
    | _ => cases h
def mAug (i : Nat) (g : D → D → Option D) (fb : M Pl) : M Fl := bnd (mVar i) fun p => bnd fb fun q => bnd (look p) fun d => bnd (look q) fun e => bnd (ofO (g d e)) fun z => bnd (setS i (.val z)) fun _ => ret .nx
/-- while a loop goes over the list at j, it is but borrowed -/
def mLend (j : Nat) (f : M Fl) : M Fl := fun ρ => match ρ[j]? with
  | some (.own d) => match f (ρ.set j (.bor d)) with
    | .ok fl ρ' => match ρ'[j]? with
      | some (.bor d') => match fl with
        | .rt (.pl (.slot i)) => if i = j then .stuck else .ok fl (ρ'.set j (.own d))
        | fl => .ok fl (ρ'.set j (.own d))
      | _ => .stuck
    | .stuck => .stuck
  | _ => f ρ
section
variable {X : Cx} {e a b c tg : Expr} {es : List Expr} {pos pos' tpos : Pos} {f fa fb : M D} {g ga gb : M Pl} {k : M Rv} {st : Stmt} {sts us : List Stmt} {m m1 m2 : M Fl} {x : Str}
theorem pgt_tup {n : Nat} {kk : Nat} {u : List D → M Unit} {ts : List Nat} (hc : X.calm = true) (h : PGts X es ts u) (hn : (assignEach es X.env).length = n := by rfl) (hl : ∀ ds ρ ρ', u ds ρ = .ok () ρ' → ds.length = n)
    (hst : (assignEach es X.env).findIdx? (·.1) = none := by rfl) : PGt X (.Tuple es kk pos) ts (tTupl u) := by
  obtain ⟨g, h, r⟩ := h
  refine ⟨_, pg_tup hc h hn hst, fun C G σ H ρ v d Q hK S rr ρ' hm q => ?_⟩
  cases rr with
  | @tup a xs ds ha hr => exact ⟨a, xs, rfl, Or.inl (Or.inl (S.gh _ _ ha)), by rw [hr.length]; exact hl ds ρ ρ' hm, r C G σ H ρ xs ds Q hK S hr ρ' hm q⟩
  | _ => cases hm
theorem pst_asg {t : D → M Unit} {ts : List Nat} (h : PV X e f) (ht : PGt X tg ts t) (hs : swapsWithSole [tg] e pos.line X.env = pure false := by rfl) (hw : swappedStores [tg] e X.env = pure none := by rfl) (h1 : (assignEach [tg] X.env).map (·.2) = [assign tg X.env] := by rfl) : PSt X (.Assign [tg] e pos) (mAsg t f) := by
  obtain ⟨te, h, r⟩ := h
  obtain ⟨g, hg, rg⟩ := ht
  refine ⟨_, ps_asg h hg hs hw h1, fun C G σ H ρ D hK S fl ρ' hf q => ?_⟩
  obtain ⟨d, ρ1, h1, hf2⟩ := bnd_ok hf
  obtain ⟨uu, ρ2, h2, hf3⟩ := bnd_ok hf2
  cases hf3
  refine r C G σ H ρ _ hK S d ρ1 h1 fun v G1 H1 g1 S1 o => ?_
  exact rg C G1 σ H1 ρ1 v d _ hK S1 o _ h2 fun σ2 S2 _ => q σ2 G1 H1 g1 S2
/-! ### for -/
theorem forGo_rd {wi : TI} {gt : TG} {tb : TS} {fi : M (List D)} {t : D → M Unit} {ts : List Nat} {mb : M Fl} (hi : RdI X.K wi fi) (hg : RdG X.K gt ts t) (hb : RdS X.K tb mb) : RdS X.K (tFor wi gt tb) (mFor fi t mb) := by
  intro C G σ H ρ D hK S fl ρ' hf q
  obtain ⟨ds, ρ1, h1, hf2⟩ := bnd_ok hf
  refine hi C G σ H ρ _ hK S ds ρ1 h1 fun J G1 H1 g1 S1 JJ => ?_
  refine ⟨fun i mm σ2 H2 => i + mm = ds.length ∧ ∃ G2 ρ2, Same G1 G2 ∧ StOk C G2 σ2 H2 ρ2 ∧ forGo t mb (ds.drop i) ρ2 = .ok fl ρ', ⟨ds.length, by omega, G1, ρ1, Same.refl _, S1, by simpa using hf2⟩, fun i mm σ2 H2 ⟨hm, G2, ρ2, g2, S2, h2⟩ => ?_⟩
  by_cases hlt : i < ds.length
  · refine .inr ⟨JJ.go i G2 H2 S2.bh g2 S2.gh hlt, fun σ3 H3 => ∃ G3 ρ3, Same G1 G3 ∧ StOk C G3 σ3 H3 ρ3 ∧ forGo t mb (ds.drop (i + 1)) ρ3 = .ok fl ρ', fun σ3 H3 ⟨G3, ρ3, g3, S3, h3⟩ => ⟨mm - 1, by omega, by omega, G3, ρ3, g3, S3, h3⟩, fun y H3 hy => ?_⟩
    have ed : ds[i]? = some ds[i] := List.getElem?_eq_getElem hlt
    obtain ⟨G3, w, ry⟩ := JJ.yld i G2 H2 y H3 _ S2.bh g2 S2.gh ed hy
    have S3 := S2.grow w
    rw [List.drop_eq_getElem_cons hlt] at h2
    obtain ⟨uu, ρ3, h3, h4⟩ := bnd_ok h2
    obtain ⟨f1, ρ4, h5, h6⟩ := bnd_ok h4
    refine hg C G3 σ2 H3 ρ2 y _ _ hK S3 ry ρ3 h3 fun σ4 S4 _ => ?_
    refine hb C G3 σ4 H3 ρ3 _ hK S4 f1 ρ4 h5 fun σ5 G5 H5 g5 S5 => ?_
    have gg : Same G1 G5 := (g2.trans w.g).trans g5
    cases f1 with
    | nx => exact ⟨G5, ρ4, gg, S5, h6⟩
    | ct => exact ⟨G5, ρ4, gg, S5, h6⟩
    | bk => cases h6; exact q σ5 G5 H5 (g1.trans gg) S5
    | rt r => cases h6; exact q σ5 G5 H5 (g1.trans gg) S5
  · have hi : i = ds.length := by omega
    rw [List.drop_eq_nil_of_le (by omega)] at h2
    cases h2
    refine .inl ⟨?_, q σ2 G2 H2 (g1.trans g2) S2⟩
    rw [hi]
    exact JJ.stop G2 H2 S2.bh g2 S2.gh
theorem pst_for {fi : M (List D)} {t : D → M Unit} {ts : List Nat} (hp : PassesOwn (model X.prog X.w) X.A X.env X.xe) (hc : X.calm = true) (hi : PIt X tg e fi) (hg : PGt X tg ts t) (hb : PSts X sts m)
    (hs : ∀ x, foldedSetIterable e X.env x = pure x := by intro _; rfl) : PSt X (.For tg e sts [] pos) (mFor fi t m) := by
  obtain ⟨wi, hi, ri⟩ := hi
  obtain ⟨gt, hg, rg⟩ := hg
  obtain ⟨tb, hb, rb⟩ := hb
  exact ⟨_, ps_for hp hc hi hg hb hs, forGo_rd ri rg rb⟩
/-! ### while -/
theorem pst_while {mc : M Bool} (n : Env → Nat) (hp : PassesOwn (model X.prog X.w) X.A X.env X.xe) (hc : PTt X c mc) (hb : PSts X sts m) : PSt X (.While c sts [] pos) (mWhile n mc m) := by
  obtain ⟨tc, hc, rc⟩ := hc
  obtain ⟨tb, hb, rb⟩ := hb
  refine ⟨_, ps_while hp hc hb, fun C G σ H ρ D hK S fl ρ' hf q => ?_⟩
  refine ⟨fun mm σ2 H2 => ∃ G2 ρ2, Same G G2 ∧ StOk C G2 σ2 H2 ρ2 ∧ whGo mc m mm ρ2 = .ok fl ρ', ⟨n ρ, G, ρ, Same.refl _, S, hf⟩, fun mm σ2 H2 ⟨G2, ρ2, g2, S2, h2⟩ => ?_⟩
  cases mm with
  | zero => cases h2
  | succ mm =>
    obtain ⟨kk, ρ3, h3, h4⟩ := bnd_ok h2
    refine rc C G2 σ2 H2 ρ2 _ hK S2 kk ρ3 h3 fun G3 H3 g3 S3 => ?_
    cases kk with
    | false =>
      rw [if_neg Bool.false_ne_true]
      cases h4
      exact q σ2 G3 H3 (g2.trans g3) S3
    | true =>
      rw [if_pos rfl]
      refine ⟨fun σ5 H5 => ∃ G5 ρ5, Same G G5 ∧ StOk C G5 σ5 H5 ρ5 ∧ whGo mc m mm ρ5 = .ok fl ρ', fun σ5 H5 z => ⟨mm, by omega, z⟩, ?_⟩
      obtain ⟨f1, ρ4, h5, h6⟩ := bnd_ok h4
      refine rb C G3 σ2 H3 ρ3 _ hK S3 f1 ρ4 h5 fun σ5 G5 H5 g5 S5 => ?_
      have gg : Same G G5 := (g2.trans g3).trans g5
      cases f1 with
      | nx => exact ⟨G5, ρ4, gg, S5, h6⟩
      | ct => exact ⟨G5, ρ4, gg, S5, h6⟩
      | bk => cases h6; exact q σ5 G5 H5 gg S5
      | rt r => cases h6; exact q σ5 G5 H5 gg S5
/-! ### lists changed in place -/
theorem pst_setix {j : Nat} (he : PV X e f) (hi : PV X b fb) (hN : X.N[j]? = some x := by rfl) (hv : Vis X.env.scope x := by first | exact Or.inl rfl | exact Or.inr (Or.inl rfl) | exact Or.inr (Or.inr rfl)) (hd : (x == ("__debug__" : Str)) = false := by decide)
    (hcd : (x == ("__classdict__" : Str)) = false := by decide) (ha : ∀ v, assign (.Subscript (.Name x pos') b tpos) X.env v = (do
      let ov ← holding [v] (eval (.Name x pos') X.env)
      let iv ← holding [v, ov] (eval b X.env)
      standAt tpos
      holding [v, ov, iv] (setItem ov iv v)
      release [v, ov, iv] []) := by intro _; rfl) (hs : swapsWithSole [.Subscript (.Name x pos') b tpos] e pos.line X.env = pure false := by rfl) (hw : swappedStores [.Subscript (.Name x pos') b tpos] e X.env = pure none := by rfl) :
    PSt X (.Assign [.Subscript (.Name x pos') b tpos] e pos) (mSetIx j f fb) := by
  obtain ⟨te, he, re⟩ := he
  obtain ⟨ti, hi, ri⟩ := hi
  refine ⟨_, ps_asg he (pg_sub (pe_var hN hv hd hcd) hi set_list ha) hs hw, fun C G σ H ρ D hK S fl ρ' hf q => ?_⟩
  obtain ⟨d, ρ1, h1, hf2⟩ := bnd_ok hf
  obtain ⟨_, ρ0, h0, hf3⟩ := bnd_ok hf2
  obtain ⟨kd, ρ2, h2, hf4⟩ := bnd_ok hf3
  refine re C G σ H ρ _ hK S d ρ1 h1 fun v G1 H1 g1 S1 o1 => ?_
  obtain ⟨a, ea, rfl⟩ := isOwn_ok S1 h0
  refine ⟨.ref a, ea, ?_⟩
  refine ri C G1 σ H1 _ _ hK S1 kd ρ2 h2 fun v2 G2 H2 g2 S2 o2 => ?_
  cases o2 with
  | int n =>
    obtain ⟨s, ds, i, es, hsd, hix, hfl, hρ⟩ := setAt_ok hf4
    cases hfl
    obtain ⟨o, e1, q1⟩ := S2.sl j s es
    rw [ea] at e1
    cases e1
    have fin : ∀ xs, H2 a = some (.lst xs) → RpA G2 xs ds → rSetL (.ref a) (.int n) v H2 (fun H3 => D.nx σ H3) := fun xs hx hr => by
      refine ⟨a, xs, n, i, rfl, rfl, hx, by rw [hr.length]; exact hix, ?_⟩
      have sh : Sh G2 (upd H2 a (.lst (xs.set i v))) (.ref a) (.list (ds.set i d)) := .lst upd_same (hr.set (o1.mono g2) i)
      rcases hsd with ⟨rfl, rfl⟩ | ⟨rfl, rfl⟩
      · exact q σ G2 _ (g1.trans g2) (S2.mut es rfl ea (.inl ⟨_, rfl, _, rfl, sh⟩))
      · exact q σ G2 _ (g1.trans g2) (S2.mut es rfl ea (.inr ⟨_, rfl, _, rfl, sh⟩))
    rcases hsd with ⟨rfl, _⟩ | ⟨rfl, _⟩
    · obtain ⟨b, eb, sh, _⟩ := q1
      cases eb
      cases sh with
      | lst h r => exact fin _ h r
    · obtain ⟨b, eb, sh, _⟩ := q1
      cases eb
      cases sh with
      | lst h r => exact fin _ h r
  | _ => exact (setAt_int hf4).elim
/-- a method that changes a list -/
def PMut (r : V → List V → Hp → VK → Prop) (g : List D → List D → Option (List D × D)) : Prop := ∀ (G H : Hp) (l : Addr) (vs : List V) (ds : List D) (as : List V) (ads : List D) (new : List D) (z : D) (Q : VK),
  Same G H → H l = some (.lst vs) → RpA G vs ds → RpA G as ads → g ds ads = some (new, z) → (∀ v ws, RpA G ws new → Rp G v z → Q v (upd H l (.lst ws))) → r (.ref l) as H Q
theorem rd_mut {r : V → List V → Hp → VK → Prop} {g' : List D → List D → Option (List D × D)} {t : TA} {fs : M (List D)} {j : Nat} (hp : PMut r g') (ha : RdA X.K t fs) : RdV X.K (tBM X.K "list" r (tVar j) t) (mMut j g' fs) := by
  intro C G σ H ρ Q hK S z ρ' hf q
  obtain ⟨_, ρ0, h0, hf2⟩ := bnd_ok hf
  obtain ⟨ads, ρ1, h1, hf3⟩ := bnd_ok hf2
  obtain ⟨a, xs0, ea, hx0, rfl⟩ := isOwnL_ok S h0
  refine ⟨.ref a, ea, Or.inl ⟨rfl, xs0, Or.inl (Or.inl hx0)⟩, ?_⟩
  refine ha C G σ H _ _ hK S ads ρ1 h1 fun as G1 H1 g1 S1 o1 => ?_
  obtain ⟨s, ds, new, es, hg, hsd⟩ := mutAt_ok hf3
  obtain ⟨o, e1, q1⟩ := S1.sl j s es
  rw [ea] at e1
  cases e1
  have fin : ∀ xs, H1 a = some (.lst xs) → RpA G1 xs ds → r (.ref a) as H1 Q := fun xs hx hr => by
    refine hp G1 H1 a xs ds as ads new z Q S1.gh hx hr o1 hg fun v ws rw1 rz => ?_
    have sh : Sh G1 (upd H1 a (.lst ws)) (.ref a) (.list new) := .lst upd_same rw1
    rcases hsd with ⟨rfl, rfl⟩ | ⟨rfl, rfl⟩
    · exact q v G1 _ g1 (S1.mut es rfl ea (.inl ⟨_, rfl, _, rfl, sh⟩)) rz
    · exact q v G1 _ g1 (S1.mut es rfl ea (.inr ⟨_, rfl, _, rfl, sh⟩)) rz
  rcases hsd with ⟨rfl, _⟩ | ⟨rfl, _⟩
  · obtain ⟨b, eb, sh, _⟩ := q1
    cases eb
    cases sh with
    | lst h r => exact fin _ h r
  · obtain ⟨b, eb, sh, _⟩ := q1
    cases eb
    cases sh with
    | lst h r => exact fin _ h r
/-- x op= e -/
theorem pst_aug {op : Operator} {ti : TIp} {i : Nat} {g' : D → D → Option D} (ho : PIp X op ti) (hp : POpV ti g') (hN : X.N.Nodup) (h : PP X e g) (hi : X.N[i]? = some x := by rfl) (hx : Loc X.env.scope x := by first | exact Or.inl rfl | exact Or.inr rfl)
    (hf : X.fn x = true ∨ X.env.scope.names.lookup x = some .local := by first | exact .inl rfl | exact .inr rfl | assumption) : PSt X (.AugAssign (.Name x pos') op e pos) (mAug i g' g) := by
  obtain ⟨te, h, r⟩ := h
  refine ⟨_, ps_aug hN hi hx h ho hf, fun C G σ H ρ D hK S fl ρ' hf q => ?_⟩
  obtain ⟨p, ρ1, h1, hf2⟩ := bnd_ok hf
  obtain ⟨p2, ρ2, h2, hf3⟩ := bnd_ok hf2
  have hv : ∃ v, σ[i]? = some (some v) ∧ okP G σ v p ∧ ρ1 = ρ := by
    unfold mVar at h1
    cases rr : ρ[i]? with
    | none => rw [rr] at h1; cases h1
    | some s =>
      rw [rr] at h1
      obtain ⟨o, e1, kk⟩ := S.sl i s rr
      cases s with
      | un => cases h1
      | val d' => cases h1; obtain ⟨v, rfl, rx⟩ := kk; exact ⟨v, e1, rx, rfl⟩
      | own d' => cases h1; obtain ⟨a, rfl, _⟩ := kk; exact ⟨_, e1, e1, rfl⟩
      | io d' => cases h1; obtain ⟨a, rfl, _⟩ := kk; exact ⟨_, e1, e1, rfl⟩
      | bor d' => cases h1; obtain ⟨v, rfl, _⟩ := kk; exact ⟨_, e1, e1, rfl⟩
      | scr ns => cases h1; obtain ⟨v, rfl, _⟩ := kk; exact ⟨_, e1, e1, rfl⟩
  obtain ⟨v, ev, o1, rfl⟩ := hv
  refine ⟨v, ev, ?_⟩
  refine r C G σ H _ _ hK S p2 ρ2 h2 fun v2 G2 H2 g2 S2 o2 => ?_
  obtain ⟨d1, ρ3, h3, hf4⟩ := bnd_ok hf3
  obtain ⟨s1, rfl⟩ := look_ok S2 (o1.mono g2) h3
  obtain ⟨d2, ρ4, h4, hf5⟩ := bnd_ok hf4
  obtain ⟨s2, rfl⟩ := look_ok S2 o2 h4
  obtain ⟨z, ρ5, h5, hf6⟩ := bnd_ok hf5
  obtain ⟨ez, rfl⟩ := ofO_ok h5
  obtain ⟨uu, ρ6, h6, hf7⟩ := bnd_ok hf6
  cases hf7
  obtain ⟨hi', rfl⟩ := setS_ok h6
  exact hp G2 H2 v v2 d1 d2 z _ S2.gh s1 s2 ez fun v3 G3 H3 w rz => q _ G3 H3 (g2.trans w.g) ((S2.grow w).putV hi' rz)
end
end PL
namespace PL
open PySem PySem.Spec L2 RT RZ
/-! ### what is gone through -/
def itemsD : D → Option (Bool × List D)
  | .list ds => some (false, ds)
  | .tuple ds => some (true, ds)
  | _ => none
def seqAt (p : Pl) : M (Bool × List D) := fun ρ => match p with
  | .val d => match itemsD d with
    | some ds => .ok ds ρ
    | none => .stuck
  | .slot i => match ρ[i]? with
    | some (.bor d) => match itemsD d with
      | some ds => .ok ds ρ
      | none => .stuck
    | some (.scr ns) => .ok (false, ns.map PyData.int) ρ
    | _ => .stuck
def mIter (f : M Pl) : M (List D) := bnd f fun p => bnd (seqAt p) fun ds => ret ds.2
def mRev (f : M (List D)) : M (List D) := bnd f fun ds => ret ds.reverse
def mEnum (f : M (List D)) : M (List D) := bnd f fun ds => ret (ds.zipIdx.map fun (d, i) => .tuple [.int (i : Int), d])
def mZip (f g : M Pl) : M (List D) := bnd f fun p => bnd g fun q => bnd (seqAt p) fun ds => bnd (seqAt q) fun es => if (ds.1 == es.1) = true then ret ((ds.2.zip es.2).map fun (d, e) => .tuple [d, e]) else fun _ => .stuck
def rngD (lo hi : Int) : List D := (List.range (hi - lo).toNat).map fun (i : Nat) => .int (lo + (i : Int))
def small62 (i : Int) : Bool := decide (-(2 ^ 62) ≤ i) && decide (i < 2 ^ 62)
def mRng1 (f : M D) : M (List D) := bnd f fun d => fun ρ => match d with
  | .int n => if small62 n = true then .ok (rngD 0 n) ρ else .stuck
  | _ => .stuck
def mRng2 (f g : M D) : M (List D) := bnd f fun d => bnd g fun e => fun ρ => match d, e with
  | .int a, .int b => if (small62 a && small62 b) = true then .ok (rngD a b) ρ else .stuck
  | _, _ => .stuck
/-- a list or a tuple that stays through all that the state lets be -/
def SeqS (K : PySem.W.Frag) (B G1 : Hp) (v : V) (ds : Bool × List D) : Prop :=
  ∃ a xs, v = .ref a ∧ RpA G1 xs ds.2 ∧ ((ds.1 = false ∧ ∀ G H, Same B H → Same G1 G → Same G H → SqL K H a xs) ∨ (ds.1 = true ∧ ∀ G H, Same B H → Same G1 G → Same G H → SqT K H a xs))
theorem sqT_seq {K : PySem.W.Frag} {H H' : Hp} {a : Addr} {xs : List V} (e : Same H H') (h : SqT K H a xs) : SqT K H' a xs := by
  rcases h with (h | ⟨o, h⟩) | h
  · exact .inl (.inl (e _ _ h))
  · exact .inl (.inr ⟨o, e _ _ h⟩)
  · exact .inr h
theorem seqAt_ok {C : Ctx} {G H : Hp} {σ : L2.St} {ρ ρ' : Env} {v : V} {p : Pl} {ds : Bool × List D} (S : StOk C G σ H ρ) (o : okP G σ v p) (h : seqAt p ρ = .ok ds ρ') : SeqS C.K C.B G v ds ∧ ρ' = ρ := by
  unfold seqAt at h
  cases p with
  | val d =>
    simp only at h
    cases q : itemsD d with
    | none => rw [q] at h; cases h
    | some es =>
      rw [q] at h
      cases h
      refine ⟨?_, rfl⟩
      have o' : Rp G v d := o
      cases o' with
      | lst ha r => cases q; exact ⟨_, _, rfl, r, .inl ⟨rfl, fun G2 H2 _ g gh => .inl (.inl (gh _ _ (g _ _ ha)))⟩⟩
      | tup ha r => cases q; exact ⟨_, _, rfl, r, .inr ⟨rfl, fun G2 H2 _ g gh => .inl (.inl (gh _ _ (g _ _ ha)))⟩⟩
      | _ => cases q
  | slot i =>
    simp only at h
    have hv : σ[i]? = some (some v) := o
    cases r : ρ[i]? with
    | none => rw [r] at h; cases h
    | some s =>
      rw [r] at h
      cases s with
      | bor d =>
        simp only at h
        cases q : itemsD d with
        | none => rw [q] at h; cases h
        | some es =>
          rw [q] at h
          cases h
          refine ⟨?_, rfl⟩
          obtain ⟨_, z, p1, p2⟩ := S.get r hv
          cases z
          have w := S.wf i v p1
          rw [p2] at w
          have w' : Sh C.G0 C.B v d := w
          cases w' with
          | lst ha rr => cases q; exact ⟨_, _, rfl, rr.mono S.g0, .inl ⟨rfl, fun G2 H2 b g gh => .inl (.inl (b _ _ ha))⟩⟩
          | tup ha rr => cases q; exact ⟨_, _, rfl, rr.mono S.g0, .inr ⟨rfl, fun G2 H2 b g gh => .inl (.inl (b _ _ ha))⟩⟩
          | _ => cases q
      | scr ns =>
        cases h
        refine ⟨?_, rfl⟩
        obtain ⟨_, z, p1, p2⟩ := S.get r hv
        cases z
        have w := S.wf i v p1
        rw [p2] at w
        obtain ⟨a, e, sq⟩ := w
        exact ⟨a, _, e, RpA.ints ns, .inl ⟨rfl, fun G2 H2 b g gh => Same.seq b sq⟩⟩
      | _ => cases h
theorem SeqS.mono {K : PySem.W.Frag} {B G1 G2 : Hp} {v : V} {ds : Bool × List D} (e : Same G1 G2) (h : SeqS K B G1 v ds) : SeqS K B G2 v ds := by
  obtain ⟨a, xs, ev, r, q⟩ := h
  exact ⟨a, xs, ev, r.mono e, q.elim (fun z => .inl ⟨z.1, fun G H b g gh => z.2 G H b (e.trans g) gh⟩) fun z => .inr ⟨z.1, fun G H b g gh => z.2 G H b (e.trans g) gh⟩⟩
section
variable {K : PySem.W.Frag} {B G1 : Hp} {a b : Addr} {xs ys : List V} {ds es : List D}
theorem JOk.list (st : ∀ G H, Same B H → Same G1 G → Same G H → SqL K H a xs) (r : RpA G1 xs ds) : JOk (Itl K a) B G1 ds where
  go := fun i G H b g gh hi => by
    obtain ⟨v, hv, _⟩ := r.get (List.getElem?_eq_getElem hi)
    exact ⟨xs, v, st G H b g gh, hv⟩
  yld := fun i G H x H' d b g gh hd hy => by
    obtain ⟨rfl, f⟩ := hy
    obtain ⟨v, hv, rv⟩ := r.get hd
    have e := f xs (st G _ b g gh)
    rw [hv] at e; cases e
    exact ⟨G, Grow.refl gh, rv.mono g⟩
  stop := fun G H b g gh => ⟨xs, st G H b g gh, by rw [r.length]; exact Nat.le_refl _⟩
theorem JOk.tup (st : ∀ G H, Same B H → Same G1 G → Same G H → SqT K H a xs) (r : RpA G1 xs ds) : JOk (Itt K a) B G1 ds where
  go := fun i G H b g gh hi => by
    obtain ⟨v, hv, _⟩ := r.get (List.getElem?_eq_getElem hi)
    exact ⟨xs, v, st G H b g gh, hv⟩
  yld := fun i G H x H' d b g gh hd hy => by
    obtain ⟨rfl, f⟩ := hy
    obtain ⟨v, hv, rv⟩ := r.get hd
    have e := f xs (st G _ b g gh)
    rw [hv] at e; cases e
    exact ⟨G, Grow.refl gh, rv.mono g⟩
  stop := fun G H b g gh => ⟨xs, st G H b g gh, by rw [r.length]; exact Nat.le_refl _⟩
theorem rev_get {α : Type} {l : List α} {i : Nat} {x : α} (h : l.reverse[i]? = some x) : l[l.length - 1 - i]? = some x := by
  have hi : i < l.reverse.length := (List.getElem?_eq_some_iff.mp h).1
  rw [List.length_reverse] at hi
  rw [List.getElem?_reverse hi] at h
  exact h
theorem JOk.revL (st : ∀ G H, Same B H → Same G1 G → Same G H → SqL K H a xs) (r : RpA G1 xs ds) : JOk (Itv K a xs.length) B G1 ds.reverse where
  go := fun i G H b g gh hi => by
    rw [List.length_reverse] at hi
    have hi' : i < xs.length := by rw [r.length]; exact hi
    exact ⟨hi', xs, xs[xs.length - 1 - i]'(by omega), st G H b g gh, List.getElem?_eq_getElem _⟩
  yld := fun i G H x H' d b g gh hd hy => by
    obtain ⟨rfl, f⟩ := hy
    obtain ⟨v, hv, rv⟩ := r.get (rev_get hd)
    have e := f xs (st G _ b g gh)
    rw [r.length, hv] at e; cases e
    exact ⟨G, Grow.refl gh, rv.mono g⟩
  stop := fun G H b g gh => by
    show xs.length ≤ ds.reverse.length
    rw [List.length_reverse, r.length]; exact Nat.le_refl _
theorem JOk.revT (st : ∀ G H, Same B H → Same G1 G → Same G H → SqT K H a xs) (r : RpA G1 xs ds) : JOk (ItvT K a xs.length) B G1 ds.reverse where
  go := fun i G H b g gh hi => by
    rw [List.length_reverse] at hi
    have hi' : i < xs.length := by rw [r.length]; exact hi
    exact ⟨hi', xs, xs[xs.length - 1 - i]'(by omega), st G H b g gh, List.getElem?_eq_getElem _⟩
  yld := fun i G H x H' d b g gh hd hy => by
    obtain ⟨rfl, f⟩ := hy
    obtain ⟨v, hv, rv⟩ := r.get (rev_get hd)
    have e := f xs (st G _ b g gh)
    rw [r.length, hv] at e; cases e
    exact ⟨G, Grow.refl gh, rv.mono g⟩
  stop := fun G H b g gh => by
    show xs.length ≤ ds.reverse.length
    rw [List.length_reverse, r.length]; exact Nat.le_refl _
theorem JOk.enum (st : ∀ G H, Same B H → Same G1 G → Same G H → SqL K H a xs) (r : RpA G1 xs ds) : JOk (Ite K a) B G1 (ds.zipIdx.map fun (d, i) => PyData.tuple [.int (i : Int), d]) where
  go := fun i G H b g gh hi => by
    simp only [List.length_map, List.length_zipIdx] at hi
    obtain ⟨v, hv, _⟩ := r.get (List.getElem?_eq_getElem hi)
    exact ⟨xs, v, st G H b g gh, hv⟩
  yld := fun i G H x H' d b g gh hd hy => by
    obtain ⟨T, x', rfl, hT, rfl, f⟩ := hy
    rw [List.getElem?_map] at hd
    cases q : ds.zipIdx[i]? with
    | none => rw [q] at hd; cases hd
    | some p =>
      rw [q] at hd
      cases hd
      rw [List.getElem?_zipIdx] at q
      cases q2 : ds[i]? with
      | none => rw [q2] at q; cases q
      | some d0 =>
        rw [q2] at q
        cases q
        obtain ⟨v, hv, rv⟩ := r.get q2
        have e := f xs (st G _ b g gh)
        rw [hv] at e; cases e
        have w := Grow.new (o := .tup [.int ((i : Nat) : Int), x']) gh hT
        refine ⟨_, w, .tup upd_same (.cons ?_ (.one (rv.mono (g.trans w.g))))⟩
        simp only [Nat.zero_add]
        exact .int _
  stop := fun G H b g gh => ⟨xs, st G H b g gh, by simp only [List.length_map, List.length_zipIdx]; rw [r.length]; exact Nat.le_refl _⟩
theorem JOk.zipL (s1 : ∀ G H, Same B H → Same G1 G → Same G H → SqL K H a xs) (r1 : RpA G1 xs ds) (s2 : ∀ G H, Same B H → Same G1 G → Same G H → SqL K H b ys) (r2 : RpA G1 ys es) : JOk (Itz K a b) B G1 ((ds.zip es).map fun (d, e) => PyData.tuple [d, e]) where
  go := fun i G H b g gh hi => by
    simp only [List.length_map, List.length_zip] at hi
    obtain ⟨v, hv, _⟩ := r1.get (List.getElem?_eq_getElem (show i < ds.length by omega))
    obtain ⟨u, hu, _⟩ := r2.get (List.getElem?_eq_getElem (show i < es.length by omega))
    exact ⟨xs, ys, v, u, s1 G H b g gh, s2 G H b g gh, hv, hu⟩
  yld := fun i G H x H' d b g gh hd hy => by
    obtain ⟨T, x', y', rfl, hT, rfl, f1, f2⟩ := hy
    rw [List.getElem?_map] at hd
    cases q : (ds.zip es)[i]? with
    | none => rw [q] at hd; cases hd
    | some p =>
      rw [q] at hd
      cases hd
      obtain ⟨q1, q2⟩ := List.getElem?_zip_eq_some.mp q
      obtain ⟨v, hv, rv⟩ := r1.get q1
      obtain ⟨u, hu, ru⟩ := r2.get q2
      have e1 := f1 xs (s1 G _ b g gh)
      rw [hv] at e1; cases e1
      have e2 := f2 ys (s2 G _ b g gh)
      rw [hu] at e2; cases e2
      have w := Grow.new (o := .tup [x', y']) gh hT
      exact ⟨_, w, .tup upd_same (.cons (rv.mono (g.trans w.g)) (.one (ru.mono (g.trans w.g))))⟩
  stop := fun G H b g gh => ⟨xs, ys, s1 G H b g gh, s2 G H b g gh, by simp only [List.length_map, List.length_zip]; rw [r1.length, r2.length]; omega⟩
theorem JOk.zipT (s1 : ∀ G H, Same B H → Same G1 G → Same G H → SqT K H a xs) (r1 : RpA G1 xs ds) (s2 : ∀ G H, Same B H → Same G1 G → Same G H → SqT K H b ys) (r2 : RpA G1 ys es) : JOk (ItzT K a b) B G1 ((ds.zip es).map fun (d, e) => PyData.tuple [d, e]) where
  go := fun i G H b g gh hi => by
    simp only [List.length_map, List.length_zip] at hi
    obtain ⟨v, hv, _⟩ := r1.get (List.getElem?_eq_getElem (show i < ds.length by omega))
    obtain ⟨u, hu, _⟩ := r2.get (List.getElem?_eq_getElem (show i < es.length by omega))
    exact ⟨xs, ys, v, u, s1 G H b g gh, s2 G H b g gh, hv, hu⟩
  yld := fun i G H x H' d b g gh hd hy => by
    obtain ⟨T, x', y', rfl, hT, rfl, f1, f2⟩ := hy
    rw [List.getElem?_map] at hd
    cases q : (ds.zip es)[i]? with
    | none => rw [q] at hd; cases hd
    | some p =>
      rw [q] at hd
      cases hd
      obtain ⟨q1, q2⟩ := List.getElem?_zip_eq_some.mp q
      obtain ⟨v, hv, rv⟩ := r1.get q1
      obtain ⟨u, hu, ru⟩ := r2.get q2
      have e1 := f1 xs (s1 G _ b g gh)
      rw [hv] at e1; cases e1
      have e2 := f2 ys (s2 G _ b g gh)
      rw [hu] at e2; cases e2
      have w := Grow.new (o := .tup [x', y']) gh hT
      exact ⟨_, w, .tup upd_same (.cons (rv.mono (g.trans w.g)) (.one (ru.mono (g.trans w.g))))⟩
  stop := fun G H b g gh => ⟨xs, ys, s1 G H b g gh, s2 G H b g gh, by simp only [List.length_map, List.length_zip]; rw [r1.length, r2.length]; omega⟩
theorem rngD_len (lo hi : Int) : (rngD lo hi).length = (hi - lo).toNat := by unfold rngD; rw [List.length_map, List.length_range]
theorem rngD_get {lo hi : Int} {i : Nat} {d : D} (h : (rngD lo hi)[i]? = some d) : d = .int (lo + (i : Int)) := by
  unfold rngD at h
  rw [List.getElem?_map] at h
  cases q : (List.range (hi - lo).toNat)[i]? with
  | none => rw [q] at h; cases h
  | some k =>
    rw [q] at h
    cases h
    have := (List.getElem?_eq_some_iff.mp q)
    obtain ⟨h1, h2⟩ := this
    rw [List.getElem_range] at h2
    rw [h2]
theorem JOk.rng {lo hi : Int} : JOk (Itr lo (hi - lo).toNat) B G1 (rngD lo hi) where
  go := fun i G H b g gh h => by rw [rngD_len] at h; exact h
  yld := fun i G H x H' d b g gh hd hy => by
    obtain ⟨rfl, rfl⟩ := hy
    rw [rngD_get hd]
    exact ⟨G, Grow.refl gh, .int _⟩
  stop := fun G H b g gh => by
    show (hi - lo).toNat ≤ (rngD lo hi).length
    rw [rngD_len]; exact Nat.le_refl _
end
section
variable {X : Cx} {e a b c tg : Expr} {es : List Expr} {pos pos' tpos p : Pos} {f fa fb : M D} {g ga gb : M Pl} {k : M Rv} {st : Stmt} {sts us : List Stmt} {m m1 m2 : M Fl} {x : Str}
def iSeq (K : PySem.W.Frag) (tl : TE) : TI := fun σ H R => tl σ H fun x H1 => ∃ a, x = .ref a ∧ ((∃ xs, SqL K H1 a xs ∧ R (Itl K a) H1) ∨ (∃ xs, SqT K H1 a xs ∧ R (Itt K a) H1))
theorem pi_seq {l : Expr} {tl : TE} (hl : PE X l tl) : PI X tg l (iSeq X.K tl) := by
  constructor
  intro pins s σ H R I h
  refine thn (hl.run pins s σ H _ I h) ?_
  rintro v s1 ⟨x, H1, I1, r1, a, rfl, q1⟩
  cases (show v = Value.ref a from r1)
  have hfp : ∀ b ∈ [s1.heap.objs.size], FpOk X pins H1 b := by
    intro b hb
    rw [List.mem_singleton.mp hb]
    exact I1.fpOk (Nat.le_refl _) (I1.hok.fresh (Nat.le_refl _))
  rcases q1 with ⟨xs, hq, q⟩ | ⟨xs, hq, q⟩
  · obtain ⟨its, rv, pp, hz⟩ := I1.list hq
    exact wpAny_pyIter_list pp.isList ⟨_, _, _, _, H1, rfl, I1.kept (t' := s1.toks) fun b o e => Heap.get?_push_of_some _ e, turn_list a _, ⟨_, Heap.get?_push_size _ rfl, rfl, rfl⟩, hfp, q⟩
  · obtain ⟨its, rv, pp, hz⟩ := I1.tuple hq
    exact wpAny_pyIter_tuple (show s1.heap.IsTuple a its.toArray from pp) ⟨_, _, _, _, H1, rfl, I1.kept (t' := s1.toks) fun b o e => Heap.get?_push_of_some _ e, turn_tuple a _, ⟨_, Heap.get?_push_size _ rfl, rfl, rfl⟩, hfp, q⟩
theorem pit_seq (h : PP X e g) : PIt X tg e (mIter g) := by
  obtain ⟨t, h, r⟩ := h
  refine ⟨_, pi_seq h, fun C G σ H ρ R hK S ds ρ' hf q => ?_⟩
  obtain ⟨pl, ρ1, h1, h2⟩ := bnd_ok hf
  obtain ⟨kd, ρ2, h3, h4⟩ := bnd_ok h2
  cases h4
  refine r C G σ H ρ _ hK S pl ρ1 h1 fun v G1 H1 g1 S1 o => ?_
  obtain ⟨⟨a, xs, rfl, rr, z⟩, rfl⟩ := seqAt_ok S1 o h3
  rw [hK] at z
  refine ⟨a, rfl, ?_⟩
  rcases z with ⟨_, z⟩ | ⟨_, z⟩
  · exact .inl ⟨xs, z G1 H1 S1.bh (Same.refl _) S1.gh, q _ G1 H1 g1 S1 (JOk.list z rr)⟩
  · exact .inr ⟨xs, z G1 H1 S1.bh (Same.refl _) S1.gh, q _ G1 H1 g1 S1 (JOk.tup z rr)⟩
theorem pit_rev (hg : Gl X "reversed") (hm : X.mg "reversed" = none) (h : PP X e g) (hs : starEach [e] X.env = (false, eval e X.env) :: starEach [] X.env := by rfl) : PIt X tg (.Call (.Name "reversed" p) [e] [] pos) (mRev (mIter g)) := by
  obtain ⟨t, h, r⟩ := h
  refine ⟨_, pi_revA hg hm h hs, fun C G σ H ρ R hK S ds ρ' hf q => ?_⟩
  obtain ⟨ds0, ρ0, hf0, h0⟩ := bnd_ok hf
  cases h0
  obtain ⟨pl, ρ1, h1, h2⟩ := bnd_ok hf0
  obtain ⟨kd, ρ2, h3, h4⟩ := bnd_ok h2
  cases h4
  refine r C G σ H ρ _ hK S pl ρ1 h1 fun v G1 H1 g1 S1 o => ?_
  obtain ⟨⟨a, xs, rfl, rr, z⟩, rfl⟩ := seqAt_ok S1 o h3
  rw [hK] at z
  refine ⟨a, xs, rfl, ?_⟩
  rcases z with ⟨_, z⟩ | ⟨_, z⟩
  · exact .inl ⟨z G1 H1 S1.bh (Same.refl _) S1.gh, q _ G1 H1 g1 S1 (JOk.revL z rr)⟩
  · exact .inr ⟨z G1 H1 S1.bh (Same.refl _) S1.gh, q _ G1 H1 g1 S1 (JOk.revT z rr)⟩
theorem pit_rng1 (hg : Gl X "range") (hm : X.mg "range" = none) (h : PV X a fa) (hs : starEach [a] X.env = [(false, eval a X.env)] := by rfl) : PIt X tg (.Call (.Name "range" p) [a] [] pos) (mRng1 fa) := by
  obtain ⟨t, h, r⟩ := h
  refine ⟨_, pi_range1 hg hm (pa_cons h pa_nil hs) hs, fun C G σ H ρ R hK S ds ρ' hf q => ?_⟩
  obtain ⟨d, ρ1, h1, hf2⟩ := bnd_ok hf
  refine r C G σ H ρ _ hK S d ρ1 h1 fun v G1 H1 g1 S1 o => ?_
  cases o with
  | int n =>
    by_cases hn : small62 n = true
    · simp only [hn, if_true] at hf2
      cases hf2
      simp only [small62, Bool.and_eq_true, decide_eq_true_eq] at hn
      refine ⟨n, rfl, hn.1, hn.2, ?_⟩
      have := JOk.rng (B := C.B) (G1 := G1) (lo := 0) (hi := n)
      rw [Int.sub_zero] at this
      exact q _ G1 H1 g1 S1 this
    · simp only [hn, if_false] at hf2
      cases hf2
  | _ => cases hf2
theorem pit_rng2 (hg : Gl X "range") (hm : X.mg "range" = none) (h : PV X a fa) (h2 : PV X b fb) (hs : starEach [a, b] X.env = [(false, eval a X.env), (false, eval b X.env)] := by rfl) (hs2 : starEach [b] X.env = [(false, eval b X.env)] := by rfl) (hs3 : starEach [a, b] X.env = (false, eval a X.env) :: starEach [b] X.env := by rfl) :
    PIt X tg (.Call (.Name "range" p) [a, b] [] pos) (mRng2 fa fb) := by
  obtain ⟨t, h, r⟩ := h
  obtain ⟨u, h2, r2⟩ := h2
  refine ⟨_, pi_range2 hg hm (pa_cons h (pa_cons h2 pa_nil hs2) hs3) hs hs2, fun C G σ H ρ R hK S ds ρ' hf q => ?_⟩
  obtain ⟨d, ρ1, h1, hf2⟩ := bnd_ok hf
  obtain ⟨d2, ρ2, h3, hf3⟩ := bnd_ok hf2
  refine r C G σ H ρ _ hK S d ρ1 h1 fun v G1 H1 g1 S1 o => ?_
  refine r2 C G1 σ H1 ρ1 _ hK S1 d2 ρ2 h3 fun v2 G2 H2 g2 S2 o2 => ?_
  cases o with
  | int n =>
    cases o2 with
    | int n2 =>
      by_cases hn : (small62 n && small62 n2) = true
      · simp only [hn, if_true] at hf3
        cases hf3
        simp only [small62, Bool.and_eq_true, decide_eq_true_eq] at hn
        exact ⟨n, n2, rfl, ⟨hn.1.1, hn.1.2, hn.2.1, hn.2.2⟩, q _ G2 H2 (g1.trans g2) S2 JOk.rng⟩
      · simp only [hn, if_false] at hf3
        cases hf3
    | _ => cases hf3
  | _ => cases hf3
theorem pit_zip {elts : List Expr} {kk : Nat} (hg : Gl X "zip") (hm : X.mg "zip" = none) (h : PP X a ga) (h2 : PP X b gb)
    (hs : starEach [a, b] X.env = (false, eval a X.env) :: starEach [b] X.env := by rfl) (hs2 : starEach [b] X.env = (false, eval b X.env) :: starEach [] X.env := by rfl) (hpl : (backTo pos (starEach [b] X.env)).any (·.1) = false := by rfl) :
    PIt X (.Tuple elts kk tpos) (.Call (.Name "zip" p) [a, b] [] pos) (mZip ga gb) := by
  obtain ⟨t, h, r⟩ := h
  obtain ⟨u, h2, r2⟩ := h2
  refine ⟨_, pi_zipA hg hm (pa_cons h (pa_cons h2 pa_nil hs2) hs) hs hpl, fun C G σ H ρ R hK S ds ρ' hf q => ?_⟩
  obtain ⟨p1, ρ1, h3, hf2⟩ := bnd_ok hf
  obtain ⟨p2, ρ2, h4, hf3⟩ := bnd_ok hf2
  obtain ⟨d1, ρ3, h5, hf4⟩ := bnd_ok hf3
  obtain ⟨d2, ρ4, h6, hf5⟩ := bnd_ok hf4
  by_cases hk : (d1.1 == d2.1) = true
  · simp only [hk, if_true] at hf5
    cases hf5
    refine r C G σ H ρ _ hK S p1 ρ1 h3 fun v G1 H1 g1 S1 o => ?_
    refine r2 C G1 σ H1 ρ1 _ hK S1 p2 ρ2 h4 fun v2 G2 H2 g2 S2 o2 => ?_
    obtain ⟨⟨a1, xs, rfl, rr, z⟩, rfl⟩ := seqAt_ok S2 (o.mono g2) h5
    obtain ⟨⟨a2, ys, rfl, rr2, z2⟩, rfl⟩ := seqAt_ok S2 o2 h6
    rw [hK] at z z2
    have hk' : d1.1 = d2.1 := eq_of_beq hk
    refine ⟨a1, a2, xs, ys, rfl, ?_⟩
    rcases z with ⟨k1, z⟩ | ⟨k1, z⟩
    · rcases z2 with ⟨k2, z2⟩ | ⟨k2, z2⟩
      · exact .inl ⟨z G2 H2 S2.bh (Same.refl _) S2.gh, z2 G2 H2 S2.bh (Same.refl _) S2.gh, q _ G2 H2 (g1.trans g2) S2 (JOk.zipL z rr z2 rr2)⟩
      · rw [k1, k2] at hk'; cases hk'
    · rcases z2 with ⟨k2, z2⟩ | ⟨k2, z2⟩
      · rw [k1, k2] at hk'; cases hk'
      · exact .inr ⟨z G2 H2 S2.bh (Same.refl _) S2.gh, z2 G2 H2 S2.bh (Same.refl _) S2.gh, q _ G2 H2 (g1.trans g2) S2 (JOk.zipT z rr z2 rr2)⟩
  · simp only [hk] at hf5
    cases hf5
end
end PL
namespace PL
open PySem PySem.Spec L2 RT RZ
/-! ### one reading for all that a mirror is of -/
def TV (K : PySem.W.Frag) (f : M D) : TE := fun σ H Q => ∃ (C : Ctx) (G : Hp) (ρ : Env) (d : D) (ρ' : Env), C.K = K ∧ StOk C G σ H ρ ∧ f ρ = .ok d ρ' ∧ ∀ (v : V) (G' H' : Hp), Same G G' → StOk C G' σ H' ρ' → Rp G' v d → Q v H'
def TTv (K : PySem.W.Frag) (f : M Bool) : TT := fun σ H Q => ∃ (C : Ctx) (G : Hp) (ρ : Env) (d : Bool) (ρ' : Env), C.K = K ∧ StOk C G σ H ρ ∧ f ρ = .ok d ρ' ∧ ∀ (G' H' : Hp), Same G G' → StOk C G' σ H' ρ' → Q d H'
def TGv (K : PySem.W.Frag) (ts : List Nat) (m : D → M Unit) : TG := fun v σ H Q => ∃ (C : Ctx) (G : Hp) (ρ : Env) (d : D) (ρ' : Env), C.K = K ∧ StOk C G σ H ρ ∧ Rp G v d ∧ m d ρ = .ok () ρ' ∧ ∀ (σ' : L2.St), StOk C G σ' H ρ' → (∀ vs, (∀ i ∈ ts, i ∈ vs) → wipe σ' vs = wipe σ vs) → Q σ' H
theorem pv_uni {X : Cx} {e : Expr} {f : M D} (h : PV X e f) : PE X e (TV X.K f) := by
  obtain ⟨t, h, r⟩ := h
  exact ⟨fun pins s σ H Q I ⟨C, G, ρ, d, ρ', hK, S, hf, q⟩ => h.run pins s σ H Q I (r C G σ H ρ Q hK S d ρ' hf q)⟩
theorem pt_uni {X : Cx} {e : Expr} {f : M Bool} (h : PTt X e f) : PT X e (TTv X.K f) := by
  obtain ⟨t, h, r⟩ := h
  exact ⟨fun pins s σ H Q I ⟨C, G, ρ, d, ρ', hK, S, hf, q⟩ => h.run pins s σ H Q I (r C G σ H ρ Q hK S d ρ' hf q)⟩
theorem pg_uni {X : Cx} {e : Expr} {ts : List Nat} {m : D → M Unit} (h : PGt X e ts m) : PG X e (TGv X.K ts m) := by
  obtain ⟨t, h, r⟩ := h
  exact ⟨fun pins s σ H v u Q I rv ⟨C, G, ρ, d, ρ', hK, S, rr, hm, q⟩ => h.run pins s σ H v u Q I rv (r C G σ H ρ v d Q hK S rr ρ' hm q)⟩
/-! ### comprehensions -/
def wipeE (ρ : Env) : List Nat → Env
  | [] => ρ
  | v :: vs => (wipeE ρ vs).set v .un
def keepS : Sl → Sl
  | .own _ => .un
  | .io _ => .un
  | s => s
def restE (ρ1 : Env) (ρ2 : Env) : List Nat → Env
  | [] => ρ2
  | v :: vs => (restE ρ1 ρ2 vs).set v (keepS (ρ1.getD v .un))
def lcGo (t : D → M Unit) (vs : List Nat) (c : M Bool) (fe : M D) : List D → List D → M (List D)
  | acc, [] => ret acc
  | acc, d :: ds => bnd (t d) fun _ => bnd c fun k => if k = true then bnd fe fun y => if acc.length < 100000 then fun ρ => lcGo t vs c fe (acc ++ [y]) ds (wipeE ρ vs) else fun _ => .stuck
    else fun ρ => lcGo t vs c fe acc ds (wipeE ρ vs)
def mLc (fi : M (List D)) (t : D → M Unit) (vs : List Nat) (c : M Bool) (fe : M D) : M Rv := bnd fi fun ds => fun ρ1 => match lcGo t vs c fe [] ds (wipeE ρ1 vs) with
  | .ok acc ρ2 => .ok (.fr (.list acc)) (restE ρ1 ρ2 vs)
  | .stuck => .stuck
def mYes : M Bool := ret true
section
variable {C : Ctx} {G H : Hp} {σ : L2.St} {ρ ρ' : Env} {v : V} {p : Pl} {d : D}
theorem StOk.putN (S : StOk C G σ H ρ) (i : Nat) : StOk C G (σ.set i none) H (ρ.set i .un) := by
  have sub : ∀ {m : Nat} {b : Addr}, Own (σ.set i none) (ρ.set i .un) m b → Own σ ρ m b := fun {m b} ⟨x, s', y, z⟩ => by
    by_cases hm : m = i
    · subst hm
      have hl : m < (σ.set m none).length := (List.getElem?_eq_some_iff.mp x).1
      rw [List.length_set] at hl
      rw [List.getElem?_set_self hl] at x
      cases x
    · rw [List.getElem?_set_ne (fun z => hm z.symm)] at x y
      exact ⟨x, s', y, z⟩
  refine ⟨S.gh, S.bh, S.g0, S.fr, S.ga, S.wf, by rw [List.length_set, List.length_set]; exact S.len, fun j s' q => ?_, fun j k b hj hk => S.ds j k b (sub hj) (sub hk)⟩
  by_cases hj : j = i
  · subst hj
    have hl : j < (ρ.set j .un).length := (List.getElem?_eq_some_iff.mp q).1
    rw [List.length_set] at hl
    rw [List.getElem?_set_self hl] at q
    cases q
    exact ⟨none, List.getElem?_set_self (by rw [S.len]; exact hl), trivial⟩
  · rw [List.getElem?_set_ne (fun z => hj z.symm)] at q ⊢
    exact S.sl j s' q
theorem StOk.wipe (S : StOk C G σ H ρ) : ∀ vs : List Nat, StOk C G (L2.wipe σ vs) H (wipeE ρ vs)
  | [] => S
  | v :: vs => (StOk.wipe S vs).putN v
theorem wipe_get {i : Nat} : ∀ {vs : List Nat} {σ : L2.St}, i ∉ vs → (L2.wipe σ vs)[i]? = σ[i]?
  | [], _, _ => rfl
  | v :: vs, σ, h => by
    show ((L2.wipe σ vs).set v none)[i]? = σ[i]?
    rw [List.getElem?_set_ne (fun z => h (by rw [z]; exact List.mem_cons_self)), wipe_get fun z => h (List.mem_cons_of_mem _ z)]
theorem wipe_sub {vs : List Nat} {σ : L2.St} : ∀ {ws : List Nat}, (∀ i ∈ ws, i ∈ vs) → L2.wipe (L2.wipe σ ws) vs = L2.wipe σ vs
  | [], _ => rfl
  | w :: ws, h => by
    show L2.wipe ((L2.wipe σ ws).set w none) vs = L2.wipe σ vs
    rw [wipe_set (h w List.mem_cons_self), wipe_sub fun i hi => h i (List.mem_cons_of_mem _ hi)]
theorem wipe_wipe {vs : List Nat} {σ : L2.St} : L2.wipe (L2.wipe σ vs) vs = L2.wipe σ vs := wipe_sub fun _ h => h
theorem restE_len (ρ1 ρ2 : Env) : ∀ vs : List Nat, (restE ρ1 ρ2 vs).length = ρ2.length
  | [] => rfl
  | v :: vs => by unfold restE; rw [List.length_set, restE_len ρ1 ρ2 vs]
theorem restE_out {ρ1 ρ2 : Env} {i : Nat} : ∀ {vs : List Nat}, i ∉ vs → (restE ρ1 ρ2 vs)[i]? = ρ2[i]?
  | [], _ => rfl
  | v :: vs, h => by
    show ((restE ρ1 ρ2 vs).set v _)[i]? = ρ2[i]?
    rw [List.getElem?_set_ne (fun z => h (by rw [z]; exact List.mem_cons_self)), restE_out fun z => h (List.mem_cons_of_mem _ z)]
theorem restE_in {ρ1 ρ2 : Env} {i : Nat} {s : Sl} : ∀ {vs : List Nat}, i ∈ vs → (restE ρ1 ρ2 vs)[i]? = some s → s = keepS (ρ1.getD i .un)
  | v :: vs, h, e => by
    have e' : ((restE ρ1 ρ2 vs).set v (keepS (ρ1.getD v .un)))[i]? = some s := e
    by_cases hv : v = i
    · subst hv
      have hl : v < ((restE ρ1 ρ2 vs).set v (keepS (ρ1.getD v .un))).length := (List.getElem?_eq_some_iff.mp e').1
      rw [List.length_set] at hl
      rw [List.getElem?_set_self hl] at e'
      exact (Option.some.inj e').symm
    · rw [List.getElem?_set_ne hv] at e'
      refine restE_in ?_ e'
      cases h with
      | head => exact absurd rfl hv
      | tail _ h => exact h
theorem keepS_own {s : Sl} : ownK (keepS s) = false := by cases s <;> rfl
theorem StOk.rest {G1 H1 : Hp} {ρ1 ρ2 : Env} (S1 : StOk C G1 σ H1 ρ1) {vs : List Nat} (S : StOk C G (L2.wipe σ vs) H ρ2) (g : Same G1 G) : StOk C G σ H (restE ρ1 ρ2 vs) := by
  have sub : ∀ {m : Nat} {b : Addr}, Own σ (restE ρ1 ρ2 vs) m b → Own (L2.wipe σ vs) ρ2 m b := fun {m b} ⟨x, s', y, z⟩ => by
    by_cases hm : m ∈ vs
    · have := restE_in hm y
      subst this
      rw [keepS_own] at z; cases z
    · rw [restE_out hm] at y
      exact ⟨by rw [wipe_get hm]; exact x, s', y, z⟩
  refine ⟨S.gh, S.bh, S.g0, S.fr, S.ga, S.wf, ?_, fun j s' q => ?_, fun j k b hj hk => S.ds j k b (sub hj) (sub hk)⟩
  · rw [restE_len, ← S.len, wipe_length]
  · by_cases hj : j ∈ vs
    · have hs := restE_in hj q
      have hl : j < (restE ρ1 ρ2 vs).length := (List.getElem?_eq_some_iff.mp q).1
      have hl2 : j < ρ1.length := by rw [restE_len, ← S.len, wipe_length, S1.len] at hl; exact hl
      have e1 : ρ1[j]? = some ρ1[j] := List.getElem?_eq_getElem hl2
      obtain ⟨o, eo, k⟩ := S1.sl j _ e1
      refine ⟨o, eo, ?_⟩
      have e2 : ρ1.getD j .un = ρ1[j] := by rw [List.getD_eq_getElem?_getD, e1]; rfl
      rw [hs, e2]
      revert k
      generalize ρ1[j] = s
      intro k
      cases s with
      | un => trivial
      | own d => trivial
      | io d => trivial
      | val d => obtain ⟨w, e, r⟩ := k; exact ⟨w, e, r.mono g⟩
      | bor d => exact k
      | scr ns => exact k
    · rw [restE_out hj] at q
      obtain ⟨o, e, k⟩ := S.sl j s' q
      exact ⟨o, by rw [wipe_get hj] at e; exact e, k⟩
/-- a list that is being made stands aside -/
def Ctx.with (C : Ctx) (E : Addr) (o : HO) : Ctx := { C with B := upd C.B E o, A := fun a => C.A a ∧ a ≠ E }
theorem same_upd {B H : Hp} {a : Addr} {o : HO} (h : Same B H) : Same (upd B a o) (upd H a o) := fun b u q => by
  by_cases hb : b = a
  · subst hb; rw [upd_same] at q ⊢; exact q
  · rw [upd_ne hb] at q ⊢; exact h b u q
theorem same_new {H : Hp} {a : Addr} {o : HO} (h : H a = none) : Same H (upd H a o) := fun b u q => by
  rw [upd_ne (ne_of_none q h)]; exact q
theorem StOk.enter (S : StOk C G σ H ρ) {E : Addr} (hE : H E = none) (o : HO) : StOk (C.with E o) G σ (upd H E o) ρ := by
  have nE : ∀ {a : Addr}, H a ≠ none → a ≠ E := fun {a} h z => by subst z; exact h hE
  refine ⟨S.gh.trans (same_new hE), same_upd S.bh, S.g0, fun a q => ?_, fun a q => ?_, fun i v q => (S.wf i v q).mono (Same.refl _) (same_new (S.bh.free hE)), S.len, fun i s q => ?_, S.ds⟩
  · by_cases ha : a = E
    · subst ha; rw [upd_same] at q; cases q
    · rw [upd_ne ha] at q; exact ⟨S.fr a q, ha⟩
  · have ha : a ≠ E := fun z => by subst z; rw [S.gh.free hE] at q; exact q rfl
    exact (S.ga a q).imp id fun z => ⟨z, ha⟩
  · obtain ⟨oo, e, k⟩ := S.sl i s q
    refine ⟨oo, e, ?_⟩
    cases s with
    | un => trivial
    | val d' => exact k
    | own d' =>
      obtain ⟨b, e3, r, x, y, z⟩ := k
      have hb := nE r.tracked
      exact ⟨b, e3, r.mono (Same.refl _) (same_new hE), x, by show upd C.B E o b = none; rw [upd_ne hb]; exact y, z, hb⟩
    | io d' =>
      obtain ⟨b, e3, r, x, y, z⟩ := k
      have hb := nE r.tracked
      exact ⟨b, e3, r.mono (Same.refl _) (same_new hE), x, by show upd C.B E o b = none; rw [upd_ne hb]; exact y, z⟩
    | bor d' => exact k
    | scr ns => exact k
theorem StOk.step {E : Addr} {o o' : HO} (S : StOk (C.with E o) G σ H ρ) (hG : G E = none) (hw : ∀ (i : Nat) (v : V), C.P i = some v → BorOk C.K C.G0 C.B v (C.S i)) (hB : C.B E = none) : StOk (C.with E o') G σ (upd H E o') ρ := by
  have hH : H E = some o := S.bh E o upd_same
  refine ⟨fun a u q => ?_, fun a u q => ?_, S.g0, fun a q => ?_, S.ga, fun i v q => (hw i v q).mono (Same.refl _) (same_new hB), S.len, fun i s q => ?_, S.ds⟩
  · rw [upd_ne (ne_of_none q hG)]; exact S.gh a u q
  · have q' : upd C.B E o' a = some u := q
    by_cases ha : a = E
    · subst ha; rw [upd_same] at q' ⊢; exact q'
    · rw [upd_ne ha] at q' ⊢
      exact S.bh a u (by show upd C.B E o a = some u; rw [upd_ne ha]; exact q')
  · by_cases ha : a = E
    · subst ha; rw [upd_same] at q; cases q
    · rw [upd_ne ha] at q; exact S.fr a q
  · obtain ⟨oo, e, k⟩ := S.sl i s q
    refine ⟨oo, e, ?_⟩
    have nb : ∀ {b : Addr}, (C.with E o).B b = none → b ≠ E ∧ C.B b = none := fun {b} y => by
      have y' : upd C.B E o b = none := y
      have hb : b ≠ E := fun z => by subst z; rw [upd_same] at y'; cases y'
      rw [upd_ne hb] at y'
      exact ⟨hb, y'⟩
    cases s with
    | un => trivial
    | val d' => exact k
    | own d' =>
      obtain ⟨b, e3, r, x, y, z⟩ := k
      obtain ⟨hb, y'⟩ := nb y
      refine ⟨b, e3, r.at (Same.refl _) fun c ec u hu => ?_, x, by show upd C.B E o' b = none; rw [upd_ne hb]; exact y', z⟩
      cases ec; rw [upd_ne hb]; exact hu
    | io d' =>
      obtain ⟨b, e3, r, x, y, z⟩ := k
      obtain ⟨hb, y'⟩ := nb y
      refine ⟨b, e3, r.at (Same.refl _) fun c ec u hu => ?_, x, by show upd C.B E o' b = none; rw [upd_ne hb]; exact y', z⟩
      cases ec; rw [upd_ne hb]; exact hu
    | bor d' => exact k
    | scr ns => exact k
theorem StOk.exit {E : Addr} {o : HO} (S : StOk (C.with E o) G σ H ρ) (hw : ∀ (i : Nat) (v : V), C.P i = some v → BorOk C.K C.G0 C.B v (C.S i)) (hB : C.B E = none) : StOk C G σ H ρ := by
  have nb : ∀ {b : Addr}, (C.with E o).B b = none → C.B b = none := fun {b} y => by
    have y' : upd C.B E o b = none := y
    have hb : b ≠ E := fun z => by subst z; rw [upd_same] at y'; cases y'
    rw [upd_ne hb] at y'
    exact y'
  refine ⟨S.gh, (same_new hB).trans S.bh, S.g0, fun a q => (S.fr a q).1, fun a q => (S.ga a q).imp id fun z => z.1, hw, S.len, fun i s q => ?_, S.ds⟩
  obtain ⟨oo, e, k⟩ := S.sl i s q
  refine ⟨oo, e, ?_⟩
  cases s with
  | un => trivial
  | val d' => exact k
  | own d' => obtain ⟨b, e3, r, x, y, z⟩ := k; exact ⟨b, e3, r, x, nb y, z.1⟩
  | io d' => obtain ⟨b, e3, r, x, y, z⟩ := k; exact ⟨b, e3, r, x, nb y, z⟩
  | bor d' => exact k
  | scr ns => exact k
end
section
variable {X : Cx} {e a b c tg elt iter : Expr} {es ifs : List Expr} {pos pos' tpos p : Pos} {f fa fb fe : M D} {g ga gb : M Pl} {k : M Rv} {st : Stmt} {sts us : List Stmt} {m m1 m2 : M Fl} {x : Str} {scope : Scope} {own : List (Str × Nat)}
theorem line_lt {n : Nat} (h : n < 100000) : n < sizeLine := Nat.lt_of_lt_of_le h (by decide)
theorem rd_lc {wi : TI} {fi : M (List D)} {t : D → M Unit} {ts vs : List Nat} {mc : M Bool} (hts : ∀ i ∈ ts, i ∈ vs) (hi : RdI X.K wi fi) : RdF X.K (tLc wi (TGv X.K ts t) (TTv X.K mc) (TV X.K fe) vs) (mLc fi t vs mc fe) := by
  intro C G σ H ρ Q hK S r ρ' hf q
  obtain ⟨ds, ρ1, h1, hf2⟩ := bnd_ok hf
  refine hi C G σ H ρ _ hK S ds ρ1 h1 fun J G1 H1 g1 S1 JJ E hE => ?_
  cases hl : lcGo t vs mc fe [] ds (wipeE ρ1 vs) with
  | stuck => rw [hl] at hf2; cases hf2
  | ok accF ρF =>
    rw [hl] at hf2
    cases hf2
    have hBE : C.B E = none := S1.bh.free hE
    have hGE : ∀ {G2 : Hp} {σ2 : L2.St} {H2 : Hp} {ρ2 : Env} {o : HO}, StOk (C.with E o) G2 σ2 H2 ρ2 → G2 E = none := fun {G2 σ2 H2 ρ2 o} S2 => by
      cases q : G2 E with
      | none => rfl
      | some u =>
        rcases S2.ga E (ne_none_of q) with z | z
        · exact absurd (S1.gh.free hE |> S1.g0.free) z
        · exact absurd rfl z.2
    refine ⟨fun i mm H2 => i + mm = ds.length ∧ ∃ G2 ρ2 accV acc, Same G1 G2 ∧ StOk (C.with E (.lst accV)) G2 (L2.wipe σ vs) H2 ρ2 ∧ RpA G2 accV acc ∧ lcGo t vs mc fe acc (ds.drop i) ρ2 = .ok accF ρF,
      ⟨ds.length, by omega, G1, _, [], [], Same.refl _, (S1.enter hE (.lst [])).wipe vs, .nil, by simpa using hl⟩, fun i mm H2 ⟨hm, G2, ρ2, accV, acc, g2, S2, ra, h2⟩ => ?_⟩
    by_cases hlt : i < ds.length
    · have gh2 := S2.gh
      have bh2 : Same C.B H2 := (same_new hBE).trans S2.bh
      refine .inr ⟨JJ.go i G2 H2 bh2 g2 gh2 hlt, fun H3 => ∃ G3 ρ3 accV3 acc3, Same G1 G3 ∧ StOk (C.with E (.lst accV3)) G3 (L2.wipe σ vs) H3 ρ3 ∧ RpA G3 accV3 acc3 ∧ lcGo t vs mc fe acc3 (ds.drop (i + 1)) ρ3 = .ok accF ρF,
        fun H3 ⟨G3, ρ3, accV3, acc3, z1, z2, z3, z4⟩ => ⟨mm - 1, by omega, by omega, G3, ρ3, accV3, acc3, z1, z2, z3, z4⟩, fun y H3 hy => ?_⟩
      have ed : ds[i]? = some ds[i] := List.getElem?_eq_getElem hlt
      obtain ⟨G3, w, ry⟩ := JJ.yld i G2 H2 y H3 _ bh2 g2 gh2 ed hy
      have S3 := S2.grow w
      rw [List.drop_eq_getElem_cons hlt] at h2
      obtain ⟨uu, ρ3, h3, h4⟩ := bnd_ok h2
      refine ⟨C.with E (.lst accV), G3, _, _, ρ3, hK, S3, ry, h3, fun σ4 S4 w4 => ⟨(w4 vs hts).trans wipe_wipe, ?_⟩⟩
      obtain ⟨kk, ρ5, h5, h6⟩ := bnd_ok h4
      refine ⟨C.with E (.lst accV), G3, _, kk, ρ5, hK, S4, h5, fun G5 H5 g5 S5 => ?_⟩
      have ww : L2.wipe σ4 vs = L2.wipe σ vs := (w4 vs hts).trans wipe_wipe
      cases kk with
      | true =>
        show (if true = true then _ else _); rw [if_pos rfl]
        obtain ⟨yd, ρ6, h7, h8⟩ := bnd_ok h6
        refine ⟨C.with E (.lst accV), G5, _, yd, ρ6, hK, S5, h7, fun v6 G6 H6 g6 S6 r6 => ?_⟩
        have hH6 : H6 E = some (.lst accV) := S6.bh E _ upd_same
        have gg : Same G2 G6 := (w.g.trans g5).trans g6
        by_cases hac : acc.length < 100000
        · rw [if_pos hac] at h8
          refine ⟨accV, hH6, by rw [ra.length]; exact line_lt hac, G6, wipeE ρ6 vs, accV ++ [v6], acc ++ [yd], g2.trans gg, ?_, (ra.mono gg).append (.one r6), h8⟩
          have S7 := S6.step (o' := .lst (accV ++ [v6])) (hGE S6) S1.wf hBE
          rw [← ww]
          exact S7.wipe vs
        · rw [if_neg hac] at h8
          cases h8
      | false =>
        show (if false = true then _ else _); rw [if_neg Bool.false_ne_true]
        rw [if_neg Bool.false_ne_true] at h6
        refine ⟨G5, wipeE ρ5 vs, accV, acc, g2.trans (w.g.trans g5), ?_, ra.mono (w.g.trans g5), h6⟩
        rw [← ww]
        exact S5.wipe vs
    · have hi' : i = ds.length := by omega
      rw [List.drop_eq_nil_of_le (by omega)] at h2
      cases h2
      have gh2 := S2.gh
      have bh2 : Same C.B H2 := (same_new hBE).trans S2.bh
      refine .inl ⟨by rw [hi']; exact JJ.stop G2 H2 bh2 g2 gh2, ?_⟩
      have S3 : StOk C G2 (L2.wipe σ vs) H2 _ := S2.exit S1.wf hBE
      have S4 := S1.rest S3 g2
      refine q _ G2 H2 (g1.trans g2) S4 ⟨E, rfl, .lst (S2.bh E _ upd_same) ra, hGE S2, hBE, S1.fr E hE, fun j hj => ?_⟩
      obtain ⟨z1, s, z2, z3⟩ := hj
      by_cases hjv : j ∈ vs
      · have := restE_in hjv z2
        subst this
        rw [keepS_own] at z3; cases z3
      · rw [restE_out hjv] at z2
        obtain ⟨_, _, z4⟩ := Own.tracked S2 (i := j) (a := E) ⟨by rw [wipe_get hjv]; exact z1, s, z2, z3⟩
        have z5 : upd C.B E (.lst accV) E = none := z4
        rw [upd_same] at z5; cases z5
end
end PL
namespace PL
open PySem PySem.Spec L2 RT RZ
section
variable {X : Cx} {e a b c tg elt iter : Expr} {es ifs : List Expr} {pos pos' tpos p : Pos} {f fa fb fe : M D} {g ga gb : M Pl} {k : M Rv} {st : Stmt} {sts us : List Stmt} {m m1 m2 : M Fl} {x : Str} {scope : Scope} {own : List (Str × Nat)}
theorem pts_yes : PTs X [] (TTv X.K mYes) :=
  ⟨fun pins s σ H Q I ⟨C, G, ρ, d, ρ', hK, S, hf, q⟩ => pts_nil.run pins s σ H Q I (by cases hf; exact q G H (Same.refl _) S)⟩
theorem pf_lc {fi : M (List D)} {t : D → M Unit} {ts : List Nat} (hc : X.calm = true) (hN : X.N.Nodup) (hi : PIt X tg iter fi) (ok : BlkOk X.N X.env.scope scope own)
    (hg : ∀ (s : Shared) (H : Hp) (C : Addr) (cl : List (Str × Addr)) (fp : List Addr), PGt (X.blk s H scope (compEnvC scope cl C X.env) fp) tg ts t)
    (he : ∀ (s : Shared) (H : Hp) (C : Addr) (cl : List (Str × Addr)) (fp : List Addr), PV (X.blk s H scope (compEnvC scope cl C X.env) fp) elt fe) (hs : ∀ x, foldedSetIterable iter X.env x = pure x := by intro _; rfl)
    (hts : ∀ i ∈ ts, i ∈ own.map (·.2) := by decide) :
    PF X (.ListComp elt [⟨tg, iter, [], 0⟩] scope pos) (mLc fi t (own.map (·.2)) mYes fe) := by
  obtain ⟨wi, hi, ri⟩ := hi
  exact ⟨_, pe_lc (g := TGv X.K ts t) (tt := TTv X.K mYes) (te := TV X.K fe) hc hN hi ok (fun s H C cl fp => pg_uni (hg s H C cl fp)) (fun _ _ _ _ _ => pts_yes) (fun s H C cl fp => pv_uni (he s H C cl fp)) hs, rd_lc hts ri⟩
theorem pf_lcIf {fi : M (List D)} {t : D → M Unit} {ts : List Nat} {mc : M Bool} (hc : X.calm = true) (hN : X.N.Nodup) (hi : PIt X tg iter fi) (ok : BlkOk X.N X.env.scope scope own)
    (hg : ∀ (s : Shared) (H : Hp) (C : Addr) (cl : List (Str × Addr)) (fp : List Addr), PGt (X.blk s H scope (compEnvC scope cl C X.env) fp) tg ts t)
    (ht : ∀ (s : Shared) (H : Hp) (C : Addr) (cl : List (Str × Addr)) (fp : List Addr), PTt (X.blk s H scope (compEnvC scope cl C X.env) fp) c mc)
    (he : ∀ (s : Shared) (H : Hp) (C : Addr) (cl : List (Str × Addr)) (fp : List Addr), PV (X.blk s H scope (compEnvC scope cl C X.env) fp) elt fe) (hs : ∀ x, foldedSetIterable iter X.env x = pure x := by intro _; rfl)
    (hts : ∀ i ∈ ts, i ∈ own.map (·.2) := by decide) :
    PF X (.ListComp elt [⟨tg, iter, [c], 0⟩] scope pos) (mLc fi t (own.map (·.2)) mc fe) := by
  obtain ⟨wi, hi, ri⟩ := hi
  exact ⟨_, pe_lc (g := TGv X.K ts t) (tt := TTv X.K mc) (te := TV X.K fe) hc hN hi ok (fun s H C cl fp => pg_uni (hg s H C cl fp)) (fun s H C cl fp => pts_one (pt_uni (ht s H C cl fp))) (fun s H C cl fp => pv_uni (he s H C cl fp)) hs, rd_lc hts ri⟩
/-- y = [..] -/
theorem pst_setLc {i : Nat} {y : Str} {py spos : Pos} {fi : M (List D)} {t : D → M Unit} {ts : List Nat} (hc : X.calm = true) (hN : X.N.Nodup) (hy : X.N[i]? = some y) (hyl : X.env.scope.names.lookup y = some .local)
    (hsw : swapsWith (.ListComp elt [⟨tg, iter, [], 0⟩] scope pos) (some (.Name y py)) spos.line X.env = pure true) (hi : PIt X tg iter fi) (ok : BlkOk X.N X.env.scope scope own)
    (hg : ∀ (s : Shared) (H : Hp) (C : Addr) (cl : List (Str × Addr)) (fp : List Addr), PGt (X.blk s H scope (compEnvC scope cl C X.env) fp) tg ts t)
    (he : ∀ (s : Shared) (H : Hp) (C : Addr) (cl : List (Str × Addr)) (fp : List Addr), PV (X.blk s H scope (compEnvC scope cl C X.env) fp) elt fe) (hs : ∀ x, foldedSetIterable iter X.env x = pure x := by intro _; rfl)
    (hts : ∀ i ∈ ts, i ∈ own.map (·.2) := by decide) :
    PSt X (.Assign [.Name y py] (.ListComp elt [⟨tg, iter, [], 0⟩] scope pos) spos) (mSet i (mLc fi t (own.map (·.2)) mYes fe)) := by
  obtain ⟨wi, hi, ri⟩ := hi
  exact ⟨_, ps_setLc (g := TGv X.K ts t) (tt := TTv X.K mYes) (te := TV X.K fe) hc hN hy hyl hsw hi ok (fun s H C cl fp => pg_uni (hg s H C cl fp)) (fun _ _ _ _ _ => pts_yes) (fun s H C cl fp => pv_uni (he s H C cl fp)) hs, rd_set (rd_lc hts ri)⟩
theorem pst_setLcIf {i : Nat} {y : Str} {py spos : Pos} {fi : M (List D)} {t : D → M Unit} {ts : List Nat} {mc : M Bool} (hc : X.calm = true) (hN : X.N.Nodup) (hy : X.N[i]? = some y) (hyl : X.env.scope.names.lookup y = some .local)
    (hsw : swapsWith (.ListComp elt [⟨tg, iter, [c], 0⟩] scope pos) (some (.Name y py)) spos.line X.env = pure true) (hi : PIt X tg iter fi) (ok : BlkOk X.N X.env.scope scope own)
    (hg : ∀ (s : Shared) (H : Hp) (C : Addr) (cl : List (Str × Addr)) (fp : List Addr), PGt (X.blk s H scope (compEnvC scope cl C X.env) fp) tg ts t)
    (ht : ∀ (s : Shared) (H : Hp) (C : Addr) (cl : List (Str × Addr)) (fp : List Addr), PTt (X.blk s H scope (compEnvC scope cl C X.env) fp) c mc)
    (he : ∀ (s : Shared) (H : Hp) (C : Addr) (cl : List (Str × Addr)) (fp : List Addr), PV (X.blk s H scope (compEnvC scope cl C X.env) fp) elt fe) (hs : ∀ x, foldedSetIterable iter X.env x = pure x := by intro _; rfl)
    (hts : ∀ i ∈ ts, i ∈ own.map (·.2) := by decide) :
    PSt X (.Assign [.Name y py] (.ListComp elt [⟨tg, iter, [c], 0⟩] scope pos) spos) (mSet i (mLc fi t (own.map (·.2)) mc fe)) := by
  obtain ⟨wi, hi, ri⟩ := hi
  exact ⟨_, ps_setLc (g := TGv X.K ts t) (tt := TTv X.K mc) (te := TV X.K fe) hc hN hy hyl hsw hi ok (fun s H C cl fp => pg_uni (hg s H C cl fp)) (fun s H C cl fp => pts_one (pt_uni (ht s H C cl fp))) (fun s H C cl fp => pv_uni (he s H C cl fp)) hs, rd_set (rd_lc hts ri)⟩
end
/-! ### what a def promises -/
def runD (nl : Nat) (body : M Fl) (ss : Env) : Option (Rv × Env) := match body (ss ++ List.replicate nl .un) with
  | .ok (.rt r) ρ => some (r, ρ)
  | .ok .nx ρ => some (.pl (.val .none), ρ)
  | _ => none
def spD (K : PySem.W.Frag) (np nl : Nat) (body : M Fl) : Sp := fun vs H Q _ => ∃ (C : Ctx) (ss : Env) (r : Rv) (ρ' : Env), vs.length = np ∧ C.K = K ∧ StOk C C.G0 (vs.map some) H ss ∧ runD nl body ss = some (r, ρ') ∧
  ∀ (v : V) (G' : Hp) (σ' : L2.St) (H' : Hp), Same C.G0 G' → StOk C G' σ' H' ρ' → okR C G' σ' H' ρ' v r → Q v H'
theorem StOk.more {C : Ctx} {G H : Hp} {σ : L2.St} {ρ : Env} (S : StOk C G σ H ρ) (n : Nat) : StOk C G (σ ++ List.replicate n none) H (ρ ++ List.replicate n .un) := by
  have low : ∀ {i : Nat} {s : Sl}, (ρ ++ List.replicate n Sl.un)[i]? = some s → ownK s = true → i < ρ.length := fun {i s} q z => by
    rcases Nat.lt_or_ge i ρ.length with h | h
    · exact h
    · rw [List.getElem?_append_right h] at q
      have := List.mem_of_getElem? q
      rw [List.mem_replicate] at this
      rw [this.2] at z; cases z
  have sub : ∀ {i : Nat} {a : Addr}, Own (σ ++ List.replicate n none) (ρ ++ List.replicate n .un) i a → Own σ ρ i a := fun {i a} ⟨x, s, y, z⟩ => by
    have h := low y z
    rw [List.getElem?_append_left h] at y
    rw [List.getElem?_append_left (by rw [S.len]; exact h)] at x
    exact ⟨x, s, y, z⟩
  refine ⟨S.gh, S.bh, S.g0, S.fr, S.ga, S.wf, by simp [S.len], fun i s q => ?_, fun i j a hi hj => S.ds i j a (sub hi) (sub hj)⟩
  rcases Nat.lt_or_ge i ρ.length with h | h
  · rw [List.getElem?_append_left h] at q
    rw [List.getElem?_append_left (by rw [S.len]; exact h)]
    exact S.sl i s q
  · rw [List.getElem?_append_right h] at q
    have := List.mem_of_getElem? q
    rw [List.mem_replicate] at this
    have hi : i - ρ.length < n := by
      have := (List.getElem?_eq_some_iff.mp q).1
      rwa [List.length_replicate] at this
    refine ⟨none, ?_, ?_⟩
    · rw [List.getElem?_append_right (by rw [S.len]; exact h), S.len, List.getElem?_replicate, if_pos hi]
    · rw [this.2]; trivial
section
variable {P : Program} {w : World} {K : PySem.W.Frag} {mg : Str → Option Value} {base : Heap} {k : Nat} {N ps : List Str} {x qual : Str} {st : Stmt} {f : Addr} {fd : FuncData} {m : M Fl}
/-- a def by its body -/
theorem fn_pl {np nl : Nat} (F : Fun K x qual st f fd) (S : FnScope N ps (defScope st)) (hn : N.length = np + nl) (hp : ps.length = np)
    (hb : ∀ (cdv : Value) (A : Around) (outer : List PySem.Env) (s : Shared) (H : Hp) (E : XK), Room k (A.deeper (PyProof.Rows.envOfC qual (defScope st) s.heap.objs.size f cdv)) →
      PSts (cxOf CX0 P w K mg base N qual (defScope st) f cdv A outer s H E).nox (defBody st) m) : FnOk P w K mg base CX0 (k + 1) f fd ps (spD K np nl m) := by
  refine F.ok S (fun vs H Q E h => ?_) fun cdv A outer s H vs Q E hr h => ?_
  · obtain ⟨C, ss, r, ρ', hl, _⟩ := h
    rw [hl, hp]
  · obtain ⟨C, ss, r, ρ', hl, hK, S0, hrun, q⟩ := h
    obtain ⟨t, ht, rt⟩ := hb cdv A outer s H E hr
    refine ⟨t, ht, ?_⟩
    have e : L2.start N vs = vs.map some ++ List.replicate nl none := by
      unfold L2.start
      rw [hn, hl, Nat.add_sub_cancel_left]
    rw [e]
    have S1 := S0.more nl
    unfold runD at hrun
    cases hm : m (ss ++ List.replicate nl .un) with
    | stuck => rw [hm] at hrun; cases hrun
    | ok fl ρ1 =>
      rw [hm] at hrun
      cases fl with
      | rt r1 => cases hrun; exact rt C C.G0 _ H _ _ hK S1 _ _ hm fun σ' G' H' g S' v o => q v G' σ' H' g S' o
      | nx => cases hrun; exact rt C C.G0 _ H _ _ hK S1 _ _ hm fun σ' G' H' g S' => q .non G' σ' H' g S' .non
      | bk => cases hrun
      | ct => cases hrun
end
/-! ### calls -/
inductive Md where
  | v | b | io | s
def argS (ρ : Env) : Md → Pl → Option Sl
  | .v, .val d => some (.val d)
  | .b, p => (rsv ρ p).map .bor
  | .io, .slot i => match ρ[i]? with
    | some (.own d) => some (.io d)
    | some (.io d) => some (.io d)
    | _ => none
  | .s, .slot i => match ρ[i]? with
    | some (.scr ns) => some (.scr ns)
    | _ => none
  | _, _ => none
def argSs (ρ : Env) : List Md → List Pl → Option Env
  | [], [] => some []
  | m :: ms, p :: ps => match argS ρ m p, argSs ρ ms ps with
    | some s, some ss => some (s :: ss)
    | _, _ => none
  | _, _ => none
/-- the places that are handed in to be changed -/
def ios : List Md → List Pl → List Nat
  | .io :: ms, .slot i :: ps => i :: ios ms ps
  | _ :: ms, _ :: ps => ios ms ps
  | _, _ => []
/-- the places that are handed in to be looked at -/
def nios : List Md → List Pl → List Nat
  | .io :: ms, _ :: ps => nios ms ps
  | _ :: ms, .slot i :: ps => i :: nios ms ps
  | _ :: ms, _ :: ps => nios ms ps
  | _, _ => []
def apart (ms : List Md) (ps : List Pl) : Bool := decide (ios ms ps).Nodup && (nios ms ps).all fun i => decide (i ∉ ios ms ps)
def putIo (ρ : Env) (i : Nat) (d : D) : Option Env := match ρ[i]? with
  | some (.own _) => some (ρ.set i (.own d))
  | some (.io _) => some (ρ.set i (.io d))
  | _ => none
def back1 (ρ : Env) (m : Md) (p : Pl) (s : Sl) : Option Env := match m with
  | .io => match p with
    | .slot i => match s with
      | .io d => putIo ρ i d
      | _ => none
    | .val _ => none
  | _ => some ρ
def backIo (ρ : Env) : List Md → List Pl → List Sl → Option Env
  | m :: ms, p :: ps, s :: ss => match back1 ρ m p s with
    | some ρ1 => backIo ρ1 ms ps ss
    | none => none
  | [], [], [] => some ρ
  | [], [], _ :: _ => some ρ
  | [], _ :: _, _ => none
  | _ :: _, [], _ => none
  | _ :: _, _ :: _, [] => none
def resR (ρ : Env) : Rv → Option Rv
  | .fr d => some (.fr d)
  | .pl (.val d) => some (.pl (.val d))
  | .pl (.slot k) => match ρ[k]? with
    | some (.val d) => some (.pl (.val d))
    | some (.own d) => some (.fr d)
    | some (.bor d) => if atom d = true then some (.pl (.val d)) else none
    | _ => none
/-- what a call comes to, without what is only local there -/
def evalD (ms : List Md) (nl : Nat) (body : M Fl) (ss : Env) : Option (Rv × Env) := match runD nl body ss with
  | some (r, ρ') => match resR ρ' r with
    | some r' => some (r', ρ'.take ms.length)
    | none => none
  | none => none
def callAt (ms : List Md) (nl : Nat) (body : M Fl) (ps : List Pl) : M Rv := fun ρ => if apart ms ps = true then match argSs ρ ms ps with
    | some ss => match evalD ms nl body ss with
      | some ro => match backIo ρ ms ps ro.2 with
        | some ρ2 => .ok ro.1 ρ2
        | none => .stuck
      | none => .stuck
    | none => .stuck
  else .stuck
def mCall (ms : List Md) (nl : Nat) (body : M Fl) (fs : M (List Pl)) : M Rv := bnd fs fun ps => callAt ms nl body ps
end PL
namespace PL
open PySem PySem.Spec L2 RT RZ
theorem okPs.len {G : Hp} {σ : L2.St} : ∀ {vs : List V} {ps : List Pl}, okPs G σ vs ps → vs.length = ps.length
  | _, _, .nil => rfl
  | _, _, .cons _ r => by simp [okPs.len r]
theorem okPs.get {G : Hp} {σ : L2.St} : ∀ {vs : List V} {ps : List Pl} {i : Nat} {p : Pl}, okPs G σ vs ps → ps[i]? = some p → ∃ v, vs[i]? = some v ∧ okP G σ v p
  | _, _, _, _, .nil, h => by simp at h
  | _, _, 0, _, .cons h r, e => by simp at e; subst e; exact ⟨_, rfl, h⟩
  | _, _, i + 1, _, .cons h r, e => by
    have := okPs.get (i := i) r (by simpa using e)
    simpa using this
theorem argSs_len {ρ : Env} : ∀ {ms : List Md} {ps : List Pl} {ss : Env}, argSs ρ ms ps = some ss → ms.length = ps.length ∧ ss.length = ps.length
  | [], [], _, h => by cases h; exact ⟨rfl, rfl⟩
  | [], _ :: _, _, h => by cases h
  | _ :: _, [], _, h => by cases h
  | m :: ms, p :: ps, ss, h => by
    unfold argSs at h
    cases q1 : argS ρ m p with
    | none => rw [q1] at h; cases h
    | some s =>
      cases q2 : argSs ρ ms ps with
      | none => rw [q1, q2] at h; cases h
      | some ss' =>
        rw [q1, q2] at h
        cases h
        obtain ⟨h1, h2⟩ := argSs_len q2
        exact ⟨by simp [h1], by simp [h2]⟩
theorem argSs_get {ρ : Env} : ∀ {ms : List Md} {ps : List Pl} {ss : Env} {i : Nat} {s : Sl}, argSs ρ ms ps = some ss → ss[i]? = some s → ∃ m p, ms[i]? = some m ∧ ps[i]? = some p ∧ argS ρ m p = some s
  | [], [], _, _, _, h, e => by cases h; simp at e
  | [], _ :: _, _, _, _, h, _ => by cases h
  | _ :: _, [], _, _, _, h, _ => by cases h
  | m :: ms, p :: ps, ss, i, s, h, e => by
    unfold argSs at h
    cases q1 : argS ρ m p with
    | none => rw [q1] at h; cases h
    | some s' =>
      cases q2 : argSs ρ ms ps with
      | none => rw [q1, q2] at h; cases h
      | some ss' =>
        rw [q1, q2] at h
        cases h
        cases i with
        | zero => simp at e; subst e; exact ⟨m, p, rfl, rfl, q1⟩
        | succ i =>
          obtain ⟨m', p', h1, h2, h3⟩ := argSs_get q2 (i := i) (by simpa using e)
          exact ⟨m', p', by simpa using h1, by simpa using h2, h3⟩
theorem ios_mem : ∀ {ms : List Md} {ps : List Pl} {i j : Nat}, ms[i]? = some .io → ps[i]? = some (.slot j) → j ∈ ios ms ps
  | [], _, _, _, h, _ => by simp at h
  | _ :: _, [], _, _, _, h => by simp at h
  | m :: ms, p :: ps, 0, j, h1, h2 => by
    simp at h1 h2; subst h1; subst h2
    exact List.mem_cons_self
  | m :: ms, p :: ps, i + 1, j, h1, h2 => by
    have := ios_mem (ms := ms) (ps := ps) (i := i) (j := j) (by simpa using h1) (by simpa using h2)
    cases m with
    | io => cases p with
      | slot k => exact List.mem_cons_of_mem _ this
      | val d => exact this
    | _ => exact this
theorem nios_mem : ∀ {ms : List Md} {ps : List Pl} {i j : Nat} {m : Md}, ms[i]? = some m → m ≠ .io → ps[i]? = some (.slot j) → j ∈ nios ms ps
  | [], _, _, _, _, h, _, _ => by simp at h
  | _ :: _, [], _, _, _, _, _, h => by simp at h
  | m :: ms, p :: ps, 0, j, m', h1, hm, h2 => by
    simp at h1 h2; subst h1; subst h2
    cases m with
    | io => exact absurd rfl hm
    | _ => exact List.mem_cons_self
  | m :: ms, p :: ps, i + 1, j, m', h1, hm, h2 => by
    have := nios_mem (ms := ms) (ps := ps) (i := i) (j := j) (by simpa using h1) hm (by simpa using h2)
    cases m with
    | io => exact this
    | _ => cases p with
      | slot k => exact List.mem_cons_of_mem _ this
      | val d => exact this
theorem ios_inj : ∀ {ms : List Md} {ps : List Pl} {i i' j : Nat}, (ios ms ps).Nodup → ms[i]? = some .io → ps[i]? = some (.slot j) → ms[i']? = some .io → ps[i']? = some (.slot j) → i = i'
  | [], _, _, _, _, _, h, _, _, _ => by simp at h
  | _ :: _, [], _, _, _, _, _, h, _, _ => by simp at h
  | m :: ms, p :: ps, 0, 0, _, _, _, _, _, _ => rfl
  | m :: ms, p :: ps, 0, i' + 1, j, nd, h1, h2, h3, h4 => by
    simp at h1 h2; subst h1; subst h2
    have := ios_mem (ms := ms) (ps := ps) (i := i') (j := j) (by simpa using h3) (by simpa using h4)
    have nd' : (j :: ios ms ps).Nodup := nd
    exact absurd this (List.nodup_cons.mp nd').1
  | m :: ms, p :: ps, i + 1, 0, j, nd, h1, h2, h3, h4 => by
    simp at h3 h4; subst h3; subst h4
    have := ios_mem (ms := ms) (ps := ps) (i := i) (j := j) (by simpa using h1) (by simpa using h2)
    have nd' : (j :: ios ms ps).Nodup := nd
    exact absurd this (List.nodup_cons.mp nd').1
  | m :: ms, p :: ps, i + 1, i' + 1, j, nd, h1, h2, h3, h4 => by
    have nd' : (ios ms ps).Nodup := by
      cases m with
      | io => cases p with
        | slot k => exact (List.nodup_cons.mp nd).2
        | val d => exact nd
      | _ => exact nd
    exact congrArg _ (ios_inj nd' (by simpa using h1) (by simpa using h2) (by simpa using h3) (by simpa using h4))
theorem putIo_ok {ρ ρ1 : Env} {i : Nat} {d : D} (h : putIo ρ i d = some ρ1) : ∃ s s', ρ[i]? = some s ∧ ρ1 = ρ.set i s' ∧ ((∃ d0, s = .own d0 ∧ s' = .own d) ∨ (∃ d0, s = .io d0 ∧ s' = .io d)) := by
  unfold putIo at h
  cases q : ρ[i]? with
  | none => rw [q] at h; cases h
  | some s =>
    rw [q] at h
    cases s with
    | own d0 => cases h; exact ⟨_, _, rfl, rfl, .inl ⟨d0, rfl, rfl⟩⟩
    | io d0 => cases h; exact ⟨_, _, rfl, rfl, .inr ⟨d0, rfl, rfl⟩⟩
    | _ => cases h
theorem back1_ok {ρ ρ1 : Env} {m : Md} {p : Pl} {s : Sl} (h : back1 ρ m p s = some ρ1) : (m ≠ .io ∧ ρ1 = ρ) ∨ ∃ i d, m = .io ∧ p = .slot i ∧ s = .io d ∧ putIo ρ i d = some ρ1 := by
  unfold back1 at h
  cases m with
  | io => cases p with
    | val d => cases h
    | slot i => cases s with
      | io d => exact .inr ⟨i, d, rfl, rfl, rfl, h⟩
      | _ => cases h
  | v => cases h; exact .inl ⟨(fun z => nomatch z), rfl⟩
  | b => cases h; exact .inl ⟨(fun z => nomatch z), rfl⟩
  | s => cases h; exact .inl ⟨(fun z => nomatch z), rfl⟩
theorem backIo_cons {ρ ρ2 : Env} {m : Md} {ms : List Md} {p : Pl} {ps : List Pl} {ss : List Sl} (h : backIo ρ (m :: ms) (p :: ps) ss = some ρ2) : ∃ s ss' ρ1, ss = s :: ss' ∧ back1 ρ m p s = some ρ1 ∧ backIo ρ1 ms ps ss' = some ρ2 := by
  cases ss with
  | nil => simp [backIo] at h
  | cons s ss' =>
    simp only [backIo] at h
    cases q : back1 ρ m p s with
    | none => rw [q] at h; cases h
    | some ρ1 => rw [q] at h; exact ⟨s, ss', ρ1, rfl, q, h⟩
theorem ios_io {ms : List Md} {ps : List Pl} {i : Nat} : ios (.io :: ms) (.slot i :: ps) = i :: ios ms ps := rfl
theorem ios_no {m : Md} {ms : List Md} {p : Pl} {ps : List Pl} (h : m ≠ .io) : ios (m :: ms) (p :: ps) = ios ms ps := by
  cases m with
  | io => exact absurd rfl h
  | _ => rfl
theorem backIo_out : ∀ {ms : List Md} {ps : List Pl} {ss ρ ρ2 : Env} {j : Nat}, backIo ρ ms ps ss = some ρ2 → j ∉ ios ms ps → ρ2[j]? = ρ[j]? := by
  intro ms
  induction ms with
  | nil =>
    intro ps ss ρ ρ2 j h _
    cases ps with
    | nil => cases ss <;> simp [backIo] at h <;> rw [h]
    | cons p ps => simp [backIo] at h
  | cons m ms ih =>
    intro ps ss ρ ρ2 j h hj
    cases ps with
    | nil => simp [backIo] at h
    | cons p ps =>
      obtain ⟨s, ss', ρ1, rfl, h1, h2⟩ := backIo_cons h
      rcases back1_ok h1 with ⟨hm, rfl⟩ | ⟨i, d, rfl, rfl, rfl, hp⟩
      · rw [ios_no hm] at hj
        exact ih h2 hj
      · rw [ios_io] at hj
        obtain ⟨s, s', _, rfl, _⟩ := putIo_ok hp
        rw [ih h2 fun z => hj (List.mem_cons_of_mem _ z), List.getElem?_set_ne fun z => hj (by rw [z]; exact List.mem_cons_self)]
theorem backIo_len : ∀ {ms : List Md} {ps : List Pl} {ss ρ ρ2 : Env}, backIo ρ ms ps ss = some ρ2 → ρ2.length = ρ.length := by
  intro ms
  induction ms with
  | nil =>
    intro ps ss ρ ρ2 h
    cases ps with
    | nil => cases ss <;> simp [backIo] at h <;> rw [h]
    | cons p ps => simp [backIo] at h
  | cons m ms ih =>
    intro ps ss ρ ρ2 h
    cases ps with
    | nil => simp [backIo] at h
    | cons p ps =>
      obtain ⟨s, ss', ρ1, rfl, h1, h2⟩ := backIo_cons h
      rcases back1_ok h1 with ⟨hm, rfl⟩ | ⟨i, d, rfl, rfl, rfl, hp⟩
      · exact ih h2
      · obtain ⟨s, s', _, rfl, _⟩ := putIo_ok hp
        rw [ih h2, List.length_set]
theorem backIo_in : ∀ {ms : List Md} {ps : List Pl} {ss ρ ρ2 : Env} {j : Nat}, backIo ρ ms ps ss = some ρ2 → (ios ms ps).Nodup → j ∈ ios ms ps →
    ∃ (i : Nat) (d : D) (s s' : Sl), ms[i]? = some Md.io ∧ ps[i]? = some (Pl.slot j) ∧ ss[i]? = some (Sl.io d) ∧ ρ[j]? = some s ∧ ρ2[j]? = some s' ∧ ((∃ d0, s = .own d0 ∧ s' = .own d) ∨ (∃ d0, s = .io d0 ∧ s' = .io d)) := by
  intro ms
  induction ms with
  | nil =>
    intro ps ss ρ ρ2 j h nd hj
    cases ps <;> cases hj
  | cons m ms ih =>
    intro ps ss ρ ρ2 j h nd hj
    cases ps with
    | nil => simp [backIo] at h
    | cons p ps =>
      obtain ⟨s, ss', ρ1, rfl, h1, h2⟩ := backIo_cons h
      rcases back1_ok h1 with ⟨hm, rfl⟩ | ⟨i, d, rfl, rfl, rfl, hp⟩
      · rw [ios_no hm] at hj nd
        obtain ⟨i2, d2, s2, s2', a1, a2, a3, r⟩ := ih h2 nd hj
        exact ⟨i2 + 1, d2, s2, s2', by simpa using a1, by simpa using a2, by simpa using a3, r⟩
      · rw [ios_io] at hj nd
        obtain ⟨n1, n2⟩ := List.nodup_cons.mp nd
        obtain ⟨s, s', e, rfl, k⟩ := putIo_ok hp
        have hi : i < ρ.length := (List.getElem?_eq_some_iff.mp e).1
        by_cases hji : j = i
        · subst hji
          refine ⟨0, d, s, s', rfl, rfl, rfl, e, ?_, k⟩
          rw [backIo_out h2 n1, List.getElem?_set_self hi]
        · have hj' : j ∈ ios ms ps := by
            cases hj with
            | head => exact absurd rfl hji
            | tail _ z => exact z
          obtain ⟨i2, d2, s2, s2', a1, a2, a3, a4, r⟩ := ih h2 n2 hj'
          rw [List.getElem?_set_ne (fun z => hji z.symm)] at a4
          exact ⟨i2 + 1, d2, s2, s2', by simpa using a1, by simpa using a2, by simpa using a3, a4, r⟩
theorem Rp.tracked {G : Hp} {a : Addr} {d : D} (h : Rp G (.ref a) d) : G a ≠ none := by
  cases h with
  | lst h r => exact ne_none_of h
  | tup h r => exact ne_none_of h
  | dct h r => exact ne_none_of h
section
variable {C : Ctx} {G H : Hp} {σ : L2.St} {ρ : Env} {vs : List V} {ps : List Pl} {ms : List Md} {ss : Env}
def IoA (σ : L2.St) (ms : List Md) (ps : List Pl) (a : Addr) : Prop := ∃ j ∈ ios ms ps, σ[j]? = some (some (.ref a))
open Classical in
noncomputable def callC (C : Ctx) (G H : Hp) (σ : L2.St) (vs : List V) (ms : List Md) (ps : List Pl) (ss : Env) : Ctx :=
  { K := C.K, G0 := G, B := fun a => if IoA σ ms ps a then none else H a, A := fun a => H a = none, P := fun i => vs[i]?, S := fun i => ss.getD i .un }
theorem ios_arg : ∀ {ms : List Md} {ps : List Pl} {j : Nat}, j ∈ ios ms ps → ∃ (i : Nat), ms[i]? = some Md.io ∧ ps[i]? = some (Pl.slot j)
  | [], _, _, h => by cases h
  | .io :: ms, .slot i :: ps, j, h => by
    have h' : j ∈ i :: ios ms ps := h
    cases h' with
    | head => exact ⟨0, rfl, rfl⟩
    | tail _ z => obtain ⟨k, h1, h2⟩ := ios_arg z; exact ⟨k + 1, by simpa using h1, by simpa using h2⟩
  | .io :: ms, .val _ :: ps, j, h => by obtain ⟨k, h1, h2⟩ := ios_arg (ms := ms) (ps := ps) h; exact ⟨k + 1, by simpa using h1, by simpa using h2⟩
  | .v :: ms, p :: ps, j, h => by obtain ⟨k, h1, h2⟩ := ios_arg (ms := ms) (ps := ps) h; exact ⟨k + 1, by simpa using h1, by simpa using h2⟩
  | .b :: ms, p :: ps, j, h => by obtain ⟨k, h1, h2⟩ := ios_arg (ms := ms) (ps := ps) h; exact ⟨k + 1, by simpa using h1, by simpa using h2⟩
  | .s :: ms, p :: ps, j, h => by obtain ⟨k, h1, h2⟩ := ios_arg (ms := ms) (ps := ps) h; exact ⟨k + 1, by simpa using h1, by simpa using h2⟩
  | .io :: ms, [], j, h => by cases h
  | .v :: ms, [], j, h => by cases h
  | .b :: ms, [], j, h => by cases h
  | .s :: ms, [], j, h => by cases h
theorem getE {ms : List Md} {ps : List Pl} (ha : argSs ρ ms ps = some ss) {i : Nat} {p : Pl} {m : Md} (hp : ps[i]? = some p) (hm : ms[i]? = some m) : ∃ s, ss[i]? = some s ∧ argS ρ m p = some s := by
  obtain ⟨l1, l2⟩ := argSs_len ha
  have hi : i < ps.length := (List.getElem?_eq_some_iff.mp hp).1
  have e : ss[i]? = some (ss[i]'(by omega)) := List.getElem?_eq_getElem _
  obtain ⟨m', p', h1, h2, h3⟩ := argSs_get ha e
  rw [hp] at h2; cases h2
  rw [hm] at h1; cases h1
  exact ⟨_, e, h3⟩
/-- what is handed in to be changed is somebody's own -/
theorem io_own (ha : argSs ρ ms ps = some ss) {i j : Nat} (hm : ms[i]? = some .io) (hp : ps[i]? = some (.slot j)) : ∃ s d, ρ[j]? = some s ∧ ownK s = true ∧ (s = .own d ∨ s = .io d) ∧ ss[i]? = some (.io d) := by
  obtain ⟨s, e, h⟩ := getE ha hp hm
  unfold argS at h
  simp only at h
  cases q : ρ[j]? with
  | none => rw [q] at h; cases h
  | some s0 =>
    rw [q] at h
    cases s0 with
    | own d => cases h; exact ⟨_, d, rfl, rfl, .inl rfl, e⟩
    | io d => cases h; exact ⟨_, d, rfl, rfl, .inr rfl, e⟩
    | _ => cases h
theorem IoA.own (ha : argSs ρ ms ps = some ss) {a : Addr} (h : IoA σ ms ps a) : ∃ j ∈ ios ms ps, Own σ ρ j a := by
  obtain ⟨j, hj, e⟩ := h
  obtain ⟨i, h1, h2⟩ := ios_arg hj
  obtain ⟨s, d, q, k, _⟩ := io_own ha h1 h2
  exact ⟨j, hj, e, s, q, k⟩
theorem call_start (S : StOk C G σ H ρ) (o : okPs G σ vs ps) (ap : apart ms ps = true) (ha : argSs ρ ms ps = some ss) : StOk (callC C G H σ vs ms ps ss) G (vs.map some) H ss := by
  obtain ⟨l1, l2⟩ := argSs_len ha
  have lv := o.len
  unfold apart at ap
  simp only [Bool.and_eq_true, decide_eq_true_eq, List.all_eq_true] at ap
  obtain ⟨nd, dis⟩ := ap
  have Bio : ∀ {a : Addr}, IoA σ ms ps a → (callC C G H σ vs ms ps ss).B a = none := fun {a} h => if_pos h
  have Bno : ∀ {a : Addr}, ¬ IoA σ ms ps a → (callC C G H σ vs ms ps ss).B a = H a := fun {a} h => if_neg h
  have CB : Same C.B (callC C G H σ vs ms ps ss).B := fun a u q => by
    rw [Bno fun h => ?_]
    · exact S.bh a u q
    · obtain ⟨j, _, ow⟩ := IoA.own ha h
      rw [(Own.tracked S ow).2.2] at q; cases q
  have sg : ∀ {i : Nat} {s : Sl}, ss[i]? = some s → ss.getD i .un = s := fun {i s} e => by rw [List.getD_eq_getElem?_getD, e]; rfl
  -- what is but looked at isn't what is changed
  have far : ∀ {i : Nat} {m : Md} {p : Pl} {v : V} {a : Addr}, ms[i]? = some m → m ≠ .io → ps[i]? = some p → okP G σ v p → v = .ref a → (∃ d, rsv ρ p = some d) → ¬ IoA σ ms ps a := by
    intro i m p v a hm hne hp ho hv hd h
    subst hv
    obtain ⟨j', hj', ow⟩ := IoA.own ha h
    obtain ⟨t1, t2, t3⟩ := Own.tracked S ow
    cases p with
    | val d => exact (Rp.tracked (show Rp G (.ref a) d from ho)) t2
    | slot j =>
      have hσ : σ[j]? = some (some (.ref a)) := ho
      have hjn : j ∉ ios ms ps := by
        have := dis j (nios_mem hm hne hp)
        exact this
      obtain ⟨d, hd⟩ := hd
      simp only [rsv] at hd
      cases q : ρ[j]? with
      | none => rw [q] at hd; cases hd
      | some s =>
        rw [q] at hd
        have k := S.get q hσ
        cases s with
        | un => cases hd
        | scr ns => cases hd
        | val d' => obtain ⟨w, e, r⟩ := k; cases e; exact r.tracked t2
        | own d' => exact hjn (by rw [S.ds j j' a ⟨hσ, _, q, rfl⟩ ow]; exact hj')
        | io d' => exact hjn (by rw [S.ds j j' a ⟨hσ, _, q, rfl⟩ ow]; exact hj')
        | bor d' =>
          obtain ⟨w, e, p1, p2⟩ := k
          cases e
          have w := S.wf j _ p1
          rw [p2] at w
          exact (Sh.tracked (show Sh C.G0 C.B (.ref a) d' from w)) t3
  refine ⟨S.gh, fun a u q => ?_, Same.refl _, fun a q => q, fun a q => .inl q, fun i v q => ?_, by rw [List.length_map, lv, l2], fun i s e => ?_, fun i j a hi hj => ?_⟩
  · by_cases h : IoA σ ms ps a
    · rw [Bio h] at q; cases q
    · rw [Bno h] at q; exact q
  · -- wf
    have q' : vs[i]? = some v := q
    show BorOk C.K G (callC C G H σ vs ms ps ss).B v (ss.getD i .un)
    have hi : i < ps.length := by rw [← lv]; exact (List.getElem?_eq_some_iff.mp q').1
    have e : ss[i]? = some (ss[i]'(by omega)) := List.getElem?_eq_getElem _
    rw [sg e]
    generalize ss[i]'(by omega) = s at e
    obtain ⟨m, p, h1, h2, h3⟩ := argSs_get ha e
    obtain ⟨v', hv', ho⟩ := o.get h2
    rw [q'] at hv'; cases hv'
    cases s with
    | bor d =>
      cases m with
      | b =>
        simp only [argS] at h3
        cases r : rsv ρ p with
        | none => rw [r] at h3; cases h3
        | some d' =>
          rw [r] at h3
          cases h3
          refine (rsv_ok S ho r).at (Same.refl _) fun a ea u hu => ?_
          rw [Bno (far h1 (fun z => nomatch z) h2 ho ea ⟨_, r⟩)]
          exact hu
      | v => cases p <;> cases h3
      | io => cases p with
        | val d' => cases h3
        | slot j => simp only [argS] at h3; split at h3 <;> cases h3
      | s => cases p with
        | val d' => cases h3
        | slot j => simp only [argS] at h3; split at h3 <;> cases h3
    | scr ns =>
      cases m with
      | b =>
        simp only [argS] at h3
        cases r : rsv ρ p with
        | none => rw [r] at h3; cases h3
        | some d' => rw [r] at h3; cases h3
      | v => cases p <;> cases h3
      | io => cases p with
        | val d' => cases h3
        | slot j => simp only [argS] at h3; split at h3 <;> cases h3
      | s => cases p with
        | val d' => cases h3
        | slot j =>
          simp only [argS] at h3
          cases r : ρ[j]? with
          | none => rw [r] at h3; cases h3
          | some s0 =>
            rw [r] at h3
            cases s0 with
            | scr ns' =>
              cases h3
              obtain ⟨w, e, p1, p2⟩ := S.get r (show σ[j]? = some (some v) from ho)
              cases e
              have w := S.wf j _ p1
              rw [p2] at w
              obtain ⟨a, ea, sq⟩ := w
              exact ⟨a, ea, Same.seq CB sq⟩
            | _ => cases h3
    | _ => trivial
  · obtain ⟨m, p, h1, h2, h3⟩ := argSs_get ha e
    obtain ⟨v, hv, ho⟩ := o.get h2
    refine ⟨some v, by rw [List.getElem?_map, hv]; rfl, ?_⟩
    have hP : (callC C G H σ vs ms ps ss).P i = some v := hv
    have hS : (callC C G H σ vs ms ps ss).S i = s := sg e
    cases s with
    | un => trivial
    | val d =>
      cases m with
      | v => cases p with
        | val d' => cases h3; exact ⟨v, rfl, ho⟩
        | slot j => cases h3
      | b => simp only [argS] at h3; cases r : rsv ρ p with
        | none => rw [r] at h3; cases h3
        | some d' => rw [r] at h3; cases h3
      | io => cases p with
        | val d' => cases h3
        | slot j => simp only [argS] at h3; split at h3 <;> cases h3
      | s => cases p with
        | val d' => cases h3
        | slot j => simp only [argS] at h3; split at h3 <;> cases h3
    | own d =>
      cases m with
      | v => cases p <;> cases h3
      | b => simp only [argS] at h3; cases r : rsv ρ p with
        | none => rw [r] at h3; cases h3
        | some d' => rw [r] at h3; cases h3
      | io => cases p with
        | val d' => cases h3
        | slot j => simp only [argS] at h3; split at h3 <;> cases h3
      | s => cases p with
        | val d' => cases h3
        | slot j => simp only [argS] at h3; split at h3 <;> cases h3
    | bor d => exact ⟨v, rfl, hP, hS⟩
    | scr ns => exact ⟨v, rfl, hP, hS⟩
    | io d =>
      cases m with
      | v => cases p <;> cases h3
      | b => simp only [argS] at h3; cases r : rsv ρ p with
        | none => rw [r] at h3; cases h3
        | some d' => rw [r] at h3; cases h3
      | s => cases p with
        | val d' => cases h3
        | slot j => simp only [argS] at h3; split at h3 <;> cases h3
      | io => cases p with
        | val d' => cases h3
        | slot j =>
          obtain ⟨s0, d0, q, kk, sd, e'⟩ := io_own ha h1 h2
          rw [e] at e'; cases e'
          have k := S.get q (show σ[j]? = some (some v) from ho)
          have fin : ∀ {a : Addr}, v = .ref a → Sh G H (.ref a) d → G a = none → SlOk (callC C G H σ vs ms ps ss) G H i (some v) (.io d) := fun {a} ea sh gn => by
            subst ea
            exact ⟨a, rfl, sh, gn, Bio ⟨j, ios_mem h1 h2, ho⟩, hP⟩
          rcases sd with rfl | rfl
          · obtain ⟨a, ea, sh, gn, _⟩ := k
            exact fin (Option.some.inj ea) sh gn
          · obtain ⟨a, ea, sh, gn, _⟩ := k
            exact fin (Option.some.inj ea) sh gn
  · -- two names for one object
    have pick : ∀ {i : Nat}, Own (vs.map some) ss i a → ∃ j, ms[i]? = some .io ∧ ps[i]? = some (.slot j) ∧ Own σ ρ j a := by
      intro i ⟨x, s, y, z⟩
      obtain ⟨m, p, h1, h2, h3⟩ := argSs_get ha y
      obtain ⟨v, hv, ho⟩ := o.get h2
      rw [List.getElem?_map, hv] at x
      cases x
      cases m with
      | v => cases p with
        | val d' => cases h3; cases z
        | slot j => cases h3
      | b => simp only [argS] at h3; cases r : rsv ρ p with
        | none => rw [r] at h3; cases h3
        | some d' => rw [r] at h3; cases h3; cases z
      | s => cases p with
        | val d' => cases h3
        | slot j => simp only [argS] at h3; split at h3 <;> cases h3 <;> cases z
      | io => cases p with
        | val d' => cases h3
        | slot j =>
          obtain ⟨s0, d0, q, kk, _⟩ := io_own ha h1 h2
          exact ⟨j, h1, h2, ho, s0, q, kk⟩
    obtain ⟨j1, a1, a2, a3⟩ := pick hi
    obtain ⟨j2, b1, b2, b3⟩ := pick hj
    have ej := S.ds j1 j2 a a3 b3
    subst ej
    exact ios_inj nd a1 a2 b1 b2
theorem call_end {G' H' : Hp} {σ' : L2.St} {ρ' ρ2 : Env} (S : StOk C G σ H ρ) (o : okPs G σ vs ps) (ap : apart ms ps = true) (ha : argSs ρ ms ps = some ss) (S' : StOk (callC C G H σ vs ms ps ss) G' σ' H' ρ') (g : Same G G') (hb : backIo ρ ms ps ρ' = some ρ2) :
    StOk C G' σ H' ρ2 := by
  unfold apart at ap
  simp only [Bool.and_eq_true, decide_eq_true_eq, List.all_eq_true] at ap
  obtain ⟨nd, dis⟩ := ap
  have Bno : ∀ {a : Addr}, ¬ IoA σ ms ps a → (callC C G H σ vs ms ps ss).B a = H a := fun {a} h => if_neg h
  have CB : Same C.B (callC C G H σ vs ms ps ss).B := fun a u q => by
    rw [Bno fun h => ?_]
    · exact S.bh a u q
    · obtain ⟨j, _, ow⟩ := IoA.own ha h
      rw [(Own.tracked S ow).2.2] at q; cases q
  have trk : ∀ {a : Addr}, H' a = none → H a = none := fun {a} q => S'.fr a q
  have gnew : ∀ {a : Addr}, G' a ≠ none → G a ≠ none ∨ H a = none := fun {a} q => S'.ga a q
  have still : ∀ {a : Addr}, H a ≠ none → G a = none → G' a = none := fun {a} h1 h2 => by
    cases q : G' a with
    | none => rfl
    | some u => exact ((gnew (ne_none_of q)).elim (fun z => (z h2).elim) fun z => (h1 z).elim)
  have kind : ∀ {j : Nat} {s2 : Sl}, ρ2[j]? = some s2 → ownK s2 = true → ∃ s, ρ[j]? = some s ∧ ownK s = true := fun {j s2} q z => by
    by_cases hj : j ∈ ios ms ps
    · obtain ⟨i, d, s, s', h1, h2, h3, h4, h5, h6⟩ := backIo_in hb nd hj
      refine ⟨s, h4, ?_⟩
      rcases h6 with ⟨_, rfl, _⟩ | ⟨_, rfl, _⟩ <;> rfl
    · rw [backIo_out hb hj] at q
      exact ⟨s2, q, z⟩
  refine ⟨S'.gh, CB.trans S'.bh, S.g0.trans g, fun a q => S.fr a (trk q), fun a q => (gnew q).elim (S.ga a) fun z => .inr (S.fr a z), S.wf, by rw [backIo_len hb]; exact S.len, fun j s2 q => ?_, fun i j a ⟨x, s, y, z⟩ ⟨x', s', y', z'⟩ => ?_⟩
  · by_cases hj : j ∈ ios ms ps
    · obtain ⟨i, d, s, s', h1, h2, h3, h4, h5, h6⟩ := backIo_in hb nd hj
      rw [q] at h5; cases h5
      obtain ⟨oo, e1, k1⟩ := S'.sl i _ h3
      obtain ⟨a, rfl, sh, gn, _, hP⟩ := k1
      obtain ⟨v, hv, ho⟩ := o.get h2
      have hP' : vs[i]? = some (.ref a) := hP
      rw [hP'] at hv; cases hv
      have hσ : σ[j]? = some (some (.ref a)) := ho
      have k := S.get h4 hσ
      refine ⟨_, hσ, ?_⟩
      rcases h6 with ⟨d0, rfl, rfl⟩ | ⟨d0, rfl, rfl⟩
      · obtain ⟨b, eb, _, _, y, z⟩ := k
        cases eb
        exact ⟨_, rfl, sh, gn, y, z⟩
      · obtain ⟨b, eb, _, _, y, z⟩ := k
        cases eb
        exact ⟨_, rfl, sh, gn, y, z⟩
    · rw [backIo_out hb hj] at q
      obtain ⟨oo, e1, k⟩ := S.sl j s2 q
      refine ⟨oo, e1, ?_⟩
      have keep : ∀ {a : Addr}, oo = some (.ref a) → ownK s2 = true → ∀ u, H a = some u → H' a = some u := fun {a} ea kk u hu => by
        subst ea
        refine S'.bh a u ?_
        rw [Bno fun h => ?_]
        · exact hu
        · obtain ⟨j', hj', ow⟩ := IoA.own ha h
          exact hj (by rw [S.ds j j' a ⟨e1, s2, q, kk⟩ ow]; exact hj')
      cases s2 with
      | un => trivial
      | val d => obtain ⟨v, e, r⟩ := k; exact ⟨v, e, r.mono g⟩
      | own d =>
        obtain ⟨b, e3, r, x, y, z⟩ := k
        exact ⟨b, e3, r.at g fun c ec u hu => by cases ec; exact keep e3 rfl u hu, still r.tracked x, y, z⟩
      | io d =>
        obtain ⟨b, e3, r, x, y, z⟩ := k
        exact ⟨b, e3, r.at g fun c ec u hu => by cases ec; exact keep e3 rfl u hu, still r.tracked x, y, z⟩
      | bor d => exact k
      | scr ns => exact k
  · obtain ⟨t, t1, t2⟩ := kind y z
    obtain ⟨t', t1', t2'⟩ := kind y' z'
    exact S.ds i j a ⟨x, t, t1, t2⟩ ⟨x', t', t1', t2'⟩
end
theorem backIo_take : ∀ {ms : List Md} {ps : List Pl} {ρ ss : Env}, ms.length = ps.length → backIo ρ ms ps (ss.take ms.length) = backIo ρ ms ps ss
  | [], [], _, ss, _ => by cases ss <;> rfl
  | m :: ms, p :: ps, ρ, [], _ => rfl
  | m :: ms, p :: ps, ρ, s :: ss, h => by
    show backIo ρ (m :: ms) (p :: ps) (s :: ss.take ms.length) = _
    simp only [backIo]
    cases back1 ρ m p s with
    | none => rfl
    | some ρ1 => exact backIo_take (by simpa using h)
theorem evalD_inv {ms : List Md} {nl : Nat} {body : M Fl} {ss : Env} {ro : Rv × Env} (h : evalD ms nl body ss = some ro) : ∃ r ρ', runD nl body ss = some (r, ρ') ∧ resR ρ' r = some ro.1 ∧ ro.2 = ρ'.take ms.length := by
  unfold evalD at h
  cases h1 : runD nl body ss with
  | none => rw [h1] at h; cases h
  | some x =>
    obtain ⟨r, ρ'⟩ := x
    rw [h1] at h
    simp only at h
    cases h2 : resR ρ' r with
    | none => rw [h2] at h; cases h
    | some r2 => rw [h2] at h; cases h; exact ⟨r, ρ', rfl, h2, rfl⟩
section
variable {X : Cx} {e : Expr} {es : List Expr} {pos p : Pos} {x : Str} {k : Nat} {f : Addr} {fd : FuncData} {ps : List Str} {np nl : Nat} {m : M Fl} {ms : List Md} {fs : M (List Pl)}
theorem rd_call {E : XK} {t : TA} (ra : RdPs X.K t fs) (hl : ms.length = np) : RdF X.K (tCall (spD X.K np nl m) [] E t) (mCall ms nl m fs) := by
  intro C G σ H ρ Q hK S r' ρ2 hf q
  obtain ⟨pl, ρ1, h1, hf2⟩ := bnd_ok hf
  refine ra C G σ H ρ _ hK S pl ρ1 h1 fun vs G1 H1 g1 S1 o => ?_
  unfold callAt at hf2
  by_cases ap : apart ms pl = true
  · rw [if_pos ap] at hf2
    cases ha2 : argSs ρ1 ms pl with
    | none => rw [ha2] at hf2; cases hf2
    | some ss =>
      rw [ha2] at hf2
      simp only at hf2
      cases hev : evalD ms nl m ss with
      | none => rw [hev] at hf2; cases hf2
      | some ro =>
        rw [hev] at hf2
        simp only at hf2
        obtain ⟨r, ρ', hrun, hres, hout⟩ := evalD_inv hev
        obtain ⟨r2, outs⟩ := ro
        simp only at hf2 hres hout
        cases hbk0 : backIo ρ1 ms pl outs with
        | none => rw [hbk0] at hf2; cases hf2
        | some ρ3 =>
            rw [hbk0] at hf2
            cases hf2
            have hbk : backIo ρ1 ms pl ρ' = some ρ2 := by
              rw [hout, backIo_take (argSs_len ha2).1] at hbk0
              exact hbk0
            obtain ⟨l1, l2⟩ := argSs_len ha2
            refine ⟨callC C G1 H1 σ vs ms pl ss, ss, r, ρ', by rw [List.append_nil, o.len, ← l1, hl], hK, ?_, hrun, fun v G' σ' H' g S' rok => ?_⟩
            · rw [List.append_nil]
              exact call_start S1 o ap ha2
            · have S2 := call_end S1 o ap ha2 S' g hbk
              refine q v G' H' (g1.trans g) S2 ?_
              have fresh : ∀ {a : Addr} {d : D}, v = .ref a → Sh G' H' (.ref a) d → G' a = none → H1 a = none → okR C G' σ H' ρ2 v (.fr d) := fun {a d} ea sh gn hn => by
                refine ⟨a, ea, sh, gn, S1.bh.free hn, S1.fr a hn, fun j ow => ?_⟩
                obtain ⟨z1, s, z2, z3⟩ := ow
                have ap' := ap
                unfold apart at ap'
                simp only [Bool.and_eq_true, decide_eq_true_eq] at ap'
                have : ∃ s0, ρ1[j]? = some s0 ∧ ownK s0 = true := by
                  by_cases hj : j ∈ ios ms pl
                  · obtain ⟨i, d, s, s', h1, h2, h3, h4, h5, h6⟩ := backIo_in hbk ap'.1 hj
                    refine ⟨s, h4, ?_⟩
                    rcases h6 with ⟨_, rfl, _⟩ | ⟨_, rfl, _⟩ <;> rfl
                  · rw [backIo_out hbk hj] at z2
                    exact ⟨s, z2, z3⟩
                obtain ⟨s0, w1, w2⟩ := this
                exact (Own.tracked S1 ⟨z1, s0, w1, w2⟩).1 hn
              cases r with
              | fr d =>
                cases hres
                obtain ⟨a, ea, sh, gn, _, aa, _⟩ := rok
                exact fresh ea sh gn aa
              | pl p =>
                cases p with
                | val d => cases hres; exact rok
                | slot j =>
                  have hv : σ'[j]? = some (some v) := rok
                  simp only [resR] at hres
                  cases qq : ρ'[j]? with
                  | none => rw [qq] at hres; cases hres
                  | some s =>
                    rw [qq] at hres
                    have kk := S'.get qq hv
                    cases s with
                    | un => cases hres
                    | io d => cases hres
                    | scr ns => cases hres
                    | val d => cases hres; obtain ⟨w, e, rr⟩ := kk; cases e; exact rr
                    | own d =>
                      cases hres
                      obtain ⟨a, e, sh, gn, _, aa⟩ := kk
                      exact fresh (Option.some.inj e) sh gn aa
                    | bor d =>
                      simp only at hres
                      by_cases hat : atom d = true
                      · rw [if_pos hat] at hres
                        cases hres
                        obtain ⟨w, e, p1, p2⟩ := kk
                        cases e
                        exact (S'.bor p1 p2).atom hat G'
                      · rw [if_neg hat] at hres
                        cases hres
  · rw [if_neg ap] at hf2
    cases hf2
theorem pf_call (F : FnOk X.prog X.w X.K X.mg X.base CX0 k f fd ps (spD X.K np nl m)) (hr : Room k X.A) (hg : Gl X x) (hm : X.mg x = some (.ref f)) (hk : PySem.W.keepIn X.K (.ref f) = true) (hb : Binds X.K fd ps []) (ha : PPs X (e :: es) fs) (hl : ms.length = np)
    (hdb : (x == ("__debug__" : Str)) = false := by decide) (he : starEach (e :: es) X.env = (false, eval e X.env) :: starEach es X.env := by rfl) (hpl : (backTo pos (starEach es X.env)).any (·.1) = false := by rfl) :
    PF X (.Call (.Name x p) (e :: es) [] pos) (mCall ms nl m fs) := by
  obtain ⟨t, ha, ra⟩ := ha
  exact ⟨_, pe_call F hr hg hm hk hb .nil (pass0) ha hdb he hpl, rd_call ra hl⟩
end
end PL
namespace PL
open PySem PySem.Spec L2 RT RZ
/-! ### operators -/
theorem opOr {X : Cx} {f : Value → Value → Sem Value} {r r' : R2} (h : OpR X f r) (h' : OpR X f r') : OpR X f (fun x y H Q => r x y H Q ∨ r' x y H Q) := by
  intro pins s σ H x y v u Q I rx ry q
  exact q.elim (fun z => h pins s σ H x y v u Q I rx ry z) fun z => h' pins s σ H x y v u Q I rx ry z
theorem POpV.orL {r r' : R2} {g : D → D → Option D} (h : POpV r g) : POpV (fun x y H Q => r x y H Q ∨ r' x y H Q) g := fun G H x y d e z Q gh s1 s2 hg q => .inl (h G H x y d e z Q gh s1 s2 hg q)
theorem POpV.orR {r r' : R2} {g : D → D → Option D} (h : POpV r' g) : POpV (fun x y H Q => r x y H Q ∨ r' x y H Q) g := fun G H x y d e z Q gh s1 s2 hg q => .inr (h G H x y d e z Q gh s1 s2 hg q)
/-- by what the two are -/
def POpX (r : R2) (g : D → D → Option (Bool × D)) : Prop := ∀ (G H : Hp) (x y : V) (d e z : D) (b : Bool) (Q : VK), Same G H → Sh G H x d → Sh G H y e → g d e = some (b, z) →
  (b = false → ∀ v G' H', Grow G H G' H' → Rp G' v z → Q v H') → (b = true → ∀ p H', H p = none → Grow G H G H' → Sh G H' (.ref p) z → Q (.ref p) H') → r x y H Q
def rvOf (bz : Bool × D) : Rv := if bz.1 = true then .fr bz.2 else .pl (.val bz.2)
def mOpX (g : D → D → Option (Bool × D)) (fa fb : M Pl) : M Rv := bnd (mOp g fa fb) fun bz => ret (rvOf bz)
section
variable {X : Cx} {e a b c tg elt iter : Expr} {es ifs : List Expr} {pos pos' tpos p apos cpos : Pos} {f fa fb fe : M D} {g ga gb : M Pl} {k : M Rv} {x : Str}
theorem rd_opX {r : R2} {g' : D → D → Option (Bool × D)} {ta tb : TE} (hp : POpX r g') (ha : RdP X.K ta ga) (hb : RdP X.K tb gb) : RdF X.K (tOp r ta tb) (mOpX g' ga gb) := by
  intro C G σ H ρ Q hK S d ρ' hf q
  obtain ⟨bz, ρ0, hf0, h0⟩ := bnd_ok hf
  cases h0
  obtain ⟨p, ρ1, h1, hf2⟩ := bnd_ok hf0
  obtain ⟨p2, ρ2, h2, hf3⟩ := bnd_ok hf2
  refine ha C G σ H ρ _ hK S p ρ1 h1 fun v1 G1 H1 g1 S1 o1 => ?_
  refine hb C G1 σ H1 ρ1 _ hK S1 p2 ρ2 h2 fun v2 G2 H2 g2 S2 o2 => ?_
  obtain ⟨d1, ρ3, h3, hf4⟩ := bnd_ok hf3
  obtain ⟨s1, rfl⟩ := look_ok S2 (o1.mono g2) h3
  obtain ⟨d2, ρ4, h4, hf5⟩ := bnd_ok hf4
  obtain ⟨s2, rfl⟩ := look_ok S2 o2 h4
  obtain ⟨e, rfl⟩ := ofO_ok hf5
  obtain ⟨bb, z⟩ := bz
  refine hp G2 H2 v1 v2 d1 d2 z bb Q S2.gh s1 s2 e (fun hb v G' H' w rr => ?_) fun hb p H' hn w ss => ?_
  · subst hb
    exact q v G' H' ((g1.trans g2).trans w.g) (S2.grow w) rr
  · subst hb
    exact q _ G2 H' (g1.trans g2) (S2.grow w) (fresh_ok S2 hn w ss)
theorem pf_opX {op : Operator} {r : R2} {g' : D → D → Option (Bool × D)} (ho : OpR X (binaryOp op) r) (hp : POpX r g') (ha : PP X a ga) (hb : PP X b gb) : PF X (.BinOp a op b pos) (mOpX g' ga gb) := by
  obtain ⟨ta, ha, ra⟩ := ha
  obtain ⟨tb, hb, rb⟩ := hb
  exact ⟨_, pe_op ho ha hb, rd_opX hp ra rb⟩
end
/-- two ints -/
def onInts (c : Int → Int → Bool) (f : Int → Int → D) : D → D → Option D
  | .int i, .int j => if c i j = true then some (f i j) else none
  | _, _ => none
theorem pop_I {Cd : Int → Int → Prop} {c : Int → Int → Bool} {f : Int → Int → V} {fd : Int → Int → D} (hc : ∀ i j, c i j = true → Cd i j) (hr : ∀ i j G, Rp G (f i j) (fd i j)) : POpV (rI Cd f) (onInts c fd) := by
  intro G H x y d e z Q gh s1 s2 hg q
  cases s1 with
  | int i =>
    cases s2 with
    | int j =>
      unfold onInts at hg
      by_cases h : c i j = true
      · simp only [h, if_true] at hg
        cases hg
        exact ⟨i, j, rfl, rfl, hc i j h, q _ G H (Grow.refl gh) (hr i j G)⟩
      · simp only [h] at hg
        cases hg
    | _ => cases hg
  | _ => cases hg
def onInts0 (f : Int → Int → D) : D → D → Option D
  | .int i, .int j => some (f i j)
  | _, _ => none
theorem pop_I0 {f : Int → Int → V} {fd : Int → Int → D} (hr : ∀ i j G, Rp G (f i j) (fd i j)) : POpV (rI0 f) (onInts0 fd) := by
  intro G H x y d e z Q gh s1 s2 hg q
  cases s1 with
  | int i =>
    cases s2 with
    | int j => cases hg; exact ⟨i, j, rfl, rfl, q _ G H (Grow.refl gh) (hr i j G)⟩
    | _ => cases hg
  | _ => cases hg
abbrev gSub' : D → D → Option D := onInts0 fun i j => .int (i - j)
/-- .. of which the first may be a truth value -/
def onIB (f : Int → Int → Bool) : D → D → Option D
  | .int i, .int j => some (.bool (f i j))
  | .bool b, .int j => some (.bool (f (if b then 1 else 0) j))
  | _, _ => none
def rIB (f : Int → Int → Bool) : R2 := fun x y H Q => (∃ i j, x = .int i ∧ y = .int j ∧ Q (.bl (f i j)) H) ∨ (∃ b j, x = .bl b ∧ y = .int j ∧ Q (.bl (f (if b then 1 else 0) j)) H)
theorem pop_IB {f : Int → Int → Bool} : POpV (rIB f) (onIB f) := by
  intro G H x y d e z Q gh s1 s2 hg q
  cases s1 with
  | int i =>
    cases s2 with
    | int j => cases hg; exact .inl ⟨i, j, rfl, rfl, q _ G H (Grow.refl gh) (.bl _)⟩
    | _ => cases hg
  | bl b =>
    cases s2 with
    | int j => cases hg; exact .inr ⟨b, j, rfl, rfl, q _ G H (Grow.refl gh) (.bl _)⟩
    | _ => cases hg
  | _ => cases hg
section
variable {prog : Program} {w : World} {A : Around} {E : Value → Shared → Prop} {s : Shared} {p : Bool} {n : Int} {u : Tok} {Q : Value → Shared → Prop}
theorem sub_int_bool : isSubtype (.type "int") (.type "bool") = pure false := by rw [isSubtype_type]; kernel_rfl
theorem gives_lt_bi (p : Bool) (n : Int) (u : Tok) : Gives (Builtin.«int.__lt__» ⟨[.bool p, .int n u], []⟩) (.val (Value.bool (decide ((if p = true then (1 : Int) else 0) < n)))) :=
  .of_wp fun M A E s Q h => by obtain ⟨hp, g, d, tk, os⟩ := s; wp_walk; exact ⟨_, rfl, h⟩
theorem gives_le_bi (p : Bool) (n : Int) (u : Tok) : Gives (Builtin.«int.__le__» ⟨[.bool p, .int n u], []⟩) (.val (Value.bool (decide ((if p = true then (1 : Int) else 0) ≤ n)))) :=
  .of_wp fun M A E s Q h => by obtain ⟨hp, g, d, tk, os⟩ := s; wp_walk; exact ⟨_, rfl, h⟩
theorem lt_bi (h : Q (.bool (decide ((if p = true then (1 : Int) else 0) < n))) s) : wpAny (model prog w) A (compareOp .Lt (.bool p) (.int n u)) Q E s := by
  show wpAny _ A (richCompare .Lt _ _) Q E s
  exact PyProof.Rows.wpAny_richCompare_left (PyProof.Rows.typeIs_bool' s p) (typeIs_int s n u) (by decide) sub_int_bool F.slot_bool_lt
    (call_gives F.slot_bool_lt (PyProof.Rows.typeIs_bool' s p) F.entry_int_lt (F.args_int_lt_2 _ _) (gives_lt_bi p n u) ⟨nofun, h⟩)
theorem le_bi (h : Q (.bool (decide ((if p = true then (1 : Int) else 0) ≤ n))) s) : wpAny (model prog w) A (compareOp .LtE (.bool p) (.int n u)) Q E s := by
  show wpAny _ A (richCompare .LtE _ _) Q E s
  exact PyProof.Rows.wpAny_richCompare_left (PyProof.Rows.typeIs_bool' s p) (typeIs_int s n u) (by decide) sub_int_bool F.slot_bool_le
    (call_gives F.slot_bool_le (PyProof.Rows.typeIs_bool' s p) F.entry_int_le (F.args_int_le_2 _ _) (gives_le_bi p n u) ⟨nofun, h⟩)
end
theorem op_ltB {X : Cx} : OpR X (compareOp .Lt) (rIB fun i j => decide (i < j)) := by
  intro pins s σ H x y v u Q I rx ry h
  rcases h with ⟨i, j, rfl, rfl, q⟩ | ⟨b, j, rfl, rfl, q⟩
  · exact op_lt pins s σ H _ _ v u Q I rx ry ⟨i, j, rfl, rfl, q⟩
  · cases (show v = Value.bool b from rx)
    obtain ⟨t', rfl⟩ := ry
    exact lt_bi ⟨.bl _, H, I, rfl, q⟩
theorem op_leB {X : Cx} : OpR X (compareOp .LtE) (rIB fun i j => decide (i ≤ j)) := by
  intro pins s σ H x y v u Q I rx ry h
  rcases h with ⟨i, j, rfl, rfl, q⟩ | ⟨b, j, rfl, rfl, q⟩
  · exact op_le pins s σ H _ _ v u Q I rx ry ⟨i, j, rfl, rfl, q⟩
  · cases (show v = Value.bool b from rx)
    obtain ⟨t', rfl⟩ := ry
    exact le_bi ⟨.bl _, H, I, rfl, q⟩
abbrev gLt : D → D → Option D := onIB fun i j => decide (i < j)
abbrev gLe : D → D → Option D := onIB fun i j => decide (i ≤ j)
abbrev gGt : D → D → Option D := onInts0 fun i j => .bool (decide (j < i))
abbrev gGe : D → D → Option D := onInts0 fun i j => .bool (decide (j ≤ i))
def cDivW (_ j : Int) : Bool := decide (0 < j) && decide (j.natAbs.log2 < 9000)
def cMulW (i j : Int) : Bool := decide (i.natAbs.log2 + j.natAbs.log2 < 1000000)
def cMod (_ j : Int) : Bool := decide (0 < j)
abbrev gDiv : D → D → Option D := onInts cDivW fun i j => .int (i / j)
abbrev gMod : D → D → Option D := onInts cMod fun i j => .int (i % j)
section
variable {X : Cx} {e a b c tg elt iter : Expr} {es ifs : List Expr} {pos pos' tpos p apos cpos : Pos} {f fa fb fe : M D} {g ga gb : M Pl} {k : M Rv} {x : Str}
theorem pv_sub (ha : PP X a ga) (hb : PP X b gb) : PV X (.BinOp a .Sub b pos) (mOp gSub' ga gb) := pv_op op_sub (pop_I0 fun i j G => .int _) ha hb
theorem pv_fdiv (ha : PP X a ga) (hb : PP X b gb) : PV X (.BinOp a .FloorDiv b pos) (mOp gDiv ga gb) := pv_op op_fdivW (pop_I (fun i j h => by
  simp only [cDivW, Bool.and_eq_true, decide_eq_true_eq] at h; exact h) fun i j G => .int _) ha hb
theorem pv_mod (ha : PP X a ga) (hb : PP X b gb) : PV X (.BinOp a .Mod b pos) (mOp gMod ga gb) := pv_op op_mod (pop_I (fun i j h => of_decide_eq_true h) fun i j G => .int _) ha hb
theorem pt_lt (ha : PP X a ga) (hb : PP X b gb) : PTt X (.Compare a [.Lt] [b] pos) (mB (mOp gLt ga gb)) := pt_cmp' op_ltB pop_IB ha hb (nomark _)
theorem pt_le (ha : PP X a ga) (hb : PP X b gb) : PTt X (.Compare a [.LtE] [b] pos) (mB (mOp gLe ga gb)) := pt_cmp' op_leB pop_IB ha hb (nomark _)
theorem pt_gt (ha : PP X a ga) (hb : PP X b gb) : PTt X (.Compare a [.Gt] [b] pos) (mB (mOp gGt ga gb)) := pt_cmp' op_gt (pop_I0 fun i j G => .bl _) ha hb (nomark _)
theorem pt_ge (ha : PP X a ga) (hb : PP X b gb) : PTt X (.Compare a [.GtE] [b] pos) (mB (mOp gGe ga gb)) := pt_cmp' op_ge (pop_I0 fun i j G => .bl _) ha hb (nomark _)
theorem pv_lt (ha : PP X a ga) (hb : PP X b gb) : PV X (.Compare a [.Lt] [b] pos) (mOp gLt ga gb) := pv_cmp op_ltB pop_IB ha hb (nomark _)
theorem pv_le (ha : PP X a ga) (hb : PP X b gb) : PV X (.Compare a [.LtE] [b] pos) (mOp gLe ga gb) := pv_cmp op_leB pop_IB ha hb (nomark _)
theorem pv_gt (ha : PP X a ga) (hb : PP X b gb) : PV X (.Compare a [.Gt] [b] pos) (mOp gGt ga gb) := pv_cmp op_gt (pop_I0 fun i j G => .bl _) ha hb (nomark _)
theorem pv_ge (ha : PP X a ga) (hb : PP X b gb) : PV X (.Compare a [.GtE] [b] pos) (mOp gGe ga gb) := pv_cmp op_ge (pop_I0 fun i j G => .bl _) ha hb (nomark _)
/-! ### + and * by what the two are -/
def gAdd : D → D → Option (Bool × D)
  | .int i, .int j => some (false, .int (i + j))
  | .list xs, .list ys => if xs.length + ys.length ≤ 100000 then some (true, .list (xs ++ ys)) else none
  | .tuple xs, .tuple ys => if xs.length + ys.length ≤ 100000 ∧ xs ≠ [] ∧ ys ≠ [] then some (false, .tuple (xs ++ ys)) else none
  | .str x, .str y => if x.length + y.length ≤ 100000 then some (false, .str (x ++ y)) else none
  | _, _ => none
def rAddA (K : PySem.W.Frag) : R2 := fun x y H Q => rI0 (fun i j => .int (i + j)) x y H Q ∨ (rCat x y H Q ∨ (rCatT K x y H Q ∨ (∃ i j, x = .str i ∧ y = .str j ∧ i.length + j.length ≤ sizeLine ∧ Q (.str (i ++ j)) H)))
theorem op_addA : OpR X (binaryOp .Add) (rAddA X.K) := opOr op_add (opOr op_cat (opOr op_catT op_add_str))
theorem pop_addA {K : PySem.W.Frag} : POpX (rAddA K) gAdd := by
  intro G H x y d e z bb Q gh s1 s2 hg q qf
  cases s1 with
  | int i => cases s2 with
    | int j => cases hg; exact .inl ⟨i, j, rfl, rfl, q rfl _ G H (Grow.refl gh) (.int _)⟩
    | _ => cases hg
  | str i => cases s2 with
    | str j =>
      simp only [gAdd] at hg
      by_cases h : i.length + j.length ≤ 100000
      · rw [if_pos h] at hg; cases hg
        exact .inr (.inr (.inr ⟨i, j, rfl, rfl, line_of h, q rfl _ G H (Grow.refl gh) (.str _)⟩))
      · rw [if_neg h] at hg; cases hg
    | _ => cases hg
  | @lst a1 xs ds h1 r1 => cases s2 with
    | @lst a2 ys es h2 r2 =>
      simp only [gAdd] at hg
      by_cases h : ds.length + es.length ≤ 100000
      · rw [if_pos h] at hg; cases hg
        refine .inr (.inl ⟨a1, a2, xs, ys, rfl, rfl, h1, h2, by rw [r1.length, r2.length]; exact line_of h, fun p hp => ?_⟩)
        exact qf rfl p _ hp (Grow.newF gh hp) (.lst upd_same (r1.append r2))
      · rw [if_neg h] at hg; cases hg
    | _ => cases hg
  | @tup a1 xs ds h1 r1 => cases s2 with
    | @tup a2 ys es h2 r2 =>
      simp only [gAdd] at hg
      by_cases h : ds.length + es.length ≤ 100000 ∧ ds ≠ [] ∧ es ≠ []
      · rw [if_pos h] at hg; cases hg
        have n1 : xs ≠ [] := fun z => h.2.1 (by have := r1.length; rw [z] at this; exact List.length_eq_zero_iff.mp this.symm)
        have n2 : ys ≠ [] := fun z => h.2.2 (by have := r2.length; rw [z] at this; exact List.length_eq_zero_iff.mp this.symm)
        refine .inr (.inr (.inl ⟨a1, a2, xs, ys, rfl, rfl, .inl (.inl h1), .inl (.inl h2), n1, by rw [r1.length, r2.length]; exact line_of h.1, fun z => absurd z n2, fun _ p hp => ?_⟩))
        have w : Grow G H _ _ := Grow.new (o := .tup (xs ++ ys)) gh hp
        exact q rfl _ _ _ w (.tup upd_same ((r1.append r2).mono w.g))
      · rw [if_neg h] at hg; cases hg
    | _ => cases hg
  | _ => cases hg
theorem pf_add (ha : PP X a ga) (hb : PP X b gb) : PF X (.BinOp a .Add b pos) (mOpX gAdd ga gb) := pf_opX op_addA pop_addA ha hb
def gMul : D → D → Option (Bool × D)
  | .int i, .int j => if cMulW i j = true then some (false, .int (i * j)) else none
  | .list xs, .int n => if xs.length * n.toNat ≤ 100000 ∧ -(2 ^ 63) ≤ n ∧ n < 2 ^ 63 then some (true, .list (List.replicate n.toNat xs).flatten) else none
  | _, _ => none
def rMulA : R2 := fun x y H Q => rI CMulW (fun i j => .int (i * j)) x y H Q ∨ rRep x y H Q
theorem op_mulA : OpR X (binaryOp .Mult) rMulA := opOr op_mulW op_rep
theorem RpA.rep {G : Hp} {xs : List V} {ds : List D} (r : RpA G xs ds) : ∀ n : Nat, RpA G (List.replicate n xs).flatten (List.replicate n ds).flatten
  | 0 => .nil
  | n + 1 => by
    rw [List.replicate_succ, List.replicate_succ, List.flatten_cons, List.flatten_cons]
    exact r.append (RpA.rep r n)
theorem pop_mulA : POpX rMulA gMul := by
  intro G H x y d e z bb Q gh s1 s2 hg q qf
  cases s1 with
  | int i => cases s2 with
    | int j =>
      simp only [gMul] at hg
      by_cases h : cMulW i j = true
      · rw [if_pos h] at hg; cases hg
        exact .inl ⟨i, j, rfl, rfl, by simp only [cMulW, decide_eq_true_eq] at h; exact h, q rfl _ G H (Grow.refl gh) (.int _)⟩
      · rw [if_neg h] at hg; cases hg
    | _ => cases hg
  | @lst a1 xs ds h1 r1 => cases s2 with
    | int n =>
      simp only [gMul] at hg
      by_cases h : ds.length * n.toNat ≤ 100000 ∧ -(2 ^ 63) ≤ n ∧ n < 2 ^ 63
      · rw [if_pos h] at hg; cases hg
        refine .inr ⟨a1, n, xs, rfl, rfl, h1, h.2.1, h.2.2, by rw [r1.length]; exact line_of h.1, fun p hp => ?_⟩
        exact qf rfl p _ hp (Grow.newF gh hp) (.lst upd_same (r1.rep n.toNat))
      · rw [if_neg h] at hg; cases hg
    | _ => cases hg
  | _ => cases hg
theorem pf_mul (ha : PP X a ga) (hb : PP X b gb) : PF X (.BinOp a .Mult b pos) (mOpX gMul ga gb) := pf_opX op_mulA pop_mulA ha hb
def mNegU (f : M D) : M D := bnd f fun d => fun ρ => match d with
  | .int i => .ok (.int (-i)) ρ
  | _ => .stuck
theorem pv_neg (ha : PV X a fa) : PV X (.UnaryOp .USub a pos) (mNegU fa) := by
  obtain ⟨t, ha, r⟩ := ha
  refine ⟨_, pe_un un_neg ha, fun C G σ H ρ Q hK S d ρ' hf q => ?_⟩
  obtain ⟨d1, ρ1, h1, hf2⟩ := bnd_ok hf
  refine r C G σ H ρ _ hK S d1 ρ1 h1 fun v G1 H1 g1 S1 o => ?_
  cases o with
  | int i => cases hf2; exact ⟨i, rfl, q _ G1 H1 g1 S1 (.int _)⟩
  | _ => cases hf2
end
end PL
namespace PL
open PySem PySem.Spec L2 RT RZ
/-! ### powers of any ints -/
def cPowW (i j : Int) : Bool := decide (0 ≤ j) && decide (j ≤ 64) && decide (i.natAbs.log2 < 10000)
abbrev gPow : D → D → Option D := onInts cPowW fun i j => .int (i ^ j.toNat)
def CPowW (i j : Int) : Prop := cPowW i j = true
theorem op_powW {X : Cx} : OpR X (binaryOp .Pow) (rI CPowW fun i j => .int (i ^ j.toNat)) := opI fun i j t u s Q E hc q => by
  have h : 0 ≤ j ∧ j ≤ 64 ∧ i.natAbs.log2 < 10000 := by
    simp only [CPowW, cPowW, Bool.and_eq_true, decide_eq_true_eq] at hc
    exact ⟨hc.1.1, hc.1.2, hc.2⟩
  refine PyProof.Rows.pow_int h.1 ?_ q
  have hb : Builtin.Int.intBits i ≤ 10000 := by
    unfold Builtin.Int.intBits
    split
    · omega
    · omega
  have h1 : (Builtin.Int.intBits i : Int) * j ≤ 10000 * j := Int.mul_le_mul_of_nonneg_right (by omega) h.1
  have := h.2.1
  omega
section
variable {X : Cx} {e a b c tg elt iter : Expr} {es ifs : List Expr} {pos pos' tpos p p1 p2 apos cpos : Pos} {f fa fb fe : M D} {g ga gb : M Pl} {k : M Rv} {x : Str}
theorem pv_pow (ha : PP X a ga) (hb : PP X b gb) : PV X (.BinOp a .Pow b pos) (mOp gPow ga gb) := pv_op op_powW (pop_I (fun i j h => h) fun i j G => .int _) ha hb
/-! ### == and != of data -/
mutual
theorem Rp.dp {K : PySem.W.Frag} {G H : Hp} (gh : Same G H) : ∀ {v : V} {d : D}, Rp G v d → d.canLay0 = true → Dp K H v d
  | _, _, .non, _ => .non
  | _, _, .bl b, _ => .bl b
  | _, _, .int i, _ => .int i
  | _, _, .str x, _ => .str x
  | _, _, .lst h r, c => .lst (.inl (.inl (gh _ _ h))) (RpA.dp gh r c)
  | _, _, .tup h r, c => .tup (.inl (.inl (gh _ _ h))) (RpA.dp gh r c)
  | _, _, .dct h r, c => by cases c
theorem RpA.dp {K : PySem.W.Frag} {G H : Hp} (gh : Same G H) : ∀ {vs : List V} {ds : List D}, RpA G vs ds → PyData.canLayAll0 ds = true → DpAll K H vs ds
  | _, _, .nil, _ => .nil
  | _, _, .cons h r, c => by
    have c' : (_ && _) = true := c
    rw [Bool.and_eq_true] at c'
    exact .cons (Rp.dp gh h c'.1) (RpA.dp gh r c'.2)
end
theorem Sh.dp {K : PySem.W.Frag} {G H : Hp} (gh : Same G H) {v : V} {d : D} (h : Sh G H v d) (c : d.canLay0 = true) : Dp K H v d := by
  cases h with
  | non => exact .non
  | bl b => exact .bl b
  | int i => exact .int i
  | str x => exact .str x
  | lst h r => exact .lst (.inl (.inl h)) (r.dp gh c)
  | tup h r => exact .tup (.inl (.inl h)) (r.dp gh c)
  | dct h r => cases c
def gEq (d e : D) : Option D := match d, e with
  | .str a, .str b => some (.bool (a.cps.toList == b.cps.toList))
  | d, e => if (SeqAt.shaped d && SeqAt.shaped e) = true then some (.bool (PyData.eqv d e)) else none
def gNe (d e : D) : Option D := match d, e with
  | .str a, .str b => some (.bool (a.cps.toList != b.cps.toList))
  | d, e => if (SeqAt.shaped d && SeqAt.shaped e) = true then some (.bool (!PyData.eqv d e)) else none
def rEqS (K : PySem.W.Frag) : R2 := fun x y H Q => (∃ a b, x = .str a ∧ y = .str b ∧ Q (.bl (a.cps.toList == b.cps.toList)) H) ∨ rEqD K x y H Q
def rNeS (K : PySem.W.Frag) : R2 := fun x y H Q => (∃ a b, x = .str a ∧ y = .str b ∧ Q (.bl (a.cps.toList != b.cps.toList)) H) ∨ rNeD K x y H Q
theorem op_eqS {X : Cx} (hu : X.A.units + 64 < cLine) : OpR X (compareOp .Eq) (rEqS X.K) := by
  intro pins s σ H x y v u Q I rx ry h
  rcases h with ⟨a, b, rfl, rfl, q⟩ | h
  · obtain ⟨t, rfl⟩ := rx
    obtain ⟨t', rfl⟩ := ry
    exact PySem.P.eq_str ⟨.bl _, H, I, rfl, q⟩
  · exact op_eqD hu pins s σ H x y v u Q I rx ry h
theorem op_neS {X : Cx} (hu : X.A.units + 64 < cLine) : OpR X (compareOp .NotEq) (rNeS X.K) := by
  intro pins s σ H x y v u Q I rx ry h
  rcases h with ⟨a, b, rfl, rfl, q⟩ | h
  · obtain ⟨t, rfl⟩ := rx
    obtain ⟨t', rfl⟩ := ry
    exact PySem.P.ne_str ⟨.bl _, H, I, rfl, q⟩
  · exact op_neD hu pins s σ H x y v u Q I rx ry h
theorem pop_eq {K : PySem.W.Frag} : POpV (rEqS K) gEq := by
  intro G H x y d e z Q gh s1 s2 hg q
  unfold gEq at hg
  split at hg
  · cases hg
    cases s1; cases s2
    exact .inl ⟨_, _, rfl, rfl, q _ G H (Grow.refl gh) (.bl _)⟩
  · by_cases h : (SeqAt.shaped d && SeqAt.shaped e) = true
    · rw [if_pos h] at hg; cases hg
      rw [Bool.and_eq_true] at h
      exact .inr ⟨d, e, s1.dp gh (SeqAt.canLay_of_shaped h.1), s2.dp gh (SeqAt.canLay_of_shaped h.2), h.1, h.2, q _ G H (Grow.refl gh) (.bl _)⟩
    · rw [if_neg h] at hg; cases hg
theorem pop_ne {K : PySem.W.Frag} : POpV (rNeS K) gNe := by
  intro G H x y d e z Q gh s1 s2 hg q
  unfold gNe at hg
  split at hg
  · cases hg
    cases s1; cases s2
    exact .inl ⟨_, _, rfl, rfl, q _ G H (Grow.refl gh) (.bl _)⟩
  · by_cases h : (SeqAt.shaped d && SeqAt.shaped e) = true
    · rw [if_pos h] at hg; cases hg
      rw [Bool.and_eq_true] at h
      exact .inr ⟨d, e, s1.dp gh (SeqAt.canLay_of_shaped h.1), s2.dp gh (SeqAt.canLay_of_shaped h.2), h.1, h.2, q _ G H (Grow.refl gh) (.bl _)⟩
    · rw [if_neg h] at hg; cases hg
theorem pt_eq (hu : X.A.units + 64 < cLine) (ha : PP X a ga) (hb : PP X b gb) : PTt X (.Compare a [.Eq] [b] pos) (mB (mOp gEq ga gb)) := pt_cmp' (op_eqS hu) pop_eq ha hb (nomark _)
theorem pt_ne (hu : X.A.units + 64 < cLine) (ha : PP X a ga) (hb : PP X b gb) : PTt X (.Compare a [.NotEq] [b] pos) (mB (mOp gNe ga gb)) := pt_cmp' (op_neS hu) pop_ne ha hb (nomark _)
theorem pv_eq (hu : X.A.units + 64 < cLine) (ha : PP X a ga) (hb : PP X b gb) : PV X (.Compare a [.Eq] [b] pos) (mOp gEq ga gb) := pv_cmp (op_eqS hu) pop_eq ha hb (nomark _)
theorem pv_ne (hu : X.A.units + 64 < cLine) (ha : PP X a ga) (hb : PP X b gb) : PV X (.Compare a [.NotEq] [b] pos) (mOp gNe ga gb) := pv_cmp (op_neS hu) pop_ne ha hb (nomark _)
/-! ### is, is not -/
def isNone : D → Bool
  | .none => true
  | _ => false
def gIs (d e : D) : Option D := match e with
  | .none => some (.bool (isNone d))
  | .bool b => match d with
    | .bool a => some (.bool (decide (a = b)))
    | _ => some (.bool false)
  | _ => none
def gNot (d e : D) : Option D := match e with
  | .none => some (.bool (!isNone d))
  | .bool b => match d with
    | .bool a => some (.bool (!decide (a = b)))
    | _ => some (.bool true)
  | _ => none
/-- is of a bool: of what is no bool -/
def noBl : V → Prop
  | .non => True
  | .int _ => True
  | .str _ => True
  | .ref _ => True
  | _ => False
def rIsO : R2 := fun x y H Q => ∃ b : Bool, y = .bl b ∧ noBl x ∧ Q (.bl false) H
def rNotO : R2 := fun x y H Q => ∃ b : Bool, y = .bl b ∧ noBl x ∧ Q (.bl true) H
theorem op_isO : OpR X (compareOp .Is) rIsO := by
  intro pins s σ H x y v u Q I rx ry h
  obtain ⟨b, rfl, hx, q⟩ := h
  cases (show u = Value.bool b from ry)
  have fin : EP X pins σ Q (.bool false) s := ⟨.bl false, H, I, rfl, q⟩
  cases x with
  | non => cases (show v = Value.none from rx); exact wpAny_is_other rfl (fun z => nomatch z) fin
  | int i => obtain ⟨t, rfl⟩ := (show ∃ t, v = Value.int i t from rx); exact wpAny_is_other rfl (fun z => nomatch z) fin
  | str i => obtain ⟨t, rfl⟩ := (show ∃ t, v = Value.str i t from rx); exact wpAny_is_other rfl (fun z => nomatch z) fin
  | ref a => cases (show v = Value.ref a from rx); exact wpAny_is_other rfl (fun z => nomatch z) fin
  | _ => exact hx.elim
theorem op_notO : OpR X (compareOp .IsNot) rNotO := by
  intro pins s σ H x y v u Q I rx ry h
  obtain ⟨b, rfl, hx, q⟩ := h
  cases (show u = Value.bool b from ry)
  have fin : EP X pins σ Q (.bool true) s := ⟨.bl true, H, I, rfl, q⟩
  cases x with
  | non => cases (show v = Value.none from rx); exact wpAny_isNot_other rfl (fun z => nomatch z) fin
  | int i => obtain ⟨t, rfl⟩ := (show ∃ t, v = Value.int i t from rx); exact wpAny_isNot_other rfl (fun z => nomatch z) fin
  | str i => obtain ⟨t, rfl⟩ := (show ∃ t, v = Value.str i t from rx); exact wpAny_isNot_other rfl (fun z => nomatch z) fin
  | ref a => cases (show v = Value.ref a from rx); exact wpAny_isNot_other rfl (fun z => nomatch z) fin
  | _ => exact hx.elim
theorem isNone_ok {G H : Hp} {v : V} {d : D} (h : Sh G H v d) : decide (v = V.non) = isNone d := by
  cases h <;> first | rfl | exact decide_eq_false fun z => nomatch z
def rIsA : R2 := fun x y H Q => (y = .non ∧ Q (.bl (decide (x = .non))) H) ∨ (rIsB x y H Q ∨ rIsO x y H Q)
def rNotA : R2 := fun x y H Q => (y = .non ∧ Q (.bl (!decide (x = .non))) H) ∨ (rNotB x y H Q ∨ rNotO x y H Q)
theorem pop_is : POpV rIsA gIs := by
  intro G H x y d e z Q gh s1 s2 hg q
  cases s2 with
  | non => cases hg; exact .inl ⟨rfl, q _ G H (Grow.refl gh) (by rw [isNone_ok s1]; exact .bl _)⟩
  | bl b => cases s1 with
    | bl a => cases hg; exact .inr (.inl ⟨a, b, rfl, rfl, q _ G H (Grow.refl gh) (.bl _)⟩)
    | _ => cases hg; exact .inr (.inr ⟨b, rfl, trivial, q _ G H (Grow.refl gh) (.bl _)⟩)
  | _ => cases hg
theorem pop_not : POpV rNotA gNot := by
  intro G H x y d e z Q gh s1 s2 hg q
  cases s2 with
  | non => cases hg; exact .inl ⟨rfl, q _ G H (Grow.refl gh) (by rw [isNone_ok s1]; exact .bl _)⟩
  | bl b => cases s1 with
    | bl a => cases hg; exact .inr (.inl ⟨a, b, rfl, rfl, q _ G H (Grow.refl gh) (.bl _)⟩)
    | _ => cases hg; exact .inr (.inr ⟨b, rfl, trivial, q _ G H (Grow.refl gh) (.bl _)⟩)
  | _ => cases hg
theorem pt_is (ha : PP X a ga) (hb : PP X b gb) : PTt X (.Compare a [.Is] [b] pos) (mB (mOp gIs ga gb)) := pt_cmp' (opOr op_isN (opOr op_isBl op_isO)) pop_is ha hb (nomark _)
theorem pt_isnot (ha : PP X a ga) (hb : PP X b gb) : PTt X (.Compare a [.IsNot] [b] pos) (mB (mOp gNot ga gb)) := pt_cmp' (opOr op_notN (opOr op_notBl op_notO)) pop_not ha hb (nomark _)
theorem pv_is (ha : PP X a ga) (hb : PP X b gb) : PV X (.Compare a [.Is] [b] pos) (mOp gIs ga gb) := pv_cmp (opOr op_isN (opOr op_isBl op_isO)) pop_is ha hb (nomark _)
theorem pv_isnot (ha : PP X a ga) (hb : PP X b gb) : PV X (.Compare a [.IsNot] [b] pos) (mOp gNot ga gb) := pv_cmp (opOr op_notN (opOr op_notBl op_notO)) pop_not ha hb (nomark _)
/-! ### subscripts -/
def gIx : D → D → Option D
  | .list ds, .int i => atI ds i
  | .tuple ds, .int i => atI ds i
  | .str s, .int i => if s.length ≤ 100000 then (atI s.cps.toList i).map fun c => .str ⟨#[c]⟩ else none
  | _, _ => none
theorem atI_rp {G : Hp} {vs : List V} {ds : List D} {i : Int} {d : D} (r : RpA G vs ds) (h : atI ds i = some d) : ∃ v, atI vs i = some v ∧ Rp G v d := by
  unfold atI at h ⊢
  rw [r.length]
  cases q : ixN ds.length i with
  | none => rw [q] at h; cases h
  | some j => rw [q] at h; exact r.get h
theorem pop_ix {K : PySem.W.Frag} : POpV (rIx K) gIx := by
  intro G H x y d e z Q gh s1 s2 hg q
  cases s2 with
  | int i =>
    cases s1 with
    | @lst a xs ds h r =>
      obtain ⟨v, hv, rv⟩ := atI_rp r (show atI ds i = some z from hg)
      exact .inl ⟨a, xs, i, v, rfl, rfl, .inl (.inl h), hv, q v G H (Grow.refl gh) rv⟩
    | @tup a xs ds h r =>
      obtain ⟨v, hv, rv⟩ := atI_rp r (show atI ds i = some z from hg)
      exact .inr (.inl ⟨a, xs, i, v, rfl, rfl, .inl (.inl h), hv, q v G H (Grow.refl gh) rv⟩)
    | str s =>
      simp only [gIx] at hg
      by_cases hl : s.length ≤ 100000
      · rw [if_pos hl] at hg
        cases r : atI s.cps.toList i with
        | none => rw [r] at hg; cases hg
        | some c =>
          rw [r] at hg
          cases hg
          exact .inr (.inr ⟨s, i, c, rfl, rfl, line_of hl, r, q _ G H (Grow.refl gh) (.str _)⟩)
      · rw [if_neg hl] at hg; cases hg
    | _ => cases hg
  | non => cases s1 <;> cases hg
  | bl b => cases s1 <;> cases hg
  | str b => cases s1 <;> cases hg
  | lst h r => cases s1 <;> cases hg
  | tup h r => cases s1 <;> cases hg
  | dct h r => cases s1 <;> cases hg
theorem pv_ix (ha : PP X a ga) (hb : PP X b gb) (hs : PlainIx b := by intro _ _; rfl) : PV X (.Subscript a b pos) (mOp gIx ga gb) := by
  obtain ⟨ta, ha, ra⟩ := ha
  obtain ⟨tb, hb, rb⟩ := hb
  exact ⟨_, pe_ix ix_seq ha hb hs, rd_op pop_ix ra rb⟩
/-! ### slices -/
def cutD (xs : List D) (lo hi : Option Int) : List D := (xs.drop (HT.sIx xs.length 0 lo)).take (HT.sIx xs.length xs.length hi - HT.sIx xs.length 0 lo)
theorem cut_rp {G : Hp} {vs : List V} {ds : List D} {lo hi : Option Int} (r : RpA G vs ds) : RpA G (cutV vs lo hi) (cutD ds lo hi) := by
  unfold cutV cutD
  rw [r.length]
  exact (r.drop _).take _
/-- a list's slice is a list of one's own; a tuple's that isn't the whole one is a new tuple -/
def sliceD (d : D) (lo hi : Option Int) : Option (Bool × D) := match d with
  | .list ds => some (true, .list (cutD ds lo hi))
  | .tuple ds => if HT.sIx ds.length 0 lo = 0 ∧ HT.sIx ds.length ds.length hi = ds.length then none else some (false, .tuple (cutD ds lo hi))
  | _ => none
def asIx : Option D → Option (Option Int)
  | none => some none
  | some (.int i) => some (some i)
  | _ => none
def mOpt : Option (M D) → M (Option Int)
  | none => ret none
  | some f => bnd f fun d => fun ρ => match d with
    | .int i => .ok (some i) ρ
    | _ => .stuck
def mSlice (g : M Pl) (lo hi : Option (M D)) : M Rv := bnd g fun p => bnd (mOpt lo) fun l => bnd (mOpt hi) fun h => bnd (look p) fun d => bnd (ofO (sliceD d l h)) fun bz => ret (rvOf bz)
def slOr (r r' : V → Option Int → Option Int → Hp → VK → Prop) : V → Option Int → Option Int → Hp → VK → Prop := fun x l h H Q => r x l h H Q ∨ r' x l h H Q
theorem slR_or {r r' : V → Option Int → Option Int → Hp → VK → Prop} (h : SlR X r) (h' : SlR X r') : SlR X (slOr r r') := by
  intro pins s σ H x v vl vu l u sa Q I rx rs pl pu q
  rcases q with q | q
  · exact h pins s σ H x v vl vu l u sa Q I rx rs pl pu q
  · exact h' pins s σ H x v vl vu l u sa Q I rx rs pl pu q
def RdO (K : PySem.W.Frag) (t : TO) (f : M (Option Int)) : Prop := ∀ (C : Ctx) (G : Hp) (σ : L2.St) (H : Hp) (ρ : Env) (Q : Option Int → Hp → Prop), C.K = K → StOk C G σ H ρ → ∀ (d : Option Int) (ρ' : Env), f ρ = .ok d ρ' →
  (∀ (G' H' : Hp), Same G G' → StOk C G' σ H' ρ' → Q d H') → t σ H Q
def POt (X : Cx) (o : Option Expr) (f : M (Option Int)) : Prop := ∃ t, PO X o t ∧ RdO X.K t f
theorem pot_none : POt X none (mOpt none) := ⟨_, po_none, fun C G σ H ρ Q hK S d ρ' hf q => by cases hf; exact q G H (Same.refl _) S⟩
theorem pot_some (h : PV X e f) : POt X (some e) (mOpt (some f)) := by
  obtain ⟨t, h, r⟩ := h
  refine ⟨_, po_some h, fun C G σ H ρ Q hK S d ρ' hf q => ?_⟩
  obtain ⟨d1, ρ1, h1, hf2⟩ := bnd_ok hf
  refine r C G σ H ρ _ hK S d1 ρ1 h1 fun v G1 H1 g1 S1 o => ?_
  cases o with
  | int i => cases hf2; exact ⟨i, rfl, q G1 H1 g1 S1⟩
  | _ => cases hf2
theorem pf_slice {lo hi : Option Expr} {fl fh : Option (M D)} (h : PP X e g) (hl : POt X lo (mOpt fl)) (hh : POt X hi (mOpt fh)) : PF X (.Subscript e (.Slice lo hi none p2) pos) (mSlice g fl fh) := by
  obtain ⟨t, h, r⟩ := h
  obtain ⟨tl, hl, rl⟩ := hl
  obtain ⟨th, hh, rh⟩ := hh
  refine ⟨_, pe_slice (slR_or sl_list sl_tup) h hl hh, fun C G σ H ρ Q hK S d ρ' hf q => ?_⟩
  obtain ⟨pl, ρ1, h1, hf2⟩ := bnd_ok hf
  obtain ⟨l, ρ2, h2, hf3⟩ := bnd_ok hf2
  obtain ⟨u, ρ3, h3, hf4⟩ := bnd_ok hf3
  obtain ⟨dd, ρ4, h4, hf5⟩ := bnd_ok hf4
  obtain ⟨bz, ρ5, h5, hf6⟩ := bnd_ok hf5
  cases hf6
  refine r C G σ H ρ _ hK S pl ρ1 h1 fun v G1 H1 g1 S1 o1 => ?_
  refine rl C G1 σ H1 ρ1 _ hK S1 l ρ2 h2 fun G2 H2 g2 S2 => ?_
  refine rh C G2 σ H2 ρ2 _ hK S2 u ρ3 h3 fun G3 H3 g3 S3 => ?_
  obtain ⟨s, rfl⟩ := look_ok S3 ((o1.mono g2).mono g3) h4
  obtain ⟨es, rfl⟩ := ofO_ok h5
  have gg := (g1.trans g2).trans g3
  cases s with
  | @lst a xs ds ha ra =>
    cases es
    refine .inl ⟨a, xs, rfl, .inl (.inl ha), fun p hp => ?_⟩
    have w := Grow.newF (o := .lst (cutV xs l u)) S3.gh hp
    exact q _ G3 _ gg (S3.grow w) (fresh_ok S3 hp w (.lst upd_same (cut_rp ra)))
  | @tup a xs ds ha ra =>
    simp only [sliceD] at es
    by_cases hw : HT.sIx ds.length 0 l = 0 ∧ HT.sIx ds.length ds.length u = ds.length
    · rw [if_pos hw] at es; cases es
    · rw [if_neg hw] at es; cases es
      refine .inr ⟨a, xs, rfl, .inl (.inl ha), by rw [ra.length]; exact hw, fun p hp => ?_⟩
      have w := Grow.new (o := .tup (cutV xs l u)) S3.gh hp
      exact q _ _ _ (gg.trans w.g) (S3.grow w) (.tup upd_same ((cut_rp ra).mono w.g))
  | _ => cases es
end
end PL
namespace PL
open PySem PySem.Spec L2 RT RZ
section
variable {X : Cx} {e a b c tg elt iter : Expr} {es ifs : List Expr} {pos pos' tpos p p1 p2 apos cpos : Pos} {f fa fb fe : M D} {g ga gb : M Pl} {gs : M (List Pl)} {k : M Rv} {x : Str}
/-! ### calls of built-ins -/
theorem pv_b {id : String} {r : List V → Hp → VK → Prop} {g' : List D → Option D} (hc : CallR X (.builtin id) r) (hp : PClV r g') (hg : Gl X x) (hm : X.mg x = none) (hv : bootBuiltins x = some (.builtin id)) (ha : PPs X (e :: es) gs) (hn : x ≠ "__name__" := by decide) (hdb : (x == ("__debug__" : Str)) = false := by decide)
    (he : starEach (e :: es) X.env = (false, eval e X.env) :: starEach es X.env := by rfl) (hpl : (backTo pos (starEach es X.env)).any (·.1) = false := by rfl) : PV X (.Call (.Name x p) (e :: es) [] pos) (mN g' gs) := by
  obtain ⟨t, ha, ra⟩ := ha
  exact ⟨_, pe_callB hc hg hm hv ha hn hdb he hpl, rd_cl hp ra⟩
theorem pv_bT {id : String} {r : List V → Hp → VK → Prop} {g' : List D → Option D} (hc : CallR X (.type id) r) (hp : PClV r g') (hg : Gl X x) (hm : X.mg x = none) (hv : bootBuiltins x = some (.type id)) (ha : PPs X (e :: es) gs) (hn : x ≠ "__name__" := by decide) (hdb : (x == ("__debug__" : Str)) = false := by decide)
    (he : starEach (e :: es) X.env = (false, eval e X.env) :: starEach es X.env := by rfl) (hpl : (backTo pos (starEach es X.env)).any (·.1) = false := by rfl) : PV X (.Call (.Name x p) (e :: es) [] pos) (mN g' gs) := by
  obtain ⟨t, ha, ra⟩ := ha
  exact ⟨_, pe_callTy hc hg hm hv ha hn hdb he hpl, rd_cl hp ra⟩
theorem pf_b {id : String} {r : List V → Hp → VK → Prop} {g' : List D → Option D} (hc : CallR X (.builtin id) r) (hp : PClF r g') (hg : Gl X x) (hm : X.mg x = none) (hv : bootBuiltins x = some (.builtin id)) (ha : PPs X (e :: es) gs) (hn : x ≠ "__name__" := by decide) (hdb : (x == ("__debug__" : Str)) = false := by decide)
    (he : starEach (e :: es) X.env = (false, eval e X.env) :: starEach es X.env := by rfl) (hpl : (backTo pos (starEach es X.env)).any (·.1) = false := by rfl) : PF X (.Call (.Name x p) (e :: es) [] pos) (mFr (mN g' gs)) := by
  obtain ⟨t, ha, ra⟩ := ha
  exact ⟨_, pe_callB hc hg hm hv ha hn hdb he hpl, rd_clF hp ra⟩
theorem pf_bT {id : String} {r : List V → Hp → VK → Prop} {g' : List D → Option D} (hc : CallR X (.type id) r) (hp : PClF r g') (hg : Gl X x) (hm : X.mg x = none) (hv : bootBuiltins x = some (.type id)) (ha : PPs X (e :: es) gs) (hn : x ≠ "__name__" := by decide) (hdb : (x == ("__debug__" : Str)) = false := by decide)
    (he : starEach (e :: es) X.env = (false, eval e X.env) :: starEach es X.env := by rfl) (hpl : (backTo pos (starEach es X.env)).any (·.1) = false := by rfl) : PF X (.Call (.Name x p) (e :: es) [] pos) (mFr (mN g' gs)) := by
  obtain ⟨t, ha, ra⟩ := ha
  exact ⟨_, pe_callTy hc hg hm hv ha hn hdb he hpl, rd_clF hp ra⟩
/-! what each gives -/
def gLen : List D → Option D
  | [.list ds] => some (.int ds.length)
  | [.tuple ds] => some (.int ds.length)
  | [.str s] => if s.length ≤ 100000 then some (.int s.length) else none
  | _ => none
def rLenA (K : PySem.W.Frag) : List V → Hp → VK → Prop := fun xs H Q => ∃ x n, xs = [x] ∧ LenV K x H n ∧ Q (.int n) H
theorem pcl_len {K : PySem.W.Frag} : PClV (rLenA K) gLen := by
  intro G H vs ds z Q gh s hg q
  cases s with
  | nil => cases hg
  | cons h r => cases r with
    | cons _ _ => cases h <;> cases hg
    | nil =>
      cases h with
      | @lst a xs ds h r => cases hg; exact ⟨_, _, rfl, .inl ⟨xs, .inl (.inl h), r.length.symm⟩, q _ G H (Grow.refl gh) (.int _)⟩
      | @tup a xs ds h r => cases hg; exact ⟨_, _, rfl, .inr ⟨xs, .inl (.inl h), r.length.symm⟩, q _ G H (Grow.refl gh) (.int _)⟩
      | str s =>
        simp only [gLen] at hg
        by_cases hl : s.length ≤ 100000
        · rw [if_pos hl] at hg; cases hg
          exact ⟨_, _, rfl, ⟨line_of hl, rfl⟩, q _ G H (Grow.refl gh) (.int _)⟩
        · rw [if_neg hl] at hg; cases hg
      | _ => cases hg
theorem pv_len (hg : Gl X "len") (hm : X.mg "len" = none) (ha : PPs X (e :: es) gs) (he : starEach (e :: es) X.env = (false, eval e X.env) :: starEach es X.env := by rfl) (hpl : (backTo pos (starEach es X.env)).any (·.1) = false := by rfl) :
    PV X (.Call (.Name "len" p) (e :: es) [] pos) (mN gLen gs) := pv_b call_len pcl_len hg hm PySem.boot_len ha (he := he) (hpl := hpl)
def gAbs : List D → Option D
  | [.int i] => some (.int (if i < 0 then -i else i))
  | _ => none
theorem pv_abs (hg : Gl X "abs") (hm : X.mg "abs" = none) (ha : PPs X (e :: es) gs) (he : starEach (e :: es) X.env = (false, eval e X.env) :: starEach es X.env := by rfl) (hpl : (backTo pos (starEach es X.env)).any (·.1) = false := by rfl) :
    PV X (.Call (.Name "abs" p) (e :: es) [] pos) (mN gAbs gs) := pv_b call_abs (fun G H vs ds z Q gh s hg q => by
  cases s with
  | nil => cases hg
  | cons h r => cases r with
    | cons _ _ => cases h <;> cases hg
    | nil => cases h with
      | int i => cases hg; exact ⟨i, rfl, q _ G H (Grow.refl gh) (.int _)⟩
      | _ => cases hg) hg hm PyProof.Rows.boot_abs ha (he := he) (hpl := hpl)
def gMax2 : List D → Option D
  | [.int i, .int j] => some (.int (if j > i then j else i))
  | _ => none
def gMin2 : List D → Option D
  | [.int i, .int j] => some (.int (if j < i then j else i))
  | _ => none
theorem pv_max2 (hc : X.calm = true) (hg : Gl X "max") (hm : X.mg "max" = none) (ha : PPs X (e :: es) gs) (he : starEach (e :: es) X.env = (false, eval e X.env) :: starEach es X.env := by rfl) (hpl : (backTo pos (starEach es X.env)).any (·.1) = false := by rfl) :
    PV X (.Call (.Name "max" p) (e :: es) [] pos) (mN gMax2 gs) := pv_b (call_max2 hc) (fun G H vs ds z Q gh s hg q => by
  cases s with
  | nil => cases hg
  | cons h r => cases r with
    | nil => cases h <;> cases hg
    | cons h2 r2 => cases r2 with
      | cons _ _ => cases h <;> cases h2 <;> cases hg
      | nil => cases h with
        | int i => cases h2 with
          | int j => cases hg; exact ⟨i, j, rfl, q _ G H (Grow.refl gh) (.int _)⟩
          | _ => cases hg
        | _ => cases hg) hg hm (by decide +kernel) ha (he := he) (hpl := hpl)
theorem pv_min2 (hc : X.calm = true) (hg : Gl X "min") (hm : X.mg "min" = none) (ha : PPs X (e :: es) gs) (he : starEach (e :: es) X.env = (false, eval e X.env) :: starEach es X.env := by rfl) (hpl : (backTo pos (starEach es X.env)).any (·.1) = false := by rfl) :
    PV X (.Call (.Name "min" p) (e :: es) [] pos) (mN gMin2 gs) := pv_b (call_min2 hc) (fun G H vs ds z Q gh s hg q => by
  cases s with
  | nil => cases hg
  | cons h r => cases r with
    | nil => cases h <;> cases hg
    | cons h2 r2 => cases r2 with
      | cons _ _ => cases h <;> cases h2 <;> cases hg
      | nil => cases h with
        | int i => cases h2 with
          | int j => cases hg; exact ⟨i, j, rfl, q _ G H (Grow.refl gh) (.int _)⟩
          | _ => cases hg
        | _ => cases hg) hg hm (by decide +kernel) ha (he := he) (hpl := hpl)
def gInt1 : List D → Option D
  | [.int i] => some (.int i)
  | [.bool b] => some (.int (if b then 1 else 0))
  | _ => none
theorem pv_int1 (hg : Gl X "int") (hm : X.mg "int" = none) (ha : PPs X (e :: es) gs) (he : starEach (e :: es) X.env = (false, eval e X.env) :: starEach es X.env := by rfl) (hpl : (backTo pos (starEach es X.env)).any (·.1) = false := by rfl) :
    PV X (.Call (.Name "int" p) (e :: es) [] pos) (mN gInt1 gs) := pv_bT call_int1 (fun G H vs ds z Q gh s hg q => by
  cases s with
  | nil => cases hg
  | cons h r => cases r with
    | cons _ _ => cases h <;> cases hg
    | nil => cases h with
      | int i => cases hg; exact .inl ⟨i, rfl, q _ G H (Grow.refl gh) (.int _)⟩
      | bl b => cases hg; exact .inr ⟨b, rfl, q _ G H (Grow.refl gh) (.int _)⟩
      | _ => cases hg) hg hm PyProof.Rows.boot_int ha (he := he) (hpl := hpl)
def bools : List D → Option (List Bool)
  | [] => some []
  | .bool b :: ds => (bools ds).map (b :: ·)
  | _ => none
theorem bools_ok {G : Hp} : ∀ {ds : List D} {bs : List Bool} {vs : List V}, bools ds = some bs → RpA G vs ds → vs = bs.map V.bl
  | [], bs, _, h, .nil => by cases h; rfl
  | d :: ds, bs, _, h, .cons r rs => by
    cases r with
    | bl b =>
      simp only [bools] at h
      cases q : bools ds with
      | none => rw [q] at h; cases h
      | some cs => rw [q] at h; cases h; rw [bools_ok q rs]; rfl
    | _ => cases h
def nums : List D → Option (List Int)
  | [] => some []
  | .int b :: ds => (nums ds).map (b :: ·)
  | _ => none
theorem nums_ok {G : Hp} : ∀ {ds : List D} {bs : List Int} {vs : List V}, nums ds = some bs → RpA G vs ds → vs = bs.map V.int
  | [], bs, _, h, .nil => by cases h; rfl
  | d :: ds, bs, _, h, .cons r rs => by
    cases r with
    | int b =>
      simp only [nums] at h
      cases q : nums ds with
      | none => rw [q] at h; cases h
      | some cs => rw [q] at h; cases h; rw [nums_ok q rs]; rfl
    | _ => cases h
def gAll : List D → Option D
  | [.list ds] => (bools ds).map fun bs => .bool (bs.all id)
  | _ => none
def gAny : List D → Option D
  | [.list ds] => (bools ds).map fun bs => .bool (bs.any id)
  | _ => none
def gSum : List D → Option D
  | [.list ds] => (nums ds).map fun bs => .int bs.sum
  | _ => none
theorem pcl_list1 {r : List V → Hp → VK → Prop} {α : Type} {dec : List D → Option (List α)} {inj : α → V} {out : List α → D} {gg : List D → Option D} (hg1 : ∀ ds, gg [.list ds] = (dec ds).map out) (hg2 : ∀ l, (∀ ds, l ≠ [PyData.list ds]) → gg l = none)
    (hdec : ∀ {G : Hp} {ds : List D} {bs : List α} {vs : List V}, dec ds = some bs → RpA G vs ds → vs = bs.map inj)
    (hr : ∀ (H : Hp) (a : Addr) (bs : List α) (Q : VK) (G : Hp), H a = some (.lst (bs.map inj)) → Same G H → (∀ v G' H', Grow G H G' H' → Rp G' v (out bs) → Q v H') → r [.ref a] H Q) : PClV r gg := by
  intro G H vs ds z Q gh s hg q
  cases s with
  | nil => rw [hg2 _ (by intro ds h; simp at h)] at hg; cases hg
  | cons h rr => cases rr with
    | cons _ _ => rw [hg2 _ (by intro ds h; simp at h)] at hg; cases hg
    | nil => cases h with
      | @lst a xs ds h r =>
        rw [hg1] at hg
        cases qd : dec ds with
        | none => rw [qd] at hg; cases hg
        | some bs =>
          rw [qd] at hg
          cases hg
          have := hdec qd r
          subst this
          exact hr H a bs Q G h gh q
      | _ => rw [hg2 _ (by intro ds h; simp at h)] at hg; cases hg
theorem pv_all (hc : X.calm = true) (hg : Gl X "all") (hm : X.mg "all" = none) (ha : PPs X (e :: es) gs) (he : starEach (e :: es) X.env = (false, eval e X.env) :: starEach es X.env := by rfl) (hpl : (backTo pos (starEach es X.env)).any (·.1) = false := by rfl) :
    PV X (.Call (.Name "all" p) (e :: es) [] pos) (mN gAll gs) := pv_b (cr_all hc) (pcl_list1 (dec := bools) (inj := V.bl) (out := fun bs => .bool (bs.all id)) (fun _ => rfl) (fun l h => by
      cases l with
      | nil => rfl
      | cons d ds => cases d <;> cases ds <;> first | rfl | exact absurd rfl (h _)) bools_ok fun H a bs Q G h gh q => ⟨a, bs, rfl, .inl (.inl h), q _ G H (Grow.refl gh) (.bl _)⟩) hg hm (by decide +kernel) ha (he := he) (hpl := hpl)
theorem pv_any (hc : X.calm = true) (hg : Gl X "any") (hm : X.mg "any" = none) (ha : PPs X (e :: es) gs) (he : starEach (e :: es) X.env = (false, eval e X.env) :: starEach es X.env := by rfl) (hpl : (backTo pos (starEach es X.env)).any (·.1) = false := by rfl) :
    PV X (.Call (.Name "any" p) (e :: es) [] pos) (mN gAny gs) := pv_b (cr_any hc) (pcl_list1 (dec := bools) (inj := V.bl) (out := fun bs => .bool (bs.any id)) (fun _ => rfl) (fun l h => by
      cases l with
      | nil => rfl
      | cons d ds => cases d <;> cases ds <;> first | rfl | exact absurd rfl (h _)) bools_ok fun H a bs Q G h gh q => ⟨a, bs, rfl, .inl (.inl h), q _ G H (Grow.refl gh) (.bl _)⟩) hg hm (by decide +kernel) ha (he := he) (hpl := hpl)
theorem pv_sum (hc : X.calm = true) (hg : Gl X "sum") (hm : X.mg "sum" = none) (ha : PPs X (e :: es) gs) (he : starEach (e :: es) X.env = (false, eval e X.env) :: starEach es X.env := by rfl) (hpl : (backTo pos (starEach es X.env)).any (·.1) = false := by rfl) :
    PV X (.Call (.Name "sum" p) (e :: es) [] pos) (mN gSum gs) := pv_b (cr_sum hc) (pcl_list1 (dec := nums) (inj := V.int) (out := fun bs => .int bs.sum) (fun _ => rfl) (fun l h => by
      cases l with
      | nil => rfl
      | cons d ds => cases d <;> cases ds <;> first | rfl | exact absurd rfl (h _)) nums_ok fun H a bs Q G h gh q => ⟨a, bs, rfl, .inl (.inl h), q _ G H (Grow.refl gh) (.int _)⟩) hg hm (by decide +kernel) ha (he := he) (hpl := hpl)
def gList : List D → Option D
  | [.list ds] => some (.list ds)
  | [.tuple ds] => some (.list ds)
  | _ => none
theorem pf_list (hg : Gl X "list") (hm : X.mg "list" = none) (ha : PPs X (e :: es) gs) (he : starEach (e :: es) X.env = (false, eval e X.env) :: starEach es X.env := by rfl) (hpl : (backTo pos (starEach es X.env)).any (·.1) = false := by rfl) :
    PF X (.Call (.Name "list" p) (e :: es) [] pos) (mFr (mN gList gs)) := pf_bT call_list_of (fun G H vs ds z Q gh s hg q => by
  cases s with
  | nil => cases hg
  | cons h r => cases r with
    | cons _ _ => cases h <;> cases hg
    | nil => cases h with
      | @lst a xs ds h r => cases hg; exact ⟨a, xs, rfl, .inl (.inl (.inl h)), fun l hl => q l _ hl (Grow.newF gh hl) (.lst upd_same r)⟩
      | @tup a xs ds h r => cases hg; exact ⟨a, xs, rfl, .inr (.inl (.inl h)), fun l hl => q l _ hl (Grow.newF gh hl) (.lst upd_same r)⟩
      | _ => cases hg) hg hm PyProof.Rows.boot_list ha (he := he) (hpl := hpl)
def gTuple : List D → Option D
  | [.list ds] => some (.tuple ds)
  | _ => none
theorem pv_tuple (hg : Gl X "tuple") (hm : X.mg "tuple" = none) (ha : PPs X (e :: es) gs) (he : starEach (e :: es) X.env = (false, eval e X.env) :: starEach es X.env := by rfl) (hpl : (backTo pos (starEach es X.env)).any (·.1) = false := by rfl) :
    PV X (.Call (.Name "tuple" p) (e :: es) [] pos) (mN gTuple gs) := pv_bT call_tuple_of (fun G H vs ds z Q gh s hg q => by
  cases s with
  | nil => cases hg
  | cons h r => cases r with
    | cons _ _ => cases h <;> cases hg
    | nil => cases h with
      | @lst a xs ds h r => cases hg; exact ⟨a, xs, rfl, .inl ⟨.inl (.inl h), fun l hl => (Grow.new (o := .tup xs) gh hl |> fun w => q _ _ _ w (.tup upd_same (r.mono w.g)))⟩⟩
      | _ => cases hg) hg hm PyProof.Rows.boot_tuple ha (he := he) (hpl := hpl)
/-! ### the script -/
def mLenS (i : Nat) : M D := fun ρ => match ρ[i]? with
  | some (.scr ns) => .ok (.int ns.length) ρ
  | _ => .stuck
def mIxS (i : Nat) (fb : M D) : M D := fun ρ => match ρ[i]? with
  | some (.scr ns) => match fb ρ with
    | .ok (.int n) ρ' => match atI ns n with
      | some v => .ok (.int v) ρ'
      | none => .stuck
    | _ => .stuck
  | _ => .stuck
theorem scr_at {C : Ctx} {G H : Hp} {σ : L2.St} {ρ : Env} {i : Nat} {ns : List Int} (S : StOk C G σ H ρ) (e : ρ[i]? = some (.scr ns)) : ∃ a, σ[i]? = some (some (.ref a)) ∧ SqL C.K C.B a (ns.map V.int) := by
  obtain ⟨o, e1, v, rfl, p1, p2⟩ := S.sl i _ e
  have w := S.wf i v p1
  rw [p2] at w
  obtain ⟨a, rfl, q⟩ := w
  exact ⟨a, e1, q⟩
theorem pv_lenS (i : Nat) (hg : Gl X "len") (hm : X.mg "len" = none) (hN : X.N[i]? = some x := by rfl) (hv : Vis X.env.scope x := by first | exact Or.inl rfl | exact Or.inr (Or.inl rfl) | exact Or.inr (Or.inr rfl)) (hd : (x == ("__debug__" : Str)) = false := by decide)
    (hcd : (x == ("__classdict__" : Str)) = false := by decide) (he : starEach [.Name x p1] X.env = (false, eval (.Name x p1) X.env) :: starEach [] X.env := by rfl) (hpl : (backTo pos (starEach [] X.env)).any (·.1) = false := by rfl) :
    PV X (.Call (.Name "len" p) [.Name x p1] [] pos) (mLenS i) := by
  refine ⟨_, pe_callB call_len hg hm PySem.boot_len (pa_cons (pe_var hN hv hd hcd) pa_nil he) (he := he) (hpl := hpl), fun C G σ H ρ Q hK S d ρ' hf q => ?_⟩
  unfold mLenS at hf
  cases r : ρ[i]? with
  | none => rw [r] at hf; cases hf
  | some s =>
    rw [r] at hf
    cases s with
    | scr ns =>
      cases hf
      obtain ⟨a, e1, sq⟩ := scr_at S r
      rw [hK] at sq
      exact ⟨_, e1, _, _, rfl, .inl ⟨_, Same.seq S.bh sq, by rw [List.length_map]⟩, q _ G H (Same.refl _) S (.int _)⟩
    | _ => cases hf
theorem pv_ixS (i : Nat) (hb : PV X b fb) (hs : PlainIx b := by intro _ _; rfl) (hN : X.N[i]? = some x := by rfl) (hv : Vis X.env.scope x := by first | exact Or.inl rfl | exact Or.inr (Or.inl rfl) | exact Or.inr (Or.inr rfl)) (hd : (x == ("__debug__" : Str)) = false := by decide)
    (hcd : (x == ("__classdict__" : Str)) = false := by decide) : PV X (.Subscript (.Name x p1) b pos) (mIxS i fb) := by
  obtain ⟨tb, hb, rb⟩ := hb
  refine ⟨_, pe_ix ix_list (pe_var hN hv hd hcd) hb hs, fun C G σ H ρ Q hK S d ρ' hf q => ?_⟩
  unfold mIxS at hf
  cases r : ρ[i]? with
  | none => rw [r] at hf; cases hf
  | some s =>
    rw [r] at hf
    cases s with
    | scr ns =>
      simp only at hf
      obtain ⟨a, e1, sq⟩ := scr_at S r
      rw [hK] at sq
      refine ⟨_, e1, ?_⟩
      cases r2 : fb ρ with
      | stuck => rw [r2] at hf; cases hf
      | ok d1 ρ1 =>
        rw [r2] at hf
        cases d1 with
        | int n =>
          simp only at hf
          refine rb C G σ H ρ _ hK S _ ρ1 r2 fun v G1 H1 g1 S1 o => ?_
          cases o
          cases r3 : atI ns n with
          | none => rw [r3] at hf; cases hf
          | some w =>
            rw [r3] at hf
            cases hf
            refine ⟨a, _, n, .int w, rfl, rfl, Same.seq S1.bh sq, ?_, q _ G1 H1 g1 S1 (.int _)⟩
            unfold atI at r3 ⊢
            rw [List.length_map]
            cases r4 : ixN ns.length n with
            | none => rw [r4] at r3; cases r3
            | some j =>
              rw [r4] at r3
              have r3' : ns[j]? = some w := r3
              show (ns.map V.int)[j]? = _
              rw [List.getElem?_map, r3']
              rfl
        | _ => cases hf
    | _ => cases hf
/-! ### isinstance -/
def tyD : D → String
  | .none => "NoneType"
  | .bool _ => "bool"
  | .int _ => "int"
  | .str _ => "str"
  | .list _ => "list"
  | .tuple _ => "tuple"
  | .dict _ => "dict"
theorem Sh.ty {K : PySem.W.Frag} {G H : Hp} {v : V} {d : D} (h : Sh G H v d) : TyX K H v (.type (tyD d)) := by
  cases h with
  | non => exact .base .non
  | bl b => exact .base (.bl b)
  | int i => exact .base (.int i)
  | str s => exact .base (.str s)
  | lst h r => exact .base (.lst h)
  | tup h r => exact .base (.tup h)
  | dct h r => exact .base (.dK h)
/-- the types' own answer, by names -/
def isTy (t : String) : String → Bool
  | "int" => t == "int" || t == "bool"
  | T => t == T
def goodTy (T : String) : Bool := T == "int" || T == "bool" || T == "str" || T == "list" || T == "tuple" || T == "dict"
theorem kit_isTy {K : PySem.W.Frag} {d : D} {T : String} (h : goodTy T = true) : PySem.W.kitOne K (.type (tyD d)) (.type T) = some (isTy (tyD d) T) := by
  simp only [goodTy, Bool.or_eq_true, beq_iff_eq] at h
  have k : kitB (tyD d) T = some (isTy (tyD d) T) := by
    rcases h with ((((h | h) | h) | h) | h) | h <;> subst h <;> cases d <;> simp only [tyD] <;> decide +kernel
  exact kit_ty k
def gIsi (Ts : List String) (d : D) : Option D := some (.bool (Ts.any fun T => isTy (tyD d) T))
theorem pv_isi {T : String} (hg : Gl X "isinstance") (hm : X.mg "isinstance" = none) (ha : PP X e g) (hT : PE X b (tC (.ty T))) (hgood : goodTy T = true) (he : starEach [e, b] X.env = (false, eval e X.env) :: starEach [b] X.env := by rfl) (he2 : starEach [b] X.env = (false, eval b X.env) :: starEach [] X.env := by rfl)
    (hpl : (backTo pos (starEach [b] X.env)).any (·.1) = false := by rfl) : PV X (.Call (.Name "isinstance" p) [e, b] [] pos) (mUn (gIsi [T]) g) := by
  obtain ⟨t, ha, r⟩ := ha
  refine ⟨_, pe_callB call_isi hg hm PyProof.Rows.boot_isinstance (pa_cons ha (pa_cons hT pa_nil he2) he) (he := he) (hpl := hpl), fun C G σ H ρ Q hK S d ρ' hf q => ?_⟩
  obtain ⟨pl, ρ1, h1, hf2⟩ := bnd_ok hf
  refine r C G σ H ρ _ hK S pl ρ1 h1 fun v G1 H1 g1 S1 o => ?_
  obtain ⟨dd, ρ2, h2, hf3⟩ := bnd_ok hf2
  obtain ⟨s, rfl⟩ := look_ok S1 o h2
  cases hf3
  refine ⟨v, .ty T, _, _, _, rfl, .ty T, s.ty, kit_isTy hgood, ?_⟩
  have : isTy (tyD dd) T = [T].any fun T => isTy (tyD dd) T := by simp
  rw [this]
  exact q _ G1 H1 g1 S1 (.bl _)
theorem kit_any {K : PySem.W.Frag} {d : D} : ∀ {Ts : List String}, Ts.all goodTy = true → PySem.W.kitAny K (.type (tyD d)) (Ts.map Value.type) = some (Ts.any fun T => isTy (tyD d) T)
  | [], _ => kitAny_nil
  | T :: Ts, h => by
    have h' : (goodTy T && Ts.all goodTy) = true := h
    rw [Bool.and_eq_true] at h'
    refine kitAny_cons (kit_isTy h'.1) (fun hb => ?_) fun hb => ?_
    · rw [kit_any h'.2, List.any_cons, hb, Bool.false_or]
    · rw [List.any_cons, hb, Bool.true_or]
theorem tys_paired : ∀ (Ts : List String), Paired ClsV (Ts.map V.ty) (Ts.map Value.type)
  | [] => .nil
  | T :: Ts => .cons (.ty T) (tys_paired Ts)
def tTys (Ts : List String) : TA := fun _ H Q => Q (Ts.map V.ty) H
theorem pa_tyN : PA X [] (tTys []) := ⟨fun pos pins s σ H Q I h => pa_nil.run pos pins s σ H Q I h⟩
theorem pa_tyC {T : String} {Ts : List String} (h : PE X e (tC (.ty T))) (hr : PA X es (tTys Ts)) (hs : starEach (e :: es) X.env = (false, eval e X.env) :: starEach es X.env := by rfl) : PA X (e :: es) (tTys (T :: Ts)) :=
  ⟨fun pos pins s σ H Q I q => (pa_cons h hr hs).run pos pins s σ H Q I q⟩
theorem pv_isiT {Ts : List String} {x1} (hg : Gl X "isinstance") (hm : X.mg "isinstance" = none) (ha : PP X e g) (hT : PA X es (tTys Ts)) (hgood : Ts.all goodTy = true) (hlen : Ts.length ≤ 1000) (he : starEach [e, .Tuple es x1 tpos] X.env = (false, eval e X.env) :: starEach [.Tuple es x1 tpos] X.env := by rfl) (he2 : starEach [.Tuple es x1 tpos] X.env = (false, eval (.Tuple es x1 tpos) X.env) :: starEach [] X.env := by rfl)
    (hpl : (backTo pos (starEach [.Tuple es x1 tpos] X.env)).any (·.1) = false := by rfl) : PV X (.Call (.Name "isinstance" p) [e, .Tuple es x1 tpos] [] pos) (mUn (gIsi Ts) g) := by
  obtain ⟨t, ha, r⟩ := ha
  refine ⟨_, pe_callB call_isiT hg hm PyProof.Rows.boot_isinstance (pa_cons ha (pa_cons (pe_tup hT) pa_nil he2) he) (he := he) (hpl := hpl), fun C G σ H ρ Q hK S d ρ' hf q => ?_⟩
  obtain ⟨pl, ρ1, h1, hf2⟩ := bnd_ok hf
  refine r C G σ H ρ _ hK S pl ρ1 h1 fun v G1 H1 g1 S1 o => ?_
  obtain ⟨dd, ρ2, h2, hf3⟩ := bnd_ok hf2
  refine ⟨by rw [List.length_map]; exact Nat.le_trans hlen (by decide), fun tp htp => ?_⟩
  have w := Grow.newF (o := .tup (Ts.map V.ty)) S1.gh htp
  have S2 := S1.grow w
  obtain ⟨s, rfl⟩ := look_ok S2 o h2
  cases hf3
  exact ⟨v, tp, Ts.map V.ty, _, _, _, rfl, upd_same, tys_paired Ts, s.ty, kit_any hgood, q _ G1 _ g1 S2 (.bl _)⟩
theorem pe_ty {T : Str} {u : String} (hg : Gl X T) (hm : X.mg T = none) (hv : bootBuiltins T = some (.type u)) (hn : T ≠ "__name__" := by decide) (hd : (T == ("__debug__" : Str)) = false := by decide) : PE X (.Name T pos) (tC (.ty u)) := pe_bltn hg hm hv rfl hn hd
/-! ### methods that change a list -/
theorem pv_mut {j : Nat} {name : Str} {id : String} {r : V → List V → Hp → VK → Prop} {g' : List D → List D → Option (List D × D)} {fs : M (List D)} (slot : Slot "list" name id) (hty : typeOf (.builtin id) = pure (.type "method_descriptor")) (hm : MtR X id r) (hp : PMut r g') (ha : PVs X (e :: es) fs) (hN : X.N[j]? = some x := by rfl)
    (hv : Vis X.env.scope x := by first | exact Or.inl rfl | exact Or.inr (Or.inl rfl) | exact Or.inr (Or.inr rfl)) (hd : (x == ("__debug__" : Str)) = false := by decide) (hcd : (x == ("__classdict__" : Str)) = false := by decide)
    (hbase : attributeBase (.Name x p1) name X.env (eval (.Name x p1) X.env) = eval (.Name x p1) X.env := by rfl)
    (hfew : ((backTo cpos (starEach (e :: es) X.env)).all (fun x => !x.1) && (backToKw cpos (keywordEach [] X.env)).all (fun x => x.1.isSome)
      && decide ((e :: es).length + ([] : List Keyword).length + (if ([] : List Keyword).isEmpty then 0 else 1) < 30)) = true := by rfl)
    (hline : (apos.endLine == cpos.line) = true := by rfl) (hs : starEach (e :: es) X.env = (false, eval e X.env) :: starEach es X.env := by rfl) (hplain : (backTo cpos (starEach es X.env)).any (·.1) = false := by rfl) :
    PV X (.Call (.Attribute (.Name x p1) name apos) (e :: es) [] cpos) (mMut j g' fs) := by
  obtain ⟨t, ha, ra⟩ := ha
  exact ⟨_, pe_bm PySem.F.plainAttrs_list slot hty hm (pe_var hN hv hd hcd) ha hbase hfew hline hs hplain, rd_mut hp ra⟩
theorem pv_mut0 {j : Nat} {name : Str} {id : String} {r : V → List V → Hp → VK → Prop} {g' : List D → List D → Option (List D × D)} (slot : Slot "list" name id) (hty : typeOf (.builtin id) = pure (.type "method_descriptor")) (hm : MtR X id r) (hp : PMut r g') (hN : X.N[j]? = some x := by rfl)
    (hv : Vis X.env.scope x := by first | exact Or.inl rfl | exact Or.inr (Or.inl rfl) | exact Or.inr (Or.inr rfl)) (hd : (x == ("__debug__" : Str)) = false := by decide) (hcd : (x == ("__classdict__" : Str)) = false := by decide)
    (hbase : attributeBase (.Name x p1) name X.env (eval (.Name x p1) X.env) = eval (.Name x p1) X.env := by rfl) (hline : (apos.endLine == cpos.line) = true := by rfl) :
    PV X (.Call (.Attribute (.Name x p1) name apos) [] [] cpos) (mMut j g' mNil) := by
  refine ⟨_, pe_bm0 PySem.F.plainAttrs_list slot hty hm (pe_var hN hv hd hcd) hbase hline, fun C G σ H ρ Q hK S d ρ' hf q => ?_⟩
  have key := rd_mut (X := X) (j := j) (t := tNil) (fs := mNil) hp (fun C G σ H ρ Q hK S d ρ' hf q => by cases hf; exact q [] G H (Same.refl _) S .nil) C G σ H ρ Q hK S d ρ' hf q
  obtain ⟨v, e1, z⟩ := key
  exact ⟨v, e1, z⟩
def gAppend (ds as : List D) : Option (List D × D) := match as with
  | [d] => if ds.length < 100000 then some (ds ++ [d], .none) else none
  | _ => none
theorem pmut_append : PMut rAppend gAppend := by
  intro G H l vs ds as ads new z Q gh hl r ra hg q
  cases ra with
  | nil => cases hg
  | cons h rr => cases rr with
    | cons _ _ => cases hg
    | nil =>
      simp only [gAppend] at hg
      split at hg
      · rename_i hlt
        cases hg
        exact ⟨l, vs, _, rfl, rfl, hl, by rw [r.length]; exact line_lt hlt, q _ _ (r.append (.one h)) .non⟩
      · cases hg
def gInsert (ds as : List D) : Option (List D × D) := match as with
  | [.int i, d] => if ds.length < 100000 ∧ 0 ≤ i ∧ i < 2 ^ 63 then some (ds.take i.toNat ++ [d] ++ ds.drop i.toNat, .none) else none
  | _ => none
theorem pmut_insert : PMut (fun x vs H Q => ∃ (l : Addr) (xs : List V) (i : Int) (y : V), x = .ref l ∧ vs = [.int i, y] ∧ H l = some (.lst xs) ∧ xs.length < sizeLine ∧ 0 ≤ i ∧ i < 2 ^ 63 ∧
    Q .non (upd H l (.lst (xs.take i.toNat ++ [y] ++ xs.drop i.toNat)))) gInsert := by
  intro G H l vs ds as ads new z Q gh hl r ra hg q
  cases ra with
  | nil => cases hg
  | cons h rr => cases rr with
    | nil => cases h <;> cases hg
    | cons h2 r2 => cases r2 with
      | cons _ _ => cases h <;> cases hg
      | nil => cases h with
        | int i =>
          simp only [gInsert] at hg
          split at hg
          · rename_i hlt
            cases hg
            exact ⟨l, vs, i, _, rfl, rfl, hl, by rw [r.length]; exact line_lt hlt.1, hlt.2.1, hlt.2.2, q _ _ (((r.take _).append (.one h2)).append (r.drop _)) .non⟩
          · cases hg
        | _ => cases hg
def gReverse (ds as : List D) : Option (List D × D) := match as with
  | [] => some (ds.reverse, .none)
  | _ => none
theorem pmut_reverse : PMut rReverse gReverse := by
  intro G H l vs ds as ads new z Q gh hl r ra hg q
  cases ra with
  | cons _ _ => cases hg
  | nil => cases hg; exact ⟨l, vs, rfl, rfl, hl, q _ _ r.reverse .non⟩
def gClear (ds as : List D) : Option (List D × D) := match as with
  | [] => some ([], .none)
  | _ => none
theorem pmut_clear : PMut rClear gClear := by
  intro G H l vs ds as ads new z Q gh hl r ra hg q
  cases ra with
  | cons _ _ => cases hg
  | nil => cases hg; exact ⟨l, vs, rfl, rfl, hl, q _ _ .nil .non⟩
def gPop (ds as : List D) : Option (List D × D) := match as with
  | [] => match ds[ds.length - 1]? with
    | some y => some (ds.dropLast, y)
    | none => none
  | _ => none
theorem RpA.dropLast {G : Hp} : ∀ {vs : List V} {ds : List D}, RpA G vs ds → RpA G vs.dropLast ds.dropLast
  | _, _, .nil => .nil
  | _, _, .cons h .nil => .nil
  | _, _, .cons h (.cons h2 r) => .cons h (RpA.dropLast (.cons h2 r))
theorem pmut_pop : PMut rPop gPop := by
  intro G H l vs ds as ads new z Q gh hl r ra hg q
  cases ra with
  | cons _ _ => cases hg
  | nil =>
    simp only [gPop] at hg
    cases e : ds[ds.length - 1]? with
    | none => rw [e] at hg; cases hg
    | some y =>
      rw [e] at hg
      cases hg
      obtain ⟨v, hv, rv⟩ := r.get e
      exact ⟨l, vs, v, rfl, rfl, hl, by rw [r.length]; exact hv, q _ _ r.dropLast rv⟩
end
end PL
namespace PL
open PySem PySem.Spec L2 RT RZ
/-! ### a def that is called where no repr is under way -/
structure FnG (P : Program) (w : World) (K : PySem.W.Frag) (mg : Str → Option Value) (base : Heap) (k : Nat) (f : Addr) (fd : FuncData) (ps : List Str) (sp : Sp) : Prop where
  len : ∀ (vs : List V) (H : Hp) (Q : VK) (E : XK), sp vs H Q E → vs.length = ps.length
  go : ∀ (A : Around), A.guards = some [] → ∀ (outer : List PySem.Env) (s : Shared) (H : Hp) (args : Args) (us : List Value) (vs : List V) (Q : VK) (E : XK), Room k A → Env0 P w K mg base A outer s H →
    BindsTo s fd args (ps.zip us) → Vals vs us → sp vs H Q E → codeAny (model P w) A (.call (.ref f) args) (CR L2.CX0 outer P w H s Q E) s
section
variable {P : Program} {w : World} {K : PySem.W.Frag} {mg : Str → Option Value} {base : Heap} {k : Nat} {N ps : List Str} {x qual : Str} {st : Stmt} {f : Addr} {fd : FuncData} {m : M Fl}
theorem FnG.mono {sp : Sp} {j : Nat} (F : FnG P w K mg base j f fd ps sp) (h : j ≤ k) : FnG P w K mg base k f fd ps sp :=
  ⟨F.len, fun A hG outer s H args us vs Q E hr => F.go A hG outer s H args us vs Q E (hr.mono h)⟩
theorem fnG_of {sp : Sp} (F : Fun K x qual st f fd) (S : FnScope N ps (defScope st)) (len : ∀ (vs : List V) (H : Hp) (Q : VK) (E : XK), sp vs H Q E → vs.length = ps.length)
    (body : ∀ (cdv : Value) (A : Around), A.guards = some [] → ∀ (outer : List PySem.Env) (s : Shared) (H : Hp) (vs : List V) (Q : VK) (E : XK), Room k (A.deeper (PyProof.Rows.envOfC qual (defScope st) s.heap.objs.size f cdv)) → sp vs H Q E →
      ∃ t, PSs (cxOf L2.CX0 P w K mg base N qual (defScope st) f cdv A outer s H E).nox (defBody st) t ∧ t { nx := fun _ H' => Q .non H', rt := Q } (L2.start N vs) H) : FnG P w K mg base (k + 1) f fd ps sp := by
  obtain ⟨oc, od, kV, doc, pm, an, cdv, ct, osl, rfl, lk, hcd⟩ := F.ex
  constructor
  · exact len
  intro A hG outer s H args us vs Q E hr e0 hb r hsp
  have hl := len _ _ _ _ hsp
  have KX : K.In s.heap := e0.mod.kin.keeps fun b o e => (e0.bs b o e).1
  have lim : s.heap.NoLimit := e0.mod.nolimit.keeps fun b o e => (e0.bs b o e).1
  have kinds : ∀ y ∈ ps.zip us, (defScope st).names.lookup y.1 = some .local ∨ ((defScope st).names.lookup y.1 = some .cell ∧ ((cellsFrom (s.heap.objs.size + 1) (defScope st).names []).lookup y.1).isSome = true) := by
    rintro ⟨n, v⟩ hy
    rcases S.par n (List.of_mem_zip hy).1 with q | q
    · exact Or.inl q
    · exact Or.inr ⟨q, PySem.W.cellsFrom_some _ _ _ (.inl q)⟩
  refine codeAny_call_function hr.depth (KX _ _ lk) rfl S.co S.gen rfl (PySem.W.codeRec_of KX hcd) (hb _ _ _ _ ?_)
  refine PySem.wpAny_newFunctionEnv_cells S.kind kinds ?_
  intro env he s1 x1
  subst he
  refine ⟨lim.keeps x1.toInCall.keep, codeAny_func ?_⟩
  obtain ⟨t, ht, hq⟩ := body cdv A hG outer s H vs Q E (hr.deeper _) hsp
  have I : Inv (cxOf L2.CX0 P w K mg base N qual (defScope st) f cdv A outer s H E) [] (L2.start N vs) H s1 := inv_start S hr.hd e0 hl r x1
  have run := ht.nox.run [] s1 (L2.start N vs) H _ I hq
  refine wpAny_mono run ?_ fun e s' hs => hs
  intro fl s' hs
  cases fl with
  | brk => obtain ⟨_, _, _, q⟩ := hs; exact q.elim
  | cont => obtain ⟨_, _, _, q⟩ := hs; exact q.elim
  | next => obtain ⟨σ', H', J, q⟩ := hs; exact ⟨V.non, H', J.os, J.bare, J.base, J.hok, rfl, q⟩
  | ret u => obtain ⟨v, σ', H', J, rv, q⟩ := hs; exact ⟨v, H', J.os, J.bare, J.base, J.hok, rv, q⟩
theorem fnG_pl {np nl : Nat} (F : Fun K x qual st f fd) (S : FnScope N ps (defScope st)) (hn : N.length = np + nl) (hp : ps.length = np)
    (hb : ∀ (cdv : Value) (A : Around) (outer : List PySem.Env) (s : Shared) (H : Hp) (E : XK), A.guards = some [] → Room k (A.deeper (PyProof.Rows.envOfC qual (defScope st) s.heap.objs.size f cdv)) →
      PSts (cxOf L2.CX0 P w K mg base N qual (defScope st) f cdv A outer s H E).nox (defBody st) m) : FnG P w K mg base (k + 1) f fd ps (spD K np nl m) := by
  refine fnG_of F S (fun vs H Q E h => ?_) fun cdv A hG outer s H vs Q E hr h => ?_
  · obtain ⟨C, ss, r, ρ', hl, _⟩ := h
    rw [hl, hp]
  · obtain ⟨C, ss, r, ρ', hl, hK, S0, hrun, q⟩ := h
    obtain ⟨t, ht, rt⟩ := hb cdv A outer s H E hG hr
    refine ⟨t, ht, ?_⟩
    have e : L2.start N vs = vs.map some ++ List.replicate nl none := by
      unfold L2.start
      rw [hn, hl, Nat.add_sub_cancel_left]
    rw [e]
    have S1 := S0.more nl
    unfold runD at hrun
    cases hm : m (ss ++ List.replicate nl .un) with
    | stuck => rw [hm] at hrun; cases hrun
    | ok fl ρ1 =>
      rw [hm] at hrun
      cases fl with
      | rt r1 => cases hrun; exact rt C C.G0 _ H _ _ hK S1 _ _ hm fun σ' G' H' g S' v o => q v G' σ' H' g S' o
      | nx => cases hrun; exact rt C C.G0 _ H _ _ hK S1 _ _ hm fun σ' G' H' g S' => q .non G' σ' H' g S' .non
      | bk => cases hrun
      | ct => cases hrun
end
section
variable {X : Cx} {e : Expr} {es : List Expr} {pos p : Pos} {x : Str} {k : Nat} {f : Addr} {fd : FuncData} {ps : List Str} {np nl : Nat} {m : M Fl} {ms : List Md} {fs : M (List Pl)} {sp : Sp} {t : TA}
theorem pe_callG (F : FnG X.prog X.w X.K X.mg X.base k f fd ps sp) (hG : X.A.guards = some []) (hr : Room k X.A) (hg : Gl X x) (hm : X.mg x = some (.ref f)) (hk : PySem.W.keepIn X.K (.ref f) = true) (hb : Binds X.K fd ps []) (ha : PA X (e :: es) t)
    (hdb : (x == ("__debug__" : Str)) = false := by decide) (he : starEach (e :: es) X.env = (false, eval e X.env) :: starEach es X.env := by rfl) (hpl : (backTo pos (starEach es X.env)).any (·.1) = false := by rfl) :
    PE X (.Call (.Name x p) (e :: es) [] pos) (tCall sp [] L2.E0 t) := by
  constructor
  intro pins s σ H Q I h
  refine PySem.wpAny_Call_Name_kw (ld_glob I hg hm ?_ hdb)
  refine PySem.W.callWith_K (h₀ := X.base) I.ok.mod.kin hk (thn (ha.run pos pins s σ H _ I h) ?_) he hpl
  rintro us s1 ⟨vs, H1, I1, r, q⟩
  refine ⟨I1.kIn, ?_⟩
  rw [List.append_nil] at q
  have hl : us.length = ps.length := by rw [← r.length]; exact F.len _ _ _ _ q
  have hb' := hb s1 us I1.kIn (by rw [List.append_nil]; exact hl)
  rw [List.append_nil] at hb'
  refine wpAny_call (codeAny_mono (F.go X.A hG X.stack s1 H1 ⟨us, []⟩ us vs Q _ hr I1.env0 hb' r q) ?_)
  intro r s' hq
  cases r with
  | error e => exact False.elim hq
  | ok fl =>
    cases fl with
    | ret u => exact I1.after hq
    | next => exact False.elim hq
    | brk => exact False.elim hq
    | cont => exact False.elim hq
theorem pf_callG (F : FnG X.prog X.w X.K X.mg X.base k f fd ps (spD X.K np nl m)) (hG : X.A.guards = some []) (hr : Room k X.A) (hg : Gl X x) (hm : X.mg x = some (.ref f)) (hk : PySem.W.keepIn X.K (.ref f) = true) (hb : Binds X.K fd ps []) (ha : PPs X (e :: es) fs) (hl : ms.length = np)
    (hdb : (x == ("__debug__" : Str)) = false := by decide) (he : starEach (e :: es) X.env = (false, eval e X.env) :: starEach es X.env := by rfl) (hpl : (backTo pos (starEach es X.env)).any (·.1) = false := by rfl) :
    PF X (.Call (.Name x p) (e :: es) [] pos) (mCall ms nl m fs) := by
  obtain ⟨t, ha, ra⟩ := ha
  exact ⟨_, pe_callG F hG hr hg hm hk hb ha hdb he hpl, rd_call ra hl⟩
end
/-! ### repr of data -/
/-- a number, a truth value, None, a text -/
def plain1 : D → Bool
  | .none => true
  | .bool _ => true
  | .int _ => true
  | .str _ => true
  | _ => false
/-- .. or a tuple of such -/
def plain2 : D → Bool
  | .tuple ds => ds.all plain1
  | d => plain1 d
/-- a dict of such -/
def flatD : D → Bool
  | .dict ks => ks.all fun kv => plain2 kv.2
  | _ => false
theorem plain1_reads {G : Hp} {h : Heap} {v : V} {d : D} {u : Value} (c : plain1 d = true) (r : Rp G v d) (rv : RelV v u) : Reads h u d [] := by
  cases r with
  | non => cases (show u = Value.none from rv); exact .none
  | bl b => cases (show u = Value.bool b from rv); exact .bool b
  | int i => obtain ⟨t, rfl⟩ := (show ∃ t, u = Value.int i t from rv); exact .int i t
  | str z => obtain ⟨t, rfl⟩ := (show ∃ t, u = Value.str z t from rv); exact .str z t
  | _ => cases c
theorem plain1_all {G : Hp} {h : Heap} : ∀ {vs : List V} {ds : List D} {us : List Value}, RpA G vs ds → ds.all plain1 = true → Vals vs us → ReadsAll h us ds []
  | _, _, _, .nil, _, .nil => .nil
  | _, _, _, .cons r rs, c, .cons x xs => by
    rw [List.all_cons, Bool.and_eq_true] at c
    exact ReadsAll.cons (as := []) (bs := []) (plain1_reads c.1 r x) (plain1_all rs c.2 xs)
theorem plain2_reads {X : Cx} {pins : List (Addr × Obj)} {σ : L2.St} {G H : Hp} {s : Shared} (I : L2.Inv X pins σ H s) (gh : Same G H) {v : V} {d : D} {u : Value} (c : plain2 d = true) (r : Rp G v d) (rv : RelV v u) : Reads s.heap u d [] := by
  cases r with
  | @tup a xs ds hG hr =>
    cases (show u = Value.ref a from rv)
    obtain ⟨its, rv2, ⟨o, ho, hc, n, hd⟩, _⟩ := I.tuple (.inl (.inl (gh _ _ hG)))
    exact Reads.tuple ho hc hd (plain1_all hr c rv2)
  | non => exact plain1_reads (G := G) c .non rv
  | bl b => exact plain1_reads (G := G) c (.bl b) rv
  | int i => exact plain1_reads (G := G) c (.int i) rv
  | str z => exact plain1_reads (G := G) c (.str z) rv
  | lst _ _ => cases c
  | dct _ _ => cases c
theorem flat_all {X : Cx} {pins : List (Addr × Obj)} {σ : L2.St} {G H : Hp} {s : Shared} (I : L2.Inv X pins σ H s) (gh : Same G H) : ∀ {es : List (Key × V)} {ks : List (D × D)} {vs : List (Key × Value)} {dl : List DictEntry}, RpK G es ks → (ks.all fun kv => plain2 kv.2) = true →
    KV es vs → Pairs (mixKind X.prog X.w) dl vs → ReadsAll s.heap (dl.map (·.key)) (ks.map (·.1)) [] ∧ ReadsAll s.heap (dl.map (·.val)) (ks.map (·.2)) []
  | _, _, _, _, .nil, _, .nil, .nil => ⟨.nil, .nil⟩
  | _, _, _, _, .cons r rs, c, .cons x xs, .cons p1 p2 ps => by
    rw [List.all_cons, Bool.and_eq_true] at c
    obtain ⟨q1, q2⟩ := flat_all I gh rs c.2 xs ps
    obtain ⟨x1, x2⟩ := x
    subst x1
    refine ⟨ReadsAll.cons (as := []) (bs := []) ?_ q1, ReadsAll.cons (as := []) (bs := []) ?_ q2⟩
    · rcases keyIs_shape p1 with ⟨i, t, e1, e2⟩ | ⟨z, t, e1, e2⟩
      · dsimp only; rw [e1, e2]; exact .int i t
      · dsimp only; rw [e1, e2]; exact .str z t
    · dsimp only; rw [p2]; exact plain2_reads I gh c.1 r x2
/-- a list or a tuple of such, and of what holds no dict -/
def mixD : D → Bool
  | .list ds => ds.all fun d => d.canLay0 || flatD d
  | .tuple ds => ds.all fun d => d.canLay0 || flatD d
  | _ => false
theorem flat_reads {X : Cx} {pins : List (Addr × Obj)} {σ : L2.St} {G H : Hp} {s : Shared} (I : L2.Inv X pins σ H s) (gh : Same G H) {v : V} {d : D} {u : Value} (c : flatD d = true) (sh : Sh G H v d) (ru : RelV v u) :
    ∃ as, Reads s.heap u d as ∧ (d.hasDict = true → sysModules ∉ as) := by
  cases sh with
  | @dct a es ks hH rK =>
    cases (show u = Value.ref a from ru)
    obtain ⟨z, lo, vs, kv, o, dl, ep, h1, ⟨h2, _, _⟩, h3, _, hp, _⟩ := dk_rd I.hok (.inl hH)
    obtain ⟨q1, q2⟩ := flat_all I gh rK c kv hp
    refine ⟨_, Reads.dict (as := []) (bs := []) h1 h2 h3 q1 q2, fun _ hmem => ?_⟩
    have e : sysModules = a := List.mem_singleton.mp hmem
    rw [e] at lo
    simp at lo
  | _ => cases c
theorem item_reads {X : Cx} {pins : List (Addr × Obj)} {σ : L2.St} {G H : Hp} {s : Shared} (I : L2.Inv X pins σ H s) (gh : Same G H) {v : V} {d : D} {u : Value} (c : (d.canLay0 || flatD d) = true) (r : Rp G v d) (ru : RelV v u) :
    ∃ as, Reads s.heap u d as ∧ (d.hasDict = true → sysModules ∉ as) := by
  rw [Bool.or_eq_true] at c
  rcases c with c | c
  · obtain ⟨as, rd⟩ := Dp.reads I d v u (r.dp gh c) ru
    exact ⟨as, rd, fun z => by rw [PyData.hasDict_of_canLay _ c] at z; cases z⟩
  · exact flat_reads I gh c (r.sh gh) ru
theorem mix_all {X : Cx} {pins : List (Addr × Obj)} {σ : L2.St} {G H : Hp} {s : Shared} (I : L2.Inv X pins σ H s) (gh : Same G H) : ∀ {xs : List V} {ds : List D} {us : List Value}, RpA G xs ds → (ds.all fun d => d.canLay0 || flatD d) = true → Vals xs us → PyData.showableAll ds = true →
    (∀ t ∈ PyData.shownAll ds, t.length ≤ sizeLine) → ∃ as bs, ReadsAll s.heap us ds as ∧ ReadAtMost s.heap (PyData.depthAll ds) bs ∧ ReprAllK X.prog X.w bs s.heap (PyData.depthAll ds) us (PyData.shownAll ds)
  | _, _, _, .nil, _, .nil, _, _ => ⟨[], [], .nil, (fun _ y => nomatch y), by rw [PyData.shownAll]; exact .nil⟩
  | _, _, _, .cons (d := d) (ds := ds) r rs, c, .cons x xs, sw, sz => by
    rw [List.all_cons, Bool.and_eq_true] at c
    rw [PyData.showableAll, Bool.and_eq_true] at sw
    rw [PyData.shownAll] at sz
    obtain ⟨a1, rd1, n1⟩ := item_reads I gh c.1 r x
    obtain ⟨b1, l1, k1⟩ := ReprK.of_reads (prog := X.prog) (w := X.w) rd1 sw.1 n1 (sz _ List.mem_cons_self)
    obtain ⟨a2, b2, rd2, l2, k2⟩ := mix_all I gh rs c.2 xs sw.2 fun t ht => sz t (List.mem_cons_of_mem _ ht)
    have e1 : d.depth ≤ PyData.depthAll (d :: ds) := by rw [PyData.depthAll]; omega
    have e2 : PyData.depthAll ds ≤ PyData.depthAll (d :: ds) := by rw [PyData.depthAll]; omega
    refine ⟨a1 ++ a2, b1 ++ b2, .cons rd1 rd2, (l1.mono e1).append (l2.mono e2), ?_⟩
    rw [PyData.shownAll]
    exact .cons ((k1.more fun b hb => List.mem_append_left b2 hb).level_le e1) (k2.more_le (fun b hb => List.mem_append_right b1 hb) e2)
theorem mix_shows {X : Cx} {pins : List (Addr × Obj)} {σ : L2.St} {G H : Hp} {s : Shared} (I : L2.Inv X pins σ H s) (gh : Same G H) {v : V} {d : D} {u : Value} (c : mixD d = true) (sh : Sh G H v d) (ru : RelV v u) (sw : d.showable = true) (sz : d.shown.length ≤ sizeLine) :
    ∃ a T idr, u = .ref a ∧ ShowsBy X.prog X.w s.heap a d T idr := by
  cases sh with
  | @lst a xs ds hH rA =>
    cases (show u = Value.ref a from ru)
    obtain ⟨its, rv, ⟨o, n, ho, hc, _, hd⟩, _⟩ := I.list (.inl (.inl hH))
    rw [PyData.shown] at sz
    rw [PyData.showable] at sw
    obtain ⟨as, bs, rd, lv, kk⟩ := mix_all I gh rA c rv sw fun t ht => Nat.le_trans (listText_mem_le ht) sz
    have out : a ∉ bs := not_mem_of_deeper (.list ho hc hd rd) (by rw [PyData.depth]; omega) lv
    refine ⟨a, "list", "list.__repr__", rfl, F.slot_list_repr.toG, F.slot_list_str, F.slot_list_format, fun s2 k0 => ⟨o, k0 _ _ ho, hc⟩, fun A E s2 Q g0 g1 k0 fin => ?_⟩
    rw [PyData.depth] at g1
    rw [PyData.shown] at fin
    cases its with
    | nil =>
      cases rd
      rw [PyData.shownAll, listText_nil] at fin
      exact call_list_repr_empty ⟨o, k0 _ _ ho, hc⟩ (k0 _ _ ho) hd (fin s2.heap _ _ fun _ _ y => y)
    | cons y ys => exact call_list_reprK ho hc hd out (by simpa using kk.length_eq) (fun i z e => kk.item i z (by simpa using e)) g0 (fun b _ => Clear.nil b) g1 k0 fin sz
  | @tup a xs ds hH rA =>
    cases (show u = Value.ref a from ru)
    obtain ⟨its, rv, ⟨o, ho, hc, n, hd⟩, _⟩ := I.tuple (.inl (.inl hH))
    rw [PyData.shown] at sz
    rw [PyData.showable] at sw
    obtain ⟨as, bs, rd, lv, kk⟩ := mix_all I gh rA c rv sw fun t ht => Nat.le_trans (tupleText_mem_le ht) sz
    have out : a ∉ bs := not_mem_of_deeper (.tuple ho hc hd rd) (by rw [PyData.depth]; omega) lv
    refine ⟨a, "tuple", "tuple.__repr__", rfl, F.slot_tuple_repr, F.slot_tuple_str, F.slot_tuple_format, fun s2 k0 => ⟨o, k0 _ _ ho, hc⟩, fun A E s2 Q g0 g1 k0 fin => ?_⟩
    rw [PyData.depth] at g1
    rw [PyData.shown] at fin
    exact call_tuple_reprK ho hc hd out kk g0 (fun b _ => Clear.nil b) g1 k0 fin sz
  | _ => cases c
def okRepr (d : D) : Bool := (d.canLay0 || (flatD d || mixD d)) && d.showable && decide (d.depth ≤ 64) && decide (d.shown.length ≤ sizeLine)
def gRepr : List D → Option D
  | [d] => if okRepr d = true then some (.str d.shown) else none
  | _ => none
def rRepr (K : PySem.W.Frag) : List V → Hp → VK → Prop := fun xs H Q => ∃ x d, xs = [x] ∧ (Dp K H x d ∧ d.canLay0 = true ∨ (flatD d || mixD d) = true ∧ ∃ G, Same G H ∧ Sh G H x d) ∧ okRepr d = true ∧ Q (.str d.shown) H
theorem call_repr {X : Cx} (hG : X.A.guards = some []) (hu : X.A.units + 66 < cLine) : CallR X (.builtin "repr") (rRepr X.K) := by
  intro pins s σ H xs us Q I r h
  obtain ⟨x, d, rfl, hd, ok, q⟩ := h
  obtain ⟨u, rfl, ru⟩ := vals1 r
  simp only [okRepr, Bool.and_eq_true, decide_eq_true_eq] at ok
  obtain ⟨⟨⟨_, c2⟩, c3⟩, c4⟩ := ok
  have fin : ∀ (h' : Heap) (t : Tok) (tk : Nat), (∀ b o, s.heap.get? b = some o → h'.get? b = some o) → EP X pins σ Q (.str d.shown t) { s with heap := h', toks := tk } := fun h' t tk kk => ⟨.str d.shown, H, I.kept (t' := tk) kk, ⟨t, rfl⟩, q⟩
  rcases hd with ⟨hd, c1⟩ | ⟨c1, G, gh, sh⟩
  · obtain ⟨as, rd⟩ := Dp.reads I d x u hd ru
    cases hd with
    | non => cases (show u = Value.none from ru); exact PySem.P.repr_of_none (fin s.heap _ _ fun _ _ e => e)
    | bl b => cases (show u = Value.bool b from ru); exact PySem.P.repr_of_bool (fin s.heap _ _ fun _ _ e => e)
    | int i =>
      obtain ⟨t, rfl⟩ := (show ∃ t, u = Value.int i t from ru)
      exact PySem.P.repr_of_int (of_decide_eq_true c2) (fin s.heap _ _ fun _ _ e => e)
    | str z =>
      obtain ⟨t, rfl⟩ := (show ∃ t, u = Value.str z t from ru)
      exact PySem.P.repr_of_str (fin s.heap _ _ fun _ _ e => e) c4
    | lst hs ha =>
      cases ru
      exact PySem.repr_of_reads' rd c2 (fun z => by rw [PyData.hasDict_of_canLay _ c1] at z; cases z) hG (by omega) (fun b o e => e) (fun h' t tk kk => fin h' t tk kk) c4
    | tup hs ha =>
      cases ru
      exact PySem.repr_of_reads' rd c2 (fun z => by rw [PyData.hasDict_of_canLay _ c1] at z; cases z) hG (by omega) (fun b o e => e) (fun h' t tk kk => fin h' t tk kk) c4
  · rw [Bool.or_eq_true] at c1
    rcases c1 with c1 | c1
    · obtain ⟨as, rd, hn⟩ := flat_reads I gh c1 sh ru
      cases sh with
      | dct _ _ =>
        cases (show u = Value.ref _ from ru)
        exact PySem.repr_of_reads' rd c2 hn hG (by omega) (fun b o e => e) (fun h' t tk kk => fin h' t tk kk) c4
      | _ => cases c1
    · obtain ⟨a, T, idr, rfl, S⟩ := mix_shows I gh c1 sh ru c2 c4
      exact call_repr_slot (by omega) (S.typeIs s fun _ _ e => e) S.slotRepr (S.call X.A.in1 _ s _ hG (by show X.A.units + 1 + d.depth < cLine; omega) (fun _ _ e => e) fun h' t tk kk => ⟨_, _, rfl, fin h' t tk kk⟩)
theorem pcl_repr {K : PySem.W.Frag} : PClV (rRepr K) gRepr := by
  intro G H vs ds z Q gh s hg q
  cases s with
  | nil => cases hg
  | cons h r => cases r with
    | cons _ _ => cases hg
    | @nil =>
      simp only [gRepr] at hg
      split at hg
      · rename_i ok
        cases hg
        have ok' := ok
        simp only [okRepr, Bool.and_eq_true, Bool.or_eq_true] at ok'
        refine ⟨_, _, rfl, ?_, ok, q _ G H (Grow.refl gh) (.str _)⟩
        rcases ok'.1.1.1 with c | c
        · exact .inl ⟨h.dp gh c, c⟩
        · exact .inr ⟨by rw [Bool.or_eq_true]; exact c, G, gh, h⟩
      · cases hg
section
variable {X : Cx} {e : Expr} {es : List Expr} {pos p : Pos} {gs : M (List Pl)}
theorem pv_repr (hG : X.A.guards = some []) (hu : X.A.units + 66 < cLine) (hg : Gl X "repr") (hm : X.mg "repr" = none) (ha : PPs X (e :: es) gs) (he : starEach (e :: es) X.env = (false, eval e X.env) :: starEach es X.env := by rfl) (hpl : (backTo pos (starEach es X.env)).any (·.1) = false := by rfl) :
    PV X (.Call (.Name "repr" p) (e :: es) [] pos) (mN gRepr gs) := pv_b (call_repr hG hu) pcl_repr hg hm PyProof.Rows.boot_repr ha (he := he) (hpl := hpl)
end
end PL
namespace PL
open PySem PySem.Spec L2 RT RZ
open PyProof.Rows (AllBare)
/-! ### the end of a law -/
theorem law_callG {P : Program} {w : World} {K : PySem.W.Frag} {mg mb : Str → Option Value} {k : Nat} {fa a : Addr} {fd : FuncData} {x : Str} {sp : Sp} {s1 : Shared} {vs : List Value} {ns : List Int}
    (KX : K.In s1.heap) (hns : s1.heap.Ns mainGlobals mg) (hb : s1.heap.Ns builtinsNs mb) (hbb : ∀ x : Str, x ≠ "__name__" → mb x = bootBuiltins x) (hlim : s1.heap.NoLimit) (hg : s1.gens = #[])
    (ha : s1.heap.get? a = some { cls := .type "list", data := .seq vs.toArray }) (hi : PyProof.Rows.IntsAre vs ns) (hl : ns.length ≤ sizeLine) (hr : Room k callerA)
    (F : ∀ base : Heap, K.In base → base.Ns mainGlobals mg → FnG P w K mg base k fa fd [x] sp) (hbind : ∀ (s : Shared) (u : Value), BindsTo s fd ⟨[u], []⟩ [(x, u)])
    (hsp : ∀ H : Hp, Only H → SqL K H a (ns.map V.int) → sp [.ref a] H (fun v _ => v = .bl true) fun _ _ _ => False) :
    codeAny (model P w) callerA (.call (.ref fa) ⟨[.ref a], []⟩) (fun r s' => r = .ok (.ret (.bool true)) ∧ OldK s1.heap s'.heap ∧ s'.os = s1.os ∧ AllBare s'.gens) s1 := by
  have lenV := hi.length
  have main : ∀ H : Hp, Only H → SqL K H a (ns.map V.int) → HOk P w H s1.heap → (∀ b, H b ≠ none → b = a) → (H a ≠ none → K.lookup a = none) →
      codeAny (model P w) callerA (.call (.ref fa) ⟨[.ref a], []⟩) (fun r s' => r = .ok (.ret (.bool true)) ∧ OldK s1.heap s'.heap ∧ s'.os = s1.os ∧ AllBare s'.gens) s1 := by
    intro H hO hS hok only hK
    have nodict : ∀ {b : Addr} {o : Obj} {es : Array DictEntry} {ep : Nat}, s1.heap.get? b = some o → o.data = .dict es ep → H b = none := by
      intro b o es ep e d
      refine Classical.byContradiction fun hne => ?_
      have e' := only b hne
      subst e'
      rw [ha] at e
      cases e
      cases (show Data.seq vs.toArray _ = Data.dict es ep from d)
    have nsB : ∀ {b : Addr} {m : Str → Option Value}, s1.heap.Ns b m → (hidT s1.heap H).Ns b m := by
      rintro b m ⟨o, es, ep, e, d, r⟩
      exact ⟨o, es, ep, hidT_get e (nodict e d), d, r⟩
    have kB : K.In (hidT s1.heap H) := by
      intro b o e
      refine hidT_get (KX b o e) (Classical.byContradiction fun hne => ?_)
      have e' := only b hne
      subst e'
      rw [hK hne] at e
      cases e
    obtain ⟨mc, l1, l2⟩ := hlim
    have e0 : Env0 P w K mg (hidT s1.heap H) callerA [] s1 H :=
      { frames := rfl, mod := ⟨kB, nsB hns, ⟨mb, nsB hb, hbb⟩, ⟨mc, nsB l1, l2⟩⟩, bs := fun b o e => of_hidT e, bsz := Nat.le_of_eq (hidT_size _ _), funs := trivial, frf := (fun b hb => nomatch hb), hok := hok, bare := .of_eq hg }
    have run := (F _ kB (nsB hns)).go callerA rfl [] s1 H ⟨[.ref a], []⟩ [.ref a] [.ref a] _ _ hr e0 (hbind s1 (.ref a)) (.cons rfl .nil) (hsp H hO hS)
    refine codeAny_mono run ?_
    intro r s' h
    cases r with
    | error e => exact False.elim h
    | ok fl =>
      cases fl with
      | next => exact False.elim h
      | brk => exact False.elim h
      | cont => exact False.elim h
      | ret u =>
        obtain ⟨v, H', os, bare, un, hok', r', q⟩ := h
        cases (show v = V.bl true from q)
        cases (show u = Value.bool true from r')
        refine ⟨rfl, OldK.of_keep fun b o e => ?_, os, bare⟩
        cases q2 : H b with
        | none => exact un.keep b o e q2 (fun z => nomatch z) (fun z => nomatch z)
        | some u =>
          rcases hO b with z | ⟨ob, xs, z⟩
          · rw [q2] at z; cases z
          · have z2 := un.frzs b ob _ z
            have e1 := (hok b _ z).1
            have e2 := (hok' b _ z2).1
            rw [e] at e1
            cases e1
            exact e2
  cases hk : K.lookup a with
  | some o =>
    have e := KX a o hk
    rw [ha] at e
    cases e
    refine main (fun _ => none) (fun _ => .inl rfl) (.inr ⟨_, vs.toArray, _, hk, rfl, rfl, rfl, ?_, ?_⟩) (fun b u z => nomatch (show (none : Option HO) = some u from z)) (fun b z => absurd rfl z) (fun z => absurd rfl z)
    · rw [List.size_toArray, lenV]; exact hl
    · simpa using vals_ints hi
  | none =>
    refine main (fun b => if b = a then some (.frz { cls := .type "list", data := .seq vs.toArray } (.lst (ns.map V.int))) else none) ?_ (.inl (.inr ⟨_, if_pos rfl⟩)) ?_ ?_ (fun _ => hk)
    · intro b
      by_cases hb : b = a
      · exact .inr ⟨_, _, if_pos hb⟩
      · exact .inl (if_neg hb)
    · intro b u z
      by_cases hb : b = a
      · simp only [if_pos hb] at z
        cases z
        subst hb
        exact ⟨ha, by rw [List.length_map]; exact hl, vs, _, vals_ints hi, ha⟩
      · simp only [if_neg hb] at z
        cases z
    · intro b z
      by_cases hb : b = a
      · exact hb
      · exact absurd (if_neg hb) z
theorem walk_ofG {l : PySem.W.OpenLaw} {n k : Nat} {q : Program} {loose : List Str} {XP : (Str → Option Value) → Heap → Prop} {YP : World → Heap → Prop} {d : DefRec} {K : Params → PySem.W.Frag} {sp : World → Sp} {x : Str}
    (hn : l.most = some n) (hn2 : n ≤ sizeLine) (hdf : d.params.defaults = []) (hr : Room k callerA)
    (hY : ∀ (w : World) (h : Heap), YP w h → (K w.params).In h)
    (F : ∀ (w : World) (mg : Str → Option Value) (fa : Addr) (h : Heap), (K w.params).In h → h.Ns mainGlobals mg → mg d.name = some (.ref fa) →
      ∃ fd : FuncData, (∀ (s : Shared) (u : Value), BindsTo s fd ⟨[u], []⟩ [(x, u)]) ∧
        ∀ base : Heap, (K w.params).In base → base.Ns mainGlobals mg → FnG l.prog w (K w.params) mg base k fa fd [x] (sp w))
    (hsp : ∀ (w : World) (H : Hp) (a : Addr) (ns : List Int), ns.length ≤ n → Only H → SqL (K w.params) H a (ns.map V.int) → sp w [.ref a] H (fun v _ => v = .bl true) fun _ _ _ => False) :
    PySem.W.WalkO q loose XP YP l.row.toRowW d [] (fun f vs => PySem.call f vs) := by
  refine Att.attach_call hn hdf ?_
  intro w s0 s1 mg mb fa o pm cd doc a vs ns G Y ho hd hcd hmg hobj hints hlen hg
  have KX := hY w _ Y
  obtain ⟨fd, hb, hF⟩ := F w mg fa _ KX G.T.g hmg
  exact law_callG KX G.T.g G.T.b G.T.builtins G.T.nolimit hg hobj hints (Nat.le_trans hlen hn2) hr hF hb fun H hO hS => hsp w H a ns hlen hO hS
/-- the law's run over plain data -/
theorem law_true {K : PySem.W.Frag} {nl : Nat} {m : M Fl} {H : Hp} {a : Addr} {ns : List Int} {ρ : Env} (hS : SqL K H a (ns.map V.int)) (hm : m (.scr ns :: List.replicate nl .un) = .ok (.rt (.pl (.val (.bool true)))) ρ) :
    spD K 1 nl m [.ref a] H (fun v _ => v = .bl true) fun _ _ _ => False := by
  refine ⟨{ K := K, G0 := fun _ => none, B := H, A := fun a => H a = none, P := fun i => if i = 0 then some (.ref a) else none, S := fun _ => .scr ns }, [.scr ns], .pl (.val (.bool true)), ρ, rfl, rfl, ?_, ?_, fun v G' σ' H' g S o => ?_⟩
  · refine ⟨(fun b u z => nomatch z), Same.refl _, Same.refl _, fun b z => z, fun b z => absurd rfl z, fun i v z => ?_, rfl, fun i s e => ?_, fun i j b hi hj => ?_⟩
    · by_cases hi : i = 0
      · have z' : some (V.ref a) = some v := by rw [← z]; exact (if_pos hi).symm
        cases z'
        exact ⟨a, rfl, hS⟩
      · have z' : none = some v := by rw [← z]; exact (if_neg hi).symm
        cases z'
    · cases i with
      | zero => cases e; exact ⟨_, rfl, _, rfl, rfl, rfl⟩
      | succ i => cases e
    · obtain ⟨_, s, e, z⟩ := hi
      cases i with
      | zero => cases e; cases z
      | succ i => cases e
  · unfold runD
    show (match m (.scr ns :: List.replicate nl .un) with
      | .ok (.rt r) ρ => some (r, ρ)
      | .ok .nx ρ => some (.pl (.val .none), ρ)
      | _ => none) = _
    rw [hm]
  · have o' : Rp G' v (.bool true) := o
    cases o'
    rfl
end PL
namespace PL
open PySem PySem.Spec L2 RT RZ
/-! ### truth -/
def truD : D → Option Bool
  | .none => some false
  | .bool b => some b
  | .int i => some (i != 0)
  | .str s => if s.length ≤ 100000 then some ((s.length : Int) != 0) else none
  | .list ds => some (!ds.isEmpty)
  | .tuple ds => some (!ds.isEmpty)
  | .dict _ => none
def mTr (f : M Pl) : M Bool := mUn truD f
theorem isE {G : Hp} {xs : List V} {ds : List D} (r : RpA G xs ds) : (!ds.isEmpty) = !xs.isEmpty := by cases r <;> rfl
theorem tru_ok' {K : PySem.W.Frag} {G H : Hp} {v : V} {d : D} {k : Bool} (h : Sh G H v d) (e : truD d = some k) : TruV K v H k := by
  cases h with
  | non => cases e; rfl
  | bl b => cases e; rfl
  | int i => cases e; rfl
  | str s =>
    simp only [truD] at e
    split at e
    · rename_i hl; cases e; exact ⟨line_of hl, rfl⟩
    · cases e
  | lst h r => cases e; exact .inl ⟨_, .inl (.inl h), isE r⟩
  | tup h r => cases e; exact .inr (.inl ⟨_, .inl (.inl h), isE r⟩)
  | dct h r => cases e
section
variable {X : Cx} {e a b c tg elt iter : Expr} {es ifs : List Expr} {pos pos' tpos p p1 p2 p3 apos cpos : Pos} {f fa fb fe : M D} {g ga gb : M Pl} {gs : M (List Pl)} {k : M Rv} {x : Str}
theorem ptt_truth (h : PP X e g) (he : ∀ whole, isTrue e X.env whole = (do let v ← whole; standAt e.pos; holding [v] (truthy v)) := by intro _; rfl) : PTt X e (mTr g) := by
  obtain ⟨t, h, r⟩ := h
  refine ⟨_, pt_truth h he, fun C G σ H ρ Q hK S k ρ' hf q => ?_⟩
  obtain ⟨pl, ρ1, h1, hf2⟩ := bnd_ok hf
  obtain ⟨d, ρ2, h2, hf3⟩ := bnd_ok hf2
  refine r C G σ H ρ _ hK S pl ρ1 h1 fun v G1 H1 g1 S1 o => ?_
  obtain ⟨s, rfl⟩ := look_ok S1 o h2
  obtain ⟨ek, rfl⟩ := ofO_ok hf3
  exact ⟨k, tru_ok' s ek, q G1 H1 g1 S1⟩
/-! ### xs[::-1] -/
def gRevs : D → Option D
  | .list ds => some (.list ds.reverse)
  | _ => none
theorem pf_revs {kk : Nat} (h : PP X e g) : PF X (.Subscript e (.Slice none none (some (.UnaryOp .USub (.Constant (.int 1) kk p1) p2)) p3) pos) (mFr (mUn gRevs g)) := by
  obtain ⟨t, h, r⟩ := h
  refine ⟨_, pe_revL h, fun C G σ H ρ Q hK S d ρ' hf q => ?_⟩
  obtain ⟨d0, ρ0, hf0, h0⟩ := bnd_ok hf
  cases h0
  obtain ⟨pl, ρ1, h1, hf2⟩ := bnd_ok hf0
  obtain ⟨d1, ρ2, h2, hf3⟩ := bnd_ok hf2
  refine r C G σ H ρ _ hK S pl ρ1 h1 fun v G1 H1 g1 S1 o => ?_
  obtain ⟨s, rfl⟩ := look_ok S1 o h2
  obtain ⟨ek, rfl⟩ := ofO_ok hf3
  cases s with
  | @lst a xs ds ha ra =>
    cases ek
    refine ⟨a, xs, rfl, .inl (.inl ha), fun p hp => ?_⟩
    have w := Grow.newF (o := .lst xs.reverse) S1.gh hp
    exact q _ G1 _ g1 (S1.grow w) (fresh_ok S1 hp w (.lst upd_same ra.reverse))
  | _ => cases ek
/-! ### methods of lists that change nothing -/
def isL : D → Option D
  | .list ds => some (.list ds)
  | _ => none
def mMeth (g' : D → List D → Option D) (fo : M Pl) (fs : M (List Pl)) : M D := bnd fo fun p => bnd (look p) fun d0 => bnd (ofO (isL d0)) fun _ => bnd fs fun ps => bnd (look p) fun d => bnd (lookAll ps) fun ds => ofO (g' d ds)
def PMeth (r : V → List V → Hp → VK → Prop) (g : D → List D → Option D) : Prop := ∀ (G H : Hp) (v : V) (d : D) (vs : List V) (ds : List D) (z : D) (Q : VK), Same G H → Sh G H v d → ShA G H vs ds → g d ds = some z → (∀ v G' H', Grow G H G' H' → Rp G' v z → Q v H') → r v vs H Q
theorem pv_meth {name : Str} {id : String} {r : V → List V → Hp → VK → Prop} {g' : D → List D → Option D} (slot : Slot "list" name id) (hty : typeOf (.builtin id) = pure (.type "method_descriptor")) (hm : MtR X id r) (hp : PMeth r g') (ho : PP X a ga) (ha : PPs X (e :: es) gs)
    (hbase : attributeBase a name X.env (eval a X.env) = eval a X.env := by rfl)
    (hfew : ((backTo cpos (starEach (e :: es) X.env)).all (fun x => !x.1) && (backToKw cpos (keywordEach [] X.env)).all (fun x => x.1.isSome)
      && decide ((e :: es).length + ([] : List Keyword).length + (if ([] : List Keyword).isEmpty then 0 else 1) < 30)) = true := by rfl)
    (hline : (apos.endLine == cpos.line) = true := by rfl) (hs : starEach (e :: es) X.env = (false, eval e X.env) :: starEach es X.env := by rfl) (hplain : (backTo cpos (starEach es X.env)).any (·.1) = false := by rfl) :
    PV X (.Call (.Attribute a name apos) (e :: es) [] cpos) (mMeth g' ga gs) := by
  obtain ⟨to, ho, ro⟩ := ho
  obtain ⟨ta, ha, ra⟩ := ha
  refine ⟨_, pe_bm PySem.F.plainAttrs_list slot hty hm ho ha hbase hfew hline hs hplain, fun C G σ H ρ Q hK S z ρ' hf q => ?_⟩
  obtain ⟨pl, ρ1, h1, hf2⟩ := bnd_ok hf
  obtain ⟨d0, ρ2, h2, hf3⟩ := bnd_ok hf2
  obtain ⟨d1, ρ3, h3, hf4⟩ := bnd_ok hf3
  obtain ⟨ps, ρ4, h4, hf5⟩ := bnd_ok hf4
  obtain ⟨d, ρ5, h5, hf6⟩ := bnd_ok hf5
  obtain ⟨ds, ρ6, h6, hf7⟩ := bnd_ok hf6
  refine ro C G σ H ρ _ hK S pl ρ1 h1 fun v G1 H1 g1 S1 o1 => ?_
  obtain ⟨s0, rfl⟩ := look_ok S1 o1 h2
  obtain ⟨e3, rfl⟩ := ofO_ok h3
  refine ⟨?_, ?_⟩
  · cases s0 with
    | lst ha2 _ => exact Or.inl ⟨rfl, _, Or.inl (Or.inl ha2)⟩
    | _ => cases e3
  · refine ra C G1 σ H1 _ _ hK S1 ps ρ4 h4 fun vs G2 H2 g2 S2 o2 => ?_
    obtain ⟨s1, rfl⟩ := look_ok S2 (o1.mono g2) h5
    obtain ⟨s2, rfl⟩ := lookAll_ok S2 o2 h6
    obtain ⟨e7, rfl⟩ := ofO_ok hf7
    exact hp G2 H2 v d vs ds z Q S2.gh s1 s2 e7 fun v G' H' w rr => q v G' H' ((g1.trans g2).trans w.g) (S2.grow w) rr
def rCountD (K : PySem.W.Frag) : V → List V → Hp → VK → Prop := fun x xs H Q => ∃ (a : Addr) (y : V) (d : PyData) (ds : List PyData), x = V.ref a ∧ xs = [y] ∧ Dp K H (V.ref a) (.list ds) ∧ Dp K H y d ∧
  SeqAt.shaped (.list ds) = true ∧ SeqAt.shaped d = true ∧ Q (.int ((ds.countP fun z => PyData.eqv z d : Nat) : Int)) H
theorem room_shaped {A : Around} {ds : List PyData} {d : PyData} (h : SeqAt.shaped d = true) (hu : A.units + 65 < cLine) : A.units + 1 + min (PyData.depthAll ds) d.depth < cLine := by
  have h1 := SeqAt.depth_of_shaped h
  have h2 : min (PyData.depthAll ds) d.depth ≤ d.depth := Nat.min_le_right _ _
  omega
theorem mt_countD (hu : X.A.units + 65 < cLine) : MtR X "list.count" (rCountD X.K) := by
  intro pins s σ H x xs v us Q I rx rxs h
  obtain ⟨a, y, d, ds, rfl, rfl, hl, hy, sl, sd, q⟩ := h
  cases rx
  obtain ⟨uy, rfl, ry⟩ := vals1 rxs
  obtain ⟨bs, r1⟩ := Dp.reads I d y uy hy ry
  have hxs : PyData.canLayAll0 ds = true := SeqAt.canLay_of_shaped sl
  cases hl with
  | lst hs ha =>
    obtain ⟨its, rv, ⟨⟨cls, dd, data, sls⟩, n, ho, hc, hdn, hdt⟩, hlen⟩ := I.list hs
    simp only at hc hdt
    subst hc hdt
    obtain ⟨as, h4⟩ := Dp.readsAll I ds _ its ha rv
    have hmap : its.map (SeqAt.readOf s.heap) = ds := SeqAt.readsAll_map ds its as hxs h4
    refine call_meets PySem.F.slot_list_count ⟨_, ho, rfl⟩ PySem.F.entry_list_count (PySem.F.args_list_count_2 _ _)
      (SeqAt.list_countAt a its.toArray n dd sls uy (fun u => PyData.eqv (SeqAt.readOf s.heap u) d)) ⟨ho, SeqAt.items_eqAt (vs := its.toArray) (show ReadsAll s.heap its.toArray.toList ds as from h4) r1 hxs (SeqAt.canLay_of_shaped sd) (room_shaped sd hu), ?_⟩
    have ec : its.toArray.toList.countP (fun u => PyData.eqv (SeqAt.readOf s.heap u) d) = ds.countP fun z => PyData.eqv z d := by
      rw [← hmap, List.countP_map]; rfl
    refine ⟨.int ((ds.countP fun z => PyData.eqv z d : Nat) : Int), H, I.tok _, ⟨s.toks, ?_⟩, q⟩
    rw [ec]
def gCount (d : D) (as : List D) : Option D := match d, as with
  | .list ds, [z] => if (SeqAt.shaped (.list ds) && SeqAt.shaped z) = true then some (.int ((ds.countP fun w => PyData.eqv w z : Nat) : Int)) else none
  | _, _ => none
theorem pmeth_count {K : PySem.W.Frag} : PMeth (rCountD K) gCount := by
  intro G H v d vs ds z Q gh s sa hg q
  cases s with
  | @lst a xs es h r =>
    cases sa with
    | nil => cases hg
    | cons h2 r2 => cases r2 with
      | cons _ _ => cases hg
      | nil =>
        simp only [gCount] at hg
        split at hg
        · rename_i ok
          cases hg
          rw [Bool.and_eq_true] at ok
          exact ⟨a, _, _, es, rfl, rfl, Sh.dp gh (.lst h r) (SeqAt.canLay_of_shaped ok.1), h2.dp gh (SeqAt.canLay_of_shaped ok.2), ok.1, ok.2, q _ G H (Grow.refl gh) (.int _)⟩
        · cases hg
  | _ => cases hg
theorem pv_count (hu : X.A.units + 65 < cLine) (ho : PP X a ga) (ha : PPs X (e :: es) gs) (hbase : attributeBase a "count" X.env (eval a X.env) = eval a X.env := by rfl)
    (hfew : ((backTo cpos (starEach (e :: es) X.env)).all (fun x => !x.1) && (backToKw cpos (keywordEach [] X.env)).all (fun x => x.1.isSome)
      && decide ((e :: es).length + ([] : List Keyword).length + (if ([] : List Keyword).isEmpty then 0 else 1) < 30)) = true := by rfl)
    (hline : (apos.endLine == cpos.line) = true := by rfl) (hs : starEach (e :: es) X.env = (false, eval e X.env) :: starEach es X.env := by rfl) (hplain : (backTo cpos (starEach es X.env)).any (·.1) = false := by rfl) :
    PV X (.Call (.Attribute a "count" apos) (e :: es) [] cpos) (mMeth gCount ga gs) := pv_meth PySem.F.slot_list_count PySem.F.type_list_count (mt_countD hu) pmeth_count ho ha hbase hfew hline hs hplain
end
theorem tsNil_len : ∀ (ds : List D) (ρ ρ' : Env), tsNil ds ρ = .ok () ρ' → ds.length = 0
  | [], _, _, _ => rfl
  | _ :: _, _, _, h => nomatch h
theorem tsCons_len {t : D → M Unit} {u : List D → M Unit} {n : Nat} (hu : ∀ (ds : List D) (ρ ρ' : Env), u ds ρ = .ok () ρ' → ds.length = n) : ∀ (ds : List D) (ρ ρ' : Env), tsCons t u ds ρ = .ok () ρ' → ds.length = n + 1
  | [], _, _, h => nomatch h
  | d :: ds, ρ, ρ', h => by
    obtain ⟨_, ρ1, _, h2⟩ := bnd_ok h
    rw [List.length_cons, hu ds ρ1 ρ' h2]
abbrev gAddI : D → D → Option D := onInts0 fun i j => .int (i + j)
theorem pop_ip {f : Int → Int → Int} : POpV (ipI f) (onInts0 fun i j => .int (f i j)) := by
  intro G H x y d e z Q gh s1 s2 hg q
  cases s1 with
  | int i =>
    cases s2 with
    | int j => cases hg; exact ⟨i, j, rfl, rfl, q _ G H (Grow.refl gh) (.int _)⟩
    | _ => cases hg
  | _ => cases hg
theorem _root_.L2.Room.u65 {k : Nat} {A : Around} (r : Room k A) : A.units + 65 < cLine := by have := r.un; omega
theorem _root_.L2.Room.u66 {k : Nat} {A : Around} (r : Room k A) : A.units + 66 < cLine := by have := r.un; omega
end PL
namespace PL
open PySem PySem.Spec L2 RT RZ
/-! ### running the mirror -/
theorem bnd_eq {α β : Type} {f : M α} {g : α → M β} {ρ ρ1 : Env} {a : α} (h : f ρ = .ok a ρ1) : bnd f g ρ = g a ρ1 := by unfold bnd; rw [h]
theorem mSeq_nx {a b : M Fl} {ρ ρ1 : Env} (h : a ρ = .ok .nx ρ1) : mSeq a b ρ = b ρ1 := by unfold mSeq; rw [bnd_eq h]
theorem mSeq_rt {a b : M Fl} {ρ ρ1 : Env} {r : Rv} (h : a ρ = .ok (.rt r) ρ1) : mSeq a b ρ = .ok (.rt r) ρ1 := by unfold mSeq; rw [bnd_eq h]; rfl
theorem mFor_ok {f : M (List D)} {t : D → M Unit} {b : M Fl} {ρ ρ1 : Env} {ds : List D} (h : f ρ = .ok ds ρ1) : mFor f t b ρ = forGo t b ds ρ1 := by unfold mFor; rw [bnd_eq h]
/-- a loop by its invariant -/
theorem forGo_inv {t : D → M Unit} {b : M Fl} (I : List D → Env → Prop) : ∀ (ds done : List D) (ρ : Env), I done ρ →
    (∀ (pre : List D) (d : D) (ρ : Env), d ∈ ds → pre.length < done.length + ds.length → I pre ρ → ∃ ρ1 ρ2 fl, t d ρ = .ok () ρ1 ∧ b ρ1 = .ok fl ρ2 ∧ (fl = .nx ∨ fl = .ct) ∧ I (pre ++ [d]) ρ2) →
    (∀ pre ρ, I pre ρ → done.length ≤ pre.length → True) → ∃ ρ', forGo t b ds ρ = .ok .nx ρ' ∧ I (done ++ ds) ρ'
  | [], done, ρ, h0, _, _ => ⟨ρ, rfl, by rw [List.append_nil]; exact h0⟩
  | d :: ds, done, ρ, h0, hs, ht => by
    obtain ⟨ρ1, ρ2, fl, e1, e2, hf, h1⟩ := hs done d ρ List.mem_cons_self (by rw [List.length_cons]; omega) h0
    obtain ⟨ρ', e3, h3⟩ := forGo_inv I ds (done ++ [d]) ρ2 h1 (fun pre d' ρ hd hl hi => hs pre d' ρ (List.mem_cons_of_mem _ hd) (by rw [List.length_append, List.length_cons, List.length_nil] at hl; rw [List.length_cons]; omega) hi) fun _ _ _ _ => trivial
    refine ⟨ρ', ?_, by rw [List.append_assoc] at h3; exact h3⟩
    show bnd (t d) (fun _ => bnd b fun fl => match fl with
      | .nx => forGo t b ds
      | .ct => forGo t b ds
      | .bk => ret .nx
      | .rt r => ret (.rt r)) ρ = _
    rw [bnd_eq e1, bnd_eq e2]
    rcases hf with rfl | rfl <;> exact e3
theorem forGo_by {t : D → M Unit} {b : M Fl} (I : List D → Env → Prop) {ds : List D} {ρ : Env} (h0 : I [] ρ)
    (hs : ∀ (pre : List D) (d : D) (ρ : Env), d ∈ ds → pre.length < ds.length → I pre ρ → ∃ ρ1 ρ2 fl, t d ρ = .ok () ρ1 ∧ b ρ1 = .ok fl ρ2 ∧ (fl = .nx ∨ fl = .ct) ∧ I (pre ++ [d]) ρ2) : ∃ ρ', forGo t b ds ρ = .ok .nx ρ' ∧ I ds ρ' := by
  have := forGo_inv I ds [] ρ h0 (fun pre d ρ hd hl => hs pre d ρ hd (by simpa using hl)) fun _ _ _ _ => trivial
  simpa using this
/-- a comprehension whose items are a function of what is gone through, the names as they were -/
theorem lcGo_map {t : D → M Unit} {vs : List Nat} {c : M Bool} {fe : M D} {φ : D → D} {ρ0 : Env} : ∀ (ds acc : List D),
    (∀ d ∈ ds, ∃ ρ1 ρ2 ρ3, t d ρ0 = .ok () ρ1 ∧ c ρ1 = .ok true ρ2 ∧ fe ρ2 = .ok (φ d) ρ3 ∧ wipeE ρ3 vs = ρ0) → acc.length + ds.length ≤ 100000 → lcGo t vs c fe acc ds ρ0 = .ok (acc ++ ds.map φ) ρ0
  | [], acc, _, _ => by rw [List.map_nil, List.append_nil]; rfl
  | d :: ds, acc, h, hl => by
    obtain ⟨ρ1, ρ2, ρ3, e1, e2, e3, e4⟩ := h d List.mem_cons_self
    rw [List.length_cons] at hl
    show bnd (t d) (fun _ => bnd c fun k => if k = true then bnd fe fun y => if acc.length < 100000 then fun ρ => lcGo t vs c fe (acc ++ [y]) ds (wipeE ρ vs) else fun _ => .stuck
      else fun ρ => lcGo t vs c fe acc ds (wipeE ρ vs)) ρ0 = _
    rw [bnd_eq e1, bnd_eq e2, if_pos rfl, bnd_eq e3, if_pos (by omega), e4, lcGo_map ds (acc ++ [φ d]) (fun d' hd => h d' (List.mem_cons_of_mem _ hd)) (by rw [List.length_append, List.length_cons, List.length_nil]; omega), List.map_cons, List.append_assoc]
    rfl
/-- a comprehension by an invariant of what is made -/
theorem lcGo_inv {t : D → M Unit} {vs : List Nat} {c : M Bool} {fe : M D} (I : List D → Env → Prop) : ∀ (ds acc : List D) (ρ : Env), I acc ρ →
    (∀ (pre : List D) (d : D) (ρ : Env), d ∈ ds → pre.length < acc.length + ds.length → I pre ρ → ∃ ρ1 ρ2 ρ3 y, t d ρ = .ok () ρ1 ∧ c ρ1 = .ok true ρ2 ∧ fe ρ2 = .ok y ρ3 ∧ I (pre ++ [y]) (wipeE ρ3 vs)) →
    acc.length + ds.length ≤ 100000 → ∃ out ρ', lcGo t vs c fe acc ds ρ = .ok out ρ' ∧ I out ρ' ∧ out.length = acc.length + ds.length
  | [], acc, ρ, h0, _, _ => ⟨acc, ρ, rfl, h0, rfl⟩
  | d :: ds, acc, ρ, h0, hs, hl => by
    obtain ⟨ρ1, ρ2, ρ3, y, e1, e2, e3, h1⟩ := hs acc d ρ List.mem_cons_self (by rw [List.length_cons]; omega) h0
    rw [List.length_cons] at hl
    obtain ⟨out, ρ', e4, h4, h5⟩ := lcGo_inv I ds (acc ++ [y]) (wipeE ρ3 vs) h1 (fun pre d' ρ hd hl' hi => hs pre d' ρ (List.mem_cons_of_mem _ hd) (by rw [List.length_append, List.length_cons, List.length_nil] at hl'; rw [List.length_cons]; omega) hi)
      (by rw [List.length_append, List.length_cons, List.length_nil]; omega)
    refine ⟨out, ρ', ?_, h4, by rw [h5, List.length_append, List.length_cons, List.length_nil, List.length_cons]; omega⟩
    show bnd (t d) (fun _ => bnd c fun k => if k = true then bnd fe fun y => if acc.length < 100000 then fun ρ => lcGo t vs c fe (acc ++ [y]) ds (wipeE ρ vs) else fun _ => .stuck
      else fun ρ => lcGo t vs c fe acc ds (wipeE ρ vs)) ρ = _
    rw [bnd_eq e1, bnd_eq e2, if_pos rfl, bnd_eq e3, if_pos (by omega)]
    exact e4
theorem mLc_ok {fi : M (List D)} {t : D → M Unit} {vs : List Nat} {c : M Bool} {fe : M D} {ρ ρ1 ρ2 : Env} {ds out : List D} (h1 : fi ρ = .ok ds ρ1) (h2 : lcGo t vs c fe [] ds (wipeE ρ1 vs) = .ok out ρ2) : mLc fi t vs c fe ρ = .ok (.fr (.list out)) (restE ρ1 ρ2 vs) := by
  unfold mLc
  rw [bnd_eq h1]
  simp only [h2]
theorem evalD_of {ms : List Md} {nl : Nat} {body : M Fl} {ss ρ' : Env} {r r' : Rv} (h1 : runD nl body ss = some (r, ρ')) (h2 : resR ρ' r = some r') : evalD ms nl body ss = some (r', ρ'.take ms.length) := by
  unfold evalD
  rw [h1]
  simp only [h2]
theorem shaped_int (i : Int) : SeqAt.shaped (.int i) = true := rfl
theorem shaped_bool (b : Bool) : SeqAt.shaped (.bool b) = true := rfl
theorem shaped_none : SeqAt.shaped .none = true := rfl
end PL
namespace L2
open PySem PySem.Spec PyProof.Rows HT
section
variable {prog : Program} {w : World} {A : Around} {E : Value → Shared → Prop} {s : Shared}
theorem getItem_tuple_whole {t sl : Addr} {items : Array Value} {vl vu : Value} {lo hi : Option Int} {Q : Value → Shared → Prop} (ht : IsTup s.heap t items) (hs : s.heap.IsSliceOf sl vl vu .none) (pl : IsPart vl lo) (pu : IsPart vu hi)
    (hw : sIx items.size 0 lo = 0 ∧ sIx items.size items.size hi = items.size) (h : Q (.ref t) s) : wpAny (model prog w) A (getItem (.ref t) (.ref sl)) Q E s := by
  obtain ⟨os, hos, hcs, hds⟩ := id hs
  have hTs : s.TypeIs (.ref sl) "slice" := ⟨os, hos, hcs⟩
  unfold getItem
  try with_reducible refine wpAny_holding ?_
  first | refine wpAny_bind (wpAny_pure ?_) | skip
  refine wpAny_bind (wpAny_sequenceKey ht.typeIs (by decide) ?_)
  refine wpAny_bind (wpAny_callSpecial?_slot (name := Str.ofString "__getitem__") ht.typeIs PyProof.Rows.slot_tuple_getitem
    (wpAny_call_entry PyProof.Rows.slot_tuple_getitem ht.typeIs entry_tuple_getitem ?_ (args_tuple_getitem _ _)))
  show wpAny _ _ (Builtin.Tuple.tupleItemsOf (.ref t) >>= _) _ _ s
  refine wpAny_bind (tupleItemsOf_ ht ?_)
  refine wpAny_bind (wpAny_typeOf hTs ?_)
  rw [if_pos (by decide)]
  refine wpAny_bind (sliceApplied_gen hs pl pu ?_)
  have hno : ((((sIx items.size 0 lo : Nat) : Int) == 0 && (1 : Int) == 1 && (sIx items.size items.size hi - sIx items.size 0 lo) == items.size) = true) := by
    rw [hw.1, hw.2]; simp
  show wpAny _ _ (if (((sIx items.size 0 lo : Nat) : Int) == 0 && (1 : Int) == 1 && (sIx items.size items.size hi - sIx items.size 0 lo) == items.size) = true then _ else _) _ _ s
  rw [if_pos hno]
  unfold Builtin.Tuple.tupleIsExact
  refine wpAny_bind (wpAny_bind (wpAny_typeOf ht.typeIs (wpAny_pure ?_)))
  rw [if_pos (by decide)]
  exact wpAny_bind (wpAny_rule (wpAny_pure ⟨_, rfl, wpAny_pure h⟩))
end
/-- the whole of a tuple is the tuple itself -/
def rSlTW (K : PySem.W.Frag) : V → Option Int → Option Int → Hp → VK → Prop := fun x lo hi H Q => ∃ a xs, x = .ref a ∧ SqT K H a xs ∧
  (HT.sIx xs.length 0 lo = 0 ∧ HT.sIx xs.length xs.length hi = xs.length) ∧ Q x H
theorem sl_tupW {X : Cx} : SlR X (rSlTW X.K) := by
  intro pins s σ H x v vl vu lo hi sl Q I rx hs pl pu h
  obtain ⟨a, xs, rfl, hx, hw, q⟩ := h
  cases rx
  obtain ⟨its, r, ht, hz⟩ := I.tuple hx
  have hlen : its.toArray.size = xs.length := by rw [List.size_toArray]; exact r.length.symm
  refine ⟨"tuple", _, PyProof.Rows.slot_tuple_getitem.lookup, ht.typeIs, ?_⟩
  exact getItem_tuple_whole ht hs pl pu (by rw [hlen]; exact hw) ⟨.ref a, H, I, rfl, q⟩
end L2
namespace PL
open PySem PySem.Spec L2
/-- a slice as a thing that is looked at: of a whole tuple the tuple itself -/
def sliceW (d : D) (lo hi : Option Int) : Option (Bool × D) := match d with
  | .list ds => some (false, .list (cutD ds lo hi))
  | .tuple ds => if HT.sIx ds.length 0 lo = 0 ∧ HT.sIx ds.length ds.length hi = ds.length then some (true, .tuple ds) else some (false, .tuple (cutD ds lo hi))
  | _ => none
def mSliceP (g : M Pl) (lo hi : Option (M D)) : M Pl := bnd g fun p => bnd (mOpt lo) fun l => bnd (mOpt hi) fun h => bnd (look p) fun d => bnd (ofO (sliceW d l h)) fun bz => ret (if bz.1 = true then p else .val bz.2)
theorem sliceW_t {d z : D} {lo hi : Option Int} (h : sliceW d lo hi = some (true, z)) : d = z := by
  unfold sliceW at h
  cases d with
  | tuple ds => simp only at h; split at h <;> cases h; rfl
  | list ds => cases h
  | _ => cases h
section
variable {X : Cx} {e : Expr} {pos p2 : Pos} {g : M Pl}
theorem pp_slice {lo hi : Option Expr} {fl fh : Option (M D)} (h : PP X e g) (hl : POt X lo (mOpt fl)) (hh : POt X hi (mOpt fh)) : PP X (.Subscript e (.Slice lo hi none p2) pos) (mSliceP g fl fh) := by
  obtain ⟨t, h, r⟩ := h
  obtain ⟨tl, hl, rl⟩ := hl
  obtain ⟨th, hh, rh⟩ := hh
  refine ⟨_, pe_slice (slR_or sl_list (slR_or sl_tup sl_tupW)) h hl hh, fun C G σ H ρ Q hK S d ρ' hf q => ?_⟩
  obtain ⟨pl, ρ1, h1, hf2⟩ := bnd_ok hf
  obtain ⟨l, ρ2, h2, hf3⟩ := bnd_ok hf2
  obtain ⟨u, ρ3, h3, hf4⟩ := bnd_ok hf3
  obtain ⟨dd, ρ4, h4, hf5⟩ := bnd_ok hf4
  obtain ⟨bz, ρ5, h5, hf6⟩ := bnd_ok hf5
  cases hf6
  refine r C G σ H ρ _ hK S pl ρ1 h1 fun v G1 H1 g1 S1 o1 => ?_
  refine rl C G1 σ H1 ρ1 _ hK S1 l ρ2 h2 fun G2 H2 g2 S2 => ?_
  refine rh C G2 σ H2 ρ2 _ hK S2 u ρ3 h3 fun G3 H3 g3 S3 => ?_
  have o3 := (o1.mono g2).mono g3
  obtain ⟨s, rfl⟩ := look_ok S3 o3 h4
  obtain ⟨es, rfl⟩ := ofO_ok h5
  have gg := (g1.trans g2).trans g3
  cases s with
  | @lst a xs ds ha ra =>
    cases es
    refine .inl ⟨a, xs, rfl, .inl (.inl ha), fun p hp => ?_⟩
    have w := Grow.newF (o := .lst (cutV xs l u)) S3.gh hp
    obtain ⟨_, ep, sh, gn, bn, aa, no⟩ := fresh_ok S3 hp w (.lst upd_same (cut_rp ra))
    cases ep
    obtain ⟨G4, g4, S4, r4⟩ := (S3.grow w).freezeF sh gn aa no
    exact q _ G4 _ (gg.trans g4) S4 r4
  | @tup a xs ds ha ra =>
    simp only [sliceW] at es
    by_cases hw : HT.sIx ds.length 0 l = 0 ∧ HT.sIx ds.length ds.length u = ds.length
    · rw [if_pos hw] at es; cases es
      refine .inr (.inr ⟨a, xs, rfl, .inl (.inl ha), by rw [ra.length]; exact hw, ?_⟩)
      exact q _ G3 _ gg S3 o3
    · rw [if_neg hw] at es; cases es
      refine .inr (.inl ⟨a, xs, rfl, .inl (.inl ha), by rw [ra.length]; exact hw, fun p hp => ?_⟩)
      have w := Grow.new (o := .tup (cutV xs l u)) S3.gh hp
      exact q _ _ _ (gg.trans w.g) (S3.grow w) (.tup upd_same ((cut_rp ra).mono w.g))
  | _ => cases es
end
end PL
namespace PL
open PySem PySem.Spec L2 RT RZ
/-! ### more of lists: pop(i), extend, max, min -/
def gPopAt (ds as : List D) : Option (List D × D) := match as with
  | [.int i] => match ixN ds.length i with
    | some k => match ds[k]? with
      | some y => if -(2 ^ 63) ≤ i ∧ i < 2 ^ 63 then some (ds.eraseIdx k, y) else none
      | none => none
    | none => none
  | _ => none
theorem RpA.eraseIdx {G : Hp} : ∀ {vs : List V} {ds : List D} (n : Nat), RpA G vs ds → RpA G (vs.eraseIdx n) (ds.eraseIdx n)
  | _, _, _, .nil => .nil
  | _, _, 0, .cons _ r => r
  | _, _, n + 1, .cons h r => .cons h (RpA.eraseIdx n r)
theorem pmut_popAt : PMut rPopAt gPopAt := by
  intro G H l vs ds as ads new z Q gh hl r ra hg q
  cases ra with
  | nil => cases hg
  | cons h rr => cases rr with
    | cons _ _ => cases h <;> cases hg
    | nil => cases h with
      | int i =>
        simp only [gPopAt] at hg
        cases e : ixN ds.length i with
        | none => rw [e] at hg; cases hg
        | some k =>
          rw [e] at hg
          simp only at hg
          cases e2 : ds[k]? with
          | none => rw [e2] at hg; cases hg
          | some y =>
            rw [e2] at hg
            simp only at hg
            split at hg
            · rename_i hi
              cases hg
              obtain ⟨v, hv, rv⟩ := r.get e2
              exact ⟨l, vs, i, k, v, rfl, rfl, hl, hi.1, hi.2, by rw [r.length]; exact (ixN_seq e).1, hv, q _ _ (r.eraseIdx k) rv⟩
            · cases hg
      | _ => cases hg
def gExtend (ds as : List D) : Option (List D × D) := match as with
  | [.list es] => if ds.length + es.length ≤ 100000 then some (ds ++ es, .none) else none
  | _ => none
theorem pmut_extend : PMut rExtend gExtend := by
  intro G H l vs ds as ads new z Q gh hl r ra hg q
  cases ra with
  | nil => cases hg
  | cons h rr => cases rr with
    | cons _ _ => cases h <;> cases hg
    | nil => cases h with
      | @lst b xs es hb rb =>
        simp only [gExtend] at hg
        split at hg
        · rename_i hlt
          cases hg
          exact ⟨l, b, vs, xs, rfl, rfl, hl, gh _ _ hb, by rw [r.length, rb.length]; exact line_of hlt, q _ _ (r.append rb) .non⟩
        · cases hg
      | _ => cases hg
def maxI : List Int → Int
  | [] => 0
  | [n] => n
  | n :: m :: ns => if maxI (m :: ns) ≤ n then n else maxI (m :: ns)
def minI : List Int → Int
  | [] => 0
  | [n] => n
  | n :: m :: ns => if n ≤ minI (m :: ns) then n else minI (m :: ns)
theorem maxI_mem : ∀ (ns : List Int), ns ≠ [] → maxI ns ∈ ns
  | [], h => absurd rfl h
  | [n], _ => List.mem_cons_self
  | n :: m :: ns, _ => by
    have := maxI_mem (m :: ns) (by simp)
    simp only [maxI]
    split
    · exact List.mem_cons_self
    · exact List.mem_cons_of_mem _ this
theorem maxI_le : ∀ (ns : List Int) (x : Int), x ∈ ns → x ≤ maxI ns
  | [], _, h => nomatch h
  | [n], x, h => by rw [List.mem_singleton] at h; subst h; exact Int.le_refl _
  | n :: m :: ns, x, h => by
    simp only [maxI]
    rcases List.mem_cons.mp h with rfl | h
    · split <;> omega
    · have := maxI_le (m :: ns) x h
      split <;> omega
theorem minI_mem : ∀ (ns : List Int), ns ≠ [] → minI ns ∈ ns
  | [], h => absurd rfl h
  | [n], _ => List.mem_cons_self
  | n :: m :: ns, _ => by
    have := minI_mem (m :: ns) (by simp)
    simp only [minI]
    split
    · exact List.mem_cons_self
    · exact List.mem_cons_of_mem _ this
theorem minI_le : ∀ (ns : List Int) (x : Int), x ∈ ns → minI ns ≤ x
  | [], _, h => nomatch h
  | [n], x, h => by rw [List.mem_singleton] at h; subst h; exact Int.le_refl _
  | n :: m :: ns, x, h => by
    simp only [minI]
    rcases List.mem_cons.mp h with rfl | h
    · split <;> omega
    · have := minI_le (m :: ns) x h
      split <;> omega
def numsNe (ds : List D) : Option (List Int) := match nums ds with
  | some (n :: ns) => some (n :: ns)
  | _ => none
def gMaxL : List D → Option D
  | [.list ds] => (numsNe ds).map fun ns => .int (maxI ns)
  | _ => none
def gMinL : List D → Option D
  | [.list ds] => (numsNe ds).map fun ns => .int (minI ns)
  | _ => none
theorem numsNe_ok {ds : List D} {ns : List Int} (h : numsNe ds = some ns) : nums ds = some ns ∧ ns ≠ [] := by
  unfold numsNe at h
  split at h
  · cases h; exact ⟨by assumption, by simp⟩
  · cases h
section
variable {X : Cx} {e a b : Expr} {es : List Expr} {pos p : Pos} {gs : M (List Pl)} {fs : M (List D)} {fa fb : M D}
theorem pv_maxL (hc : X.calm = true) (hg : Gl X "max") (hm : X.mg "max" = none) (ha : PPs X (e :: es) gs) (he : starEach (e :: es) X.env = (false, eval e X.env) :: starEach es X.env := by rfl) (hpl : (backTo pos (starEach es X.env)).any (·.1) = false := by rfl) :
    PV X (.Call (.Name "max" p) (e :: es) [] pos) (mN gMaxL gs) := pv_b (cr_max hc) (fun G H vs ds z Q gh s hg q => by
  cases s with
  | nil => cases hg
  | cons h r => cases r with
    | cons _ _ => cases h <;> cases hg
    | nil => cases h with
      | @lst a xs ds h r =>
        simp only [gMaxL] at hg
        cases qd : numsNe ds with
        | none => rw [qd] at hg; cases hg
        | some ns =>
          rw [qd] at hg
          cases hg
          obtain ⟨q1, q2⟩ := numsNe_ok qd
          have := nums_ok q1 r
          subst this
          refine ⟨a, ns, rfl, .inl (.inl h), List.length_pos_iff.mpr q2, fun m hm hle => ?_⟩
          have : m = maxI ns := Int.le_antisymm (maxI_le ns m hm) (hle _ (maxI_mem ns q2))
          subst this
          exact q _ G H (Grow.refl gh) (.int _)
      | _ => cases hg) hg hm (by decide +kernel) ha (he := he) (hpl := hpl)
theorem pv_minL (hc : X.calm = true) (hg : Gl X "min") (hm : X.mg "min" = none) (ha : PPs X (e :: es) gs) (he : starEach (e :: es) X.env = (false, eval e X.env) :: starEach es X.env := by rfl) (hpl : (backTo pos (starEach es X.env)).any (·.1) = false := by rfl) :
    PV X (.Call (.Name "min" p) (e :: es) [] pos) (mN gMinL gs) := pv_b (cr_min hc) (fun G H vs ds z Q gh s hg q => by
  cases s with
  | nil => cases hg
  | cons h r => cases r with
    | cons _ _ => cases h <;> cases hg
    | nil => cases h with
      | @lst a xs ds h r =>
        simp only [gMinL] at hg
        cases qd : numsNe ds with
        | none => rw [qd] at hg; cases hg
        | some ns =>
          rw [qd] at hg
          cases hg
          obtain ⟨q1, q2⟩ := numsNe_ok qd
          have := nums_ok q1 r
          subst this
          refine ⟨a, ns, rfl, .inl (.inl h), List.length_pos_iff.mpr q2, fun m hm hle => ?_⟩
          have : m = minI ns := Int.le_antisymm (hle _ (minI_mem ns q2)) (minI_le ns m hm)
          subst this
          exact q _ G H (Grow.refl gh) (.int _)
      | _ => cases hg) hg hm (by decide +kernel) ha (he := he) (hpl := hpl)
/-- {} -/
def mDict0 : M D := ret (.dict [])
theorem pv_dict0 : PV X (.Dict [] [] pos) mDict0 := ⟨_, pe_dnewK, fun C G σ H ρ Q hK S d ρ' hf q => by
  cases hf
  intro p hp
  have w : Grow G H (upd G p (.dK [])) (upd H p (.dK [])) := Grow.new S.gh hp
  exact q _ _ _ w.g (S.grow w) (.dct upd_same .nil)⟩
/-- {k: v}, the key a number -/
def mDict1 (fk fv : M D) : M D := bnd fk fun dk => bnd fv fun dv => match dk with
  | .int i => ret (.dict [(.int i, dv)])
  | _ => fun _ => .stuck
theorem pf_dict1 {k v : Expr} {fk fv : M D} (hk : PV X k fk) (hv : PV X v fv) : PF X (.Dict [some k] [v] pos) (mFr (mDict1 fk fv)) := by
  obtain ⟨tk, hk, rk⟩ := hk
  obtain ⟨tv, hv, rv⟩ := hv
  refine ⟨_, pe_disp (L2.pps_cons hk hv L2.pps_nil) rfl rfl (by simp) (by simp), fun C G σ H ρ Q hK S d ρ' hf q => ?_⟩
  obtain ⟨d', ρ0, hf0, h0⟩ := bnd_ok hf
  cases h0
  obtain ⟨dk, ρ1, h1, hf1⟩ := bnd_ok hf0
  obtain ⟨dv, ρ2, h2, hf2⟩ := bnd_ok hf1
  intro p hp
  have hBp : C.B p = none := S.bh.free hp
  have S1 : StOk (C.with p (.dK [])) G σ (upd H p (.dK [])) ρ := S.enter hp (.dK [])
  refine rk (C.with p (.dK [])) G σ _ ρ _ hK S1 dk ρ1 h1 fun x G1 H1 g1 S2 o1 => ?_
  refine rv (C.with p (.dK [])) G1 σ H1 ρ1 _ hK S2 dv ρ2 h2 fun y G2 H2 g2 S3 o2 => ?_
  cases o1 with
  | int i =>
    cases hf2
    have hH2 : H2 p = some (.dK []) := S3.bh p _ upd_same
    have hG2 : G2 p = none := by
      cases z : G2 p with
      | none => rfl
      | some u =>
        rcases S3.ga p (ne_none_of z) with w | w
        · exact absurd (S.gh.free hp |> S.g0.free) w
        · exact absurd rfl w.2
    refine ⟨hH2, [(.inl i, y)], rfl, by simp, ?_⟩
    have S4 : StOk (C.with p (.dK (mergeK [] [(.inl i, y)]))) G2 σ (upd H2 p (.dK (mergeK [] [(.inl i, y)]))) _ := S3.step (o' := .dK (mergeK [] [(.inl i, y)])) hG2 S.wf hBp
    have S5 := S4.exit S.wf hBp
    refine q _ G2 _ (g1.trans g2) S5 ⟨p, rfl, .dct upd_same (.cons o2 .nil), hG2, hBp, S.fr p hp, fun j hj => ?_⟩
    obtain ⟨_, _, z4⟩ := Own.tracked S4 hj
    have z5 : upd C.B p (.dK (mergeK [] [(.inl i, y)])) p = none := z4
    rw [upd_same] at z5
    cases z5
  | _ => cases hf2
/-- a, b = x, y -/
def mPar (i j : Nat) (fs : M (List D)) : M Fl := bnd fs fun ds => match ds with
  | [d, e] => bnd (setS i (.val d)) fun _ => bnd (setS j (.val e)) fun _ => ret .nx
  | _ => fun _ => .stuck
theorem pst_par {i j : Nat} {x y : Str} {px py pt : Pos} {kt k2 pt2} (hc : X.calm = true) (hN : X.N.Nodup) (ha : PVs X [a, b] fs) (hi : X.N[i]? = some x := by rfl) (hj : X.N[j]? = some y := by rfl) (hij : i ≠ j := by decide)
    (hx : X.env.scope.names.lookup x = some .local := by rfl) (hy : X.env.scope.names.lookup y = some .local := by rfl)
    (hw : swappedStores [.Tuple [.Name x px, .Name y py] kt pt] (.Tuple [a, b] k2 pt2) X.env = pure (some [x, y]) := by rfl)
    (hs : swapsWithSole [.Tuple [.Name x px, .Name y py] kt pt] (.Tuple [a, b] k2 pt2) pos.line X.env = pure false := by rfl) :
    PSt X (.Assign [.Tuple [.Name x px, .Name y py] kt pt] (.Tuple [a, b] k2 pt2) pos) (mPar i j fs) := by
  obtain ⟨t, ha, ra⟩ := ha
  refine ⟨_, ps_par hc hN hi hj hij hx hy ha hw hs, fun C G σ H ρ D hK S fl ρ' hf q => ?_⟩
  obtain ⟨ds, ρ1, h1, hf2⟩ := bnd_ok hf
  refine ra C G σ H ρ _ hK S ds ρ1 h1 fun vs G1 H1 g1 S1 o => ?_
  cases o with
  | nil => cases hf2
  | cons o1 r1 => cases r1 with
    | nil => cases hf2
    | cons o2 r2 => cases r2 with
      | cons _ _ => cases hf2
      | nil =>
        obtain ⟨u1, ρ2, h2, hf3⟩ := bnd_ok hf2
        obtain ⟨u2, ρ3, h3, hf4⟩ := bnd_ok hf3
        cases hf4
        obtain ⟨l1, rfl⟩ := setS_ok h2
        obtain ⟨l2, rfl⟩ := setS_ok h3
        exact ⟨_, _, rfl, q _ G1 H1 g1 ((S1.putV l1 o1).putV l2 o2)⟩
end
end PL
namespace L2
open PySem PySem.Spec PyProof.Rows
/-! ### sorted(d), d a dict whose keys are ints, any number of them -/
theorem intsAt : ∀ {us : List Value} {ks : List Int}, us.length = ks.length → (∀ (j : Nat) (v : Value), us[j]? = some v → ∃ (x : Int) (t : Tok), ks[j]? = some x ∧ v = Value.int x t) → IntsAre us ks
  | [], [], _, _ => .nil
  | u :: us, k :: ks, hl, h => by
    obtain ⟨x, t, e1, rfl⟩ := h 0 u rfl
    cases (show k = x from Option.some.inj e1)
    refine .cons _ _ (intsAt (by simpa using hl) fun j v e => ?_)
    obtain ⟨x, t, a, b⟩ := h (j + 1) v (by simpa using e)
    exact ⟨x, t, by simpa using a, b⟩
  | [], _ :: _, hl, _ => by simp at hl
  | _ :: _, [], hl, _ => by simp at hl
def rSortedDI : List V → Hp → VK → Prop := fun xs H Q => ∃ (a : Addr) (kvs : List (Key × V)) (ks : List Int), xs = [.ref a] ∧ H a = some (.dK kvs) ∧ kvs.map (·.1) = ks.map Sum.inl ∧
    ∀ (ns : List Int) (p : Addr), ns.Perm ks → ns.Pairwise (· ≤ ·) → H p = none → Q (.ref p) (upd H p (.lst (ns.map V.int)))
theorem cr_sortedDI {X : Cx} (hcalm : X.calm = true) : CallR X (.builtin "sorted") rSortedDI := by
  intro pins s σ H xs us Q I r q
  obtain ⟨a, kvs, ks, rfl, hd, hks, q⟩ := q
  obtain ⟨u, rfl, rx⟩ := vals1 r
  cases rx
  obtain ⟨z, lo, vs, rel, dd⟩ := dk_rd I.hok (.inl hd)
  obtain ⟨ep, hat⟩ := dd.dictAt
  have hkeys : vs.map (·.1) = ks.map Sum.inl := rel.keys.symm.trans hks
  have hl : vs.length = ks.length := by simpa using congrArg List.length hkeys
  have hz : vs.length ≤ sizeLine := by rw [← rel.length]; exact z
  refine Calls.call_function_entry kind_sorted plain_sorted entry_sorted (args_sorted1 _) ?_
  unfold Builtin.«sorted»
  refine wpAny_bind (m := checkCount "sorted" 1 1 _) (wpAny_pure ?_)
  refine wpAny_bind (PySem.W.kdu_collect (A := X.A.in1) (PySem.W.kdl_dict (knd := mixKind X.prog X.w) (kvs := vs) (ep := ep) lo) (I.ok.hd hcalm) hat hz fun h' tk acc hk hacc => ?_)
  have hal : acc.toList.length = ks.length := by rw [Array.length_toList, hacc.1, hl]
  have hS : IntsAre acc.toList ks := intsAt hal fun j v e => by
    obtain ⟨k, x, e1, e2⟩ := hacc.2 j v (by rw [← Array.getElem?_toList]; exact e)
    have e3 : (vs.map (·.1))[j]? = some k := by simp [e1]
    rw [hkeys] at e3
    obtain ⟨y, e4, rfl⟩ : ∃ y, ks[j]? = some y ∧ Sum.inl y = k := by simpa using e3
    rcases keyIs_shape (k := Sum.inl y) (v := v) e2 with ⟨i, t, ek, ev⟩ | ⟨zz, t, ek, ev⟩
    · cases ek; exact ⟨_, t, e4, ev⟩
    · cases ek
  have I1 : Inv X pins σ H { s with heap := h', toks := tk } := I.kept hk
  refine wpAny_bind (wpAny_newList ?_ (by rw [hal, ← hl]; exact hz))
  have hoL : (h'.push (seqObj "list" acc.toList.toArray 0)).get? h'.objs.size = some (seqObj "list" acc.toList.toArray 0) := Heap.get?_push_size _ rfl
  show wpAny _ _ _ _ _ { s with heap := h'.push (seqObj "list" acc.toList.toArray 0), toks := tk }
  refine wpAny_bind (wpAny_holding (wpAny_call_entry slot_list_sort ⟨_, hoL, rfl⟩ entry_list_sort
    (SrtO.list_sort_ord SrtO.swo_int (s := { s with heap := h'.push (seqObj "list" acc.toList.toArray 0), toks := tk }) hoL (by rw [hal, ← hl]; exact hz) (fun h2 => SrtO.ints_sortable hS h2) fun out h1 h2 => ⟨_, rfl, ?_⟩)
    (args_list_sort _)))
  obtain ⟨k1, k2, k3⟩ := SrtO.ints_out hS h1 h2
  obtain ⟨e', he'⟩ := sortedHeap_at (vs := acc.toList) (out := out.toArray) hoL
  have hlen : ((out.map SrtO.iv).map V.int).length ≤ sizeLine := by
    rw [List.length_map, k2.length_eq, ← hl]; exact hz
  refine wpAny_pure ⟨_, rfl, .ref h'.objs.size, upd H h'.objs.size (.lst ((out.map SrtO.iv).map V.int)), I1.laid (t' := tk) (fun b u e => ?_) (Nat.le_refl _)
    (show ObjOk X.prog X.w _ _ _ (.lst ((out.map SrtO.iv).map V.int)) from ⟨hlen, out, e', vals_of_ints k1, he'⟩), rfl, q _ _ k2 k3 (I1.hok.fresh (Nat.le_refl _))⟩
  have hb : b < h'.objs.size := Heap.lt_size e
  rw [sortedHeap_old (Nat.ne_of_lt hb) (by rw [size_push']; exact Nat.lt_succ_of_lt hb)]
  exact Heap.get?_push_of_some _ e
end L2
/-! PL21: calls with keywords, keyword-only parameters that lack, ranges with a step -/
namespace PL
open PySem PySem.Spec L2 PyProof.Rows RT RZ
/-! ### reading the written arguments and the keywords -/
def RdP2 (K : PySem.W.Frag) (t tk : TA) (n m : Nat) (f : M (List Pl)) : Prop := ∀ (C : Ctx) (G : Hp) (σ : L2.St) (H : Hp) (ρ : Env) (Q : List V → List V → Hp → Prop), C.K = K → StOk C G σ H ρ → ∀ (ds : List Pl) (ρ' : Env), f ρ = .ok ds ρ' →
  (∀ (vs zs : List V) (G' H' : Hp), vs.length = n → zs.length = m → Same G G' → StOk C G' σ H' ρ' → okPs G' σ (vs ++ zs) ds → Q vs zs H') → t σ H fun vs H1 => tk σ H1 fun zs H2 => Q vs zs H2
def PKs (X : Cx) (kws : List Keyword) (m : Nat) (f : M (List Pl)) : Prop := ∃ tk, PK X kws tk ∧ RdP2 X.K tNil tk 0 m f
def PPk (X : Cx) (es : List Expr) (kws : List Keyword) (n m : Nat) (f : M (List Pl)) : Prop := ∃ t tk, PA X es t ∧ PK X kws tk ∧ RdP2 X.K t tk n m f
section
variable {X : Cx} {e : Expr} {es : List Expr} {kws : List Keyword} {n m : Nat} {g : M Pl} {fs : M (List Pl)} {nm : Option Str} {kpos : Pos}
theorem pks_nil : PKs X [] 0 mNil := ⟨_, pk_nil, fun C G σ H ρ Q hK S d ρ' hf q => by cases hf; exact q [] [] G H rfl rfl (Same.refl _) S .nil⟩
theorem pks_cons (h : PP X e g) (hr : PKs X kws m fs) : PKs X (⟨nm, e, kpos⟩ :: kws) (m + 1) (mCons g fs) := by
  obtain ⟨t, h, r⟩ := h
  obtain ⟨u, hr, rr⟩ := hr
  refine ⟨_, pk_cons h hr, fun C G σ H ρ Q hK S ds ρ' hf q => ?_⟩
  obtain ⟨d, ρ1, h1, hf⟩ := bnd_ok hf
  obtain ⟨ds', ρ2, h2, hf⟩ := bnd_ok hf
  cases hf
  refine r C G σ H ρ _ hK S d ρ1 h1 fun v G1 H1 g1 S1 o1 => ?_
  refine rr C G1 σ H1 ρ1 (fun _ zs H2 => Q [] (v :: zs) H2) hK S1 ds' _ h2 fun vs zs G2 H2 l1 l2 g2 S2 o2 => ?_
  cases vs with
  | nil => exact q [] (v :: zs) G2 H2 rfl (congrArg Nat.succ l2) (g1.trans g2) S2 (.cons (o1.mono g2) o2)
  | cons _ _ => cases l1
theorem ppk_nil (hk : PKs X kws m fs) : PPk X [] kws 0 m fs := by
  obtain ⟨tk, h, r⟩ := hk
  exact ⟨_, _, pa_nil, h, r⟩
theorem ppk_cons (h : PP X e g) (hr : PPk X es kws n m fs) (hs : starEach (e :: es) X.env = (false, eval e X.env) :: starEach es X.env := by rfl) : PPk X (e :: es) kws (n + 1) m (mCons g fs) := by
  obtain ⟨t, h, r⟩ := h
  obtain ⟨u, uk, hr, hk, rr⟩ := hr
  refine ⟨_, _, pa_cons h hr hs, hk, fun C G σ H ρ Q hK S ds ρ' hf q => ?_⟩
  obtain ⟨d, ρ1, h1, hf⟩ := bnd_ok hf
  obtain ⟨ds', ρ2, h2, hf⟩ := bnd_ok hf
  cases hf
  refine r C G σ H ρ _ hK S d ρ1 h1 fun v G1 H1 g1 S1 o1 => ?_
  refine rr C G1 σ H1 ρ1 (fun vs zs H2 => Q (v :: vs) zs H2) hK S1 ds' _ h2 fun vs zs G2 H2 l1 l2 g2 S2 o2 => ?_
  exact q (v :: vs) zs G2 H2 (congrArg Nat.succ l1) l2 (g1.trans g2) S2 (.cons (o1.mono g2) o2)
end
def tBoth (n m : Nat) (t tk : TA) : TA := fun σ H Q => t σ H fun vs H1 => tk σ H1 fun zs H2 => vs.length = n ∧ zs.length = m ∧ Q (vs ++ zs) H2
theorem rd_both {K : PySem.W.Frag} {t tk : TA} {n m : Nat} {f : M (List Pl)} (r : RdP2 K t tk n m f) : RdPs K (tBoth n m t tk) f := fun C G σ H ρ Q hK S ds ρ' hf q =>
  r C G σ H ρ (fun vs zs H2 => vs.length = n ∧ zs.length = m ∧ Q (vs ++ zs) H2) hK S ds ρ' hf fun vs zs G' H' l1 l2 g S' o => ⟨l1, l2, q _ G' H' g S' o⟩
/-- how the values are bound: the written ones, then the keywords' -/
def KBz (K : PySem.W.Frag) (fd : FuncData) (ps : List Str) (n : Nat) (ks : List Str) : Prop := ∀ (s : Shared) (us ws : List Value), K.In s.heap → us.length = n → ws.length = ks.length → BindsTo s fd ⟨us, ks.zip ws⟩ (ps.zip (us ++ ws))
theorem fun_kbz {K : PySem.W.Frag} {x qual : Str} {st : Stmt} {f : Addr} {fd : FuncData} {ps ks : List Str} {n : Nat} (F : Fun K x qual st f fd)
    (h : ∀ (kV doc pm : Value) (an : Option Addr) (cdv ct : Value) (us ws : List Value), us.length = n → ws.length = ks.length → bindArgs (PySem.W.fnOf x qual (defArgs st) (defBody st) (defScope st) .none kV doc pm an cdv ct) ⟨us, ks.zip ws⟩ = pure (ps.zip (us ++ ws))) : KBz K fd ps n ks := by
  obtain ⟨oc, od, kV, doc, pm, an, cdv, ct, osl, rfl, lk, hcd⟩ := F.ex
  exact fun s us ws _ l1 l2 => .of_eq (h kV doc pm an cdv ct us ws l1 l2)
section
variable {X : Cx} {e : Expr} {es : List Expr} {pos p : Pos} {x : Str} {k : Nat} {f : Addr} {fd : FuncData} {ps ks : List Str} {np nl n m : Nat} {mm : M Fl} {ms : List Md} {fs : M (List Pl)} {sp : Sp} {t tk : TA} {kws : List Keyword}
theorem pe_callGK (F : FnG X.prog X.w X.K X.mg X.base k f fd ps sp) (hG : X.A.guards = some []) (hr : Room k X.A) (hg : Gl X x) (hm : X.mg x = some (.ref f)) (hk : PySem.W.keepIn X.K (.ref f) = true) (hb : KBz X.K fd ps n ks) (ha : PA X (e :: es) t) (hkw : PK X kws tk) (hm2 : ks.length = m)
    (hall : (backToKw pos (keywordEach kws X.env)).all (·.1.isSome) = true := by rfl) (hks : (backToKw pos (keywordEach kws X.env)).filterMap (·.1) = ks := by rfl)
    (hdb : (x == ("__debug__" : Str)) = false := by decide) (he : starEach (e :: es) X.env = (false, eval e X.env) :: starEach es X.env := by rfl)
    (hpl : ((backTo pos (starEach (e :: es) X.env)).any (·.1) || (backToKw pos (keywordEach kws X.env)).any (·.1.isNone)) = false := by rfl) :
    PE X (.Call (.Name x p) (e :: es) kws pos) (tCall sp [] L2.E0 (tBoth n m t tk)) := by
  constructor
  intro pins s σ H Q I h
  refine PySem.wpAny_Call_Name_kw (ld_glob I hg hm ?_ hdb)
  refine PySem.W.callWith_KW (h₀ := X.base) I.ok.mod.kin hk hall (thn (ha.run pos pins s σ H _ I h) fun us s1 ⟨vs, H1, I1, r, q⟩ => ?_) hpl he
  refine thn (hkw.run pos pins s1 σ H1 _ I1 q) fun ws s2 ⟨zs, H2, I2, rz, l1, l2, q2⟩ => ⟨I2.kIn, ?_⟩
  rw [hks]
  have q2 : sp ((vs ++ zs) ++ []) H2 Q L2.E0 := q2
  rw [List.append_nil] at q2
  refine wpAny_call (codeAny_mono (F.go X.A hG X.stack s2 H2 ⟨us, ks.zip ws⟩ (us ++ ws) (vs ++ zs) Q _ hr I2.env0 (hb s2 us ws I2.kIn (r.length.symm.trans l1) (rz.length.symm.trans (l2.trans hm2.symm))) (r.append rz) q2) ?_)
  intro r s' hq
  cases r with
  | error e => exact False.elim hq
  | ok fl =>
    cases fl with
    | ret u => exact I2.after hq
    | next => exact False.elim hq
    | brk => exact False.elim hq
    | cont => exact False.elim hq
theorem pf_callGK (F : FnG X.prog X.w X.K X.mg X.base k f fd ps (spD X.K np nl mm)) (hG : X.A.guards = some []) (hr : Room k X.A) (hg : Gl X x) (hm : X.mg x = some (.ref f)) (hk : PySem.W.keepIn X.K (.ref f) = true) (hb : KBz X.K fd ps n ks) (ha : PPk X (e :: es) kws n m fs) (hl : ms.length = np) (hm2 : ks.length = m := by rfl)
    (hall : (backToKw pos (keywordEach kws X.env)).all (·.1.isSome) = true := by rfl) (hks : (backToKw pos (keywordEach kws X.env)).filterMap (·.1) = ks := by rfl)
    (hdb : (x == ("__debug__" : Str)) = false := by decide) (he : starEach (e :: es) X.env = (false, eval e X.env) :: starEach es X.env := by rfl)
    (hpl : ((backTo pos (starEach (e :: es) X.env)).any (·.1) || (backToKw pos (keywordEach kws X.env)).any (·.1.isNone)) = false := by rfl) :
    PF X (.Call (.Name x p) (e :: es) kws pos) (mCall ms nl mm fs) := by
  obtain ⟨t, tk, ha, hkw, ra⟩ := ha
  exact ⟨_, pe_callGK F hG hr hg hm hk hb ha hkw hm2 hall hks hdb he hpl, rd_call (rd_both ra) hl⟩
end
/-! ### a keyword-only parameter lacks: its default None -/
def tSn (t : TA) : TA := fun σ H Q => t σ H fun vs H1 => Q (vs ++ [.non]) H1
def PPd (X : Cx) (es : List Expr) (f : M (List Pl)) : Prop := ∃ t, PA X es t ∧ RdPs X.K (tSn t) f
section
variable {X : Cx} {e : Expr} {es : List Expr} {g : M Pl} {fs : M (List Pl)}
theorem ppd_nil : PPd X [] (mCons (mPl (mC .none)) mNil) := ⟨_, pa_nil, fun C G σ H ρ Q hK S d ρ' hf q => by
  cases hf
  exact q [.non] G H (Same.refl _) S (.cons (show Rp G .non .none from .non) .nil)⟩
theorem ppd_cons (h : PP X e g) (hr : PPd X es fs) (hs : starEach (e :: es) X.env = (false, eval e X.env) :: starEach es X.env := by rfl) : PPd X (e :: es) (mCons g fs) := by
  obtain ⟨t, h, r⟩ := h
  obtain ⟨u, hr, rr⟩ := hr
  refine ⟨_, pa_cons h hr hs, fun C G σ H ρ Q hK S ds ρ' hf q => ?_⟩
  obtain ⟨d, ρ1, h1, hf⟩ := bnd_ok hf
  obtain ⟨ds', ρ2, h2, hf⟩ := bnd_ok hf
  cases hf
  refine r C G σ H ρ _ hK S d ρ1 h1 fun v G1 H1 g1 S1 o1 => ?_
  exact rr C G1 σ H1 ρ1 (fun vs H2 => Q (v :: vs) H2) hK S1 ds' _ h2 fun vs G2 H2 g2 S2 o2 => q _ G2 H2 (g1.trans g2) S2 (.cons (o1.mono g2) o2)
end
section
variable {X : Cx} {e : Expr} {es : List Expr} {pos p : Pos} {x : Str} {k : Nat} {f : Addr} {fd : FuncData} {ps : List Str} {np nl : Nat} {mm : M Fl} {ms : List Md} {fs : M (List Pl)} {sp : Sp} {t : TA} {ds : List Value}
def BindsN (K : PySem.W.Frag) (fd : FuncData) (ps : List Str) : Prop := ∃ ds : List Value, Vals [V.non] ds ∧ Binds K fd ps ds
theorem pe_callGd (F : FnG X.prog X.w X.K X.mg X.base k f fd ps sp) (hG : X.A.guards = some []) (hr : Room k X.A) (hg : Gl X x) (hm : X.mg x = some (.ref f)) (hk : PySem.W.keepIn X.K (.ref f) = true) (hb : BindsN X.K fd ps) (ha : PA X (e :: es) t)
    (hdb : (x == ("__debug__" : Str)) = false := by decide) (he : starEach (e :: es) X.env = (false, eval e X.env) :: starEach es X.env := by rfl) (hpl : (backTo pos (starEach es X.env)).any (·.1) = false := by rfl) :
    PE X (.Call (.Name x p) (e :: es) [] pos) (tCall sp [] L2.E0 (tSn t)) := by
  obtain ⟨ds, hd, hb⟩ := hb
  constructor
  intro pins s σ H Q I h
  refine PySem.wpAny_Call_Name_kw (ld_glob I hg hm ?_ hdb)
  refine PySem.W.callWith_K (h₀ := X.base) I.ok.mod.kin hk (thn (ha.run pos pins s σ H _ I h) ?_) he hpl
  rintro us s1 ⟨vs, H1, I1, r, q⟩
  refine ⟨I1.kIn, ?_⟩
  have q : sp ((vs ++ [.non]) ++ []) H1 Q L2.E0 := q
  rw [List.append_nil] at q
  have r2 : Vals (vs ++ [.non]) (us ++ ds) := r.append hd
  have hl : (us ++ ds).length = ps.length := by rw [← r2.length]; exact F.len _ _ _ _ q
  refine wpAny_call (codeAny_mono (F.go X.A hG X.stack s1 H1 ⟨us, []⟩ (us ++ ds) _ Q _ hr I1.env0 (hb s1 us I1.kIn hl) r2 q) ?_)
  intro r s' hq
  cases r with
  | error e => exact False.elim hq
  | ok fl =>
    cases fl with
    | ret u => exact I1.after hq
    | next => exact False.elim hq
    | brk => exact False.elim hq
    | cont => exact False.elim hq
theorem pf_callGd (F : FnG X.prog X.w X.K X.mg X.base k f fd ps (spD X.K np nl mm)) (hG : X.A.guards = some []) (hr : Room k X.A) (hg : Gl X x) (hm : X.mg x = some (.ref f)) (hk : PySem.W.keepIn X.K (.ref f) = true) (hb : BindsN X.K fd ps) (ha : PPd X (e :: es) fs) (hl : ms.length = np)
    (hdb : (x == ("__debug__" : Str)) = false := by decide) (he : starEach (e :: es) X.env = (false, eval e X.env) :: starEach es X.env := by rfl) (hpl : (backTo pos (starEach es X.env)).any (·.1) = false := by rfl) :
    PF X (.Call (.Name x p) (e :: es) [] pos) (mCall ms nl mm fs) := by
  obtain ⟨t, ha, ra⟩ := ha
  exact ⟨_, pe_callGd F hG hr hg hm hk hb ha hdb he hpl, rd_call ra hl⟩
end
/-- one keyword-only parameter y with the default None -/
theorem bindsN_of {K : PySem.W.Frag} {x qual y : Str} {st : Stmt} {f : Addr} {oc : Value} {od an : Option Addr} {osl : Array (Option Value)} {doc pm cdv ct : Value} {D : Addr} {ps : List Str} {n : Nat}
    (l : K.lookup f = some ⟨oc, od, .func (PySem.W.fnOf x qual (defArgs st) (defBody st) (defScope st) .none (.ref D) doc pm an cdv ct), osl⟩) (c : PySem.W.codeIn K cdv qual = true) (k : PySem.W.keepIn K (.ref f) = true)
    (hD : PySem.W.nsIn K D y = some (some .none)) (hn : n + 1 = ps.length)
    (h : ∀ (D : Addr) (doc pm : Value) (an : Option Addr) (cdv ct : Value) (us ks : List Value), us.length = n → ks.length = 1 →
      KwChain D ([y].zip ks) (bindArgs (PySem.W.fnOf x qual (defArgs st) (defBody st) (defScope st) .none (.ref D) doc pm an cdv ct) ⟨us, []⟩) (ps.zip (us ++ ks))) :
    BindsN K (PySem.W.fnOf x qual (defArgs st) (defBody st) (defScope st) .none (.ref D) doc pm an cdv ct) ps := by
  have F : FunD K x qual (defArgs st) (defBody st) (defScope st) [] [(y, .non)] f (PySem.W.fnOf x qual (defArgs st) (defBody st) (defScope st) .none (.ref D) doc pm an cdv ct) :=
    ⟨⟨oc, od, .none, .ref D, doc, pm, an, cdv, ct, osl, rfl, l, c, .inl ⟨rfl, rfl⟩, .inr ⟨D, rfl, fun q hq => by
      cases List.mem_singleton.mp hq
      exact ⟨.none, hD, rfl⟩⟩⟩, k⟩
  exact F.binds0 n (by simp) (by simpa using hn) fun D doc pm an cdv ct us ks l1 l2 => h D doc pm an cdv ct us ks l1 (by simpa using l2)
/-! ### for x in range(a, b, -1) -/
def rngdD (hi lo : Int) : List D := (List.range (hi - lo).toNat).map fun (i : Nat) => .int (hi - (i : Int))
theorem rngdD_len (hi lo : Int) : (rngdD hi lo).length = (hi - lo).toNat := by unfold rngdD; rw [List.length_map, List.length_range]
theorem rngdD_get {hi lo : Int} {i : Nat} {d : D} (h : (rngdD hi lo)[i]? = some d) : d = .int (hi - (i : Int)) := by
  unfold rngdD at h
  rw [List.getElem?_map] at h
  cases q : (List.range (hi - lo).toNat)[i]? with
  | none => rw [q] at h; cases h
  | some k =>
    rw [q] at h
    cases h
    obtain ⟨h1, h2⟩ := List.getElem?_eq_some_iff.mp q
    rw [List.getElem_range] at h2
    rw [h2]
theorem JOk.rngd {B G1} {hi lo : Int} : JOk (Itc hi (-1) (hi - lo).toNat) B G1 (rngdD hi lo) where
  go := fun i G H b g gh h => by rw [rngdD_len] at h; exact h
  yld := fun i G H x H' d b g gh hd hy => by
    obtain ⟨rfl, rfl⟩ := hy
    rw [rngdD_get hd]
    have e : hi + (i : Int) * (-1) = hi - (i : Int) := by omega
    rw [e]
    exact ⟨G, Grow.refl gh, .int _⟩
  stop := fun G H b g gh => by
    show (hi - lo).toNat ≤ (rngdD hi lo).length
    rw [rngdD_len]; exact Nat.le_refl _
def mRngD (f g : M D) : M (List D) := bnd f fun d => bnd g fun e => fun ρ => match d, e with
  | .int a, .int b => if (small62 a && small62 b) = true then .ok (rngdD a b) ρ else .stuck
  | _, _ => .stuck
section
variable {X : Cx} {a b c tg : Expr} {fa fb : M D} {p pos : Pos}
theorem pit_rngd (hg : Gl X "range") (hm : X.mg "range" = none) (h : PV X a fa) (h2 : PV X b fb) (h3 : PV X c (mC (.int (-1)))) (hs : starEach [a, b, c] X.env = (false, eval a X.env) :: starEach [b, c] X.env := by rfl) (hs2 : starEach [b, c] X.env = (false, eval b X.env) :: starEach [c] X.env := by rfl) (hs3 : starEach [c] X.env = (false, eval c X.env) :: starEach [] X.env := by rfl)
    (hpl : (backTo pos (starEach [b, c] X.env)).any (·.1) = false := by rfl) :
    PIt X tg (.Call (.Name "range" p) [a, b, c] [] pos) (mRngD fa fb) := by
  obtain ⟨t, h, r⟩ := h
  obtain ⟨u, h2, r2⟩ := h2
  obtain ⟨v3, h3, r3⟩ := h3
  refine ⟨_, pi_range3 hg hm (pa_cons h (pa_cons h2 (pa_cons h3 pa_nil hs3) hs2) hs) hs hpl, fun C G σ H ρ R hK S ds ρ' hf q => ?_⟩
  obtain ⟨d, ρ1, h1, hf2⟩ := bnd_ok hf
  obtain ⟨d2, ρ2, h3, hf3⟩ := bnd_ok hf2
  refine r C G σ H ρ _ hK S d ρ1 h1 fun v G1 H1 g1 S1 o => ?_
  refine r2 C G1 σ H1 ρ1 _ hK S1 d2 ρ2 h3 fun v2 G2 H2 g2 S2 o2 => ?_
  refine r3 C G2 σ H2 ρ2 _ hK S2 _ ρ2 rfl fun v3 G3 H3 g3 S3 o3 => ?_
  cases o with
  | int n =>
    cases o2 with
    | int n2 =>
      cases o3
      by_cases hn : (small62 n && small62 n2) = true
      · simp only [hn, if_true] at hf3
        cases hf3
        simp only [small62, Bool.and_eq_true, decide_eq_true_eq] at hn
        exact ⟨n, n2, -1, _, rfl, RgC.neg hn.1.1 hn.1.2 hn.2.1 hn.2.2, q _ G3 H3 ((g1.trans g2).trans g3) S3 JOk.rngd⟩
      · simp only [hn, if_false] at hf3
        cases hf3
    | _ => cases hf3
  | _ => cases hf3
end
/-! ### list(range(n)) -/
def mLRg (f : M D) : M D := bnd f fun d => fun ρ => match d with
  | .int n => if (decide (-100000 ≤ n) && decide (n ≤ 100000)) = true then .ok (.list (rngD 0 n)) ρ else .stuck
  | _ => .stuck
theorem rgV_rel {G : Hp} (n : Int) : RpA G (rgV 0 n) (rngD 0 n) := by
  unfold rgV rngD
  generalize (n - 0).toNat = m
  have : ∀ l : List Nat, RpA G (l.map fun i => V.int (0 + (i : Nat))) (l.map fun (i : Nat) => PyData.int (0 + (i : Int))) := by
    intro l
    induction l with
    | nil => exact .nil
    | cons x l ih => exact .cons (.int _) ih
  exact this _
section
variable {X : Cx} {a : Expr} {fa : M D} {p p2 pos pos2 : Pos}
theorem pf_listRg (hc : X.calm = true) (hg2 : Gl X "list") (hm2 : X.mg "list" = none) (hg : Gl X "range") (hm : X.mg "range" = none) (h : PV X a fa) (na : starEach [a] X.env = (false, eval a X.env) :: starEach [] X.env := by rfl)
    (na2 : starEach [.Call (.Name "range" p) [a] [] pos] X.env = (false, eval (.Call (.Name "range" p) [a] [] pos) X.env) :: starEach [] X.env := by rfl) :
    PF X (.Call (.Name "list" p2) [.Call (.Name "range" p) [a] [] pos] [] pos2) (mFr (mLRg fa)) := by
  obtain ⟨t, h, r⟩ := h
  refine ⟨_, pe_listRg hc hg2 hm2 (prg_1 hg hm h na) na2, fun C G σ H ρ Q hK S d ρ' hf q => ?_⟩
  obtain ⟨d', ρ0, hf0, h0⟩ := bnd_ok hf
  cases h0
  obtain ⟨d, ρ1, h1, hf2⟩ := bnd_ok hf0
  refine r C G σ H ρ _ hK S d ρ1 h1 fun v G1 H1 g1 S1 o => ?_
  cases o with
  | int n =>
    by_cases hn : (decide (-100000 ≤ n) && decide (n ≤ 100000)) = true
    · simp only [hn, if_true] at hf2
      cases hf2
      simp only [Bool.and_eq_true, decide_eq_true_eq] at hn
      refine ⟨n, rfl, ⟨by omega, by omega, by omega, by omega, by omega⟩, fun q0 hq0 => ?_⟩
      have w : Grow G1 H1 G1 (upd H1 q0 (.lst (rgV 0 n))) := Grow.newF S1.gh hq0
      exact q _ _ _ g1 (S1.grow w) (fresh_ok S1 hq0 w (.lst upd_same (rgV_rel n)))
    · simp only [hn, if_false] at hf2
      cases hf2
  | _ => cases hf2
end
end PL
namespace PL
open PySem PySem.Spec L2 RT RZ
def rBnd {α β : Type} (x : R α) (g : α → M β) : R β := match x with
  | .stuck => .stuck
  | .ok a ρ' => g a ρ'
def rFz : R Rv → R D
  | .stuck => .stuck
  | .ok (.fr d) ρ' => .ok d ρ'
  | .ok (.pl (.val d)) ρ' => .ok d ρ'
  | .ok (.pl (.slot i)) ρ' => mGet i ρ'
def rPl : R D → R Pl
  | .stuck => .stuck
  | .ok d ρ' => .ok (.val d) ρ'
def rRv : R Pl → R Rv
  | .stuck => .stuck
  | .ok d ρ' => .ok (.pl d) ρ'
def rFr : R D → R Rv
  | .stuck => .stuck
  | .ok d ρ' => .ok (.fr d) ρ'
def rSet (i : Nat) : R Rv → R Fl
  | .stuck => .stuck
  | .ok (.fr d) ρ' => bnd (setS i (.own d)) (fun _ => PL.ret .nx) ρ'
  | .ok (.pl (.val d)) ρ' => bnd (setS i (.val d)) (fun _ => PL.ret .nx) ρ'
  | .ok (.pl (.slot j)) ρ' => bnd (mGet j) (fun d => bnd (setS i (.val d)) fun _ => PL.ret .nx) ρ'
def rSeq (x : R Fl) (g : M Fl) : R Fl := match x with
  | .stuck => .stuck
  | .ok .nx ρ' => g ρ'
  | .ok (.rt r) ρ' => .ok (.rt r) ρ'
  | .ok .bk ρ' => .ok .bk ρ'
  | .ok .ct ρ' => .ok .ct ρ'
def rRet : R Rv → R Fl
  | .stuck => .stuck
  | .ok r ρ' => .ok (.rt r) ρ'
def rDrop {α : Type} : R α → R Fl
  | .stuck => .stuck
  | .ok _ ρ' => .ok .nx ρ'
def rBack (r : Rv) : Option PL.Env → R Rv
  | some ρ2 => .ok r ρ2
  | none => .stuck
def rCall (ρ : PL.Env) (ms : List Md) (ps : List Pl) : Option (Rv × List Sl) → R Rv
  | some ro => rBack ro.1 (backIo ρ ms ps ro.2)
  | none => .stuck
def rArgs (ρ : PL.Env) (ms : List Md) (nl : Nat) (body : M Fl) (ps : List Pl) : Option (List Sl) → R Rv
  | some ss => rCall ρ ms ps (evalD ms nl body ss)
  | none => .stuck
section
variable {α β : Type} (ρ ρ' : Env) (i j : Nat) (d e : D) (ds es : List D) (x y : Int) (b : Bool)
@[simp] theorem q_bnd (f : M α) (g : α → M β) : bnd f g ρ = rBnd (f ρ) g := rfl
@[simp] theorem r_bnd (a : α) (g : α → M β) : rBnd (.ok a ρ) g = g a ρ := rfl
@[simp] theorem r_bnd_s (g : α → M β) : rBnd (.stuck : R α) g = .stuck := rfl
@[simp] theorem q_ret (a : α) : PL.ret a ρ = .ok a ρ := rfl
@[simp] theorem q_ofO_some (a : α) : ofO (some a) ρ = .ok a ρ := rfl
@[simp] theorem q_ofO_none : (ofO (none : Option α)) ρ = .stuck := rfl
@[simp] theorem q_mVar : mVar i ρ = match ρ[i]? with
  | some .un => .stuck
  | none => .stuck
  | some (.val d) => .ok (.val d) ρ
  | some _ => .ok (.slot i) ρ := rfl
@[simp] theorem q_mC : mC d ρ = .ok d ρ := rfl
@[simp] theorem q_mGet : mGet i ρ = match ρ[i]? with
  | some (.val d) => .ok d ρ
  | some (.own d) => .ok d (ρ.set i (.val d))
  | some (.bor d) => if atom d = true then .ok d ρ else .stuck
  | _ => .stuck := rfl
@[simp] theorem q_mFz (f : M Rv) : mFz f ρ = rFz (f ρ) := by
  unfold mFz bnd
  cases f ρ with
  | stuck => rfl
  | ok r ρ' => cases r with
    | fr d => rfl
    | pl p => cases p <;> rfl
@[simp] theorem r_fz_f : rFz (.ok (.fr d) ρ) = .ok d ρ := rfl
@[simp] theorem r_fz_v : rFz (.ok (.pl (.val d)) ρ) = .ok d ρ := rfl
@[simp] theorem r_fz_s : rFz (.ok (.pl (.slot i)) ρ) = mGet i ρ := rfl
@[simp] theorem r_fz_x : rFz .stuck = .stuck := rfl
@[simp] theorem q_mPl (f : M D) : mPl f ρ = rPl (f ρ) := by unfold mPl bnd; cases f ρ <;> rfl
@[simp] theorem r_rPl (d : D) : rPl (.ok d ρ) = .ok (.val d) ρ := rfl
@[simp] theorem r_rPl_s : rPl .stuck = .stuck := rfl
@[simp] theorem q_mRv (f : M Pl) : mRv f ρ = rRv (f ρ) := by unfold mRv bnd; cases f ρ <;> rfl
@[simp] theorem r_rRv (d : Pl) : rRv (.ok d ρ) = .ok (.pl d) ρ := rfl
@[simp] theorem r_rRv_s : rRv .stuck = .stuck := rfl
@[simp] theorem q_rsv_val : rsv ρ (.val d) = some d := rfl
@[simp] theorem q_rsv_slot : rsv ρ (.slot i) = match ρ[i]? with
    | some (.val d) => some d
    | some (.own d) => some d
    | some (.io d) => some d
    | some (.bor d) => some d
    | _ => none := rfl
@[simp] theorem q_look (p : Pl) : look p ρ = match rsv ρ p with
  | some d => .ok d ρ
  | none => .stuck := rfl
@[simp] theorem q_lookAll_nil : lookAll [] ρ = .ok [] ρ := rfl
@[simp] theorem q_lookAll_cons (p : Pl) (ps : List Pl) : lookAll (p :: ps) ρ = bnd (look p) (fun d => bnd (lookAll ps) fun ds => PL.ret (d :: ds)) ρ := rfl
@[simp] theorem q_mOp (g : D → D → Option α) (fa fb : M Pl) : mOp g fa fb ρ = bnd fa (fun p => bnd fb fun q => bnd (look p) fun d => bnd (look q) fun e => ofO (g d e)) ρ := rfl
@[simp] theorem q_mUn (g : D → Option α) (fa : M Pl) : mUn g fa ρ = bnd fa (fun p => bnd (look p) fun d => ofO (g d)) ρ := rfl
@[simp] theorem q_mNil : (mNil : M (List α)) ρ = .ok [] ρ := rfl
@[simp] theorem q_mCons (fa : M α) (fr : M (List α)) : mCons fa fr ρ = bnd fa (fun p => bnd fr fun q => PL.ret (p :: q)) ρ := rfl
@[simp] theorem q_mN (g : List D → Option α) (fs : M (List Pl)) : mN g fs ρ = bnd fs (fun ps => bnd (lookAll ps) fun ds => ofO (g ds)) ρ := rfl
@[simp] theorem q_mFr (f : M D) : mFr f ρ = rFr (f ρ) := by unfold mFr bnd; cases f ρ <;> rfl
@[simp] theorem r_rFr (d : D) : rFr (.ok d ρ) = .ok (.fr d) ρ := rfl
@[simp] theorem r_rFr_s : rFr .stuck = .stuck := rfl
@[simp] theorem q_mTup (f : M (List D)) : mTup f ρ = bnd f (fun ds => if ds.length ≤ 100000 then PL.ret (.tuple ds) else fun _ => .stuck) ρ := Eq.trans rfl rfl
@[simp] theorem q_mLst (f : M (List D)) : mLst f ρ = bnd f (fun ds => if ds.length ≤ 100000 then PL.ret (.fr (.list ds)) else fun _ => .stuck) ρ := Eq.trans rfl rfl
@[simp] theorem q_mB (f : M D) : mB f ρ = bnd f (fun d => ofO (asBool d)) ρ := rfl
@[simp] theorem q_mIf (c : M Bool) (f g : M α) : mIf c f g ρ = bnd c (fun k => if k = true then f else g) ρ := rfl
@[simp] theorem q_mNot (c : M Bool) : mNot c ρ = bnd c (fun k => PL.ret (!k)) ρ := rfl
@[simp] theorem q_mAnd (f g : M Bool) : mAnd f g ρ = bnd f (fun k => if k = true then g else PL.ret false) ρ := rfl
@[simp] theorem q_mOr (f g : M Bool) : mOr f g ρ = bnd f (fun k => if k = true then PL.ret true else g) ρ := rfl
@[simp] theorem q_mAndV (f g : M D) : mAndV f g ρ = bnd (mB f) (fun k => if k = true then g else PL.ret (.bool false)) ρ := rfl
@[simp] theorem q_mOrV (f g : M D) : mOrV f g ρ = bnd (mB f) (fun k => if k = true then PL.ret (.bool true) else g) ρ := rfl
@[simp] theorem q_mNotV (f : M D) : mNotV f ρ = bnd (mB f) (fun k => PL.ret (.bool (!k))) ρ := rfl
@[simp] theorem q_setS (s : Sl) : setS i s ρ = if i < ρ.length then .ok () (ρ.set i s) else .stuck := rfl
@[simp] theorem q_mSet (f : M Rv) : mSet i f ρ = rSet i (f ρ) := by
  unfold mSet
  rw [q_bnd]
  cases f ρ with
  | stuck => rfl
  | ok r ρ' => cases r with
    | fr d => rfl
    | pl p => cases p <;> rfl
@[simp] theorem r_set_f : rSet i (.ok (.fr d) ρ) = bnd (setS i (.own d)) (fun _ => PL.ret .nx) ρ := rfl
@[simp] theorem r_set_v : rSet i (.ok (.pl (.val d)) ρ) = bnd (setS i (.val d)) (fun _ => PL.ret .nx) ρ := rfl
@[simp] theorem r_set_s : rSet i (.ok (.pl (.slot j)) ρ) = bnd (mGet j) (fun d => bnd (setS i (.val d)) fun _ => PL.ret .nx) ρ := rfl
@[simp] theorem r_set_x : rSet i .stuck = .stuck := rfl
@[simp] theorem q_mSeq (f g : M Fl) : mSeq f g ρ = rSeq (f ρ) g := by
  unfold mSeq
  rw [q_bnd]
  cases f ρ with
  | stuck => rfl
  | ok r ρ' => cases r <;> rfl
@[simp] theorem r_seq_n (g : M Fl) : rSeq (.ok .nx ρ) g = g ρ := rfl
@[simp] theorem r_seq_r (r : Rv) (g : M Fl) : rSeq (.ok (.rt r) ρ) g = .ok (.rt r) ρ := rfl
@[simp] theorem r_seq_b (g : M Fl) : rSeq (.ok .bk ρ) g = .ok .bk ρ := rfl
@[simp] theorem r_seq_c (g : M Fl) : rSeq (.ok .ct ρ) g = .ok .ct ρ := rfl
@[simp] theorem r_seq_x (g : M Fl) : rSeq .stuck g = .stuck := rfl
@[simp] theorem q_mSkip : mSkip ρ = .ok .nx ρ := rfl
@[simp] theorem q_mRet (f : M Rv) : mRet f ρ = rRet (f ρ) := by unfold mRet bnd; cases f ρ <;> rfl
@[simp] theorem r_ret (r : Rv) : rRet (.ok r ρ) = .ok (.rt r) ρ := rfl
@[simp] theorem r_ret_x : rRet .stuck = .stuck := rfl
@[simp] theorem q_mRetN : mRetN ρ = .ok (.rt (.pl (.val .none))) ρ := rfl
@[simp] theorem q_mDrop (f : M α) : mDrop f ρ = rDrop (f ρ) := by unfold mDrop bnd; cases f ρ <;> rfl
@[simp] theorem r_drop (a : α) : rDrop (.ok a ρ) = .ok .nx ρ := rfl
@[simp] theorem r_drop_x : rDrop (.stuck : R α) = .stuck := rfl
@[simp] theorem q_mNever : (mNever : M α) ρ = .stuck := rfl
@[simp] theorem q_tName : tName i d = setS i (.val d) := rfl
@[simp] theorem q_tsNil : tsNil [] = PL.ret () := rfl
@[simp] theorem q_tsCons (t : D → M Unit) (u : List D → M Unit) : tsCons t u (d :: ds) = bnd (t d) fun _ => u ds := rfl
@[simp] theorem q_tTupl (u : List D → M Unit) : tTupl u (.tuple ds) = u ds := rfl
@[simp] theorem q_mAsg (t : D → M Unit) (f : M D) : mAsg t f ρ = bnd f (fun d => bnd (t d) fun _ => PL.ret .nx) ρ := rfl
@[simp] theorem q_mTr (f : M Pl) : mTr f ρ = mUn truD f ρ := rfl
@[simp] theorem q_mOpX (g : D → D → Option (Bool × D)) (fa fb : M Pl) : mOpX g fa fb ρ = bnd (mOp g fa fb) (fun bz => PL.ret (rvOf bz)) ρ := rfl
@[simp] theorem q_rvOf_t : rvOf (true, d) = .fr d := rfl
@[simp] theorem q_rvOf_f : rvOf (false, d) = .pl (.val d) := rfl
@[simp] theorem q_mCall (ms : List Md) (nl : Nat) (body : M Fl) (fs : M (List Pl)) : mCall ms nl body fs ρ = bnd fs (fun ps => callAt ms nl body ps) ρ := rfl
@[simp] theorem q_callAt (ms : List Md) (nl : Nat) (body : M Fl) (ps : List Pl) : callAt ms nl body ps ρ = if apart ms ps = true then rArgs ρ ms nl body ps (argSs ρ ms ps) else .stuck := by
  unfold callAt
  split
  · cases argSs ρ ms ps with
    | none => rfl
    | some ss =>
      show _ = rCall ρ ms ps (evalD ms nl body ss)
      simp only
      cases evalD ms nl body ss with
      | none => rfl
      | some ro => simp only [rCall]; cases backIo ρ ms ps ro.2 <;> rfl
  · rfl
@[simp] theorem r_args (ms : List Md) (nl : Nat) (body : M Fl) (ps : List Pl) (ss : List Sl) : rArgs ρ ms nl body ps (some ss) = rCall ρ ms ps (evalD ms nl body ss) := rfl
@[simp] theorem r_args_x (ms : List Md) (nl : Nat) (body : M Fl) (ps : List Pl) : rArgs ρ ms nl body ps none = .stuck := rfl
@[simp] theorem r_call (ms : List Md) (ps : List Pl) (r : Rv) (e : List Sl) : rCall ρ ms ps (some (r, e)) = rBack r (backIo ρ ms ps e) := rfl
@[simp] theorem r_call_x (ms : List Md) (ps : List Pl) : rCall ρ ms ps none = .stuck := rfl
@[simp] theorem r_back (r : Rv) : rBack r (some ρ) = .ok r ρ := rfl
@[simp] theorem r_back_x (r : Rv) : rBack r none = .stuck := rfl
@[simp] theorem q_apart (ms : List Md) (ps : List Pl) : apart ms ps = (decide (ios ms ps).Nodup && (nios ms ps).all fun i => decide (i ∉ ios ms ps)) := rfl
@[simp] theorem q_ios_nil : ios [] ([] : List Pl) = [] := rfl
@[simp] theorem q_ios_io (ms : List Md) (ps : List Pl) : ios (.io :: ms) (.slot i :: ps) = i :: ios ms ps := rfl
@[simp] theorem q_ios_iov (ms : List Md) (ps : List Pl) : ios (.io :: ms) (.val d :: ps) = ios ms ps := rfl
@[simp] theorem q_ios_v (ms : List Md) (p : Pl) (ps : List Pl) : ios (.v :: ms) (p :: ps) = ios ms ps := rfl
@[simp] theorem q_ios_b (ms : List Md) (p : Pl) (ps : List Pl) : ios (.b :: ms) (p :: ps) = ios ms ps := rfl
@[simp] theorem q_ios_s (ms : List Md) (p : Pl) (ps : List Pl) : ios (.s :: ms) (p :: ps) = ios ms ps := rfl
@[simp] theorem q_nios_nil : nios [] ([] : List Pl) = [] := rfl
@[simp] theorem q_nios_io (ms : List Md) (p : Pl) (ps : List Pl) : nios (.io :: ms) (p :: ps) = nios ms ps := rfl
@[simp] theorem q_nios_v (ms : List Md) (ps : List Pl) : nios (.v :: ms) (.val d :: ps) = nios ms ps := rfl
@[simp] theorem q_nios_b (ms : List Md) (ps : List Pl) : nios (.b :: ms) (.val d :: ps) = nios ms ps := rfl
@[simp] theorem q_nios_s (ms : List Md) (ps : List Pl) : nios (.s :: ms) (.val d :: ps) = nios ms ps := rfl
@[simp] theorem q_nios_vs (ms : List Md) (ps : List Pl) : nios (.v :: ms) (.slot i :: ps) = i :: nios ms ps := rfl
@[simp] theorem q_nios_bs (ms : List Md) (ps : List Pl) : nios (.b :: ms) (.slot i :: ps) = i :: nios ms ps := rfl
@[simp] theorem q_nios_ss (ms : List Md) (ps : List Pl) : nios (.s :: ms) (.slot i :: ps) = i :: nios ms ps := rfl
@[simp] theorem q_argS_v : argS ρ .v (.val d) = some (.val d) := rfl
@[simp] theorem q_argS_b (p : Pl) : argS ρ .b p = (rsv ρ p).map .bor := by cases p <;> rfl
@[simp] theorem q_argS_io : argS ρ .io (.slot i) = match ρ[i]? with
    | some (.own d) => some (.io d)
    | some (.io d) => some (.io d)
    | _ => none := rfl
@[simp] theorem q_argS_s : argS ρ .s (.slot i) = match ρ[i]? with
    | some (.scr ns) => some (.scr ns)
    | _ => none := rfl
@[simp] theorem q_argSs_nil : argSs ρ [] [] = some [] := rfl
@[simp] theorem q_argSs_cons (m : Md) (ms : List Md) (p : Pl) (ps : List Pl) : argSs ρ (m :: ms) (p :: ps) = match argS ρ m p, argSs ρ ms ps with
    | some s, some ss => some (s :: ss)
    | _, _ => none := rfl
@[simp] theorem q_back_nil (ss : List Sl) : backIo ρ [] [] ss = some ρ := by cases ss <;> rfl
@[simp] theorem q_back_io (ms : List Md) (ps : List Pl) (ss : List Sl) : backIo ρ (.io :: ms) (.slot i :: ps) (.io d :: ss) = match putIo ρ i d with
    | some ρ1 => backIo ρ1 ms ps ss
    | none => none := rfl
@[simp] theorem q_back_v (ms : List Md) (p : Pl) (ps : List Pl) (s : Sl) (ss : List Sl) : backIo ρ (.v :: ms) (p :: ps) (s :: ss) = backIo ρ ms ps ss := rfl
@[simp] theorem q_back_b (ms : List Md) (p : Pl) (ps : List Pl) (s : Sl) (ss : List Sl) : backIo ρ (.b :: ms) (p :: ps) (s :: ss) = backIo ρ ms ps ss := rfl
@[simp] theorem q_back_s (ms : List Md) (p : Pl) (ps : List Pl) (s : Sl) (ss : List Sl) : backIo ρ (.s :: ms) (p :: ps) (s :: ss) = backIo ρ ms ps ss := rfl
@[simp] theorem q_putIo : putIo ρ i d = match ρ[i]? with
  | some (.own _) => some (ρ.set i (.own d))
  | some (.io _) => some (ρ.set i (.io d))
  | _ => none := rfl
@[simp] theorem q_mIter (f : M Pl) : mIter f ρ = bnd f (fun p => bnd (seqAt p) fun ds => PL.ret ds.2) ρ := rfl
@[simp] theorem q_mRev (f : M (List D)) : mRev f ρ = bnd f (fun ds => PL.ret ds.reverse) ρ := rfl
def rngOf : R D → R (List D)
  | .ok (.int n) ρ => if small62 n = true then .ok (rngD 0 n) ρ else .stuck
  | _ => .stuck
@[simp] theorem q_mRng1 (f : M D) : mRng1 f ρ = rngOf (f ρ) := by
  unfold mRng1
  rw [q_bnd]
  cases f ρ with
  | stuck => rfl
  | ok d ρ' => cases d <;> rfl
def rng2B (a : Int) : R D → R (List D)
  | .ok (.int b) ρ => if (small62 a && small62 b) = true then .ok (rngD a b) ρ else .stuck
  | _ => .stuck
def rng2Of (g : M D) : R D → R (List D)
  | .ok (.int a) ρ => rng2B a (g ρ)
  | _ => .stuck
@[simp] theorem q_mFor (f : M (List D)) (t : D → M Unit) (b : M Fl) : mFor f t b ρ = bnd f (fun ds => forGo t b ds) ρ := rfl
@[simp] theorem q_mMut (g : List D → List D → Option (List D × D)) (fs : M (List D)) : mMut j g fs ρ = bnd (isOwnL j) (fun _ => bnd fs fun as => mutAt j g as) ρ := rfl
@[simp] theorem q_mSetIx (fe fi : M D) : mSetIx j fe fi ρ = bnd fe (fun d => bnd (isOwn j) fun _ => bnd fi fun k => setAt j d k) ρ := rfl
@[simp] theorem q_mLenS : mLenS i ρ = match ρ[i]? with
  | some (.scr ns) => .ok (.int ns.length) ρ
  | _ => .stuck := rfl
@[simp] theorem q_mYes : mYes ρ = .ok true ρ := rfl
@[simp] theorem q_resR_fr : resR ρ (.fr d) = some (.fr d) := rfl
@[simp] theorem q_resR_v : resR ρ (.pl (.val d)) = some (.pl (.val d)) := rfl
@[simp] theorem q_resR_s : resR ρ (.pl (.slot i)) = match ρ[i]? with
    | some (.val d) => some (.pl (.val d))
    | some (.own d) => some (.fr d)
    | some (.bor d) => if atom d = true then some (.pl (.val d)) else none
    | _ => none := rfl
@[simp] theorem q_mMeth (g' : D → List D → Option D) (fo : M Pl) (fs : M (List Pl)) : mMeth g' fo fs ρ = bnd fo (fun p => bnd (look p) fun d0 => bnd (ofO (isL d0)) fun _ => bnd fs fun ps => bnd (look p) fun d => bnd (lookAll ps) fun ds => ofO (g' d ds)) ρ := rfl
@[simp] theorem q_wipe_nil : wipeE ρ [] = ρ := rfl
@[simp] theorem q_wipe_cons (v : Nat) (vs : List Nat) : wipeE ρ (v :: vs) = (wipeE ρ vs).set v .un := rfl
@[simp] theorem q_rest_nil : restE ρ ρ' [] = ρ' := rfl
@[simp] theorem q_rest_cons (v : Nat) (vs : List Nat) : restE ρ ρ' (v :: vs) = (restE ρ ρ' vs).set v (keepS (ρ.getD v .un)) := rfl
@[simp] theorem q_keep_un : keepS .un = .un := rfl
@[simp] theorem q_keep_val : keepS (.val d) = .val d := rfl
@[simp] theorem q_keep_bor : keepS (.bor d) = .bor d := rfl
@[simp] theorem q_keep_own : keepS (.own d) = .un := rfl
theorem q_mLc (fi : M (List D)) (t : D → M Unit) (vs : List Nat) (c : M Bool) (fe : M D) : mLc fi t vs c fe ρ = bnd fi (fun ds => fun ρ1 => match lcGo t vs c fe [] ds (wipeE ρ1 vs) with
  | .ok acc ρ2 => .ok (.fr (.list acc)) (restE ρ1 ρ2 vs)
  | .stuck => .stuck) ρ := rfl
theorem mSet_lc {j : Nat} {fi : M (List D)} {t : D → M Unit} {vs : List Nat} {c : M Bool} {fe : M D} {ρ ρ1 ρ2 ρ3 : Env} {ds out : List D} (h1 : fi ρ = .ok ds ρ1) (h2 : lcGo t vs c fe [] ds (wipeE ρ1 vs) = .ok out ρ2)
    (h3 : restE ρ1 ρ2 vs = ρ3) (h4 : j < ρ3.length) : mSet j (mLc fi t vs c fe) ρ = .ok .nx (ρ3.set j (.own (.list out))) := by
  rw [q_mSet, mLc_ok h1 h2, h3]
  simp [h4]
theorem runD_rt {nl : Nat} {m : M Fl} {ss ρ' : Env} {r : Rv} (h : m (ss ++ List.replicate nl .un) = .ok (.rt r) ρ') : runD nl m ss = some (r, ρ') := by
  unfold runD; rw [h]
theorem runD_nx {nl : Nat} {m : M Fl} {ss ρ' : Env} (h : m (ss ++ List.replicate nl .un) = .ok .nx ρ') : runD nl m ss = some (.pl (.val .none), ρ') := by
  unfold runD; rw [h]
theorem ev_rt {ms : List Md} {nl : Nat} {m : M Fl} {ss ρ' : Env} {r r' : Rv} (h : m (ss ++ List.replicate nl .un) = .ok (.rt r) ρ') (h2 : resR ρ' r = some r') : evalD ms nl m ss = some (r', ρ'.take ms.length) := evalD_of (runD_rt h) h2
theorem ev_nx {ms : List Md} {nl : Nat} {m : M Fl} {ss ρ' : Env} (h : m (ss ++ List.replicate nl .un) = .ok .nx ρ') : evalD ms nl m ss = some (.pl (.val .none), ρ'.take ms.length) := evalD_of (runD_nx h) rfl
@[simp] theorem q_asBool : asBool (.bool b) = some b := rfl
end
/-! ### the p-level: what a mirror does, without names -/
theorem ob {α β : Type} {o : Option α} {f : α → Option β} {r : β} (h : o.bind f = some r) : ∃ a, o = some a ∧ f a = some r := Option.bind_eq_some_iff.mp h
def bind1 {α γ : Type} (o : Option α) (f : α → Option γ) : Option γ := match o with
  | some x => f x
  | none => none
theorem ob1 {α γ : Type} {o : Option α} {f : α → Option γ} {r : γ} (h : bind1 o f = some r) : ∃ x, o = some x ∧ f x = some r := by
  cases o with
  | none => cases h
  | some t => exact ⟨t, rfl, h⟩
def bind2 {α1 α2 γ : Type} (o : Option (α1 × α2)) (f : α1 → α2 → Option γ) : Option γ := match o with
  | some (x1, x2) => f x1 x2
  | none => none
theorem bind2_some {α1 α2 γ : Type} (f : α1 → α2 → Option γ) (x1 : α1) (x2 : α2) : bind2 (some (x1, x2)) f = f x1 x2 := rfl
theorem ob2 {α1 α2 γ : Type} {o : Option (α1 × α2)} {f : α1 → α2 → Option γ} {r : γ} (h : bind2 o f = some r) : ∃ x1 x2, o = some (x1, x2) ∧ f x1 x2 = some r := by
  cases o with
  | none => cases h
  | some t => obtain ⟨x1, x2⟩ := t; exact ⟨x1, x2, rfl, h⟩
def bind3 {α1 α2 α3 γ : Type} (o : Option (α1 × α2 × α3)) (f : α1 → α2 → α3 → Option γ) : Option γ := match o with
  | some (x1, x2, x3) => f x1 x2 x3
  | none => none
theorem bind3_some {α1 α2 α3 γ : Type} (f : α1 → α2 → α3 → Option γ) (x1 : α1) (x2 : α2) (x3 : α3) : bind3 (some (x1, x2, x3)) f = f x1 x2 x3 := rfl
theorem ob3 {α1 α2 α3 γ : Type} {o : Option (α1 × α2 × α3)} {f : α1 → α2 → α3 → Option γ} {r : γ} (h : bind3 o f = some r) : ∃ x1 x2 x3, o = some (x1, x2, x3) ∧ f x1 x2 x3 = some r := by
  cases o with
  | none => cases h
  | some t => obtain ⟨x1, x2, x3⟩ := t; exact ⟨x1, x2, x3, rfl, h⟩
def bind4 {α1 α2 α3 α4 γ : Type} (o : Option (α1 × α2 × α3 × α4)) (f : α1 → α2 → α3 → α4 → Option γ) : Option γ := match o with
  | some (x1, x2, x3, x4) => f x1 x2 x3 x4
  | none => none
theorem bind4_some {α1 α2 α3 α4 γ : Type} (f : α1 → α2 → α3 → α4 → Option γ) (x1 : α1) (x2 : α2) (x3 : α3) (x4 : α4) : bind4 (some (x1, x2, x3, x4)) f = f x1 x2 x3 x4 := rfl
theorem ob4 {α1 α2 α3 α4 γ : Type} {o : Option (α1 × α2 × α3 × α4)} {f : α1 → α2 → α3 → α4 → Option γ} {r : γ} (h : bind4 o f = some r) : ∃ x1 x2 x3 x4, o = some (x1, x2, x3, x4) ∧ f x1 x2 x3 x4 = some r := by
  cases o with
  | none => cases h
  | some t => obtain ⟨x1, x2, x3, x4⟩ := t; exact ⟨x1, x2, x3, x4, rfl, h⟩
def bind5 {α1 α2 α3 α4 α5 γ : Type} (o : Option (α1 × α2 × α3 × α4 × α5)) (f : α1 → α2 → α3 → α4 → α5 → Option γ) : Option γ := match o with
  | some (x1, x2, x3, x4, x5) => f x1 x2 x3 x4 x5
  | none => none
theorem bind5_some {α1 α2 α3 α4 α5 γ : Type} (f : α1 → α2 → α3 → α4 → α5 → Option γ) (x1 : α1) (x2 : α2) (x3 : α3) (x4 : α4) (x5 : α5) : bind5 (some (x1, x2, x3, x4, x5)) f = f x1 x2 x3 x4 x5 := rfl
theorem ob5 {α1 α2 α3 α4 α5 γ : Type} {o : Option (α1 × α2 × α3 × α4 × α5)} {f : α1 → α2 → α3 → α4 → α5 → Option γ} {r : γ} (h : bind5 o f = some r) : ∃ x1 x2 x3 x4 x5, o = some (x1, x2, x3, x4, x5) ∧ f x1 x2 x3 x4 x5 = some r := by
  cases o with
  | none => cases h
  | some t => obtain ⟨x1, x2, x3, x4, x5⟩ := t; exact ⟨x1, x2, x3, x4, x5, rfl, h⟩
def bind6 {α1 α2 α3 α4 α5 α6 γ : Type} (o : Option (α1 × α2 × α3 × α4 × α5 × α6)) (f : α1 → α2 → α3 → α4 → α5 → α6 → Option γ) : Option γ := match o with
  | some (x1, x2, x3, x4, x5, x6) => f x1 x2 x3 x4 x5 x6
  | none => none
theorem bind6_some {α1 α2 α3 α4 α5 α6 γ : Type} (f : α1 → α2 → α3 → α4 → α5 → α6 → Option γ) (x1 : α1) (x2 : α2) (x3 : α3) (x4 : α4) (x5 : α5) (x6 : α6) : bind6 (some (x1, x2, x3, x4, x5, x6)) f = f x1 x2 x3 x4 x5 x6 := rfl
theorem ob6 {α1 α2 α3 α4 α5 α6 γ : Type} {o : Option (α1 × α2 × α3 × α4 × α5 × α6)} {f : α1 → α2 → α3 → α4 → α5 → α6 → Option γ} {r : γ} (h : bind6 o f = some r) : ∃ x1 x2 x3 x4 x5 x6, o = some (x1, x2, x3, x4, x5, x6) ∧ f x1 x2 x3 x4 x5 x6 = some r := by
  cases o with
  | none => cases h
  | some t => obtain ⟨x1, x2, x3, x4, x5, x6⟩ := t; exact ⟨x1, x2, x3, x4, x5, x6, rfl, h⟩
def bind7 {α1 α2 α3 α4 α5 α6 α7 γ : Type} (o : Option (α1 × α2 × α3 × α4 × α5 × α6 × α7)) (f : α1 → α2 → α3 → α4 → α5 → α6 → α7 → Option γ) : Option γ := match o with
  | some (x1, x2, x3, x4, x5, x6, x7) => f x1 x2 x3 x4 x5 x6 x7
  | none => none
theorem bind7_some {α1 α2 α3 α4 α5 α6 α7 γ : Type} (f : α1 → α2 → α3 → α4 → α5 → α6 → α7 → Option γ) (x1 : α1) (x2 : α2) (x3 : α3) (x4 : α4) (x5 : α5) (x6 : α6) (x7 : α7) : bind7 (some (x1, x2, x3, x4, x5, x6, x7)) f = f x1 x2 x3 x4 x5 x6 x7 := rfl
theorem ob7 {α1 α2 α3 α4 α5 α6 α7 γ : Type} {o : Option (α1 × α2 × α3 × α4 × α5 × α6 × α7)} {f : α1 → α2 → α3 → α4 → α5 → α6 → α7 → Option γ} {r : γ} (h : bind7 o f = some r) : ∃ x1 x2 x3 x4 x5 x6 x7, o = some (x1, x2, x3, x4, x5, x6, x7) ∧ f x1 x2 x3 x4 x5 x6 x7 = some r := by
  cases o with
  | none => cases h
  | some t => obtain ⟨x1, x2, x3, x4, x5, x6, x7⟩ := t; exact ⟨x1, x2, x3, x4, x5, x6, x7, rfl, h⟩
def bind8 {α1 α2 α3 α4 α5 α6 α7 α8 γ : Type} (o : Option (α1 × α2 × α3 × α4 × α5 × α6 × α7 × α8)) (f : α1 → α2 → α3 → α4 → α5 → α6 → α7 → α8 → Option γ) : Option γ := match o with
  | some (x1, x2, x3, x4, x5, x6, x7, x8) => f x1 x2 x3 x4 x5 x6 x7 x8
  | none => none
theorem bind8_some {α1 α2 α3 α4 α5 α6 α7 α8 γ : Type} (f : α1 → α2 → α3 → α4 → α5 → α6 → α7 → α8 → Option γ) (x1 : α1) (x2 : α2) (x3 : α3) (x4 : α4) (x5 : α5) (x6 : α6) (x7 : α7) (x8 : α8) : bind8 (some (x1, x2, x3, x4, x5, x6, x7, x8)) f = f x1 x2 x3 x4 x5 x6 x7 x8 := rfl
theorem ob8 {α1 α2 α3 α4 α5 α6 α7 α8 γ : Type} {o : Option (α1 × α2 × α3 × α4 × α5 × α6 × α7 × α8)} {f : α1 → α2 → α3 → α4 → α5 → α6 → α7 → α8 → Option γ} {r : γ} (h : bind8 o f = some r) : ∃ x1 x2 x3 x4 x5 x6 x7 x8, o = some (x1, x2, x3, x4, x5, x6, x7, x8) ∧ f x1 x2 x3 x4 x5 x6 x7 x8 = some r := by
  cases o with
  | none => cases h
  | some t => obtain ⟨x1, x2, x3, x4, x5, x6, x7, x8⟩ := t; exact ⟨x1, x2, x3, x4, x5, x6, x7, x8, rfl, h⟩
def bind9 {α1 α2 α3 α4 α5 α6 α7 α8 α9 γ : Type} (o : Option (α1 × α2 × α3 × α4 × α5 × α6 × α7 × α8 × α9)) (f : α1 → α2 → α3 → α4 → α5 → α6 → α7 → α8 → α9 → Option γ) : Option γ := match o with
  | some (x1, x2, x3, x4, x5, x6, x7, x8, x9) => f x1 x2 x3 x4 x5 x6 x7 x8 x9
  | none => none
theorem bind9_some {α1 α2 α3 α4 α5 α6 α7 α8 α9 γ : Type} (f : α1 → α2 → α3 → α4 → α5 → α6 → α7 → α8 → α9 → Option γ) (x1 : α1) (x2 : α2) (x3 : α3) (x4 : α4) (x5 : α5) (x6 : α6) (x7 : α7) (x8 : α8) (x9 : α9) : bind9 (some (x1, x2, x3, x4, x5, x6, x7, x8, x9)) f = f x1 x2 x3 x4 x5 x6 x7 x8 x9 := rfl
theorem ob9 {α1 α2 α3 α4 α5 α6 α7 α8 α9 γ : Type} {o : Option (α1 × α2 × α3 × α4 × α5 × α6 × α7 × α8 × α9)} {f : α1 → α2 → α3 → α4 → α5 → α6 → α7 → α8 → α9 → Option γ} {r : γ} (h : bind9 o f = some r) : ∃ x1 x2 x3 x4 x5 x6 x7 x8 x9, o = some (x1, x2, x3, x4, x5, x6, x7, x8, x9) ∧ f x1 x2 x3 x4 x5 x6 x7 x8 x9 = some r := by
  cases o with
  | none => cases h
  | some t => obtain ⟨x1, x2, x3, x4, x5, x6, x7, x8, x9⟩ := t; exact ⟨x1, x2, x3, x4, x5, x6, x7, x8, x9, rfl, h⟩
def bind10 {α1 α2 α3 α4 α5 α6 α7 α8 α9 α10 γ : Type} (o : Option (α1 × α2 × α3 × α4 × α5 × α6 × α7 × α8 × α9 × α10)) (f : α1 → α2 → α3 → α4 → α5 → α6 → α7 → α8 → α9 → α10 → Option γ) : Option γ := match o with
  | some (x1, x2, x3, x4, x5, x6, x7, x8, x9, x10) => f x1 x2 x3 x4 x5 x6 x7 x8 x9 x10
  | none => none
theorem bind10_some {α1 α2 α3 α4 α5 α6 α7 α8 α9 α10 γ : Type} (f : α1 → α2 → α3 → α4 → α5 → α6 → α7 → α8 → α9 → α10 → Option γ) (x1 : α1) (x2 : α2) (x3 : α3) (x4 : α4) (x5 : α5) (x6 : α6) (x7 : α7) (x8 : α8) (x9 : α9) (x10 : α10) : bind10 (some (x1, x2, x3, x4, x5, x6, x7, x8, x9, x10)) f = f x1 x2 x3 x4 x5 x6 x7 x8 x9 x10 := rfl
theorem ob10 {α1 α2 α3 α4 α5 α6 α7 α8 α9 α10 γ : Type} {o : Option (α1 × α2 × α3 × α4 × α5 × α6 × α7 × α8 × α9 × α10)} {f : α1 → α2 → α3 → α4 → α5 → α6 → α7 → α8 → α9 → α10 → Option γ} {r : γ} (h : bind10 o f = some r) : ∃ x1 x2 x3 x4 x5 x6 x7 x8 x9 x10, o = some (x1, x2, x3, x4, x5, x6, x7, x8, x9, x10) ∧ f x1 x2 x3 x4 x5 x6 x7 x8 x9 x10 = some r := by
  cases o with
  | none => cases h
  | some t => obtain ⟨x1, x2, x3, x4, x5, x6, x7, x8, x9, x10⟩ := t; exact ⟨x1, x2, x3, x4, x5, x6, x7, x8, x9, x10, rfl, h⟩
theorem sinj2 {α1 α2 : Type} {a1 b1 : α1} {a2 b2 : α2} (h : some (a1, a2) = some (b1, b2)) : a1 = b1 ∧ a2 = b2 := by
  cases h
  exact ⟨rfl, rfl⟩
theorem sinj3 {α1 α2 α3 : Type} {a1 b1 : α1} {a2 b2 : α2} {a3 b3 : α3} (h : some (a1, a2, a3) = some (b1, b2, b3)) : a1 = b1 ∧ a2 = b2 ∧ a3 = b3 := by
  cases h
  exact ⟨rfl, rfl, rfl⟩
theorem sinj4 {α1 α2 α3 α4 : Type} {a1 b1 : α1} {a2 b2 : α2} {a3 b3 : α3} {a4 b4 : α4} (h : some (a1, a2, a3, a4) = some (b1, b2, b3, b4)) : a1 = b1 ∧ a2 = b2 ∧ a3 = b3 ∧ a4 = b4 := by
  cases h
  exact ⟨rfl, rfl, rfl, rfl⟩
theorem sinj5 {α1 α2 α3 α4 α5 : Type} {a1 b1 : α1} {a2 b2 : α2} {a3 b3 : α3} {a4 b4 : α4} {a5 b5 : α5} (h : some (a1, a2, a3, a4, a5) = some (b1, b2, b3, b4, b5)) : a1 = b1 ∧ a2 = b2 ∧ a3 = b3 ∧ a4 = b4 ∧ a5 = b5 := by
  cases h
  exact ⟨rfl, rfl, rfl, rfl, rfl⟩
theorem sinj6 {α1 α2 α3 α4 α5 α6 : Type} {a1 b1 : α1} {a2 b2 : α2} {a3 b3 : α3} {a4 b4 : α4} {a5 b5 : α5} {a6 b6 : α6} (h : some (a1, a2, a3, a4, a5, a6) = some (b1, b2, b3, b4, b5, b6)) : a1 = b1 ∧ a2 = b2 ∧ a3 = b3 ∧ a4 = b4 ∧ a5 = b5 ∧ a6 = b6 := by
  cases h
  exact ⟨rfl, rfl, rfl, rfl, rfl, rfl⟩
theorem sinj7 {α1 α2 α3 α4 α5 α6 α7 : Type} {a1 b1 : α1} {a2 b2 : α2} {a3 b3 : α3} {a4 b4 : α4} {a5 b5 : α5} {a6 b6 : α6} {a7 b7 : α7} (h : some (a1, a2, a3, a4, a5, a6, a7) = some (b1, b2, b3, b4, b5, b6, b7)) : a1 = b1 ∧ a2 = b2 ∧ a3 = b3 ∧ a4 = b4 ∧ a5 = b5 ∧ a6 = b6 ∧ a7 = b7 := by
  cases h
  exact ⟨rfl, rfl, rfl, rfl, rfl, rfl, rfl⟩
theorem sinj8 {α1 α2 α3 α4 α5 α6 α7 α8 : Type} {a1 b1 : α1} {a2 b2 : α2} {a3 b3 : α3} {a4 b4 : α4} {a5 b5 : α5} {a6 b6 : α6} {a7 b7 : α7} {a8 b8 : α8} (h : some (a1, a2, a3, a4, a5, a6, a7, a8) = some (b1, b2, b3, b4, b5, b6, b7, b8)) : a1 = b1 ∧ a2 = b2 ∧ a3 = b3 ∧ a4 = b4 ∧ a5 = b5 ∧ a6 = b6 ∧ a7 = b7 ∧ a8 = b8 := by
  cases h
  exact ⟨rfl, rfl, rfl, rfl, rfl, rfl, rfl, rfl⟩
theorem sinj9 {α1 α2 α3 α4 α5 α6 α7 α8 α9 : Type} {a1 b1 : α1} {a2 b2 : α2} {a3 b3 : α3} {a4 b4 : α4} {a5 b5 : α5} {a6 b6 : α6} {a7 b7 : α7} {a8 b8 : α8} {a9 b9 : α9} (h : some (a1, a2, a3, a4, a5, a6, a7, a8, a9) = some (b1, b2, b3, b4, b5, b6, b7, b8, b9)) : a1 = b1 ∧ a2 = b2 ∧ a3 = b3 ∧ a4 = b4 ∧ a5 = b5 ∧ a6 = b6 ∧ a7 = b7 ∧ a8 = b8 ∧ a9 = b9 := by
  cases h
  exact ⟨rfl, rfl, rfl, rfl, rfl, rfl, rfl, rfl, rfl⟩
theorem sinj10 {α1 α2 α3 α4 α5 α6 α7 α8 α9 α10 : Type} {a1 b1 : α1} {a2 b2 : α2} {a3 b3 : α3} {a4 b4 : α4} {a5 b5 : α5} {a6 b6 : α6} {a7 b7 : α7} {a8 b8 : α8} {a9 b9 : α9} {a10 b10 : α10} (h : some (a1, a2, a3, a4, a5, a6, a7, a8, a9, a10) = some (b1, b2, b3, b4, b5, b6, b7, b8, b9, b10)) : a1 = b1 ∧ a2 = b2 ∧ a3 = b3 ∧ a4 = b4 ∧ a5 = b5 ∧ a6 = b6 ∧ a7 = b7 ∧ a8 = b8 ∧ a9 = b9 ∧ a10 = b10 := by
  cases h
  exact ⟨rfl, rfl, rfl, rfl, rfl, rfl, rfl, rfl, rfl, rfl⟩
def isLst : D → Bool
  | .list _ => true
  | _ => false
def tup2 : D → Option (D × D)
  | .tuple [a, b] => some (a, b)
  | _ => none
def tup3 : D → Option (D × D × D)
  | .tuple [a, b, c] => some (a, b, c)
  | _ => none
theorem tup2_eq {d a b : D} (h : tup2 d = some (a, b)) : d = .tuple [a, b] := by
  unfold tup2 at h
  split at h
  · cases h; rfl
  · cases h
theorem tup3_eq {d a b c : D} (h : tup3 d = some (a, b, c)) : d = .tuple [a, b, c] := by
  unfold tup3 at h
  split at h
  · cases h; rfl
  · cases h
theorem tT2 {d a b : D} (h : tup2 d = some (a, b)) (u : List D → M Unit) : tTupl u d = u [a, b] := by rw [tup2_eq h]; rfl
theorem tT3 {d a b c : D} (h : tup3 d = some (a, b, c)) (u : List D → M Unit) : tTupl u d = u [a, b, c] := by rw [tup3_eq h]; rfl
def ixP : D → Option Int
  | .int i => some i
  | _ => none
def atP (d : D) : Option Unit := if atom d = true then some () else none
theorem atP_eq {d : D} {u : Unit} (h : atP d = some u) : atom d = true := by
  unfold atP at h
  split at h
  · assumption
  · cases h
def negP : D → Option D
  | .int i => some (.int (-i))
  | _ => none
def rng1P : D → Option (List D)
  | .int n => if small62 n = true then some (rngD 0 n) else none
  | _ => none
def rng2P : D → D → Option (List D)
  | .int a, .int b => if (small62 a && small62 b) = true then some (rngD a b) else none
  | _, _ => none
def rngdP : D → D → Option (List D)
  | .int a, .int b => if (small62 a && small62 b) = true then some (rngdD a b) else none
  | _, _ => none
def dict1P : D → D → Option D
  | .int i, d => some (.dict [(.int i, d)])
  | _, _ => none
def dict1R (d : D) : R D → R D
  | .ok e ρ => ofO (dict1P d e) ρ
  | .stuck => .stuck
def lrgP : D → Option D
  | .int n => if (decide (-100000 ≤ n) && decide (n ≤ 100000)) = true then some (.list (rngD 0 n)) else none
  | _ => none
def zipP (d e : D) : Option (List D) := match itemsD d, itemsD e with
  | some x, some y => if (x.1 == y.1) = true then some ((x.2.zip y.2).map fun (d, e) => .tuple [d, e]) else none
  | _, _ => none
def addV (a b : D) : Option D := match gAdd a b with
  | some (false, z) => some z
  | _ => none
def addF (a b : D) : Option D := match gAdd a b with
  | some (true, z) => some z
  | _ => none
def mulV (a b : D) : Option D := match gMul a b with
  | some (false, z) => some z
  | _ => none
def mulF (a b : D) : Option D := match gMul a b with
  | some (true, z) => some z
  | _ => none
def slV (d : D) (l h : Option Int) : Option D := match sliceD d l h with
  | some (false, z) => some z
  | _ => none
def slF (d : D) (l h : Option Int) : Option D := match sliceD d l h with
  | some (true, z) => some z
  | _ => none
theorem sliceW_w {d z : D} {b : Bool} {lo hi : Option Int} (h : sliceW d lo hi = some (b, z)) (hb : b = true) : d = z := by
  subst hb; exact sliceW_t h
def slW (d : D) (l h : Option Int) : Option D := match sliceW d l h with
  | some (false, z) => some z
  | _ => none
theorem slW_eq {d z : D} {l k : Option Int} (h : slW d l k = some z) : sliceW d l k = some (false, z) := by
  unfold slW at h; split at h
  · cases h; assumption
  · cases h
theorem addV_eq {a b z : D} (h : addV a b = some z) : gAdd a b = some (false, z) := by
  unfold addV at h; split at h
  · cases h; assumption
  · cases h
theorem addF_eq {a b z : D} (h : addF a b = some z) : gAdd a b = some (true, z) := by
  unfold addF at h; split at h
  · cases h; assumption
  · cases h
theorem mulV_eq {a b z : D} (h : mulV a b = some z) : gMul a b = some (false, z) := by
  unfold mulV at h; split at h
  · cases h; assumption
  · cases h
theorem mulF_eq {a b z : D} (h : mulF a b = some z) : gMul a b = some (true, z) := by
  unfold mulF at h; split at h
  · cases h; assumption
  · cases h
theorem slV_eq {d z : D} {l k : Option Int} (h : slV d l k = some z) : sliceD d l k = some (false, z) := by
  unfold slV at h; split at h
  · cases h; assumption
  · cases h
theorem slF_eq {d z : D} {l k : Option Int} (h : slF d l k = some z) : sliceD d l k = some (true, z) := by
  unfold slF at h; split at h
  · cases h; assumption
  · cases h
def mutP (g : List D → List D → Option (List D × D)) (d : D) (as : List D) : Option (D × D) := match d with
  | .list ds => (g ds as).map fun nr => (.list nr.1, nr.2)
  | _ => none
theorem mutP_lst {g : List D → List D → Option (List D × D)} {d : D} {as : List D} {r : D × D} (h : mutP g d as = some r) : isLst d = true := by
  cases d <;> first | rfl | cases h
def setP (e k x : D) : Option D := match e, k with
  | .list ds, .int n => (ixN ds.length n).map fun i => .list (ds.set i x)
  | _, _ => none
def ixSP (ns : List Int) : D → Option D
  | .int n => (atI ns n).map .int
  | _ => none
def ovS (b : Bool) (z : D) : Sl := if b = true then .own z else .val z
@[simp] theorem ovS_t (z : D) : ovS true z = .own z := rfl
@[simp] theorem ovS_f (z : D) : ovS false z = .val z := rfl
section
variable {α β : Type} (ρ ρ' : Env) (i j : Nat) (d e : D) (ds es : List D) (x y : Int) (b : Bool)
theorem ofO_none' {α : Type} (ρ : Env) : (fun (_ : Env) => (R.stuck : R α)) ρ = .stuck := rfl
@[simp] theorem s_seq_v : seqAt (.val d) ρ = ofO (itemsD d) ρ := by
  unfold seqAt; dsimp only; cases itemsD d <;> rfl
@[simp] theorem s_seq_s : seqAt (.slot i) ρ = match ρ[i]? with
    | some (.bor d) => ofO (itemsD d) ρ
    | some (.scr ns) => .ok (false, ns.map PyData.int) ρ
    | _ => .stuck := by
  unfold seqAt
  simp only
  cases ρ[i]? with
  | none => rfl
  | some s => cases s <;> simp only
              rename_i d; cases itemsD d <;> rfl
@[simp] theorem s_isOwnL : isOwnL j ρ = match ρ[j]? with
    | some (.own d) => if isLst d = true then .ok () ρ else .stuck
    | some (.io d) => if isLst d = true then .ok () ρ else .stuck
    | _ => .stuck := by
  unfold isOwnL
  cases ρ[j]? with
  | none => rfl
  | some s => cases s <;> first | rfl | (rename_i d; cases d <;> rfl)
@[simp] theorem s_isOwn : isOwn j ρ = match ρ[j]? with
  | some (.own _) => .ok () ρ
  | some (.io _) => .ok () ρ
  | _ => .stuck := rfl
def rMut (f : D → Env) : Option (D × D) → R D
  | some (d, z) => .ok z (f d)
  | none => .stuck
@[simp] theorem rMut_some (f : D → Env) (z : D) : rMut f (some (d, z)) = .ok z (f d) := rfl
@[simp] theorem s_mutAt (g : List D → List D → Option (List D × D)) (as : List D) : mutAt j g as ρ = match ρ[j]? with
  | some (.own d) => rMut (fun d => ρ.set j (.own d)) (mutP g d as)
  | some (.io d) => rMut (fun d => ρ.set j (.io d)) (mutP g d as)
  | _ => .stuck := by
  unfold mutAt
  cases ρ[j]? with
  | none => rfl
  | some s =>
    cases s with
    | own d => cases d with
      | list ds => simp only [mutP]; cases g ds as <;> rfl
      | _ => rfl
    | io d => cases d with
      | list ds => simp only [mutP]; cases g ds as <;> rfl
      | _ => rfl
    | _ => rfl
def rSetAt (f : D → Env) : Option D → R Fl
  | some d => .ok .nx (f d)
  | none => .stuck
@[simp] theorem rSetAt_some (f : D → Env) : rSetAt f (some d) = .ok .nx (f d) := rfl
@[simp] theorem s_setAt (k : D) : setAt j d k ρ = match ρ[j]? with
  | some (.own e) => rSetAt (fun d => ρ.set j (.own d)) (setP e k d)
  | some (.io e) => rSetAt (fun d => ρ.set j (.io d)) (setP e k d)
  | _ => .stuck := by
  unfold setAt
  cases ρ[j]? with
  | none => rfl
  | some s =>
    cases s with
    | own e => cases e with
      | list ds => cases k with
        | int n => simp only [setP]; cases ixN ds.length n <;> rfl
        | _ => rfl
      | _ => rfl
    | io e => cases e with
      | list ds => cases k with
        | int n => simp only [setP]; cases ixN ds.length n <;> rfl
        | _ => rfl
      | _ => rfl
    | _ => rfl
@[simp] theorem s_neg (f : M D) : mNegU f ρ = bnd f (fun d => ofO (negP d)) ρ := by
  unfold mNegU bnd
  cases f ρ with
  | stuck => rfl
  | ok d ρ' => cases d <;> rfl
@[simp] theorem s_rngOf : rngOf (.ok d ρ) = ofO (rng1P d) ρ := by
  cases d with
  | int n => simp only [rngOf, rng1P]; split <;> rfl
  | _ => rfl
def rng2R (d : D) : R D → R (List D)
  | .ok e ρ => ofO (rng2P d e) ρ
  | .stuck => .stuck
@[simp] theorem s_rng2R : rng2R d (.ok e ρ) = ofO (rng2P d e) ρ := rfl
@[simp] theorem s_rng2 (f g : M D) : mRng2 f g ρ = bnd f (fun d => fun ρ => rng2R d (g ρ)) ρ := by
  unfold mRng2
  rw [q_bnd, q_bnd]
  cases f ρ with
  | stuck => rfl
  | ok d ρ' =>
    show bnd g _ ρ' = rng2R d (g ρ')
    rw [q_bnd]
    cases g ρ' with
    | stuck => rfl
    | ok e ρ'' =>
      cases d <;> first | rfl | (cases e <;> first | rfl | (simp only [r_bnd, rng2R, rng2P]; split <;> rfl))
def rngdR (d : D) : R D → R (List D)
  | .ok e ρ => ofO (rngdP d e) ρ
  | .stuck => .stuck
@[simp] theorem s_rngdR : rngdR d (.ok e ρ) = ofO (rngdP d e) ρ := rfl
@[simp] theorem s_rngd (f g : M D) : mRngD f g ρ = bnd f (fun d => fun ρ => rngdR d (g ρ)) ρ := by
  unfold mRngD
  rw [q_bnd, q_bnd]
  cases f ρ with
  | stuck => rfl
  | ok d ρ' =>
    show bnd g _ ρ' = rngdR d (g ρ')
    rw [q_bnd]
    cases g ρ' with
    | stuck => rfl
    | ok e ρ'' =>
      cases d <;> first | rfl | (cases e <;> first | rfl | (simp only [r_bnd, rngdR, rngdP]; split <;> rfl))
@[simp] theorem s_dict1R : dict1R d (.ok e ρ) = ofO (dict1P d e) ρ := rfl
@[simp] theorem s_dict1 (f g : M D) : mDict1 f g ρ = bnd f (fun d => fun ρ => dict1R d (g ρ)) ρ := by
  unfold mDict1
  rw [q_bnd, q_bnd]
  cases f ρ with
  | stuck => rfl
  | ok d ρ' =>
    show bnd g _ ρ' = dict1R d (g ρ')
    rw [q_bnd]
    cases g ρ' with
    | stuck => rfl
    | ok e ρ'' => cases d <;> rfl
@[simp] theorem s_lrg (f : M D) : mLRg f ρ = bnd f (fun d => ofO (lrgP d)) ρ := by
  unfold mLRg
  rw [q_bnd, q_bnd]
  cases f ρ with
  | stuck => rfl
  | ok d ρ' => cases d <;> first | rfl | (simp only [r_bnd, lrgP]; split <;> rfl)
@[simp] theorem s_ixS (fb : M D) (ns : List Int) (h : ρ[i]? = some (.scr ns)) : mIxS i fb ρ = bnd fb (fun d => ofO (ixSP ns d)) ρ := by
  unfold mIxS bnd
  rw [h]
  cases fb ρ with
  | stuck => rfl
  | ok d ρ' => cases d with
    | int n => simp only [ixSP]; cases atI ns n <;> rfl
    | _ => rfl
@[simp] theorem s_opt_none : mOpt none ρ = .ok none ρ := rfl
def rOptR (o : Option Int) (ρ : Env) : R (Option Int) := match o with
  | some i => .ok (some i) ρ
  | none => .stuck
@[simp] theorem rOptR_some (x : Int) : rOptR (some x) ρ = .ok (some x) ρ := rfl
@[simp] theorem s_opt (f : M D) : mOpt (some f) ρ = bnd f (fun d => fun ρ => rOptR (ixP d) ρ) ρ := by
  show bnd f _ ρ = bnd f _ ρ
  rw [q_bnd, q_bnd]
  cases f ρ with
  | stuck => rfl
  | ok d ρ' => cases d <;> rfl
@[simp] theorem s_slice (g : M Pl) (lo hi : Option (M D)) : mSlice g lo hi ρ = bnd g (fun p => bnd (mOpt lo) fun l => bnd (mOpt hi) fun h => bnd (look p) fun d => bnd (ofO (sliceD d l h)) fun bz => PL.ret (rvOf bz)) ρ := rfl
@[simp] theorem s_sliceP (g : M Pl) (lo hi : Option (M D)) : mSliceP g lo hi ρ = bnd g (fun p => bnd (mOpt lo) fun l => bnd (mOpt hi) fun h => bnd (look p) fun d => bnd (ofO (sliceW d l h)) fun bz => PL.ret (if bz.1 = true then p else .val bz.2)) ρ := rfl
@[simp] theorem r_fz_rv (bz : Bool × D) : rFz (.ok (rvOf bz) ρ) = .ok bz.2 ρ := by
  obtain ⟨b, z⟩ := bz; cases b <;> rfl
@[simp] theorem r_set_rv (bz : Bool × D) : rSet i (.ok (rvOf bz) ρ) = if i < ρ.length then .ok .nx (ρ.set i (ovS bz.1 bz.2)) else .stuck := by
  obtain ⟨b, z⟩ := bz
  cases b
  · show bnd (setS i (.val z)) (fun _ => PL.ret Fl.nx) ρ = _
    rw [q_bnd, q_setS]
    split <;> rfl
  · show bnd (setS i (.own z)) (fun _ => PL.ret Fl.nx) ρ = _
    rw [q_bnd, q_setS]
    split <;> rfl
@[simp] theorem r_resR_rv (bz : Bool × D) : resR ρ (rvOf bz) = some (rvOf bz) := by
  obtain ⟨b, z⟩ := bz; cases b <;> rfl
@[simp] theorem s_mDict0 : mDict0 ρ = .ok (.dict []) ρ := rfl
@[simp] theorem s_mPar (fs : M (List D)) : mPar i j fs ρ = bnd fs (fun ds => match ds with
  | [d, e] => bnd (setS i (.val d)) fun _ => bnd (setS j (.val e)) fun _ => PL.ret .nx
  | _ => fun _ => .stuck) ρ := rfl
@[simp] theorem s_mAug (g : D → D → Option D) (fb : M Pl) : mAug i g fb ρ = bnd (mVar i) (fun p => bnd fb fun q => bnd (look p) fun d => bnd (look q) fun e => bnd (ofO (g d e)) fun z => bnd (setS i (.val z)) fun _ => PL.ret .nx) ρ := rfl
end
theorem zipP_ok {f g : M Pl} {ρ ρ1 ρ2 : Env} {p q : Pl} {d e : D} {zs : List D} (h1 : f ρ = .ok p ρ1) (h2 : g ρ1 = .ok q ρ2) (h3 : seqAt p ρ2 = ofO (itemsD d) ρ2) (h4 : seqAt q ρ2 = ofO (itemsD e) ρ2) (h : zipP d e = some zs) : mZip f g ρ = .ok zs ρ2 := by
  unfold zipP at h
  unfold mZip
  rw [bnd_eq h1, bnd_eq h2]
  cases hx : itemsD d with
  | none => rw [hx] at h; cases h
  | some x =>
    cases hy : itemsD e with
    | none => rw [hx, hy] at h; cases h
    | some y =>
      rw [hx, hy] at h
      simp only at h
      rw [hx] at h3
      rw [hy] at h4
      rw [bnd_eq (show seqAt p ρ2 = .ok x ρ2 from h3), bnd_eq (show seqAt q ρ2 = .ok y ρ2 from h4)]
      split at h
      · rename_i hh; cases h; simp only [hh, if_true]; rfl
      · cases h
def sortI (ns : List Int) : List Int := ns.mergeSort fun a b => decide (a ≤ b)
theorem sortI_perm (ns : List Int) : (sortI ns).Perm ns := List.mergeSort_perm _ _
theorem sortI_le (ns : List Int) : (sortI ns).Pairwise (· ≤ ·) := by
  have := List.pairwise_mergeSort (le := fun a b : Int => decide (a ≤ b)) (by intro a b c; simp; omega) (by intro a b; simp; omega) ns
  exact this.imp (by intro a b h; simpa using h)
theorem sortI_one {ns ns' : List Int} (h : ns'.Perm ns) (hs : ns'.Pairwise (· ≤ ·)) : ns' = sortI ns :=
  List.Perm.eq_of_pairwise (le := (· ≤ ·)) (fun a b _ _ h1 h2 => by omega) hs (sortI_le ns) (h.trans (sortI_perm ns).symm)
theorem sortI_id {ns : List Int} (hs : ns.Pairwise (· ≤ ·)) : sortI ns = ns := (sortI_one (.refl ns) hs).symm
def gSorted : List D → Option D
  | [.list ds] => (nums ds).map fun ns => .list ((sortI ns).map .int)
  | _ => none
section
variable {X : Cx} {e : Expr} {es : List Expr} {pos p : Pos} {gs : M (List Pl)}
theorem pf_sorted (hg : Gl X "sorted") (hm : X.mg "sorted" = none) (ha : PPs X (e :: es) gs) (he : starEach (e :: es) X.env = (false, eval e X.env) :: starEach es X.env := by rfl) (hpl : (backTo pos (starEach es X.env)).any (·.1) = false := by rfl) :
    PF X (.Call (.Name "sorted" p) (e :: es) [] pos) (mFr (mN gSorted gs)) := pf_b cr_sortedI (fun G H vs ds z Q gh s hg q => by
  cases s with
  | nil => cases hg
  | cons h r => cases r with
    | cons _ _ => cases h <;> cases hg
    | nil => cases h with
      | @lst a xs ds h r =>
        simp only [gSorted] at hg
        cases qd : nums ds with
        | none => rw [qd] at hg; cases hg
        | some ns =>
          rw [qd] at hg
          cases hg
          have := nums_ok qd r
          subst this
          refine ⟨a, ns, rfl, .inl (.inl h), fun ns' l hp hs hl => ?_⟩
          rw [sortI_one hp hs]
          exact q l _ hl (Grow.newF gh hl) (.lst upd_same (RpA.ints _))
      | _ => cases hg) hg hm (by decide +kernel) ha (he := he) (hpl := hpl)
end
/-! ### runs -/
def Run (m : M Fl) (ρ : Env) (Q : Fl → Env → Prop) : Prop := ∃ fl ρ', m ρ = .ok fl ρ' ∧ Q fl ρ'
section
variable {m m1 m2 a b k : M Fl} {ρ ρ1 ρ2 : Env} {Q : Fl → Env → Prop} {c : M Bool}
theorem run_end {fl : Fl} (h : m ρ = .ok fl ρ1) (q : Q fl ρ1) : Run m ρ Q := ⟨fl, ρ1, h, q⟩
theorem run_seq (h : m1 ρ = .ok .nx ρ1) (r : Run m2 ρ1 Q) : Run (mSeq m1 m2) ρ Q := by
  obtain ⟨fl, ρ', e, q⟩ := r
  exact ⟨fl, ρ', (mSeq_nx h).trans e, q⟩
theorem run_seq_ret {f : M Rv} {r : Rv} (h : f ρ = .ok r ρ1) (q : Q (.rt r) ρ1) : Run (mSeq (mRet f) m2) ρ Q :=
  ⟨.rt r, ρ1, mSeq_rt (by rw [q_mRet, h]; rfl), q⟩
theorem run_ret {f : M Rv} {r : Rv} (h : f ρ = .ok r ρ1) (q : Q (.rt r) ρ1) : Run (mRet f) ρ Q :=
  ⟨.rt r, ρ1, by rw [q_mRet, h]; rfl, q⟩
theorem run_seq_assoc (h : Run (mSeq a (mSeq b k)) ρ Q) : Run (mSeq (mSeq a b) k) ρ Q := by
  obtain ⟨fl, ρ', e, q⟩ := h
  refine ⟨fl, ρ', ?_, q⟩
  rw [← e]
  simp only [q_mSeq]
  cases a ρ with
  | stuck => rfl
  | ok x ρ1 => cases x <;> simp only [r_seq_n, r_seq_r, r_seq_b, r_seq_c, q_mSeq]
theorem run_seq_skip (h : Run k ρ Q) : Run (mSeq mSkip k) ρ Q := h
theorem run_if_t (h : c ρ = .ok true ρ1) (r : Run a ρ1 Q) : Run (mIf c a b) ρ Q := by
  obtain ⟨fl, ρ', e, q⟩ := r
  exact ⟨fl, ρ', by rw [q_mIf, q_bnd, h]; exact e, q⟩
theorem run_if_f (h : c ρ = .ok false ρ1) (r : Run b ρ1 Q) : Run (mIf c a b) ρ Q := by
  obtain ⟨fl, ρ', e, q⟩ := r
  exact ⟨fl, ρ', by rw [q_mIf, q_bnd, h]; exact e, q⟩
theorem run_seq_if_t (h : c ρ = .ok true ρ1) (r : Run (mSeq a k) ρ1 Q) : Run (mSeq (mIf c a b) k) ρ Q := by
  obtain ⟨fl, ρ', e, q⟩ := r
  exact ⟨fl, ρ', by rw [← e, q_mSeq, q_mIf, q_bnd, h, q_mSeq]; rfl, q⟩
theorem run_seq_if_f (h : c ρ = .ok false ρ1) (r : Run (mSeq b k) ρ1 Q) : Run (mSeq (mIf c a b) k) ρ Q := by
  obtain ⟨fl, ρ', e, q⟩ := r
  exact ⟨fl, ρ', by rw [← e, q_mSeq, q_mIf, q_bnd, h, q_mSeq]; rfl, q⟩
theorem run_seq_brk (q : Q .bk ρ) : Run (mSeq mBrk k) ρ Q := ⟨.bk, ρ, rfl, q⟩
theorem run_seq_cnt (q : Q .ct ρ) : Run (mSeq mCnt k) ρ Q := ⟨.ct, ρ, rfl, q⟩
theorem run_nx (r : Run m ρ fun fl ρ' => fl = .nx ∧ ρ' = ρ1) : m ρ = .ok .nx ρ1 := by
  obtain ⟨fl, ρ', e, rfl, rfl⟩ := r
  exact e
theorem run_nxI {P : Env → Prop} (r : Run m ρ fun fl ρ' => fl = .nx ∧ P ρ') : ∃ ρ', m ρ = .ok .nx ρ' ∧ P ρ' := by
  obtain ⟨fl, ρ', e, rfl, q⟩ := r
  exact ⟨ρ', e, q⟩
end
/-- what a def hands back -/
def flR : Fl → Env → Option Rv
  | .rt r, ρ => resR ρ r
  | .nx, _ => some (.pl (.val .none))
  | _, _ => none
theorem run_evalD {ms : List Md} {nl : Nat} {m : M Fl} {ss io : List Sl} {r : Rv} (h : Run m (ss ++ List.replicate nl .un) fun fl ρ' => flR fl ρ' = some r ∧ ρ'.take ms.length = io) : evalD ms nl m ss = some (r, io) := by
  obtain ⟨fl, ρ', e, h1, rfl⟩ := h
  cases fl with
  | nx => cases h1; exact ev_nx e
  | rt q => exact ev_rt e h1
  | bk => cases h1
  | ct => cases h1
/-! ### loops -/
inductive Ct (S T : Type) where
  | nx (s : S) | bk (s : S) | rt (t : T)
def forP {S T : Type} (f : D → S → Option (Ct S T)) : List D → S → Option (Ct S T)
  | [], s => some (.nx s)
  | x :: xs, s => (f x s).bind fun o => match o with
    | .nx s' => forP f xs s'
    | .bk s' => some (.nx s')
    | .rt t => some (.rt t)
def foldP {S : Type} (f : D → S → Option S) : List D → S → Option S
  | [], s => some s
  | x :: xs, s => (f x s).bind fun s' => foldP f xs s'
def isRt : Fl → Prop
  | .rt _ => True
  | _ => False
/-- where a body ends -/
abbrev ctQ {S T : Type} (I : S → Env → Prop) (Post : T → Fl → Env → Prop) (o : Ct S T) (fl : Fl) (ρ' : Env) : Prop := match o with
  | .nx s' => (fl = .nx ∨ fl = .ct) ∧ I s' ρ'
  | .bk s' => fl = .bk ∧ I s' ρ'
  | .rt r => isRt fl ∧ Post r fl ρ'
abbrev ctE {S T : Type} (I : S → Env → Prop) (Post : T → Fl → Env → Prop) (o : Ct S T) (fl : Fl) (ρ' : Env) : Prop := match o with
  | .nx s' => fl = .nx ∧ I s' ρ'
  | .bk _ => False
  | .rt r => isRt fl ∧ Post r fl ρ'
theorem forGo_cons_ok {t : D → M Unit} {b : M Fl} {d : D} {ds : List D} {ρ ρ1 : Env} (h : t d ρ = .ok () ρ1) : forGo t b (d :: ds) ρ = bnd b (fun fl => match fl with
    | .nx => forGo t b ds
    | .ct => forGo t b ds
    | .bk => PL.ret .nx
    | .rt r => PL.ret (.rt r)) ρ1 := by
  show bnd (t d) _ ρ = _
  rw [bnd_eq h]
  all_goals rfl
theorem forP_run {S T : Type} {t : D → M Unit} {b : M Fl} {f : D → S → Option (Ct S T)} (I : S → Env → Prop) (Post : T → Fl → Env → Prop)
    (hb : ∀ x s ρ o, I s ρ → f x s = some o → ∃ ρ1, t x ρ = .ok () ρ1 ∧ Run b ρ1 (ctQ I Post o)) :
    ∀ (xs : List D) (s : S) (ρ : Env) (o : Ct S T), I s ρ → forP f xs s = some o → Run (forGo t b xs) ρ (ctE I Post o)
  | [], s, ρ, o, hi, h => by cases h; exact ⟨.nx, ρ, rfl, rfl, hi⟩
  | x :: xs, s, ρ, o, hi, h => by
    obtain ⟨o1, h1, h2⟩ := ob h
    obtain ⟨ρ1, e1, fl, ρ2, e2, q⟩ := hb x s ρ o1 hi h1
    cases o1 with
    | nx s' =>
      obtain ⟨hf, hi'⟩ := q
      obtain ⟨fl', ρ3, e3, q3⟩ := forP_run I Post hb xs s' ρ2 o hi' h2
      refine ⟨fl', ρ3, ?_, q3⟩
      rw [forGo_cons_ok e1, bnd_eq e2]
      rcases hf with rfl | rfl <;> exact e3
    | bk s' =>
      obtain ⟨rfl, hi'⟩ := q
      cases h2
      exact ⟨.nx, ρ2, by rw [forGo_cons_ok e1, bnd_eq e2]; rfl, rfl, hi'⟩
    | rt r =>
      obtain ⟨hf, hq⟩ := q
      cases h2
      cases fl with
      | rt r' => exact ⟨.rt r', ρ2, by rw [forGo_cons_ok e1, bnd_eq e2]; rfl, trivial, hq⟩
      | _ => exact hf.elim
theorem foldP_run {S : Type} {t : D → M Unit} {b : M Fl} {f : D → S → Option S} (I : S → Env → Prop)
    (hb : ∀ x s ρ s', I s ρ → f x s = some s' → ∃ ρ1, t x ρ = .ok () ρ1 ∧ Run b ρ1 fun fl ρ' => (fl = .nx ∨ fl = .ct) ∧ I s' ρ') :
    ∀ (xs : List D) (s : S) (ρ : Env) (s' : S), I s ρ → foldP f xs s = some s' → ∃ ρ', forGo t b xs ρ = .ok .nx ρ' ∧ I s' ρ'
  | [], s, ρ, s', hi, h => by cases h; exact ⟨ρ, rfl, hi⟩
  | x :: xs, s, ρ, s', hi, h => by
    obtain ⟨s1, h1, h2⟩ := ob h
    obtain ⟨ρ1, e1, fl, ρ2, e2, hf, hi'⟩ := hb x s ρ s1 hi h1
    obtain ⟨ρ3, e3, q3⟩ := foldP_run I hb xs s1 ρ2 s' hi' h2
    refine ⟨ρ3, ?_, q3⟩
    rw [forGo_cons_ok e1, bnd_eq e2]
    rcases hf with rfl | rfl <;> exact e3
theorem run_for_nx {fi : M (List D)} {t : D → M Unit} {b : M Fl} {ρ ρ1 : Env} {xs : List D} {P : Env → Prop} (h : fi ρ = .ok xs ρ1) (r : ∃ ρ', forGo t b xs ρ1 = .ok .nx ρ' ∧ P ρ') : ∃ ρ', mFor fi t b ρ = .ok .nx ρ' ∧ P ρ' := by
  obtain ⟨ρ', e, p⟩ := r
  exact ⟨ρ', (mFor_ok h).trans e, p⟩
theorem run_for {fi : M (List D)} {t : D → M Unit} {b : M Fl} {ρ ρ1 : Env} {xs : List D} {Q : Fl → Env → Prop} (h : fi ρ = .ok xs ρ1) (r : Run (forGo t b xs) ρ1 Q) : Run (mFor fi t b) ρ Q := by
  obtain ⟨fl, ρ', e, p⟩ := r
  exact ⟨fl, ρ', (mFor_ok h).trans e, p⟩
/-- behind a loop that may hand back -/
theorem run_seq_ct {S T : Type} {m k : M Fl} {ρ : Env} {I : S → Env → Prop} {Post : T → Fl → Env → Prop} {o : Ct S T} {Q : Fl → Env → Prop} (r : Run m ρ (ctE I Post o))
    (hr : ∀ t fl ρ', o = .rt t → isRt fl → Post t fl ρ' → Q fl ρ') (hn : ∀ s ρ', o = .nx s → I s ρ' → Run k ρ' Q) : Run (mSeq m k) ρ Q := by
  obtain ⟨fl, ρ', e, q⟩ := r
  cases o with
  | nx s =>
    obtain ⟨rfl, hi⟩ := q
    exact run_seq e (hn s ρ' rfl hi)
  | bk s => exact q.elim
  | rt t =>
    obtain ⟨hf, hq⟩ := q
    cases fl with
    | rt r => exact ⟨.rt r, ρ', mSeq_rt e, hr t _ ρ' rfl hf hq⟩
    | _ => exact hf.elim
theorem run_ct {S T : Type} {m : M Fl} {ρ : Env} {I : S → Env → Prop} {Post : T → Fl → Env → Prop} {o : Ct S T} {Q : Fl → Env → Prop} (r : Run m ρ (ctE I Post o))
    (hr : ∀ t fl ρ', o = .rt t → isRt fl → Post t fl ρ' → Q fl ρ') (hn : ∀ s ρ', o = .nx s → I s ρ' → Q .nx ρ') : Run m ρ Q := by
  obtain ⟨fl, ρ', e, q⟩ := r
  cases o with
  | nx s => obtain ⟨rfl, hi⟩ := q; exact ⟨.nx, ρ', e, hn s ρ' rfl hi⟩
  | bk s => exact q.elim
  | rt t => obtain ⟨hf, hq⟩ := q; exact ⟨fl, ρ', e, hr t fl ρ' rfl hf hq⟩
def ctB0 { T γ : Type} (o : Option (Ct (Unit) T)) (g : T → Option γ) (f : Unit → Option γ) : Option γ := match o with
  | some (.nx ()) => f ()
  | some (.rt t) => g t
  | _ => none
theorem ctB0_nx { T γ : Type} (g : T → Option γ) (f : Unit → Option γ) : ctB0 (some (.nx ())) g f = f () := rfl
theorem ctB0_rt { T γ : Type} (g : T → Option γ) (f : Unit → Option γ) (t : T) : ctB0 (some (.rt t)) g f = g t := rfl
theorem obct0 { T γ : Type} {o : Option (Ct (Unit) T)} {g : T → Option γ} {f : Unit → Option γ} {r : γ} (h : ctB0 o g f = some r) :
    ∃ c, o = some c ∧ ((∃ t, c = .rt t ∧ g t = some r) ∨ (c = .nx () ∧ f () = some r)) := by
  cases o with
  | none => cases h
  | some c => cases c with
    | nx s => exact ⟨_, rfl, .inr ⟨rfl, h⟩⟩
    | bk s => cases h
    | rt t => exact ⟨_, rfl, .inl ⟨t, rfl, h⟩⟩
def ctB1 {α1 T γ : Type} (o : Option (Ct (α1) T)) (g : T → Option γ) (f : α1 → Option γ) : Option γ := match o with
  | some (.nx x1) => f x1
  | some (.rt t) => g t
  | _ => none
theorem ctB1_nx {α1 T γ : Type} (g : T → Option γ) (f : α1 → Option γ) (x1 : α1) : ctB1 (some (.nx x1)) g f = f x1 := rfl
theorem ctB1_rt {α1 T γ : Type} (g : T → Option γ) (f : α1 → Option γ) (t : T) : ctB1 (some (.rt t)) g f = g t := rfl
theorem obct1 {α1 T γ : Type} {o : Option (Ct (α1) T)} {g : T → Option γ} {f : α1 → Option γ} {r : γ} (h : ctB1 o g f = some r) :
    ∃ c, o = some c ∧ ((∃ t, c = .rt t ∧ g t = some r) ∨ (∃ x1, c = .nx x1 ∧ f x1 = some r)) := by
  cases o with
  | none => cases h
  | some c => cases c with
    | nx s => exact ⟨_, rfl, .inr ⟨_, rfl, h⟩⟩
    | bk s => cases h
    | rt t => exact ⟨_, rfl, .inl ⟨t, rfl, h⟩⟩
def ctB2 {α1 α2 T γ : Type} (o : Option (Ct (α1 × α2) T)) (g : T → Option γ) (f : α1 → α2 → Option γ) : Option γ := match o with
  | some (.nx (x1, x2)) => f x1 x2
  | some (.rt t) => g t
  | _ => none
theorem ctB2_nx {α1 α2 T γ : Type} (g : T → Option γ) (f : α1 → α2 → Option γ) (x1 : α1) (x2 : α2) : ctB2 (some (.nx (x1, x2))) g f = f x1 x2 := rfl
theorem ctB2_rt {α1 α2 T γ : Type} (g : T → Option γ) (f : α1 → α2 → Option γ) (t : T) : ctB2 (some (.rt t)) g f = g t := rfl
theorem obct2 {α1 α2 T γ : Type} {o : Option (Ct (α1 × α2) T)} {g : T → Option γ} {f : α1 → α2 → Option γ} {r : γ} (h : ctB2 o g f = some r) :
    ∃ c, o = some c ∧ ((∃ t, c = .rt t ∧ g t = some r) ∨ (∃ x1 x2, c = .nx (x1, x2) ∧ f x1 x2 = some r)) := by
  cases o with
  | none => cases h
  | some c => cases c with
    | nx s => exact ⟨_, rfl, .inr ⟨_, _, rfl, h⟩⟩
    | bk s => cases h
    | rt t => exact ⟨_, rfl, .inl ⟨t, rfl, h⟩⟩
def ctB3 {α1 α2 α3 T γ : Type} (o : Option (Ct (α1 × α2 × α3) T)) (g : T → Option γ) (f : α1 → α2 → α3 → Option γ) : Option γ := match o with
  | some (.nx (x1, x2, x3)) => f x1 x2 x3
  | some (.rt t) => g t
  | _ => none
theorem ctB3_nx {α1 α2 α3 T γ : Type} (g : T → Option γ) (f : α1 → α2 → α3 → Option γ) (x1 : α1) (x2 : α2) (x3 : α3) : ctB3 (some (.nx (x1, x2, x3))) g f = f x1 x2 x3 := rfl
theorem ctB3_rt {α1 α2 α3 T γ : Type} (g : T → Option γ) (f : α1 → α2 → α3 → Option γ) (t : T) : ctB3 (some (.rt t)) g f = g t := rfl
theorem obct3 {α1 α2 α3 T γ : Type} {o : Option (Ct (α1 × α2 × α3) T)} {g : T → Option γ} {f : α1 → α2 → α3 → Option γ} {r : γ} (h : ctB3 o g f = some r) :
    ∃ c, o = some c ∧ ((∃ t, c = .rt t ∧ g t = some r) ∨ (∃ x1 x2 x3, c = .nx (x1, x2, x3) ∧ f x1 x2 x3 = some r)) := by
  cases o with
  | none => cases h
  | some c => cases c with
    | nx s => exact ⟨_, rfl, .inr ⟨_, _, _, rfl, h⟩⟩
    | bk s => cases h
    | rt t => exact ⟨_, rfl, .inl ⟨t, rfl, h⟩⟩
def ctB4 {α1 α2 α3 α4 T γ : Type} (o : Option (Ct (α1 × α2 × α3 × α4) T)) (g : T → Option γ) (f : α1 → α2 → α3 → α4 → Option γ) : Option γ := match o with
  | some (.nx (x1, x2, x3, x4)) => f x1 x2 x3 x4
  | some (.rt t) => g t
  | _ => none
theorem ctB4_nx {α1 α2 α3 α4 T γ : Type} (g : T → Option γ) (f : α1 → α2 → α3 → α4 → Option γ) (x1 : α1) (x2 : α2) (x3 : α3) (x4 : α4) : ctB4 (some (.nx (x1, x2, x3, x4))) g f = f x1 x2 x3 x4 := rfl
theorem ctB4_rt {α1 α2 α3 α4 T γ : Type} (g : T → Option γ) (f : α1 → α2 → α3 → α4 → Option γ) (t : T) : ctB4 (some (.rt t)) g f = g t := rfl
theorem obct4 {α1 α2 α3 α4 T γ : Type} {o : Option (Ct (α1 × α2 × α3 × α4) T)} {g : T → Option γ} {f : α1 → α2 → α3 → α4 → Option γ} {r : γ} (h : ctB4 o g f = some r) :
    ∃ c, o = some c ∧ ((∃ t, c = .rt t ∧ g t = some r) ∨ (∃ x1 x2 x3 x4, c = .nx (x1, x2, x3, x4) ∧ f x1 x2 x3 x4 = some r)) := by
  cases o with
  | none => cases h
  | some c => cases c with
    | nx s => exact ⟨_, rfl, .inr ⟨_, _, _, _, rfl, h⟩⟩
    | bk s => cases h
    | rt t => exact ⟨_, rfl, .inl ⟨t, rfl, h⟩⟩
def ctB5 {α1 α2 α3 α4 α5 T γ : Type} (o : Option (Ct (α1 × α2 × α3 × α4 × α5) T)) (g : T → Option γ) (f : α1 → α2 → α3 → α4 → α5 → Option γ) : Option γ := match o with
  | some (.nx (x1, x2, x3, x4, x5)) => f x1 x2 x3 x4 x5
  | some (.rt t) => g t
  | _ => none
theorem ctB5_nx {α1 α2 α3 α4 α5 T γ : Type} (g : T → Option γ) (f : α1 → α2 → α3 → α4 → α5 → Option γ) (x1 : α1) (x2 : α2) (x3 : α3) (x4 : α4) (x5 : α5) : ctB5 (some (.nx (x1, x2, x3, x4, x5))) g f = f x1 x2 x3 x4 x5 := rfl
theorem ctB5_rt {α1 α2 α3 α4 α5 T γ : Type} (g : T → Option γ) (f : α1 → α2 → α3 → α4 → α5 → Option γ) (t : T) : ctB5 (some (.rt t)) g f = g t := rfl
theorem obct5 {α1 α2 α3 α4 α5 T γ : Type} {o : Option (Ct (α1 × α2 × α3 × α4 × α5) T)} {g : T → Option γ} {f : α1 → α2 → α3 → α4 → α5 → Option γ} {r : γ} (h : ctB5 o g f = some r) :
    ∃ c, o = some c ∧ ((∃ t, c = .rt t ∧ g t = some r) ∨ (∃ x1 x2 x3 x4 x5, c = .nx (x1, x2, x3, x4, x5) ∧ f x1 x2 x3 x4 x5 = some r)) := by
  cases o with
  | none => cases h
  | some c => cases c with
    | nx s => exact ⟨_, rfl, .inr ⟨_, _, _, _, _, rfl, h⟩⟩
    | bk s => cases h
    | rt t => exact ⟨_, rfl, .inl ⟨t, rfl, h⟩⟩
def ctB6 {α1 α2 α3 α4 α5 α6 T γ : Type} (o : Option (Ct (α1 × α2 × α3 × α4 × α5 × α6) T)) (g : T → Option γ) (f : α1 → α2 → α3 → α4 → α5 → α6 → Option γ) : Option γ := match o with
  | some (.nx (x1, x2, x3, x4, x5, x6)) => f x1 x2 x3 x4 x5 x6
  | some (.rt t) => g t
  | _ => none
theorem ctB6_nx {α1 α2 α3 α4 α5 α6 T γ : Type} (g : T → Option γ) (f : α1 → α2 → α3 → α4 → α5 → α6 → Option γ) (x1 : α1) (x2 : α2) (x3 : α3) (x4 : α4) (x5 : α5) (x6 : α6) : ctB6 (some (.nx (x1, x2, x3, x4, x5, x6))) g f = f x1 x2 x3 x4 x5 x6 := rfl
theorem ctB6_rt {α1 α2 α3 α4 α5 α6 T γ : Type} (g : T → Option γ) (f : α1 → α2 → α3 → α4 → α5 → α6 → Option γ) (t : T) : ctB6 (some (.rt t)) g f = g t := rfl
theorem obct6 {α1 α2 α3 α4 α5 α6 T γ : Type} {o : Option (Ct (α1 × α2 × α3 × α4 × α5 × α6) T)} {g : T → Option γ} {f : α1 → α2 → α3 → α4 → α5 → α6 → Option γ} {r : γ} (h : ctB6 o g f = some r) :
    ∃ c, o = some c ∧ ((∃ t, c = .rt t ∧ g t = some r) ∨ (∃ x1 x2 x3 x4 x5 x6, c = .nx (x1, x2, x3, x4, x5, x6) ∧ f x1 x2 x3 x4 x5 x6 = some r)) := by
  cases o with
  | none => cases h
  | some c => cases c with
    | nx s => exact ⟨_, rfl, .inr ⟨_, _, _, _, _, _, rfl, h⟩⟩
    | bk s => cases h
    | rt t => exact ⟨_, rfl, .inl ⟨t, rfl, h⟩⟩
def ctB7 {α1 α2 α3 α4 α5 α6 α7 T γ : Type} (o : Option (Ct (α1 × α2 × α3 × α4 × α5 × α6 × α7) T)) (g : T → Option γ) (f : α1 → α2 → α3 → α4 → α5 → α6 → α7 → Option γ) : Option γ := match o with
  | some (.nx (x1, x2, x3, x4, x5, x6, x7)) => f x1 x2 x3 x4 x5 x6 x7
  | some (.rt t) => g t
  | _ => none
theorem ctB7_nx {α1 α2 α3 α4 α5 α6 α7 T γ : Type} (g : T → Option γ) (f : α1 → α2 → α3 → α4 → α5 → α6 → α7 → Option γ) (x1 : α1) (x2 : α2) (x3 : α3) (x4 : α4) (x5 : α5) (x6 : α6) (x7 : α7) : ctB7 (some (.nx (x1, x2, x3, x4, x5, x6, x7))) g f = f x1 x2 x3 x4 x5 x6 x7 := rfl
theorem ctB7_rt {α1 α2 α3 α4 α5 α6 α7 T γ : Type} (g : T → Option γ) (f : α1 → α2 → α3 → α4 → α5 → α6 → α7 → Option γ) (t : T) : ctB7 (some (.rt t)) g f = g t := rfl
theorem obct7 {α1 α2 α3 α4 α5 α6 α7 T γ : Type} {o : Option (Ct (α1 × α2 × α3 × α4 × α5 × α6 × α7) T)} {g : T → Option γ} {f : α1 → α2 → α3 → α4 → α5 → α6 → α7 → Option γ} {r : γ} (h : ctB7 o g f = some r) :
    ∃ c, o = some c ∧ ((∃ t, c = .rt t ∧ g t = some r) ∨ (∃ x1 x2 x3 x4 x5 x6 x7, c = .nx (x1, x2, x3, x4, x5, x6, x7) ∧ f x1 x2 x3 x4 x5 x6 x7 = some r)) := by
  cases o with
  | none => cases h
  | some c => cases c with
    | nx s => exact ⟨_, rfl, .inr ⟨_, _, _, _, _, _, _, rfl, h⟩⟩
    | bk s => cases h
    | rt t => exact ⟨_, rfl, .inl ⟨t, rfl, h⟩⟩
def ctB8 {α1 α2 α3 α4 α5 α6 α7 α8 T γ : Type} (o : Option (Ct (α1 × α2 × α3 × α4 × α5 × α6 × α7 × α8) T)) (g : T → Option γ) (f : α1 → α2 → α3 → α4 → α5 → α6 → α7 → α8 → Option γ) : Option γ := match o with
  | some (.nx (x1, x2, x3, x4, x5, x6, x7, x8)) => f x1 x2 x3 x4 x5 x6 x7 x8
  | some (.rt t) => g t
  | _ => none
theorem ctB8_nx {α1 α2 α3 α4 α5 α6 α7 α8 T γ : Type} (g : T → Option γ) (f : α1 → α2 → α3 → α4 → α5 → α6 → α7 → α8 → Option γ) (x1 : α1) (x2 : α2) (x3 : α3) (x4 : α4) (x5 : α5) (x6 : α6) (x7 : α7) (x8 : α8) : ctB8 (some (.nx (x1, x2, x3, x4, x5, x6, x7, x8))) g f = f x1 x2 x3 x4 x5 x6 x7 x8 := rfl
theorem ctB8_rt {α1 α2 α3 α4 α5 α6 α7 α8 T γ : Type} (g : T → Option γ) (f : α1 → α2 → α3 → α4 → α5 → α6 → α7 → α8 → Option γ) (t : T) : ctB8 (some (.rt t)) g f = g t := rfl
theorem obct8 {α1 α2 α3 α4 α5 α6 α7 α8 T γ : Type} {o : Option (Ct (α1 × α2 × α3 × α4 × α5 × α6 × α7 × α8) T)} {g : T → Option γ} {f : α1 → α2 → α3 → α4 → α5 → α6 → α7 → α8 → Option γ} {r : γ} (h : ctB8 o g f = some r) :
    ∃ c, o = some c ∧ ((∃ t, c = .rt t ∧ g t = some r) ∨ (∃ x1 x2 x3 x4 x5 x6 x7 x8, c = .nx (x1, x2, x3, x4, x5, x6, x7, x8) ∧ f x1 x2 x3 x4 x5 x6 x7 x8 = some r)) := by
  cases o with
  | none => cases h
  | some c => cases c with
    | nx s => exact ⟨_, rfl, .inr ⟨_, _, _, _, _, _, _, _, rfl, h⟩⟩
    | bk s => cases h
    | rt t => exact ⟨_, rfl, .inl ⟨t, rfl, h⟩⟩
def ctB9 {α1 α2 α3 α4 α5 α6 α7 α8 α9 T γ : Type} (o : Option (Ct (α1 × α2 × α3 × α4 × α5 × α6 × α7 × α8 × α9) T)) (g : T → Option γ) (f : α1 → α2 → α3 → α4 → α5 → α6 → α7 → α8 → α9 → Option γ) : Option γ := match o with
  | some (.nx (x1, x2, x3, x4, x5, x6, x7, x8, x9)) => f x1 x2 x3 x4 x5 x6 x7 x8 x9
  | some (.rt t) => g t
  | _ => none
theorem ctB9_nx {α1 α2 α3 α4 α5 α6 α7 α8 α9 T γ : Type} (g : T → Option γ) (f : α1 → α2 → α3 → α4 → α5 → α6 → α7 → α8 → α9 → Option γ) (x1 : α1) (x2 : α2) (x3 : α3) (x4 : α4) (x5 : α5) (x6 : α6) (x7 : α7) (x8 : α8) (x9 : α9) : ctB9 (some (.nx (x1, x2, x3, x4, x5, x6, x7, x8, x9))) g f = f x1 x2 x3 x4 x5 x6 x7 x8 x9 := rfl
theorem ctB9_rt {α1 α2 α3 α4 α5 α6 α7 α8 α9 T γ : Type} (g : T → Option γ) (f : α1 → α2 → α3 → α4 → α5 → α6 → α7 → α8 → α9 → Option γ) (t : T) : ctB9 (some (.rt t)) g f = g t := rfl
theorem obct9 {α1 α2 α3 α4 α5 α6 α7 α8 α9 T γ : Type} {o : Option (Ct (α1 × α2 × α3 × α4 × α5 × α6 × α7 × α8 × α9) T)} {g : T → Option γ} {f : α1 → α2 → α3 → α4 → α5 → α6 → α7 → α8 → α9 → Option γ} {r : γ} (h : ctB9 o g f = some r) :
    ∃ c, o = some c ∧ ((∃ t, c = .rt t ∧ g t = some r) ∨ (∃ x1 x2 x3 x4 x5 x6 x7 x8 x9, c = .nx (x1, x2, x3, x4, x5, x6, x7, x8, x9) ∧ f x1 x2 x3 x4 x5 x6 x7 x8 x9 = some r)) := by
  cases o with
  | none => cases h
  | some c => cases c with
    | nx s => exact ⟨_, rfl, .inr ⟨_, _, _, _, _, _, _, _, _, rfl, h⟩⟩
    | bk s => cases h
    | rt t => exact ⟨_, rfl, .inl ⟨t, rfl, h⟩⟩
/-! ### while -/
def whP {S T : Type} (c : S → Option Bool) (f : S → Option (Ct S T)) : Nat → S → Option (Ct S T)
  | 0, _ => none
  | n + 1, s => (c s).bind fun k => if k = true then (f s).bind fun o => match o with
    | .nx s' => whP c f n s'
    | .bk s' => some (.nx s')
    | .rt t => some (.rt t)
    else some (.nx s)
theorem whP_run {S T : Type} {mc : M Bool} {b : M Fl} {c : S → Option Bool} {f : S → Option (Ct S T)} (I : S → Env → Prop) (Post : T → Fl → Env → Prop)
    (hc : ∀ s ρ k, I s ρ → c s = some k → ∃ ρ1, mc ρ = .ok k ρ1 ∧ I s ρ1) (hb : ∀ s ρ o, I s ρ → c s = some true → f s = some o → Run b ρ (ctQ I Post o)) :
    ∀ (n : Nat) (s : S) (ρ : Env) (o : Ct S T), I s ρ → whP c f n s = some o → Run (whGo mc b n) ρ (ctE I Post o)
  | 0, _, _, _, _, h => by cases h
  | n + 1, s, ρ, o, hi, h => by
    obtain ⟨k, h1, h2⟩ := ob h
    obtain ⟨ρ1, e1, hi1⟩ := hc s ρ k hi h1
    cases k with
    | false =>
      rw [if_neg Bool.false_ne_true] at h2
      cases h2
      exact ⟨.nx, ρ1, by show bnd mc _ ρ = _; rw [bnd_eq e1]; rfl, rfl, hi1⟩
    | true =>
      rw [if_pos rfl] at h2
      obtain ⟨o1, h3, h4⟩ := ob h2
      obtain ⟨fl, ρ2, e2, q⟩ := hb s ρ1 o1 hi1 h1 h3
      have go : whGo mc b (n + 1) ρ = bnd b (fun fl => match fl with
        | .nx => whGo mc b n
        | .ct => whGo mc b n
        | .bk => PL.ret .nx
        | .rt r => PL.ret (.rt r)) ρ1 := by
        show bnd mc _ ρ = _
        rw [bnd_eq e1, if_pos rfl]
        all_goals rfl
      cases o1 with
      | nx s' =>
        obtain ⟨hf, hi'⟩ := q
        obtain ⟨fl', ρ3, e3, q3⟩ := whP_run I Post hc hb n s' ρ2 o hi' h4
        refine ⟨fl', ρ3, ?_, q3⟩
        rw [go, bnd_eq e2]
        rcases hf with rfl | rfl <;> exact e3
      | bk s' =>
        obtain ⟨rfl, hi'⟩ := q
        cases h4
        exact ⟨.nx, ρ2, by rw [go, bnd_eq e2]; rfl, rfl, hi'⟩
      | rt r =>
        obtain ⟨hf, hq⟩ := q
        cases h4
        cases fl with
        | rt r' => exact ⟨.rt r', ρ2, by rw [go, bnd_eq e2]; rfl, trivial, hq⟩
        | _ => exact hf.elim
theorem run_while {mc : M Bool} {b : M Fl} {n : Nat} {ρ : Env} {Q : Fl → Env → Prop} (r : Run (whGo mc b n) ρ Q) : Run (mWhile (fun _ => n) mc b) ρ Q := r
/-! ### comprehensions -/
def lcP {S : Type} (f : D → S → Option (Option D × S)) : List D → S → Option (List D × S)
  | [], s => some ([], s)
  | x :: xs, s => (f x s).bind fun (o, s') => (lcP f xs s').bind fun (out, s2) => match o with
    | some y => some (y :: out, s2)
    | none => some (out, s2)
def lcT {S : Type} (f : D → S → Option (Option D × S)) (xs : List D) (s : S) : Option (List D × S) := (lcP f xs s).bind fun os => if os.1.length ≤ 100000 then some os else none
def mapP (f : D → Option D) : List D → Option (List D)
  | [] => some []
  | x :: xs => (f x).bind fun y => (mapP f xs).bind fun ys => some (y :: ys)
def filP (f : D → Option (Option D)) : List D → Option (List D)
  | [] => some []
  | x :: xs => (f x).bind fun o => (filP f xs).bind fun ys => match o with
    | some y => some (y :: ys)
    | none => some ys
def mapT (f : D → Option D) (xs : List D) : Option (List D) := (mapP f xs).bind fun ys => if ys.length ≤ 100000 then some ys else none
def filT (f : D → Option (Option D)) (xs : List D) : Option (List D) := (filP f xs).bind fun ys => if ys.length ≤ 100000 then some ys else none
/-- where an item of a comprehension ends -/
abbrev lcQ (c : M Bool) (fe : M D) (vs : List Nat) (I : Env → Prop) (ρ1 ρ2 : Env) (o : Option D) : Prop := match o with
  | some y => ∃ ρ3, c ρ1 = .ok true ρ2 ∧ fe ρ2 = .ok y ρ3 ∧ I (wipeE ρ3 vs)
  | none => c ρ1 = .ok false ρ2 ∧ I (wipeE ρ2 vs)
theorem lcP_run {S : Type} {t : D → M Unit} {vs : List Nat} {c : M Bool} {fe : M D} {f : D → S → Option (Option D × S)} (I : S → Env → Prop)
    (hb : ∀ x s ρ o s', I s ρ → f x s = some (o, s') → ∃ ρ1 ρ2, t x ρ = .ok () ρ1 ∧ lcQ c fe vs (I s') ρ1 ρ2 o) :
    ∀ (xs acc : List D) (s : S) (ρ : Env) (out : List D) (s' : S), I s ρ → lcP f xs s = some (out, s') → acc.length + out.length ≤ 100000 → ∃ ρ', lcGo t vs c fe acc xs ρ = .ok (acc ++ out) ρ' ∧ I s' ρ'
  | [], acc, s, ρ, out, s', hi, h, _ => by cases h; exact ⟨ρ, by rw [List.append_nil]; rfl, hi⟩
  | x :: xs, acc, s, ρ, out, s', hi, h, hl => by
    obtain ⟨⟨o, s1⟩, h1, h2⟩ := ob h
    obtain ⟨⟨out1, s2⟩, h3, h4⟩ := ob h2
    obtain ⟨ρ1, ρ2, e1, q⟩ := hb x s ρ o s1 hi h1
    cases o with
    | none =>
      cases h4
      obtain ⟨e2, hi'⟩ := q
      obtain ⟨ρ4, e4, hi4⟩ := lcP_run I hb xs acc s1 _ _ _ hi' h3 hl
      refine ⟨ρ4, ?_, hi4⟩
      show bnd (t x) _ ρ = _
      rw [bnd_eq e1, bnd_eq e2]
      exact e4
    | some y =>
      cases h4
      obtain ⟨ρ3, e2, e3, hi'⟩ := q
      rw [List.length_cons] at hl
      obtain ⟨ρ4, e4, hi4⟩ := lcP_run I hb xs (acc ++ [y]) s1 _ _ _ hi' h3 (by rw [List.length_append, List.length_cons, List.length_nil]; omega)
      refine ⟨ρ4, ?_, hi4⟩
      show bnd (t x) _ ρ = _
      rw [bnd_eq e1, bnd_eq e2, if_pos rfl, bnd_eq e3, if_pos (by omega)]
      rw [List.append_assoc] at e4
      exact e4
theorem lcT_run {S : Type} {fi : M (List D)} {t : D → M Unit} {vs : List Nat} {c : M Bool} {fe : M D} {f : D → S → Option (Option D × S)} (I : S → Env → Prop)
    {ρ0 ρ1 : Env} {xs : List D} {s : S} {out : List D} {s' : S} (h0 : fi ρ0 = .ok xs ρ1) (hi : I s (wipeE ρ1 vs)) (h : lcT f xs s = some (out, s'))
    (hb : ∀ x s ρ o s', I s ρ → f x s = some (o, s') → ∃ ρ1 ρ2, t x ρ = .ok () ρ1 ∧ lcQ c fe vs (I s') ρ1 ρ2 o) : ∃ ρ', mLc fi t vs c fe ρ0 = .ok (.fr (.list out)) (restE ρ1 ρ' vs) ∧ I s' ρ' := by
  obtain ⟨⟨o1, s1⟩, h1, h2⟩ := ob h
  simp only at h2
  split at h2
  · cases h2
    obtain ⟨ρ', e, q⟩ := lcP_run I hb xs [] s (wipeE ρ1 vs) out s' hi h1 (by simpa using ‹_›)
    exact ⟨ρ', mLc_ok h0 e, q⟩
  · cases h2
theorem mapP_lc (f : D → Option D) : ∀ (xs out : List D), mapP f xs = some out → lcP (S := Unit) (fun x _ => (f x).map fun y => (some y, ())) xs () = some (out, ())
  | [], out, h => by cases h; rfl
  | x :: xs, out, h => by
    obtain ⟨y, h1, h2⟩ := ob h
    obtain ⟨ys, h3, h4⟩ := ob h2
    cases h4
    have := mapP_lc f xs ys h3
    simp only [lcP, h1, this, Option.map_some, Option.bind_some]
theorem filP_lc (f : D → Option (Option D)) : ∀ (xs out : List D), filP f xs = some out → lcP (S := Unit) (fun x _ => (f x).map fun y => (y, ())) xs () = some (out, ())
  | [], out, h => by cases h; rfl
  | x :: xs, out, h => by
    obtain ⟨y, h1, h2⟩ := ob h
    obtain ⟨ys, h3, h4⟩ := ob h2
    have := filP_lc f xs ys h3
    cases y <;> cases h4 <;> simp only [lcP, h1, this, Option.map_some, Option.bind_some]
theorem mapT_run {fi : M (List D)} {t : D → M Unit} {vs : List Nat} {c : M Bool} {fe : M D} {f : D → Option D} (I : Env → Prop)
    {ρ0 ρ1 : Env} {xs : List D} {out : List D} (h0 : fi ρ0 = .ok xs ρ1) (hi : I (wipeE ρ1 vs)) (h : mapT f xs = some out)
    (hb : ∀ x ρ y, I ρ → f x = some y → ∃ ρ1 ρ2 ρ3, t x ρ = .ok () ρ1 ∧ c ρ1 = .ok true ρ2 ∧ fe ρ2 = .ok y ρ3 ∧ I (wipeE ρ3 vs)) : ∃ ρ', mLc fi t vs c fe ρ0 = .ok (.fr (.list out)) (restE ρ1 ρ' vs) ∧ I ρ' := by
  obtain ⟨ys, h1, h2⟩ := ob h
  have hl : ys.length ≤ 100000 := by
    split at h2
    · assumption
    · cases h2
  rw [if_pos hl] at h2
  cases h2
  refine lcT_run (S := Unit) (fun _ ρ => I ρ) h0 hi (s' := ()) (s := ()) (by unfold lcT; rw [mapP_lc f xs out h1, Option.bind_some]; exact if_pos hl) fun x s ρ o s' hi' hf => ?_
  cases hfx : f x with
  | none => rw [hfx] at hf; cases hf
  | some y =>
    rw [hfx] at hf
    cases hf
    obtain ⟨ρa, ρb, ρc, e1, e2, e3, q⟩ := hb x ρ y hi' hfx
    exact ⟨ρa, ρb, e1, ρc, e2, e3, q⟩
theorem filT_run {fi : M (List D)} {t : D → M Unit} {vs : List Nat} {c : M Bool} {fe : M D} {f : D → Option (Option D)} (I : Env → Prop)
    {ρ0 ρ1 : Env} {xs : List D} {out : List D} (h0 : fi ρ0 = .ok xs ρ1) (hi : I (wipeE ρ1 vs)) (h : filT f xs = some out)
    (hb : ∀ x ρ o, I ρ → f x = some o → ∃ ρ1 ρ2, t x ρ = .ok () ρ1 ∧ lcQ c fe vs I ρ1 ρ2 o) : ∃ ρ', mLc fi t vs c fe ρ0 = .ok (.fr (.list out)) (restE ρ1 ρ' vs) ∧ I ρ' := by
  obtain ⟨ys, h1, h2⟩ := ob h
  have hl : ys.length ≤ 100000 := by
    split at h2
    · assumption
    · cases h2
  rw [if_pos hl] at h2
  cases h2
  refine lcT_run (S := Unit) (fun _ ρ => I ρ) h0 hi (s' := ()) (s := ()) (by unfold lcT; rw [filP_lc f xs out h1, Option.bind_some]; exact if_pos hl) fun x s ρ o s' hi' hf => ?_
  cases hfx : f x with
  | none => rw [hfx] at hf; cases hf
  | some y =>
    rw [hfx] at hf
    cases hf
    exact hb x ρ _ hi' hfx
end PL
/-! PL22: dicts with numbers as keys -/
namespace PL
open PySem PySem.Spec L2 RT RZ
def isKI : D → Int → Bool
  | .int j, i => decide (j = i)
  | _, _ => false
def lookD : List (D × D) → Int → Option D
  | [], _ => none
  | (k, d) :: r, i => if isKI k i = true then some d else lookD r i
def putD (ks : List (D × D)) (i : Int) (d : D) : List (D × D) := if (ks.any fun kv => isKI kv.1 i) = true then ks.map (fun kv => if isKI kv.1 i = true then (kv.1, d) else kv) else ks ++ [(.int i, d)]
theorem isKI_key (k : Key) (i : Int) : isKI (keyD k) i = decide (k = .inl i) := by
  cases k with
  | inl j => by_cases h : j = i <;> simp [keyD, isKI, h]
  | inr s => simp [keyD, isKI]
theorem valV_rpk {G : Hp} (i : Int) : ∀ {es : List (Key × V)} {ks : List (D × D)}, RpK G es ks → (∀ d, lookD ks i = some d → ∃ v, valV es (.inl i) = some v ∧ Rp G v d) ∧ (lookD ks i = none → valV es (.inl i) = none)
  | _, _, .nil => ⟨fun d h => (nomatch h), fun _ => rfl⟩
  | _, _, .cons (k := k) (v := v) (es := es) (d := d) (ks := ks) r rs => by
    have ih := valV_rpk i rs
    have hv : valV ((k, v) :: es) (.inl i) = if decide (k = .inl i) = true then some v else valV es (.inl i) := by
      unfold valV
      rw [List.find?_cons]
      cases decide (k = .inl i) <;> rfl
    unfold lookD
    rw [isKI_key, hv]
    cases decide (k = .inl i) with
    | true => exact ⟨fun d' h => ⟨v, rfl, by cases h; exact r⟩, fun h => by cases h⟩
    | false => exact ih
theorem any_rpk {G : Hp} (i : Int) : ∀ {es : List (Key × V)} {ks : List (D × D)}, RpK G es ks → (es.any fun kv => decide (kv.1 = .inl i)) = ks.any fun kv => isKI kv.1 i
  | _, _, .nil => rfl
  | _, _, .cons r rs => by rw [List.any_cons, List.any_cons, any_rpk i rs, isKI_key]
theorem map_rpk {G : Hp} (i : Int) {y : V} {x : D} (ry : Rp G y x) : ∀ {es : List (Key × V)} {ks : List (D × D)}, RpK G es ks → RpK G (es.map fun kv => if kv.1 = .inl i then (kv.1, y) else kv) (ks.map fun kv => if isKI kv.1 i = true then (kv.1, x) else kv)
  | _, _, .nil => .nil
  | _, _, .cons (k := k) r rs => by
    rw [List.map_cons, List.map_cons]
    dsimp only
    rw [isKI_key]
    by_cases h : k = .inl i
    · rw [if_pos h, if_pos (by simp [h])]; exact .cons ry (map_rpk i ry rs)
    · rw [if_neg h, if_neg (by simp [h])]; exact .cons r (map_rpk i ry rs)
theorem snoc_rpk {G : Hp} {k : Key} {y : V} {x : D} (ry : Rp G y x) : ∀ {es : List (Key × V)} {ks : List (D × D)}, RpK G es ks → RpK G (es ++ [(k, y)]) (ks ++ [(keyD k, x)])
  | _, _, .nil => .cons ry .nil
  | _, _, .cons r rs => .cons r (snoc_rpk ry rs)
theorem put_rpk {G : Hp} (i : Int) {y : V} {x : D} (ry : Rp G y x) {es : List (Key × V)} {ks : List (D × D)} (r : RpK G es ks) : RpK G (putK es (.inl i) y) (putD ks i x) := by
  unfold putK putD
  rw [any_rpk i r]
  split
  · exact map_rpk i ry r
  · exact snoc_rpk (k := .inl i) ry r
theorem len_rpk {G : Hp} : ∀ {es : List (Key × V)} {ks : List (D × D)}, RpK G es ks → es.length = ks.length
  | _, _, .nil => rfl
  | _, _, .cons _ rs => by rw [List.length_cons, List.length_cons, len_rpk rs]
/-! ### d[k] -/
def gIxA (d k : D) : Option D := match d with
  | .dict ks => match k with
    | .int i => lookD ks i
    | _ => none
  | d => gIx d k
def rIxD : R2 := fun x y H Q => ∃ a v, x = .ref a ∧ DGet H a y (some v) ∧ Q v H
theorem ix_dict {X : Cx} (hu : X.A.units + 1 < cLine) : IxR X rIxD := by
  intro value slice pins s σ H x y v u Q I rx ry q hs
  obtain ⟨a, w, ex, g, q⟩ := q
  subst ex
  cases (show v = Value.ref a from rx)
  exact PyProof.Rows.tail_any (dict_typeIs I g) PySem.F.slot_dict_getitem.lookup (d_getItem hu I g ry fun w' s3 I3 rw' => ⟨w, H, I3, rw', q⟩) hs
theorem pop_ixA {K : PySem.W.Frag} : POpV (fun x y H Q => rIx K x y H Q ∨ rIxD x y H Q) gIxA := by
  intro G H x y d e z Q gh s1 s2 hg q
  cases s1 with
  | @dct a es ks h r =>
    cases s2 with
    | int i =>
      obtain ⟨v, hv, rv⟩ := (valV_rpk i r).1 z hg
      exact .inr ⟨a, v, rfl, by rw [← hv]; exact DGet.k (k := .inl i) h, q v G H (Grow.refl gh) rv⟩
    | _ => cases hg
  | non => exact .inl (pop_ix G H _ _ _ _ z Q gh .non s2 hg q)
  | bl b => exact .inl (pop_ix G H _ _ _ _ z Q gh (.bl b) s2 hg q)
  | int i => exact .inl (pop_ix G H _ _ _ _ z Q gh (.int i) s2 hg q)
  | str i => exact .inl (pop_ix G H _ _ _ _ z Q gh (.str i) s2 hg q)
  | lst h r => exact .inl (pop_ix G H _ _ _ _ z Q gh (.lst h r) s2 hg q)
  | tup h r => exact .inl (pop_ix G H _ _ _ _ z Q gh (.tup h r) s2 hg q)
/-! ### d.get(k, x) -/
def isDct : D → Option Unit
  | .dict _ => some ()
  | _ => none
def get2D (d k x : D) : Option D := match d, k with
  | .dict ks, .int i => some ((lookD ks i).getD x)
  | _, _ => none
def mGet2 (go : M Pl) (fk fx : M D) : M D := bnd go fun p => bnd (look p) fun d0 => bnd (ofO (isDct d0)) fun _ => bnd fk fun k => bnd fx fun x => bnd (look p) fun d => ofO (get2D d k x)
section
variable {X : Cx} {a b o e f : Expr} {ga gb go : M Pl} {fk fx fb fd : M D} {pos pos' tpos apos cpos : Pos} {x : Str}
theorem pv_ixA (hu : X.A.units + 64 < cLine) (ha : PP X a ga) (hb : PP X b gb) (hs : PlainIx b := by intro _ _; rfl) : PV X (.Subscript a b pos) (mOp gIxA ga gb) := by
  obtain ⟨ta, ha, ra⟩ := ha
  obtain ⟨tb, hb, rb⟩ := hb
  exact ⟨_, pe_ix (IxR.or ix_seq (ix_dict (by omega))) ha hb hs, rd_op pop_ixA ra rb⟩
theorem pv_get2 (hu : X.A.units + 64 < cLine) (ho : PP X o go) (he : PV X e fk) (hf : PV X f fx) (m : M2 X o "get" apos e f cpos := by exact ⟨rfl, rfl, rfl, rfl⟩) :
    PV X (.Call (.Attribute o "get" apos) [e, f] [] cpos) (mGet2 go fk fx) := by
  obtain ⟨to, ho, ro⟩ := ho
  obtain ⟨te, he, re⟩ := he
  obtain ⟨tf, hf, rf⟩ := hf
  refine ⟨_, pe_dget2 (by omega) ho he hf m, fun C G σ H ρ Q hK S d ρ' hh q => ?_⟩
  obtain ⟨p, ρ1, h1, hh1⟩ := bnd_ok hh
  obtain ⟨d0, ρ2, h2, hh2⟩ := bnd_ok hh1
  obtain ⟨_, ρ3, h3, hh3⟩ := bnd_ok hh2
  obtain ⟨dk, ρ4, h4, hh4⟩ := bnd_ok hh3
  obtain ⟨dx, ρ5, h5, hh5⟩ := bnd_ok hh4
  obtain ⟨d1, ρ6, h6, hh6⟩ := bnd_ok hh5
  refine ro C G σ H ρ _ hK S p ρ1 h1 fun v G1 H1 g1 S1 o1 => ?_
  obtain ⟨sh, rfl⟩ := look_ok S1 o1 h2
  obtain ⟨hi, rfl⟩ := ofO_ok h3
  cases sh with
  | @dct A es ks hA rK =>
    refine ⟨A, rfl, .inl ⟨es, .inl hA⟩, ?_⟩
    refine re C G1 σ H1 _ _ hK S1 dk ρ4 h4 fun v2 G2 H2 g2 S2 o2 => ?_
    refine rf C G2 σ H2 _ _ hK S2 dx ρ5 h5 fun v3 G3 H3 g3 S3 o3 => ?_
    obtain ⟨sh2, rfl⟩ := look_ok S3 ((o1.mono g2).mono g3) h6
    obtain ⟨hz, rfl⟩ := ofO_ok hh6
    cases sh2 with
    | @dct _ es2 ks2 hA2 rK2 =>
      cases o2 with
      | int i =>
        cases hz
        refine ⟨valV es2 (.inl i), DGet.k (k := .inl i) hA2, ?_⟩
        obtain ⟨y1, y2⟩ := valV_rpk i rK2
        cases hl : lookD ks2 i with
        | none => rw [y2 hl]; exact q _ G3 H3 ((g1.trans g2).trans g3) S3 (by rw [hl]; exact o3)
        | some d =>
          obtain ⟨w, hw, rw1⟩ := y1 d hl
          rw [hw]
          exact q _ G3 H3 ((g1.trans g2).trans g3) S3 (by rw [hl]; exact rw1)
      | _ => cases hz
    | _ => cases hz
  | _ => cases hi
/-- {}, as an object of one's own -/
theorem pf_dict0 : PF X (.Dict [] [] pos) (mFr mDict0) := ⟨_, pe_dnewK, fun C G σ H ρ Q hK S d ρ' hf q => by
  cases hf
  intro p hp
  have w : Grow G H G (upd H p (.dK [])) := Grow.newF S.gh hp
  exact q _ _ _ (Same.refl _) (S.grow w) (fresh_ok S hp w (.dct upd_same .nil))⟩
/-! ### d[k] = x -/
def putAt (j : Nat) (d k : D) : M Fl := fun ρ => match ρ[j]? with
  | some (.own (.dict ks)) => match k with
    | .int i => if ks.length < 100000 then .ok .nx (ρ.set j (.own (.dict (putD ks i d)))) else .stuck
    | _ => .stuck
  | some (.io (.dict ks)) => match k with
    | .int i => if ks.length < 100000 then .ok .nx (ρ.set j (.io (.dict (putD ks i d)))) else .stuck
    | _ => .stuck
  | _ => .stuck
def mDPut (j : Nat) (fe fi : M D) : M Fl := bnd fe fun d => bnd (isOwn j) fun _ => bnd fi fun k => putAt j d k
theorem pst_dput {j : Nat} (hu : X.A.units + 64 < cLine) (he : PV X e fd) (hi : PV X b fb) (hN : X.N[j]? = some x := by rfl) (hv : Vis X.env.scope x := by first | exact Or.inl rfl | exact Or.inr (Or.inl rfl) | exact Or.inr (Or.inr rfl)) (hd : (x == ("__debug__" : Str)) = false := by decide)
    (hcd : (x == ("__classdict__" : Str)) = false := by decide) (ha : ∀ v, assign (.Subscript (.Name x pos') b tpos) X.env v = (do
      let ov ← holding [v] (eval (.Name x pos') X.env)
      let iv ← holding [v, ov] (eval b X.env)
      standAt tpos
      holding [v, ov, iv] (setItem ov iv v)
      release [v, ov, iv] []) := by intro _; rfl) (hs : swapsWithSole [.Subscript (.Name x pos') b tpos] e pos.line X.env = pure false := by rfl) (hw : swappedStores [.Subscript (.Name x pos') b tpos] e X.env = pure none := by rfl) :
    PSt X (.Assign [.Subscript (.Name x pos') b tpos] e pos) (mDPut j fd fb) := by
  obtain ⟨te, he, re⟩ := he
  obtain ⟨ti, hi, ri⟩ := hi
  refine ⟨_, ps_asg he (pg_sub (pe_var hN hv hd hcd) hi (set_dict (by omega)) ha) hs hw, fun C G σ H ρ D hK S fl ρ' hf q => ?_⟩
  obtain ⟨d, ρ1, h1, hf2⟩ := bnd_ok hf
  obtain ⟨_, ρ0, h0, hf3⟩ := bnd_ok hf2
  obtain ⟨kd, ρ2, h2, hf4⟩ := bnd_ok hf3
  refine re C G σ H ρ _ hK S d ρ1 h1 fun v G1 H1 g1 S1 o1 => ?_
  obtain ⟨a, ea, rfl⟩ := isOwn_ok S1 h0
  refine ⟨.ref a, ea, ?_⟩
  refine ri C G1 σ H1 _ _ hK S1 kd ρ2 h2 fun v2 G2 H2 g2 S2 o2 => ?_
  unfold putAt at hf4
  cases es : ρ2[j]? with
  | none => rw [es] at hf4; cases hf4
  | some s =>
    rw [es] at hf4
    obtain ⟨o, e1, q1⟩ := S2.sl j s es
    rw [ea] at e1
    cases e1
    cases o2 with
    | int n =>
      have fin : ∀ (ks : List (PL.D × PL.D)) (kvs : List (Key × V)), ks.length < 100000 → H2 a = some (.dK kvs) → RpK G2 kvs ks → (StOk C G2 σ (upd H2 a (.dK (putK kvs (.inl n) v))) ρ') → fl = .nx →
          ∃ a' H', (V.ref a : V) = .ref a' ∧ DPut H2 a' (.int n) v H' ∧ D.nx σ H' := fun ks kvs hl hA rK S3 hfl => by
        subst hfl
        exact ⟨a, _, rfl, DPut.k (k := .inl n) hA (by rw [len_rpk rK]; exact line_lt hl), q σ G2 _ (g1.trans g2) S3⟩
      cases s with
      | own dd =>
        obtain ⟨b', eb, sh, _⟩ := q1
        cases eb
        cases sh with
        | @dct _ kvs ks hA rK =>
          dsimp only at hf4
          by_cases hl : ks.length < 100000
          · rw [if_pos hl] at hf4
            cases hf4
            exact fin ks kvs hl hA rK (S2.mut es rfl ea (.inl ⟨_, rfl, _, rfl, .dct upd_same (put_rpk n (o1.mono g2) rK)⟩)) rfl
          · rw [if_neg hl] at hf4; cases hf4
        | _ => cases hf4
      | io dd =>
        obtain ⟨b', eb, sh, _⟩ := q1
        cases eb
        cases sh with
        | @dct _ kvs ks hA rK =>
          dsimp only at hf4
          by_cases hl : ks.length < 100000
          · rw [if_pos hl] at hf4
            cases hf4
            exact fin ks kvs hl hA rK (S2.mut es rfl ea (.inr ⟨_, rfl, _, rfl, .dct upd_same (put_rpk n (o1.mono g2) rK)⟩)) rfl
          · rw [if_neg hl] at hf4; cases hf4
        | _ => cases hf4
      | _ => cases hf4
    | _ =>
      exfalso
      cases s with
      | own dd => cases dd <;> cases hf4
      | io dd => cases dd <;> cases hf4
      | _ => cases hf4
end
/-! ### sorted(d) -/
def keyInts : List (D × D) → Option (List Int)
  | [] => some []
  | (.int i, _) :: r => (keyInts r).map (i :: ·)
  | _ => none
def gSortedA : List D → Option D
  | [.dict ks] => (keyInts ks).map fun ns => .list ((sortI ns).map .int)
  | l => gSorted l
theorem keyInts_ok {G : Hp} : ∀ {es : List (Key × V)} {ks : List (D × D)} {ns : List Int}, RpK G es ks → keyInts ks = some ns → es.map (·.1) = ns.map Sum.inl
  | _, _, _, .nil, h => by cases h; rfl
  | _, _, _, .cons (k := k) r rs, h => by
    cases k with
    | inr z => cases h
    | inl i =>
      have h : (keyInts _).map (i :: ·) = some _ := h
      obtain ⟨ns', e1, e2⟩ := Option.map_eq_some_iff.mp h
      subst e2
      rw [List.map_cons, List.map_cons, keyInts_ok rs e1]
theorem cr_orA {X : Cx} {c : Value} {r r' : List V → Hp → VK → Prop} (h : CallR X c r) (h' : CallR X c r') : CallR X c (fun xs H Q => r xs H Q ∨ r' xs H Q) := by
  intro pins s σ H xs us Q I rr q
  rcases q with q | q
  · exact h pins s σ H xs us Q I rr q
  · exact h' pins s σ H xs us Q I rr q
section
variable {X : Cx} {e : Expr} {es : List Expr} {pos p : Pos} {gs : M (List Pl)}
theorem pf_sortedA (hc : X.calm = true) (hg : Gl X "sorted") (hm : X.mg "sorted" = none) (ha : PPs X (e :: es) gs) (he : starEach (e :: es) X.env = (false, eval e X.env) :: starEach es X.env := by rfl) (hpl : (backTo pos (starEach es X.env)).any (·.1) = false := by rfl) :
    PF X (.Call (.Name "sorted" p) (e :: es) [] pos) (mFr (mN gSortedA gs)) := pf_b (cr_orA cr_sortedI (cr_sortedDI hc)) (fun G H vs ds z Q gh s hg q => by
  cases s with
  | nil => cases hg
  | cons h r => cases r with
    | cons _ _ => cases h <;> cases hg
    | nil => cases h with
      | @lst a xs ds h r =>
        simp only [gSortedA, gSorted] at hg
        cases qd : nums ds with
        | none => rw [qd] at hg; cases hg
        | some ns =>
          rw [qd] at hg
          cases hg
          have := nums_ok qd r
          subst this
          refine .inl ⟨a, ns, rfl, .inl (.inl h), fun ns' l hp hs hl => ?_⟩
          rw [sortI_one hp hs]
          exact q l _ hl (Grow.newF gh hl) (.lst upd_same (RpA.ints _))
      | @dct a kvs ks h r =>
        simp only [gSortedA] at hg
        cases qd : keyInts ks with
        | none => rw [qd] at hg; cases hg
        | some ns =>
          rw [qd] at hg
          cases hg
          refine .inr ⟨a, kvs, ns, rfl, h, keyInts_ok r qd, fun ns' l hp hs hl => ?_⟩
          rw [sortI_one hp hs]
          exact q l _ hl (Grow.newF gh hl) (.lst upd_same (RpA.ints _))
      | _ => cases hg) hg hm (by decide +kernel) ha (he := he) (hpl := hpl)
end
/-! ### the p-level's rules -/
def dputP (e k x : D) : Option D := match e, k with
  | .dict ks, .int i => if ks.length < 100000 then some (.dict (putD ks i x)) else none
  | _, _ => none
section
variable {ρ : Env} {j : Nat} {d : D}
@[simp] theorem s_get2 (go : M Pl) (fk fx : M D) : mGet2 go fk fx ρ = bnd go (fun p => bnd (look p) fun d0 => bnd (ofO (isDct d0)) fun _ => bnd fk fun k => bnd fx fun x => bnd (look p) fun d => ofO (get2D d k x)) ρ := rfl
@[simp] theorem s_mDPut (fe fi : M D) : mDPut j fe fi ρ = bnd fe (fun d => bnd (isOwn j) fun _ => bnd fi fun k => putAt j d k) ρ := rfl
@[simp] theorem s_putAt (k : D) : putAt j d k ρ = match ρ[j]? with
  | some (.own e) => rSetAt (fun d => ρ.set j (.own d)) (dputP e k d)
  | some (.io e) => rSetAt (fun d => ρ.set j (.io d)) (dputP e k d)
  | _ => .stuck := by
  unfold putAt
  cases ρ[j]? with
  | none => rfl
  | some s =>
    cases s with
    | own e => cases e with
      | dict ks => cases k with
        | int n => simp only [dputP]; by_cases h : ks.length < 100000 <;> simp only [h, if_true, if_false, rSetAt]
        | _ => rfl
      | _ => rfl
    | io e => cases e with
      | dict ks => cases k with
        | int n => simp only [dputP]; by_cases h : ks.length < 100000 <;> simp only [h, if_true, if_false, rSetAt]
        | _ => rfl
      | _ => rfl
    | _ => rfl
end
end PL
/-! PL23: sorted(set(xs)), xs a list of numbers -/
namespace L2
open PySem PySem.Spec PyProof.Rows
abbrev newSet (w : World) : Obj := { cls := .type "set", dict := none, data := .set #[] 0 (.fresh 0 0 (!w.params.followText "set-order")) }
section
variable {P : Program} {w : World} {A : Around} {E : Value → Shared → Prop} {s : Shared}
set_option maxHeartbeats 3200000 in
theorem set_of_list {l : Addr} {items : Array Value} (ns : List Int) {Q : Value → Shared → Prop} (hh : A.handled = none) (hl : s.heap.IsList l items) (hit : IntsAre items.toList ns) (hb : ns.length + 1 < scanBound)
    (h : ∀ (h' : Heap) (tk c : Nat), SetR w h' s.heap.objs.size (fun j => decide (j ∈ ns)) c → c ≤ ns.length → (∀ b o, s.heap.get? b = some o → h'.get? b = some o) → Q (.ref s.heap.objs.size) { s with heap := h', toks := tk }) :
    wpAny (model P w) A (call (.type "set") [.ref l]) Q E s := by
  have hisz : items.size = ns.length := by
    have q := IntsAre.length hit
    rw [Array.length_toList] at q
    exact q
  obtain ⟨c, tl, hmro⟩ := F.called_set.mro
  have hmade := F.called_set.made
  have hsub := F.called_set.sub
  refine wpAny_call (codeAny_of_tree ?_)
  show wpAny _ _ (callAny (.type "set") _) _ _ _
  refine wpAny_pure ⟨Code.quiet_builtin _ (by decide +kernel), codeAny_builtin F.entry_type_call ?_⟩
  rw [Around.under_plain (weight_type_call_type "set" [.ref l] []) rfl]
  have h1 := F.called_set.notType
  have h2 := F.called_set.canCreate
  have hct := F.typeCall_set_1 (.ref l)
  repeat (any_goals (first | assumption | wp_step))
  refine codeAny_mono (code_set_led1 (.ref l) (E := E) (Q₁ := fun obj s₁ => obj = .ref s.heap.objs.size ∧ s₁ = { s with heap := s.heap.push (newSet w) }) ⟨rfl, rfl⟩) fun r s₁ hr => ?_
  cases r with
  | error e => exact hr
  | ok fl =>
    cases fl with
    | ret obj =>
      obtain ⟨rfl, rfl⟩ := hr
      have hS : (s.heap.push (newSet w)).get? s.heap.objs.size = some (newSet w) := Heap.get?_push_size _ rfl
      have hT : Shared.TypeIs { s with heap := s.heap.push (newSet w) } (.ref s.heap.objs.size) "set" := ⟨_, hS, rfl⟩
      have hli := F.called_set.init.lookup
      have hbi := F.called_set.init.bind (.ref s.heap.objs.size)
      repeat (any_goals (first | assumption | wp_step))
      refine codeAny_mono (codeAny_call_builtin (R := wants (fun r s₂ => r = .none ∧ ∃ h' tk c, s₂ = { s with heap := h', toks := tk } ∧ SetR w h' s.heap.objs.size (fun j => decide (j ∈ ns)) c ∧ c ≤ ns.length ∧
          (∀ b o, s.heap.get? b = some o → h'.get? b = some o)) E) F.called_set.init.plain F.entry_set_init (check_set_init_1 hT ?_)) fun r₂ s₂ hr₂ => ?_
      · obtain ⟨ol, hol, hcl, nl, hdl⟩ := hl
        obtain ⟨ocls, odict, odata, oslots⟩ := ol
        simp only at hcl hdl
        subst hcl; subst hdl
        have hol' : (s.heap.push (newSet w)).get? l = some { cls := .type "list", dict := odict, data := .seq items nl, slots := oslots } := Heap.get?_push_of_some _ hol
        have hsls := F.sub_list_set
        have hslf := F.sub_list_frozenset
        have hne : (Value.type "list" == Value.type "dict") = false := by decide
        have hl1 : (s.heap.push (newSet w)).IsList l items := ⟨_, hol', rfl, nl, rfl⟩
        unfold Builtin.«set.__init__» noKeywords Builtin.Frozenset.updateFrom
        generalize hPI : pyIter = PI
        wp_walk
        subst hPI
        refine wpAny_pyIter_list hl1 ?_
        refine wpAny_bind (wpAny_runValue ?_)
        have hlS : l < s.heap.objs.size := Heap.lt_size hol
        have hh3 : A.in1.in1.in1.handled = none := by simp [hh]
        have hz1 : (s.heap.push (newSet w)).objs.size = s.heap.objs.size + 1 := Heap.size_push ..
        have hneI : l ≠ (s.heap.push (newSet w)).objs.size := by
          rw [Heap.size_push]; exact Nat.ne_of_lt (Nat.lt_succ_of_lt hlS)
        have hSf : s.heap.objs.size ∉ [(s.heap.push (newSet w)).objs.size, l] := by
          rw [Heap.size_push]; simp only [List.mem_cons, List.mem_singleton, List.not_mem_nil, or_false, not_or]
          exact ⟨Nat.ne_of_lt (Nat.lt_succ_self _), Nat.ne_of_gt hlS⟩
        have hval : ∀ (i : Nat) (v : Value), items[i]? = some v → ∃ k t, ns[i]? = some k ∧ v = .int k t := fun i v hv => by
          have hi : i < ns.length := by rw [← hisz]; exact (Array.getElem?_eq_some_iff.mp hv).1
          obtain ⟨t, e⟩ := PyProof.Rows.IntsAre.int_at hit i v (by rw [Array.getElem?_toList]; exact hv)
          refine ⟨ns[i], t, List.getElem?_eq_getElem hi, ?_⟩
          rw [e, List.getD_eq_getElem?_getD, List.getElem?_eq_getElem hi] <;> rfl
        refine set_update_ints ((Walks.list hh3 _ l hneI items).toS) s.heap.objs.size
          hSf ns hisz hb hval (items.size - 0) 0 _ (by omega) (Nat.zero_le _)
          ⟨⟨_, Heap.get?_push_size _ rfl, rfl, rfl⟩, (hl1.push _)⟩ ?hS0 ?hR
        case hS0 =>
          have hget : ((s.heap.push (newSet w)).push { cls := .type "list_iterator", data := .fields #[.ref l, .int 0 0] }).get? s.heap.objs.size
              = some (newSet w) := Heap.get?_push_of_some _ hS
          exact ⟨0, Nat.le_refl 0, setR_new_at hget⟩
        case hR =>
          intro s' c' hm hc' hS'
          obtain ⟨h', g2, d', tk', os'⟩ := s'
          have eg : g2 = s.gens := hm.gens
          have ed : d' = s.drawn := hm.drawn
          have eo : os' = s.os := hm.os
          subst eg; subst ed; subst eo
          show wpAny _ _ _ _ _ _
          refine wpAny_pure ?_
          show wpAny _ _ (ret Value.none) _ _ _
          rw [hisz] at hc'
          refine wpAny_pure ⟨rfl, h', tk', c', rfl, hS', hc', fun b o e => ?_⟩
          have hb0 : b < s.heap.objs.size := Heap.lt_size e
          have hb1 : b ≠ s.heap.objs.size := Nat.ne_of_lt hb0
          have hb2 : b ≠ (s.heap.push (newSet w)).objs.size := by
            rw [Heap.size_push]; exact Nat.ne_of_lt (Nat.lt_succ_of_lt hb0)
          exact hm.heap b o (by simp only [List.mem_cons, List.mem_singleton, List.not_mem_nil, or_false, not_or]; exact ⟨hb1, hb2⟩) (Heap.get?_push_of_some _ (Heap.get?_push_of_some _ e))
      · cases r₂ with
        | error e => exact hr₂
        | ok fl₂ =>
          cases fl₂ with
          | ret r =>
            obtain ⟨rfl, h', tk, c', rfl, hS', hc', hk'⟩ := hr₂
            repeat (any_goals (first | assumption | wp_step))
            exact h _ _ _ hS' hc' hk'
          | _ => exact hr₂.elim
    | _ => exact hr.elim
end
end L2
namespace L2
open PySem PySem.Spec PyProof.Rows
section
variable {P : Program} {w : World} {A : Around} {E : Value → Shared → Prop} {s : Shared}
/-- the set's members, in order -/
theorem sorted_set_any {a : Addr} {S : Int → Bool} {n : Nat} {Q : Value → Shared → Prop} (R : SetR w s.heap a S n) (hh : A.handled = none) (hz : n ≤ sizeLine)
    (fin : ∀ s' p (us : List Value) (c : Nat) (ks : List Int), (∀ b u, s.heap.get? b = some u → s'.heap.get? b = some u) → s'.gens = s.gens → s'.os = s.os → s.heap.objs.size ≤ p →
      s'.heap.get? p = some (seqObj "list" us.toArray c) → Vals (ks.map V.int) us → ks.length = n → ks.Pairwise (· < ·) → (∀ k, k ∈ ks ↔ S k = true) → Q (.ref p) s') :
    wpAny (model P w) A (call (.builtin "sorted") [.ref a]) Q E s := by
  obtain ⟨ob, es, ep, t, q1, q2, q3, good, nd, mem, few, fit, num, ris, led⟩ := R
  refine Calls.call_function_entry kind_sorted plain_sorted entry_sorted (args_sorted1 _) ?_
  unfold Builtin.«sorted»
  refine wpAny_bind (m := checkCount "sorted" 1 1 _) (wpAny_pure ?_)
  refine wpAny_bind (collect_set (A := A.in1) hh ⟨ob, q1, q2.1, q3⟩ fit few ris led fun s1 vs keep grow same os1 perm => ?_)
  have len : vs.length = n := by rw [perm.length_eq, List.length_map, Array.length_toList]; exact num
  have intsH : IntsAre vs (vs.map Builtin.Re.reRawOf) := ints_of vs fun v hv => by
    obtain ⟨x, hx, rfl⟩ := List.mem_map.mp (perm.mem_iff.mp hv)
    obtain ⟨k, tk, h1, _⟩ := good x hx
    exact ⟨k, tk, h1⟩
  have pk : (vs.map Builtin.Re.reRawOf).Perm (es.toList.map keyOf) := by
    have z := perm.map Builtin.Re.reRawOf
    rwa [List.map_map] at z
  refine wpAny_bind (wpAny_newList ?_ (by rw [len]; exact hz))
  have hoL : (s1.heap.push (seqObj "list" vs.toArray 0)).get? s1.heap.objs.size = some (seqObj "list" vs.toArray 0) := Heap.get?_push_size _ rfl
  refine wpAny_bind (wpAny_holding (wpAny_call_entry slot_list_sort ⟨_, hoL, rfl⟩ entry_list_sort
    (SrtO.list_sort_ord SrtO.swo_int hoL (by rw [len]; exact hz) (fun h2 => SrtO.ints_sortable intsH h2) fun out h1 h2 => ⟨_, rfl, ?_⟩)
    (args_list_sort _)))
  obtain ⟨k1, k2, k3⟩ := SrtO.ints_out intsH h1 h2
  obtain ⟨e', he'⟩ := sortedHeap_at (vs := vs) (out := out.toArray) hoL
  have pn : (out.map SrtO.iv).Perm (es.toList.map keyOf) := k2.trans pk
  refine wpAny_pure ⟨_, rfl, fin _ s1.heap.objs.size out _ (out.map SrtO.iv) (fun b u e => ?_) same os1 grow he' (vals_of_ints k1) ?_ (lt_of_le_nodup _ k3 (pn.nodup_iff.mpr nd)) fun k => by rw [pn.mem_iff, ← mem k]⟩
  · have q := keep b u e
    have lt := Heap.lt_size q
    rw [sortedHeap_old (Nat.ne_of_lt lt) (by rw [size_push']; exact Nat.lt_succ_of_lt lt)]
    exact Heap.get?_push_of_some _ q
  · rw [pn.length_eq, List.length_map, Array.length_toList]; exact num
end
end L2
namespace PL
open PySem PySem.Spec L2 PyProof.Rows RT RZ
def insU (x : Int) : List Int → List Int
  | [] => [x]
  | y :: ys => if x < y then x :: y :: ys else if x = y then y :: ys else y :: insU x ys
def uniqI (ns : List Int) : List Int := ns.foldr insU []
theorem insU_mem (x k : Int) : ∀ l : List Int, k ∈ insU x l ↔ k = x ∨ k ∈ l
  | [] => by simp [insU]
  | y :: ys => by
    unfold insU
    split
    · simp
    · split
      · rename_i h; subst h; simp
      · rw [List.mem_cons, insU_mem x k ys, List.mem_cons]
        constructor
        · rintro (h | h | h)
          · exact .inr (.inl h)
          · exact .inl h
          · exact .inr (.inr h)
        · rintro (h | h | h)
          · exact .inr (.inl h)
          · exact .inl h
          · exact .inr (.inr h)
theorem insU_lt (x : Int) : ∀ l : List Int, l.Pairwise (· < ·) → (insU x l).Pairwise (· < ·)
  | [], _ => by simp [insU]
  | y :: ys, h => by
    obtain ⟨h1, h2⟩ := List.pairwise_cons.mp h
    unfold insU
    split
    · rename_i hx
      refine List.pairwise_cons.mpr ⟨fun z hz => ?_, h⟩
      rcases List.mem_cons.mp hz with rfl | hz
      · exact hx
      · exact Int.lt_trans hx (h1 z hz)
    · split
      · exact h
      · rename_i a b
        refine List.pairwise_cons.mpr ⟨fun z hz => ?_, insU_lt x ys h2⟩
        rcases (insU_mem x z ys).mp hz with rfl | hz
        · omega
        · exact h1 z hz
theorem uniqI_mem (k : Int) : ∀ ns : List Int, k ∈ uniqI ns ↔ k ∈ ns
  | [] => by simp [uniqI]
  | n :: ns => by
    show k ∈ insU n (uniqI ns) ↔ _
    rw [insU_mem, uniqI_mem k ns, List.mem_cons]
theorem uniqI_lt : ∀ ns : List Int, (uniqI ns).Pairwise (· < ·)
  | [] => List.Pairwise.nil
  | n :: ns => insU_lt n _ (uniqI_lt ns)
theorem uniqI_one {ns ks : List Int} (h : ks.Pairwise (· < ·)) (m : ∀ k, k ∈ ks ↔ k ∈ ns) : ks = uniqI ns := by
  refine List.Perm.eq_of_pairwise (le := (· < ·)) (fun a b _ _ h1 h2 => by omega) h (uniqI_lt ns) ?_
  refine (List.perm_ext_iff_of_nodup (h.imp fun x => by omega) ((uniqI_lt ns).imp fun x => by omega)).mpr fun k => ?_
  rw [m k, uniqI_mem]
def gSortSet : D → Option D
  | .list ds => if ds.length ≤ 4000 then (nums ds).map fun ns => .list ((uniqI ns).map .int) else none
  | _ => none
def tSortSet (K : PySem.W.Frag) (t : TE) : TE := fun σ H Q => t σ H fun x H1 => ∃ a ns, x = .ref a ∧ SqL K H1 a (ns.map V.int) ∧ ns.length ≤ 4000 ∧ ∀ p, H1 p = none → Q (.ref p) (upd H1 p (.lst ((uniqI ns).map V.int)))
section
variable {X : Cx} {e : Expr} {g : M Pl} {t : TE} {p p2 pos pos2 : Pos}
theorem pe_sortSet (hc : X.calm = true) (hg : Gl X "sorted") (hm : X.mg "sorted" = none) (hg2 : Gl X "set") (hm2 : X.mg "set" = none) (h : PE X e t) (n1 : starEach [e] X.env = (false, eval e X.env) :: starEach [] X.env := by rfl)
    (n2 : starEach [.Call (.Name "set" p2) [e] [] pos2] X.env = (false, eval (.Call (.Name "set" p2) [e] [] pos2) X.env) :: starEach [] X.env := by rfl) :
    PE X (.Call (.Name "sorted" p) [.Call (.Name "set" p2) [e] [] pos2] [] pos) (tSortSet X.K t) := by
  refine ⟨fun pins s σ H Q I hq => ?_⟩
  have hset : wpAny (model X.prog X.w) X.A (eval (.Call (.Name "set" p2) [e] [] pos2) X.env) (fun u s2 => ∃ a ns H1 L c, u = .ref a ∧ SetR X.w s2.heap a (fun j => decide (j ∈ ns)) c ∧ c ≤ ns.length ∧ ns.length ≤ 4000 ∧ L2.Inv X pins σ H1 s2 ∧ L = ns ∧
      ∀ p, H1 p = none → Q (.ref p) (upd H1 p (.lst ((uniqI ns).map V.int)))) X.xe s := by
    refine Call_ (ld_blt I hg2 hm2 (show bootBuiltins ("set" : Str) = some (.type "set") from by decide +kernel) (PyProof.Rows.callWith_type1 (one_arg h I hq (fun v s2 x H2 I2 rx q => ?_) n1) n1))
    obtain ⟨a, ns, rfl, sq, hl, q⟩ := q
    cases (show v = Value.ref a from rx)
    obtain ⟨its, rv, pt, hz⟩ := I2.list sq
    have hi : IntsAre its.toArray.toList ns := ints_of_vals rv
    exact set_of_list ns (I2.ok.hd hc) pt.isList hi (by unfold scanBound; omega) fun h' tk c R1 hcn k => ⟨_, ns, H2, ns, c, rfl, R1, hcn, hl, I2.kept k, rfl, q⟩
  refine Call_ (ld_blt I hg hm (show bootBuiltins ("sorted" : Str) = some (.builtin "sorted") from by decide +kernel) (PyProof.Rows.callWith_builtin1 (args_cons (thn hset fun u s2 hu => args_nil ?_) n2) n2))
  obtain ⟨a, ns, H1, _, c, rfl, R1, hcn, hl, I1, _, q⟩ := hu
  refine sorted_set_any R1 (I1.ok.hd hc) (by rw [sizeLine_eq]; omega) fun s' p' us cc ks keep gens os big hp rv hlen hlt hmem => ?_
  have eks : ks = uniqI ns := uniqI_one hlt fun k => by rw [hmem k, decide_eq_true_eq]
  subst eks
  have new : ObjOk X.prog X.w (upd H1 p' (.lst ((uniqI ns).map V.int))) s'.heap p' (.lst ((uniqI ns).map V.int)) := ⟨by rw [List.length_map, hlen, sizeLine_eq]; omega, us, cc, rv, hp⟩
  have I2 : L2.Inv X pins σ (upd H1 p' (.lst ((uniqI ns).map V.int))) s' := I1.call' (ch := []) os (Un.laid keep big (I1.hok.fresh big)) (I1.hok.laid keep big new) (by rw [gens]; exact I1.bare) (fun _ z => nomatch z)
  exact ⟨.ref p', _, I2, rfl, q p' (I1.hok.fresh big)⟩
theorem pf_sortSet (hc : X.calm = true) (hg : Gl X "sorted") (hm : X.mg "sorted" = none) (hg2 : Gl X "set") (hm2 : X.mg "set" = none) (h : PP X e g) (n1 : starEach [e] X.env = (false, eval e X.env) :: starEach [] X.env := by rfl)
    (n2 : starEach [.Call (.Name "set" p2) [e] [] pos2] X.env = (false, eval (.Call (.Name "set" p2) [e] [] pos2) X.env) :: starEach [] X.env := by rfl) :
    PF X (.Call (.Name "sorted" p) [.Call (.Name "set" p2) [e] [] pos2] [] pos) (mFr (mUn gSortSet g)) := by
  obtain ⟨t, h, r⟩ := h
  refine ⟨_, pe_sortSet hc hg hm hg2 hm2 h n1 n2, fun C G σ H ρ Q hK S d ρ' hf q => ?_⟩
  obtain ⟨d', ρ0, hf0, h0⟩ := bnd_ok hf
  cases h0
  obtain ⟨pl, ρ1, h1, hf1⟩ := bnd_ok hf0
  obtain ⟨dd, ρ2, h2, hf2⟩ := bnd_ok hf1
  obtain ⟨hz, rfl⟩ := ofO_ok hf2
  refine r C G σ H ρ _ hK S pl ρ1 h1 fun v G1 H1 g1 S1 o => ?_
  obtain ⟨sh, rfl⟩ := look_ok S1 o h2
  cases sh with
  | @lst a xs ds hA rA =>
    have hz : (if ds.length ≤ 4000 then (nums ds).map fun ns => PyData.list ((uniqI ns).map .int) else none) = some d' := hz
    by_cases hl : ds.length ≤ 4000
    · rw [if_pos hl] at hz
      cases qd : nums ds with
      | none => rw [qd] at hz; cases hz
      | some ns =>
        rw [qd] at hz
        cases hz
        have e := nums_ok qd rA
        subst e
        refine ⟨a, ns, rfl, .inl (.inl hA), ?_, fun p hp => ?_⟩
        · rw [← rA.length, List.length_map] at hl; exact hl
        · have w : Grow G1 H1 G1 (upd H1 p (.lst ((uniqI ns).map V.int))) := Grow.newF S1.gh hp
          exact q _ _ _ g1 (S1.grow w) (fresh_ok S1 hp w (.lst upd_same (RpA.ints _)))
    · rw [if_neg hl] at hz; cases hz
  | _ => cases hz
end
end PL
/-! PL25: zip of three lists. -/
namespace PL
open PySem PySem.Spec PyProof.Rows L2
def Itz3 (K : PySem.W.Frag) (a b c : Addr) : It :=
  ⟨fun i H => ∃ (xs ys zs : List V) (x y z : V), SqL K H a xs ∧ SqL K H b ys ∧ SqL K H c zs ∧ xs[i]? = some x ∧ ys[i]? = some y ∧ zs[i]? = some z,
    fun i H v H' => ∃ T x y z, v = .ref T ∧ H T = none ∧ H' = upd H T (.tup [x, y, z]) ∧ (∀ xs, SqL K H a xs → xs[i]? = some x) ∧ (∀ ys, SqL K H b ys → ys[i]? = some y) ∧ ∀ zs, SqL K H c zs → zs[i]? = some z,
    fun i H => ∃ xs ys zs : List V, SqL K H a xs ∧ SqL K H b ys ∧ SqL K H c zs ∧ i ≤ xs.length ∧ i ≤ ys.length ∧ i ≤ zs.length ∧ (i = xs.length ∨ i = ys.length ∨ i = zs.length)⟩
theorem turn_zip3 {P : Program} {w : World} {K : PySem.W.Frag} {elts : List Expr} {kk : Nat} {tpos : Pos} {a b c z TI TO i1 i2 i3 : Addr} (D : ZipSep3 z TI TO i1 i2 i3 [i1, a] [i2, b] [i3, c]) :
    Turn P w K (.Tuple elts kk tpos) (Itz3 K a b c) [z, TI, TO, i1, i2, i3] z (fun i h => IsZip h z TI TO .none ∧ IsTupOf3 h TI (.ref i1) (.ref i2) (.ref i3) ∧ (∃ x y u, IsTupOf3 h TO x y u) ∧ h.IsListIter i1 a i ∧ h.IsListIter i2 b i ∧ h.IsListIter i3 c i) where
  mem := by simp
  obj := fun i h st q hq => by
    obtain ⟨hz, hTI, ⟨x, y, u, hTO⟩, ⟨o1, e1, _, d1⟩, ⟨o2, e2, _, d2⟩, ⟨o3, e3, _, d3⟩⟩ := st
    have e' : q = z ∨ q = TI ∨ q = TO ∨ q = i1 ∨ q = i2 ∨ q = i3 := by simpa using hq
    rcases e' with r | r | r | r | r | r
    · rw [r]; exact ⟨_, hz, fun v q => nomatch q⟩
    · rw [r]; exact ⟨_, hTI, fun v q => nomatch q⟩
    · rw [r]; exact ⟨_, hTO, fun v q => nomatch q⟩
    · rw [r]; exact ⟨o1, e1, fun v q => by rw [d1] at q; cases q⟩
    · rw [r]; exact ⟨o2, e2, fun v q => by rw [d2] at q; cases q⟩
    · rw [r]; exact ⟨o3, e3, fun v q => by rw [d3] at q; cases q⟩
  keep := fun i h h' st k => by
    obtain ⟨hz, hTI, ⟨x, y, u, hTO⟩, h1, h2, h3⟩ := st
    exact ⟨k z (by simp) _ hz, k TI (by simp) _ hTI, ⟨x, y, u, k TO (by simp) _ hTO⟩, h1.at fun o q => k i1 (by simp) o q, h2.at fun o q => k i2 (by simp) o q, h3.at fun o q => k i3 (by simp) o q⟩
  item := by
    intro X hP hw hK hc i pins s σ H E I hf st hg
    subst hP hw hK
    obtain ⟨hz, hTI, ⟨x0, y0, u0, hTO⟩, h1, h2, h3⟩ := st
    obtain ⟨xs, ys, zs, x, y, u, hqx, hqy, hqu, hx, hy, hu⟩ := hg
    obtain ⟨its, rv, p, _⟩ := I.list hqx
    obtain ⟨its2, rv2, p2, _⟩ := I.list hqy
    obtain ⟨its3, rv3, p3, _⟩ := I.list hqu
    obtain ⟨w1, hw1, rw1⟩ := rv.get hx
    obtain ⟨w2, hw2, rw2⟩ := rv2.get hy
    obtain ⟨w3, hw3, rw3⟩ := rv3.get hu
    have hh : X.A.in1.handled = none := I.ok.hd hc
    have n1 : a ≠ i1 := fun e => by
      obtain ⟨o, e1, c1, _⟩ := h1
      obtain ⟨o', e2, c2, _⟩ := p.isList
      rw [e, e1] at e2; cases e2
      rw [c1] at c2; simp at c2
    have n2 : b ≠ i2 := fun e => by
      obtain ⟨o, e1, c1, _⟩ := h2
      obtain ⟨o', e2, c2, _⟩ := p2.isList
      rw [e, e1] at e2; cases e2
      rw [c1] at c2; simp at c2
    have n3 : c ≠ i3 := fun e => by
      obtain ⟨o, e1, c1, _⟩ := h3
      obtain ⟨o', e2, c2, _⟩ := p3.isList
      rw [e, e1] at e2; cases e2
      rw [c1] at c2; simp at c2
    have l1 : i < its.toArray.size := by
      have := (List.getElem?_eq_some_iff.mp hw1).1
      simpa using this
    have l2 : i < its2.toArray.size := by
      have := (List.getElem?_eq_some_iff.mp hw2).1
      simpa using this
    have l3 : i < its3.toArray.size := by
      have := (List.getElem?_eq_some_iff.mp hw3).1
      simpa using this
    have hzl : z < s.heap.objs.size := Heap.lt_size hz
    refine wpAny_pyNext_zipD3_item D (Draws.list hh i1 a n1 its.toArray) (Draws.list hh i2 b n2 its2.toArray) (Draws.list hh i3 c n3 its3.toArray) hz hTI hTO ⟨h1, p.isList⟩ ⟨h2, p2.isList⟩ ⟨h3, p3.isList⟩ l1 l2 l3 fun x1 x2 x3 h' tk q1 q2 q3 z' TO' h1' h2' h3' hT hsz hk => ?_
    have e1 : x1 = w1 := by
      have q : its.toArray[i]? = some x1 := q1
      rw [show its.toArray[i]? = its[i]? from by simp, hw1] at q
      exact (Option.some.inj q).symm
    have e2 : x2 = w2 := by
      have q : its2.toArray[i]? = some x2 := q2
      rw [show its2.toArray[i]? = its2[i]? from by simp, hw2] at q
      exact (Option.some.inj q).symm
    have e3 : x3 = w3 := by
      have q : its3.toArray[i]? = some x3 := q3
      rw [show its3.toArray[i]? = its3[i]? from by simp, hw3] at q
      exact (Option.some.inj q).symm
    subst e1; subst e2; subst e3
    refine ⟨_, rfl, wpAny_letOwnedTupleGo_zip (s := { s with heap := h', toks := tk }) z' fun h'' z'' sb => ?_⟩
    have hT2 : h''.get? s.heap.objs.size = some { cls := .type "tuple", data := .seq #[x1, x2, x3] } := (sb.2 _ (Nat.ne_of_gt hzl)).trans hT
    have new : ObjOk X.prog X.w (upd H s.heap.objs.size (.tup [x, y, u])) h'' s.heap.objs.size (.tup [x, y, u]) :=
      ⟨by show 3 ≤ sizeLine; decide, [x1, x2, x3], .cons rw1 (.cons rw2 (.cons rw3 .nil)), ⟨_, hT2, rfl, _, rfl⟩⟩
    have I1 : Inv X pins σ (upd H s.heap.objs.size (.tup [x, y, u])) { s with heap := h'', toks := tk } :=
      I.turnedNew (t' := tk) (ch := [z, TI, TO, i1, i2, i3]) (fun q o hb e => (sb.2 q (fun q' => hb (by simp [q']))).trans (hk q o (fun q' => hb (by simp [q'])) (fun q' => hb (by simp [q'])) (fun q' => hb (by simp [q'])) (fun q' => hb (by simp [q'])) (fun q' => hb (by simp [q'])) e)) hf (Nat.le_refl _) new
    refine ⟨.ref s.heap.objs.size, _, I1, rfl, ⟨_, x, y, u, rfl, I.hok.fresh (Nat.le_refl _), rfl, fun l hl => by rw [I.list_inj hl hqx]; exact hx, fun l hl => by rw [I.list_inj hl hqy]; exact hy, fun l hl => by rw [I.list_inj hl hqu]; exact hu⟩, ⟨z'', ?_, ⟨x1, x2, x3, ?_⟩, ?_, ?_, ?_⟩, fun q hcm => ?_⟩
    · exact (sb.2 _ D.TIz).trans (hk _ _ D.TIz D.TITO D.TIi1 D.TIi2 D.TIi3 hTI)
    · exact (sb.2 _ D.TOz).trans TO'
    · exact h1'.1.at fun o q => (sb.2 _ D.zi1.symm).trans q
    · exact h2'.1.at fun o q => (sb.2 _ D.zi2.symm).trans q
    · exact h3'.1.at fun o q => (sb.2 _ D.zi3.symm).trans q
    · have hlt : q < s.heap.objs.size := by
        have e' : q = z ∨ q = TI ∨ q = TO ∨ q = i1 ∨ q = i2 ∨ q = i3 := by simpa using hcm
        rcases e' with r | r | r | r | r | r
        · rw [r]; exact hzl
        · rw [r]; exact Heap.lt_size hTI
        · rw [r]; exact Heap.lt_size hTO
        · rw [r]; obtain ⟨_, e1, _⟩ := h1; exact Heap.lt_size e1
        · rw [r]; obtain ⟨_, e2, _⟩ := h2; exact Heap.lt_size e2
        · rw [r]; obtain ⟨_, e3, _⟩ := h3; exact Heap.lt_size e3
      rw [upd_ne (Nat.ne_of_lt hlt)]
      exact (hf q hcm).1
  done := by
    intro X hP hw hK hc i pins s σ H E I hf st hg
    subst hP hw hK
    obtain ⟨hz, hTI, ⟨x0, y0, u0, hTO⟩, h1, h2, h3⟩ := st
    obtain ⟨xs, ys, zs, hqx, hqy, hqu, k1, k2, k3, hend⟩ := hg
    obtain ⟨its, rv, p, _⟩ := I.list hqx
    obtain ⟨its2, rv2, p2, _⟩ := I.list hqy
    obtain ⟨its3, rv3, p3, _⟩ := I.list hqu
    have hh : X.A.in1.handled = none := I.ok.hd hc
    have n1 : a ≠ i1 := fun e => by
      obtain ⟨o, e1, c1, _⟩ := h1
      obtain ⟨o', e2, c2, _⟩ := p.isList
      rw [e, e1] at e2; cases e2
      rw [c1] at c2; simp at c2
    have n2 : b ≠ i2 := fun e => by
      obtain ⟨o, e1, c1, _⟩ := h2
      obtain ⟨o', e2, c2, _⟩ := p2.isList
      rw [e, e1] at e2; cases e2
      rw [c1] at c2; simp at c2
    have n3 : c ≠ i3 := fun e => by
      obtain ⟨o, e1, c1, _⟩ := h3
      obtain ⟨o', e2, c2, _⟩ := p3.isList
      rw [e, e1] at e2; cases e2
      rw [c1] at c2; simp at c2
    have l1 := rv.length
    have l2 := rv2.length
    have l3 := rv3.length
    exact wpAny_pyNext_zipD3_end D (Draws.list hh i1 a n1 its.toArray) (Draws.list hh i2 b n2 its2.toArray) (Draws.list hh i3 c n3 its3.toArray) hz hTI hTO ⟨h1, p.isList⟩ ⟨h2, p2.isList⟩ ⟨h3, p3.isList⟩
      (by simp; omega) (by simp; omega) (by simp; omega) (by simp; omega) fun h' tk hk => ⟨rfl, I.turnedL (t' := tk) (ch := [z, TI, TO, i1, i2, i3]) (fun q o hb e =>
      hk q o (fun q' => hb (by simp [q'])) (fun q' => hb (by simp [q'])) (fun q' => hb (by simp [q'])) (fun q' => hb (by simp [q'])) (fun q' => hb (by simp [q'])) e) hf⟩
  self := fun A i s Q E st h => wpAny_pyIter_zip st.1 h
def iZip3 (K : PySem.W.Frag) (ta : TA) : TI := fun σ H R => ta σ H fun vs H1 => ∃ a b c xs ys zs, vs = [.ref a, .ref b, .ref c] ∧ SqL K H1 a xs ∧ SqL K H1 b ys ∧ SqL K H1 c zs ∧ R (Itz3 K a b c) H1
theorem pi_zip3 {X : Cx} {e e2 e3 : Expr} {ta : TA} {p pos tpos : Pos} {elts : List Expr} {kk : Nat} (hg : Gl X "zip") (hm : X.mg "zip" = none) (ha : PA X [e, e2, e3] ta)
    (hs : starEach [e, e2, e3] X.env = (false, eval e X.env) :: starEach [e2, e3] X.env := by rfl) (hpl : (backTo pos (starEach [e2, e3] X.env)).any (·.1) = false := by rfl) :
    PI X (.Tuple elts kk tpos) (.Call (.Name "zip" p) [e, e2, e3] [] pos) (iZip3 X.K ta) := by
  refine ⟨fun pins s σ H R I h => ?_⟩
  refine Call_ (ld_blt I hg hm PyProof.Rows.boot_zip (PyProof.Rows.callWith_type1 (thn (ha.run pos pins s σ H _ I h) fun us s1 ⟨vs, H1, I1, r1, q1⟩ => ?_) hs hpl))
  obtain ⟨a, b, c, xs, ys, zs, ex, hqx, hqy, hqu, q⟩ := q1
  subst ex
  cases r1 with
  | cons r rr =>
    cases rr with
    | cons r' rr =>
      cases rr with
      | cons r'' rr =>
      cases rr
      cases r
      cases r'
      cases r''
      obtain ⟨its, rv, p1, _⟩ := I1.list hqx
      obtain ⟨its2, rv2, p2, _⟩ := I1.list hqy
      obtain ⟨its3, rv3, p3, _⟩ := I1.list hqu
      refine zip_begins3 (begins_list a its.toArray) (begins_list b its2.toArray) (begins_list c its3.toArray) p1.isList p2.isList p3.isList fun h' hz hTI hTO g1 g2 g3 hsz hk => wpAny_pyIter_zip hz ?_
      have I2 : Inv X pins σ H1 { s1 with heap := h' } := I1.kept (t' := s1.toks) hk
      have la : a < s1.heap.objs.size := p1.lt
      have lb : b < s1.heap.objs.size := p2.lt
      have lc : c < s1.heap.objs.size := p3.lt
      have S := zip_sep3 (N := s1.heap.objs.size) (fp1 := [a]) (fp2 := [b]) (fp3 := [c]) (by simpa using la) (by simpa using lb) (by simpa using lc)
      refine ⟨s1.heap.objs.size + 5, [s1.heap.objs.size + 5, s1.heap.objs.size + 3, s1.heap.objs.size + 4, s1.heap.objs.size, s1.heap.objs.size + 1, s1.heap.objs.size + 2], _, _, H1, rfl, I2, turn_zip3 S, ⟨hz, hTI, ⟨_, _, _, hTO⟩, ⟨_, g1, rfl, rfl⟩, ⟨_, g2, rfl, rfl⟩, ⟨_, g3, rfl, rfl⟩⟩, fun d hd => ?_, q⟩
      have e' : d = s1.heap.objs.size + 5 ∨ d = s1.heap.objs.size + 3 ∨ d = s1.heap.objs.size + 4 ∨ d = s1.heap.objs.size ∨ d = s1.heap.objs.size + 1 ∨ d = s1.heap.objs.size + 2 := by simpa using hd
      have hle : s1.heap.objs.size ≤ d := by
        rcases e' with z | z | z | z | z | z
        · rw [z]; exact Nat.le_add_right _ _
        · rw [z]; exact Nat.le_add_right _ _
        · rw [z]; exact Nat.le_add_right _ _
        · rw [z]; exact Nat.le_refl _
        · rw [z]; exact Nat.le_add_right _ _
        · rw [z]; exact Nat.le_add_right _ _
      exact I1.fpOk hle (I1.hok.fresh hle)
def z3 : List D → List D → List D → List D
  | a :: as, b :: bs, c :: cs => .tuple [a, b, c] :: z3 as bs cs
  | _, _, _ => []
theorem z3_len : ∀ as bs cs : List D, (z3 as bs cs).length = min (min as.length bs.length) cs.length
  | [], _, _ => by simp [z3]
  | _ :: _, [], _ => by simp [z3]
  | _ :: _, _ :: _, [] => by simp [z3]
  | a :: as, b :: bs, c :: cs => by simp only [z3, List.length_cons, z3_len as bs cs]; omega
theorem z3_get : ∀ {as bs cs : List D} {i : Nat} {d : D}, (z3 as bs cs)[i]? = some d → ∃ a b c, as[i]? = some a ∧ bs[i]? = some b ∧ cs[i]? = some c ∧ d = .tuple [a, b, c]
  | [], _, _, _, _, h => by simp [z3] at h
  | _ :: _, [], _, _, _, h => by simp [z3] at h
  | _ :: _, _ :: _, [], _, _, h => by simp [z3] at h
  | a :: as, b :: bs, c :: cs, 0, d, h => by simp [z3] at h; exact ⟨a, b, c, rfl, rfl, rfl, h.symm⟩
  | a :: as, b :: bs, c :: cs, i + 1, d, h => by
    have h' : (z3 as bs cs)[i]? = some d := by simpa [z3] using h
    simpa using z3_get h'
theorem JOk.zip3 {K : PySem.W.Frag} {B G1 : Hp} {a b c : Addr} {xs ys zs : List V} {ds es fs : List D} (s1 : ∀ G H, Same B H → Same G1 G → Same G H → SqL K H a xs) (r1 : RpA G1 xs ds) (s2 : ∀ G H, Same B H → Same G1 G → Same G H → SqL K H b ys) (r2 : RpA G1 ys es)
    (s3 : ∀ G H, Same B H → Same G1 G → Same G H → SqL K H c zs) (r3 : RpA G1 zs fs) : JOk (Itz3 K a b c) B G1 (z3 ds es fs) where
  go := fun i G H q g gh hi => by
    rw [z3_len] at hi
    obtain ⟨v, hv, _⟩ := r1.get (List.getElem?_eq_getElem (show i < ds.length by omega))
    obtain ⟨u, hu, _⟩ := r2.get (List.getElem?_eq_getElem (show i < es.length by omega))
    obtain ⟨t, ht, _⟩ := r3.get (List.getElem?_eq_getElem (show i < fs.length by omega))
    exact ⟨xs, ys, zs, v, u, t, s1 G H q g gh, s2 G H q g gh, s3 G H q g gh, hv, hu, ht⟩
  yld := fun i G H x H' d q g gh hd hy => by
    obtain ⟨T, x', y', u', rfl, hT, rfl, f1, f2, f3⟩ := hy
    obtain ⟨d1, d2, d3, q1, q2, q3, rfl⟩ := z3_get hd
    obtain ⟨v, hv, rv⟩ := r1.get q1
    obtain ⟨u, hu, ru⟩ := r2.get q2
    obtain ⟨t, ht, rt⟩ := r3.get q3
    have e1 := f1 xs (s1 G _ q g gh)
    rw [hv] at e1; cases e1
    have e2 := f2 ys (s2 G _ q g gh)
    rw [hu] at e2; cases e2
    have e3 := f3 zs (s3 G _ q g gh)
    rw [ht] at e3; cases e3
    have w := Grow.new (o := .tup [x', y', u']) gh hT
    exact ⟨_, w, .tup upd_same (.cons (rv.mono (g.trans w.g)) (.cons (ru.mono (g.trans w.g)) (.one (rt.mono (g.trans w.g)))))⟩
  stop := fun G H q g gh => ⟨xs, ys, zs, s1 G H q g gh, s2 G H q g gh, s3 G H q g gh, by rw [z3_len, r1.length]; omega, by rw [z3_len, r2.length]; omega, by rw [z3_len, r3.length]; omega, by rw [z3_len, r1.length, r2.length, r3.length]; omega⟩
def mZip3 (f g h : M Pl) : M (List D) := bnd f fun p => bnd g fun q => bnd h fun r => bnd (seqAt p) fun ds => bnd (seqAt q) fun es => bnd (seqAt r) fun fs => if (!ds.1 && !es.1 && !fs.1) = true then ret (z3 ds.2 es.2 fs.2) else fun _ => .stuck
theorem pit_zip3 {X : Cx} {a b c : Expr} {ga gb gc : M Pl} {p pos tpos : Pos} {elts : List Expr} {kk : Nat} (hg : Gl X "zip") (hm : X.mg "zip" = none) (h : PP X a ga) (h2 : PP X b gb) (h3 : PP X c gc)
    (hs : starEach [a, b, c] X.env = (false, eval a X.env) :: starEach [b, c] X.env := by rfl) (hs2 : starEach [b, c] X.env = (false, eval b X.env) :: starEach [c] X.env := by rfl) (hs3 : starEach [c] X.env = (false, eval c X.env) :: starEach [] X.env := by rfl) (hpl : (backTo pos (starEach [b, c] X.env)).any (·.1) = false := by rfl) :
    PIt X (.Tuple elts kk tpos) (.Call (.Name "zip" p) [a, b, c] [] pos) (mZip3 ga gb gc) := by
  obtain ⟨t, h, r⟩ := h
  obtain ⟨u, h2, r2⟩ := h2
  obtain ⟨v, h3, r3⟩ := h3
  refine ⟨_, pi_zip3 hg hm (pa_cons h (pa_cons h2 (pa_cons h3 pa_nil hs3) hs2) hs) hs hpl, fun C G σ H ρ R hK S ds ρ' hf q => ?_⟩
  obtain ⟨p1, ρ1, k1, hf⟩ := bnd_ok hf
  obtain ⟨p2, ρ2, k2, hf⟩ := bnd_ok hf
  obtain ⟨p3, ρ3, k3, hf⟩ := bnd_ok hf
  obtain ⟨d1, ρ4, k4, hf⟩ := bnd_ok hf
  obtain ⟨d2, ρ5, k5, hf⟩ := bnd_ok hf
  obtain ⟨d3, ρ6, k6, hf⟩ := bnd_ok hf
  by_cases hk : (!d1.1 && !d2.1 && !d3.1) = true
  · simp only [hk, if_true] at hf
    cases hf
    simp only [Bool.and_eq_true, Bool.not_eq_true'] at hk
    obtain ⟨⟨b1, b2⟩, b3⟩ := hk
    refine r C G σ H ρ _ hK S p1 ρ1 k1 fun v1 G1 H1 g1 S1 o => ?_
    refine r2 C G1 σ H1 ρ1 _ hK S1 p2 ρ2 k2 fun v2 G2 H2 g2 S2 o2 => ?_
    refine r3 C G2 σ H2 ρ2 _ hK S2 p3 ρ3 k3 fun v3 G3 H3 g3 S3 o3 => ?_
    obtain ⟨⟨a1, xs, rfl, rr, z⟩, rfl⟩ := seqAt_ok S3 ((o.mono g2).mono g3) k4
    obtain ⟨⟨a2, ys, rfl, rr2, z2⟩, rfl⟩ := seqAt_ok S3 (o2.mono g3) k5
    obtain ⟨⟨a3, zs, rfl, rr3, z3⟩, rfl⟩ := seqAt_ok S3 o3 k6
    rw [hK] at z z2 z3
    have l1 : ∀ G H, Same C.B H → Same G3 G → Same G H → SqL X.K H a1 xs := z.elim (fun y => y.2) fun y => by rw [b1] at y; cases y.1
    have l2 : ∀ G H, Same C.B H → Same G3 G → Same G H → SqL X.K H a2 ys := z2.elim (fun y => y.2) fun y => by rw [b2] at y; cases y.1
    have l3 : ∀ G H, Same C.B H → Same G3 G → Same G H → SqL X.K H a3 zs := z3.elim (fun y => y.2) fun y => by rw [b3] at y; cases y.1
    exact ⟨a1, a2, a3, xs, ys, zs, rfl, l1 G3 H3 S3.bh (Same.refl _) S3.gh, l2 G3 H3 S3.bh (Same.refl _) S3.gh, l3 G3 H3 S3.bh (Same.refl _) S3.gh, q _ G3 H3 ((g1.trans g2).trans g3) S3 (JOk.zip3 l1 rr l2 rr2 l3 rr3)⟩
  · simp only [hk] at hf
    cases hf
def zip3P (d e f : D) : Option (List D) := match d, e, f with
  | .list xs, .list ys, .list zs => some (z3 xs ys zs)
  | _, _, _ => none
theorem zip3P_ok {f g h : M Pl} {ρ ρ1 ρ2 ρ3 : Env} {p q r : Pl} {d e c : D} {zs : List D} (h1 : f ρ = .ok p ρ1) (h2 : g ρ1 = .ok q ρ2) (h3 : h ρ2 = .ok r ρ3)
    (h4 : seqAt p ρ3 = ofO (itemsD d) ρ3) (h5 : seqAt q ρ3 = ofO (itemsD e) ρ3) (h6 : seqAt r ρ3 = ofO (itemsD c) ρ3) (hz : zip3P d e c = some zs) : mZip3 f g h ρ = .ok zs ρ3 := by
  unfold zip3P at hz
  unfold mZip3
  rw [bnd_eq h1, bnd_eq h2, bnd_eq h3]
  cases d <;> cases e <;> cases c <;> cases hz
  rw [bnd_eq (show seqAt p ρ3 = .ok (false, _) ρ3 from h4), bnd_eq (show seqAt q ρ3 = .ok (false, _) ρ3 from h5), bnd_eq (show seqAt r ρ3 = .ok (false, _) ρ3 from h6)]
  rfl
end PL
/-! PL26: an object of one's own is but looked at for a while (a list that is gone through and changed later). -/
namespace PL
open PySem PySem.Spec PyProof.Rows L2
def pinM {α : Type} (i : Nat) (f : M α) : M α := fun ρ => match ρ[i]? with
  | some (.own d) => match f (ρ.set i (.bor d)) with
    | .ok a ρ' => match ρ'[i]? with
      | some (.bor _) => .ok a (ρ'.set i (.own d))
      | _ => .stuck
    | .stuck => .stuck
  | some (.io d) => match f (ρ.set i (.bor d)) with
    | .ok a ρ' => match ρ'[i]? with
      | some (.bor _) => .ok a (ρ'.set i (.io d))
      | _ => .stuck
    | .stuck => .stuck
  | _ => f ρ
def Ctx.pin (C : Ctx) (i : Nat) (a : Addr) (o : HO) (G : Hp) (d : D) : Ctx :=
  { K := C.K, G0 := G, B := upd C.B a o, A := fun b => C.A b ∧ b ≠ a, P := fun j => if j = i then some (.ref a) else C.P j, S := fun j => if j = i then .bor d else C.S j }
section
variable {C : Ctx} {G H : Hp} {σ : L2.St} {ρ : Env}
theorem pin_in (S : StOk C G σ H ρ) {i : Nat} {s : Sl} {d : D} (e : ρ[i]? = some s) (hs : s = .own d ∨ s = .io d) :
    ∃ a o, σ[i]? = some (some (.ref a)) ∧ H a = some o ∧ G a = none ∧ C.B a = none ∧ Own σ ρ i a ∧ StOk (C.pin i a o G d) G σ H (ρ.set i (.bor d)) := by
  have hi : i < ρ.length := (List.getElem?_eq_some_iff.mp e).1
  obtain ⟨oo, e1, k⟩ := S.sl i s e
  have kk : ∃ a, oo = some (.ref a) ∧ Sh G H (.ref a) d ∧ G a = none ∧ C.B a = none := by
    rcases hs with rfl | rfl
    · obtain ⟨a, h1, h2, h3, h4, _⟩ := k; exact ⟨a, h1, h2, h3, h4⟩
    · obtain ⟨a, h1, h2, h3, h4, _⟩ := k; exact ⟨a, h1, h2, h3, h4⟩
  obtain ⟨a, rfl, sh, ga, ba⟩ := kk
  have ho : ownK s = true := by rcases hs with rfl | rfl <;> rfl
  have ow : Own σ ρ i a := ⟨e1, s, e, ho⟩
  cases hH : H a with
  | none => exact absurd hH sh.tracked
  | some o =>
  refine ⟨a, o, e1, hH, ga, ba, ow, ?_⟩
  have bb : Same C.B (upd C.B a o) := fun b u q => by rw [upd_ne (ne_of_none q ba)]; exact q
  have bh : Same (upd C.B a o) H := fun b u q => by
    by_cases hb : b = a
    · subst hb; rw [upd_same] at q; cases q; exact hH
    · rw [upd_ne hb] at q; exact S.bh b u q
  have sub : ∀ {j : Nat} {b : Addr}, Own σ (ρ.set i (.bor d)) j b → j ≠ i ∧ Own σ ρ j b := fun {j b} ⟨x, s', y, z⟩ => by
    by_cases hj : j = i
    · subst hj
      rw [List.getElem?_set_self hi] at y
      cases y; cases z
    · rw [List.getElem?_set_ne (fun z => hj z.symm)] at y
      exact ⟨hj, x, s', y, z⟩
  have dist : ∀ {j : Nat} {s' : Sl} {b : Addr}, j ≠ i → ρ[j]? = some s' → ownK s' = true → σ[j]? = some (some (.ref b)) → b ≠ a := fun {j s' b} hj q kx hb z => by
    subst z
    exact hj (S.ds j i b ⟨hb, s', q, kx⟩ ow)
  refine ⟨S.gh, bh, Same.refl _, fun b q => ⟨S.fr b q, fun z => by subst z; rw [hH] at q; cases q⟩, fun b q => .inl q, fun j v q => ?_, by rw [List.length_set]; exact S.len, fun j s' q => ?_, fun j k b hj hk => S.ds j k b (sub hj).2 (sub hk).2⟩
  · show BorOk C.K G (upd C.B a o) v (if j = i then .bor d else C.S j)
    by_cases hj : j = i
    · rw [if_pos hj]
      have q' : (if j = i then some (V.ref a) else C.P j) = some v := q
      rw [if_pos hj] at q'
      cases q'
      exact sh.at (Same.refl _) fun b hb u hu => by cases hb; rw [upd_same]; rw [hH] at hu; exact hu
    · rw [if_neg hj]
      have q' : (if j = i then some (V.ref a) else C.P j) = some v := q
      rw [if_neg hj] at q'
      exact BorOk.mono S.g0 bb (S.wf j v q')
  · by_cases hj : j = i
    · subst hj
      rw [List.getElem?_set_self hi] at q
      cases q
      exact ⟨_, e1, _, rfl, if_pos rfl, if_pos rfl⟩
    · rw [List.getElem?_set_ne (fun z => hj z.symm)] at q
      obtain ⟨o', e2, k'⟩ := S.sl j s' q
      refine ⟨o', e2, ?_⟩
      cases s' with
      | un => trivial
      | val d' => exact k'
      | own d' =>
        obtain ⟨b, rfl, h1, h2, h3, h4⟩ := k'
        have hb := dist hj q rfl e2
        exact ⟨b, rfl, h1, h2, by show upd C.B a o b = none; rw [upd_ne hb]; exact h3, h4, hb⟩
      | io d' =>
        obtain ⟨b, rfl, h1, h2, h3, h4⟩ := k'
        have hb := dist hj q rfl e2
        exact ⟨b, rfl, h1, h2, by show upd C.B a o b = none; rw [upd_ne hb]; exact h3, (if_neg hj).trans h4⟩
      | bor d' => obtain ⟨v, h1, h2, h3⟩ := k'; exact ⟨v, h1, (if_neg hj).trans h2, (if_neg hj).trans h3⟩
      | scr ns => obtain ⟨v, h1, h2, h3⟩ := k'; exact ⟨v, h1, (if_neg hj).trans h2, (if_neg hj).trans h3⟩
theorem pin_out (S : StOk C G σ H ρ) {i : Nat} {s : Sl} {d : D} (e : ρ[i]? = some s) (hs : s = .own d ∨ s = .io d) {a : Addr} {o : HO} (ev : σ[i]? = some (some (.ref a))) (ho : H a = some o)
    {σ' : L2.St} {G' H' : Hp} {ρ' : Env} {d' : D} (S' : StOk (C.pin i a o G d) G' σ' H' ρ') (g : Same G G') (e' : ρ'[i]? = some (.bor d')) :
    StOk C G' σ' H' (ρ'.set i s) ∧ G' a = none := by
  have hi : i < ρ'.length := (List.getElem?_eq_some_iff.mp e').1
  have k := S.get e ev
  have kk : Sh G H (.ref a) d ∧ G a = none ∧ C.B a = none := by
    rcases hs with rfl | rfl
    · obtain ⟨b, h1, h2, h3, h4, _⟩ := k; cases h1; exact ⟨h2, h3, h4⟩
    · obtain ⟨b, h1, h2, h3, h4, _⟩ := k; cases h1; exact ⟨h2, h3, h4⟩
  obtain ⟨sh, ga, ba⟩ := kk
  have bb : Same C.B (upd C.B a o) := fun b u q => by rw [upd_ne (ne_of_none q ba)]; exact q
  have ga' : G' a = none := by
    cases q : G' a with
    | none => rfl
    | some u =>
      rcases S'.ga a (ne_none_of q) with z | z
      · exact absurd ga z
      · exact absurd rfl z.2
  have hH' : H' a = some o := S'.bh a o upd_same
  obtain ⟨_, e2, v', rfl, z2, z3⟩ := S'.sl i _ e'
  have z2' : (if i = i then some (V.ref a) else C.P i) = some v' := z2
  rw [if_pos rfl] at z2'
  cases z2'
  have sh' : Sh G' H' (.ref a) d := sh.at g fun b hb u hu => by cases hb; rw [ho] at hu; cases hu; exact hH'
  have sub : ∀ {j : Nat} {b : Addr}, j ≠ i → Own σ' (ρ'.set i s) j b → Own σ' ρ' j b := fun {j b} hj ⟨x, s', y, z⟩ => by
    rw [List.getElem?_set_ne (fun z => hj z.symm)] at y
    exact ⟨x, s', y, z⟩
  have away : ∀ {j : Nat} {b : Addr}, j ≠ i → Own σ' (ρ'.set i s) j b → b ≠ a := fun {j b} hj h z => by
    subst z
    have := (Own.tracked S' (sub hj h)).2.2
    rw [show (C.pin i b o G d).B b = some o from upd_same] at this
    cases this
  refine ⟨⟨S'.gh, bb.trans S'.bh, S.g0.trans g, fun b q => (S'.fr b q).1, fun b q => (S'.ga b q).elim (S.ga b) fun z => .inr z.1, S.wf, by rw [List.length_set]; exact S'.len, fun j s' q => ?_, fun j k b hj hk => ?_⟩, ga'⟩
  · by_cases hj : j = i
    · subst hj
      rw [List.getElem?_set_self hi] at q
      cases q
      refine ⟨_, e2, ?_⟩
      rcases hs with rfl | rfl
      · obtain ⟨b, h1, _, _, _, h5⟩ := k; cases h1; exact ⟨a, rfl, sh', ga', ba, h5⟩
      · obtain ⟨b, h1, _, _, _, h5⟩ := k; cases h1; exact ⟨a, rfl, sh', ga', ba, h5⟩
    · rw [List.getElem?_set_ne (fun z => hj z.symm)] at q
      obtain ⟨o', e3, k'⟩ := S'.sl j s' q
      refine ⟨o', e3, ?_⟩
      have bo : ∀ {b : Addr}, (C.pin i a o G d).B b = none → C.B b = none := fun {b} z => bb.free z
      cases s' with
      | un => trivial
      | val d' => exact k'
      | own d' => obtain ⟨b, h1, h2, h3, h4, h5⟩ := k'; exact ⟨b, h1, h2, h3, bo h4, h5.1⟩
      | io d' => obtain ⟨b, h1, h2, h3, h4, h5⟩ := k'; exact ⟨b, h1, h2, h3, bo h4, (if_neg hj).symm.trans h5⟩
      | bor d' => obtain ⟨v, h1, h2, h3⟩ := k'; exact ⟨v, h1, (if_neg hj).symm.trans h2, (if_neg hj).symm.trans h3⟩
      | scr ns => obtain ⟨v, h1, h2, h3⟩ := k'; exact ⟨v, h1, (if_neg hj).symm.trans h2, (if_neg hj).symm.trans h3⟩
  · by_cases h1 : j = i
    · by_cases h2 : k = i
      · rw [h1, h2]
      · have z := away h2 hk
        subst h1
        obtain ⟨x, _⟩ := hj
        rw [e2] at x
        cases x
        exact absurd rfl z
    · by_cases h2 : k = i
      · have z := away h1 hj
        subst h2
        obtain ⟨x, _⟩ := hk
        rw [e2] at x
        cases x
        exact absurd rfl z
      · exact S'.ds j k b (sub h1 hj) (sub h2 hk)
/-- what comes of a place that was but looked at -/
theorem pin_okR (S : StOk C G σ H ρ) {i : Nat} {s : Sl} {d : D} (e : ρ[i]? = some s) (hs : s = .own d ∨ s = .io d) {a : Addr} {o : HO} (ev : σ[i]? = some (some (.ref a))) (ho : H a = some o)
    {σ' : L2.St} {G' H' : Hp} {ρ' : Env} {d' : D} (S' : StOk (C.pin i a o G d) G' σ' H' ρ') (g : Same G G') (e' : ρ'[i]? = some (.bor d')) {v : V} {r : Rv} (h : okR (C.pin i a o G d) G' σ' H' ρ' v r) : okR C G' σ' H' (ρ'.set i s) v r := by
  cases r with
  | pl p => exact h
  | fr d0 =>
    obtain ⟨b, rfl, h1, h2, h3, h4, h5⟩ := h
    have ba : C.B a = none := by
      have k := S.get e ev
      rcases hs with rfl | rfl
      · obtain ⟨b, h1, h2, h3, h4, _⟩ := k; cases h1; exact h4
      · obtain ⟨b, h1, h2, h3, h4, _⟩ := k; cases h1; exact h4
    have bb : Same C.B (upd C.B a o) := fun b u q => by rw [upd_ne (ne_of_none q ba)]; exact q
    have hi : i < ρ'.length := (List.getElem?_eq_some_iff.mp e').1
    obtain ⟨_, e2, v', rfl, z2, z3⟩ := S'.sl i _ e'
    have z2' : (if i = i then some (V.ref a) else C.P i) = some v' := z2
    rw [if_pos rfl] at z2'
    cases z2'
    refine ⟨b, rfl, h1, h2, bb.free h3, h4.1, fun j ⟨x, s', y, z⟩ => ?_⟩
    by_cases hj : j = i
    · subst hj
      rw [e2] at x
      cases x
      exact h4.2 rfl
    · rw [List.getElem?_set_ne (fun z => hj z.symm)] at y
      exact h5 j ⟨x, s', y, z⟩
end
theorem pinM_inv {α : Type} {i : Nat} {f : M α} {ρ ρ2 : Env} {x : α} (h : pinM i f ρ = .ok x ρ2) :
    f ρ = .ok x ρ2 ∨ ∃ s d d' ρ', ρ[i]? = some s ∧ (s = .own d ∨ s = .io d) ∧ f (ρ.set i (.bor d)) = .ok x ρ' ∧ ρ'[i]? = some (.bor d') ∧ ρ2 = ρ'.set i s := by
  unfold pinM at h
  split at h
  · rename_i d q
    split at h
    · rename_i y ρ' q2
      split at h
      · rename_i d' q3
        cases h
        exact .inr ⟨_, d, d', ρ', q, .inl rfl, q2, q3, rfl⟩
      · cases h
    · cases h
  · rename_i d q
    split at h
    · rename_i y ρ' q2
      split at h
      · rename_i d' q3
        cases h
        exact .inr ⟨_, d, d', ρ', q, .inr rfl, q2, q3, rfl⟩
      · cases h
    · cases h
  · exact .inl h
section
variable {K : PySem.W.Frag} {i : Nat}
theorem rdV_pin {t : TE} {f : M D} (r : RdV K t f) : RdV K t (pinM i f) := by
  intro C G σ H ρ Q hK S d ρ2 hf q
  rcases pinM_inv hf with h | ⟨s, d0, d', ρ', e, hs, h, e', rfl⟩
  · exact r C G σ H ρ Q hK S d ρ2 h q
  · obtain ⟨a, o, ev, ho, ga, ba, ow, S1⟩ := pin_in S e hs
    exact r (C.pin i a o G d0) G σ H _ Q hK S1 d ρ' h fun v G' H' g S' o' => q v G' H' g (pin_out S e hs ev ho S' g e').1 o'
theorem rdP_pin {t : TE} {f : M Pl} (r : RdP K t f) : RdP K t (pinM i f) := by
  intro C G σ H ρ Q hK S d ρ2 hf q
  rcases pinM_inv hf with h | ⟨s, d0, d', ρ', e, hs, h, e', rfl⟩
  · exact r C G σ H ρ Q hK S d ρ2 h q
  · obtain ⟨a, o, ev, ho, ga, ba, ow, S1⟩ := pin_in S e hs
    exact r (C.pin i a o G d0) G σ H _ Q hK S1 d ρ' h fun v G' H' g S' o' => q v G' H' g (pin_out S e hs ev ho S' g e').1 o'
theorem rdF_pin {t : TE} {f : M Rv} (r : RdF K t f) : RdF K t (pinM i f) := by
  intro C G σ H ρ Q hK S d ρ2 hf q
  rcases pinM_inv hf with h | ⟨s, d0, d', ρ', e, hs, h, e', rfl⟩
  · exact r C G σ H ρ Q hK S d ρ2 h q
  · obtain ⟨a, o, ev, ho, ga, ba, ow, S1⟩ := pin_in S e hs
    exact r (C.pin i a o G d0) G σ H _ Q hK S1 d ρ' h fun v G' H' g S' o' => q v G' H' g (pin_out S e hs ev ho S' g e').1 (pin_okR S e hs ev ho S' g e' o')
theorem rdT_pin {t : TT} {f : M Bool} (r : RdT K t f) : RdT K t (pinM i f) := by
  intro C G σ H ρ Q hK S d ρ2 hf q
  rcases pinM_inv hf with h | ⟨s, d0, d', ρ', e, hs, h, e', rfl⟩
  · exact r C G σ H ρ Q hK S d ρ2 h q
  · obtain ⟨a, o, ev, ho, ga, ba, ow, S1⟩ := pin_in S e hs
    exact r (C.pin i a o G d0) G σ H _ Q hK S1 d ρ' h fun G' H' g S' => q G' H' g (pin_out S e hs ev ho S' g e').1
theorem rdS_pin {t : TS} {f : M Fl} (r : RdS K t f) : RdS K t (pinM i f) := by
  intro C G σ H ρ D hK S fl ρ2 hf q
  rcases pinM_inv hf with h | ⟨s, d0, d', ρ', e, hs, h, e', rfl⟩
  · exact r C G σ H ρ D hK S fl ρ2 h q
  · obtain ⟨a, o, ev, ho, ga, ba, ow, S1⟩ := pin_in S e hs
    refine r (C.pin i a o G d0) G σ H _ D hK S1 fl ρ' h fun σ' G' H' g S' => ?_
    have z := q σ' G' H' g (pin_out S e hs ev ho S' g e').1
    cases fl with
    | nx => exact z
    | bk => exact z
    | ct => exact z
    | rt rr => exact fun v o' => z v (pin_okR S e hs ev ho S' g e' o')
end
section
variable {X : Cx} {e : Expr} {st : Stmt} {sts : List Stmt}
theorem pv_pin (i : Nat) {f : M D} (h : PV X e f) : PV X e (pinM i f) := let ⟨t, h, r⟩ := h; ⟨t, h, rdV_pin r⟩
theorem pp_pin (i : Nat) {f : M Pl} (h : PP X e f) : PP X e (pinM i f) := let ⟨t, h, r⟩ := h; ⟨t, h, rdP_pin r⟩
theorem pf_pin (i : Nat) {f : M Rv} (h : PF X e f) : PF X e (pinM i f) := let ⟨t, h, r⟩ := h; ⟨t, h, rdF_pin r⟩
theorem ptt_pin (i : Nat) {f : M Bool} (h : PTt X e f) : PTt X e (pinM i f) := let ⟨t, h, r⟩ := h; ⟨t, h, rdT_pin r⟩
theorem pwt_pin (i : Nat) {f : M Bool} (h : PWt X e f) : PWt X e (pinM i f) := let ⟨t, h, r⟩ := h; ⟨t, h, rdT_pin r⟩
theorem pst_pin (i : Nat) {f : M Fl} (h : PSt X st f) : PSt X st (pinM i f) := let ⟨t, h, r⟩ := h; ⟨t, h, rdS_pin r⟩
end
/-- for the soundness of what is written without places -/
theorem pin_ok {α : Type} {i : Nat} {f : M α} {ρ ρ' : Env} {d d' : D} {x : α} (e : ρ[i]? = some (.own d)) (h : f (ρ.set i (.bor d)) = .ok x ρ') (e' : ρ'[i]? = some (.bor d')) : pinM i f ρ = .ok x (ρ'.set i (.own d)) := by
  unfold pinM
  simp only [e, h, e']
theorem pin_okI {α : Type} {i : Nat} {f : M α} {ρ ρ' : Env} {d d' : D} {x : α} (e : ρ[i]? = some (.io d)) (h : f (ρ.set i (.bor d)) = .ok x ρ') (e' : ρ'[i]? = some (.bor d')) : pinM i f ρ = .ok x (ρ'.set i (.io d)) := by
  unfold pinM
  simp only [e, h, e']
end PL
/-! PL27: dict(list of pairs), {k: v for ..}, with numbers as keys. -/
namespace PL
open PySem PySem.Spec PyProof.Rows L2 RT RZ
def pairD : D → Option (Int × D)
  | .tuple [.int i, d] => some (i, d)
  | _ => none
def pairsD : List D → Option (List (Int × D))
  | [] => some []
  | x :: r => (pairD x).bind fun p => (pairsD r).map fun ps => p :: ps
def mergeD (ks : List (D × D)) (ps : List (Int × D)) : List (D × D) := ps.foldl (fun a p => putD a p.1 p.2) ks
def gDictP : List D → Option D
  | [.list ds] => (pairsD ds).map fun ps => .dict (mergeD [] ps)
  | _ => none
theorem pairD_inv {x : D} {p : Int × D} (h : pairD x = some p) : x = .tuple [.int p.1, p.2] := by
  unfold pairD at h
  split at h
  · cases h; rfl
  · cases h
theorem pairsD_app : ∀ {xs ys : List D} {ps : List (Int × D)}, pairsD (xs ++ ys) = some ps → ∃ p q, pairsD xs = some p ∧ pairsD ys = some q ∧ ps = p ++ q
  | [], ys, ps, h => ⟨[], ps, rfl, h, rfl⟩
  | x :: xs, ys, ps, h => by
    simp only [List.cons_append, pairsD] at h
    cases h1 : pairD x with
    | none => rw [h1] at h; cases h
    | some p0 =>
      rw [h1] at h
      cases h2 : pairsD (xs ++ ys) with
      | none => rw [h2] at h; cases h
      | some ps2 =>
        rw [h2] at h
        cases h
        obtain ⟨p, q, e1, e2, rfl⟩ := pairsD_app h2
        exact ⟨p0 :: p, q, by simp [pairsD, h1, e1], e2, rfl⟩
theorem pairsD_len : ∀ {xs : List D} {ps : List (Int × D)}, pairsD xs = some ps → ps.length = xs.length
  | [], ps, h => by cases h; rfl
  | x :: xs, ps, h => by
    simp only [pairsD] at h
    cases h1 : pairD x with
    | none => rw [h1] at h; cases h
    | some p0 =>
      rw [h1] at h
      cases h2 : pairsD xs with
      | none => rw [h2] at h; cases h
      | some ps2 => rw [h2] at h; cases h; simp [pairsD_len h2]
theorem putD_len (ks : List (D × D)) (i : Int) (d : D) : (putD ks i d).length ≤ ks.length + 1 := by
  unfold putD
  split
  · simp
  · simp
theorem mergeD_len : ∀ (ps : List (Int × D)) (ks : List (D × D)), (mergeD ks ps).length ≤ ks.length + ps.length
  | [], ks => by simp [mergeD]
  | p :: ps, ks => by
    have := mergeD_len ps (putD ks p.1 p.2)
    have := putD_len ks p.1 p.2
    simp only [mergeD, List.foldl_cons, List.length_cons] at *
    omega
inductive RpP (G : Hp) : List (Key × V) → List (Int × D) → Prop
  | nil : RpP G [] []
  | cons {i : Int} {v : V} {d : D} {kvs : List (Key × V)} {ps : List (Int × D)} : Rp G v d → RpP G kvs ps → RpP G ((.inl i, v) :: kvs) ((i, d) :: ps)
theorem RpP.merge {G : Hp} : ∀ {kvs : List (Key × V)} {ps : List (Int × D)} {es : List (Key × V)} {ks : List (D × D)}, RpP G kvs ps → RpK G es ks → RpK G (mergeK es kvs) (mergeD ks ps)
  | _, _, _, _, .nil, r => r
  | _, _, es, ks, .cons (i := i) (v := v) (d := d) (kvs := kvs) (ps := ps) rv rr, r => by
    show RpK G (mergeK (putK es (.inl i) v) kvs) (mergeD (putD ks i d) ps)
    exact RpP.merge rr (put_rpk i rv r)
theorem pairs_rp {K : PySem.W.Frag} {G H : Hp} (gh : Same G H) : ∀ {xs : List V} {ds : List D} {ps : List (Int × D)}, RpA G xs ds → pairsD ds = some ps →
    ∃ (as : List Addr) (kvs : List (Key × V)), xs = as.map V.ref ∧ Paired (fun p kv => SqT K H p [kV kv.1, kv.2]) as kvs ∧ RpP G kvs ps
  | _, _, _, .nil, h => by cases h; exact ⟨[], [], rfl, .nil, .nil⟩
  | _, _, _, .cons (d := d) (ds := ds) r rr, h => by
    simp only [pairsD] at h
    cases h1 : pairD d with
    | none => rw [h1] at h; cases h
    | some p0 =>
      rw [h1] at h
      cases h2 : pairsD ds with
      | none => rw [h2] at h; cases h
      | some ps2 =>
        rw [h2] at h
        cases h
        obtain ⟨as, kvs, rfl, q1, q2⟩ := pairs_rp (K := K) gh rr h2
        have e := pairD_inv h1
        subst e
        cases r with
        | @tup a ys _ ha r =>
          cases r with
          | cons r1 r2 => cases r2 with
            | cons r2 r3 =>
              cases r3
              cases r1
              exact ⟨a :: as, (.inl p0.1, _) :: kvs, rfl, .cons (.inl (.inl (gh _ _ ha))) q1, .cons r2 q2⟩
section
variable {X : Cx} {e : Expr} {es : List Expr} {pos p : Pos} {gs : M (List Pl)}
theorem pf_dictP (hc : X.calm = true) (hg : Gl X "dict") (hm : X.mg "dict" = none) (ha : PPs X (e :: es) gs) (he : starEach (e :: es) X.env = (false, eval e X.env) :: starEach es X.env := by rfl) (hpl : (backTo pos (starEach es X.env)).any (·.1) = false := by rfl) :
    PF X (.Call (.Name "dict" p) (e :: es) [] pos) (mFr (mN gDictP gs)) := pf_bT (call_dictP hc) (fun G H vs ds z Q gh s hg q => by
  cases s with
  | nil => cases hg
  | cons h r => cases r with
    | cons _ _ => cases h <;> cases hg
    | nil => cases h with
      | @lst a xs ds h r =>
        simp only [gDictP] at hg
        cases h2 : pairsD ds with
        | none => rw [h2] at hg; cases hg
        | some ps =>
          rw [h2] at hg
          cases hg
          obtain ⟨as, kvs, rfl, q1, q2⟩ := pairs_rp (K := X.K) gh r h2
          exact ⟨a, as, kvs, rfl, .inl (.inl h), q1, fun l hl => q l _ hl (Grow.newF gh hl) (.dct upd_same (q2.merge .nil))⟩
      | _ => cases hg) hg hm PyProof.Rows.boot_dict ha (he := he) (hpl := hpl)
end
/-! ### {k: v for ..} -/
def mPr (fk fe : M D) : M D := mTup (mCons fk (mCons fe mNil))
def mDc (fi : M (List D)) (t : D → M Unit) (vs : List Nat) (c : M Bool) (fk fe : M D) : M Rv := bnd (mLc fi t vs c (mPr fk fe)) fun r => match r with
  | .fr d => bnd (ofO (gDictP [d])) fun z => ret (.fr z)
  | _ => fun _ => .stuck
theorem lcGo_ext {t : D → M Unit} {vs : List Nat} {c : M Bool} {fe : M D} : ∀ {ds acc out : List D} {ρ ρ' : Env}, lcGo t vs c fe acc ds ρ = .ok out ρ' → ∃ more, out = acc ++ more
  | [], acc, out, ρ, ρ', h => by cases h; exact ⟨[], by simp⟩
  | d :: ds, acc, out, ρ, ρ', h => by
    obtain ⟨_, ρ1, h1, h⟩ := bnd_ok h
    obtain ⟨k, ρ2, h2, h⟩ := bnd_ok h
    cases k with
    | true =>
      rw [if_pos rfl] at h
      obtain ⟨y, ρ3, h3, h⟩ := bnd_ok h
      split at h
      · obtain ⟨more, rfl⟩ := lcGo_ext h
        exact ⟨y :: more, by simp⟩
      · cases h
    | false =>
      rw [if_neg Bool.false_ne_true] at h
      exact lcGo_ext h
theorem mPr_ok {fk fe : M D} {ρ ρ' : Env} {y : D} (h : mPr fk fe ρ = .ok y ρ') : ∃ k d ρ1, fk ρ = .ok k ρ1 ∧ fe ρ1 = .ok d ρ' ∧ y = .tuple [k, d] := by
  obtain ⟨ds, ρ1, h1, h2⟩ := bnd_ok h
  obtain ⟨k, ρ2, h3, h4⟩ := bnd_ok h1
  obtain ⟨qs, ρ3, h5, h6⟩ := bnd_ok h4
  cases h6
  obtain ⟨d, ρ4, h7, h8⟩ := bnd_ok h5
  obtain ⟨qs2, ρ5, h9, h10⟩ := bnd_ok h8
  cases h10
  cases h9
  split at h2
  · cases h2; exact ⟨k, d, ρ2, h3, h7, rfl⟩
  · cases h2
section
variable {X : Cx} {tg kx vx iter c : Expr} {ifs : List Expr} {scope : Scope} {own : List (Str × Nat)} {pos : Pos} {fk fe : M D}
theorem rd_dc {wi : TI} {fi : M (List D)} {t : D → M Unit} {ts vs : List Nat} {mc : M Bool} (hts : ∀ i ∈ ts, i ∈ vs) (hi : RdI X.K wi fi) : RdF X.K (tDc wi (TGv X.K ts t) (TTv X.K mc) (TV X.K fk) (TV X.K fe) vs) (mDc fi t vs mc fk fe) := by
  intro C G σ H ρ Q hK S r0 ρ'0 hf0 q
  obtain ⟨r, ρ', hf, hz⟩ := bnd_ok hf0
  obtain ⟨ds, ρ1, h1, hf2⟩ := bnd_ok hf
  refine hi C G σ H ρ _ hK S ds ρ1 h1 fun J G1 H1 g1 S1 JJ E hE => ?_
  cases hl : lcGo t vs mc (mPr fk fe) [] ds (wipeE ρ1 vs) with
  | stuck => rw [hl] at hf2; cases hf2
  | ok accF ρF =>
    rw [hl] at hf2
    cases hf2
    obtain ⟨z, ρz, hz1, hz2⟩ := bnd_ok (show bnd (ofO (gDictP [.list accF])) (fun z => ret (.fr z)) (restE ρ1 ρF vs) = .ok r0 ρ'0 from hz)
    obtain ⟨hgd, rfl⟩ := ofO_ok hz1
    cases hz2
    cases hpF : pairsD accF with
    | none => simp only [gDictP, hpF] at hgd; cases hgd
    | some psF =>
    simp only [gDictP, hpF] at hgd
    cases hgd
    have hBE : C.B E = none := S1.bh.free hE
    have hGE : ∀ {G2 : Hp} {σ2 : L2.St} {H2 : Hp} {ρ2 : Env} {o : HO}, StOk (C.with E o) G2 σ2 H2 ρ2 → G2 E = none := fun {G2 σ2 H2 ρ2 o} S2 => by
      cases q : G2 E with
      | none => rfl
      | some u =>
        rcases S2.ga E (ne_none_of q) with z | z
        · exact absurd (S1.gh.free hE |> S1.g0.free) z
        · exact absurd rfl z.2
    refine ⟨fun i mm H2 => i + mm = ds.length ∧ ∃ G2 ρ2 accV acc ps, Same G1 G2 ∧ StOk (C.with E (.dK accV)) G2 (L2.wipe σ vs) H2 ρ2 ∧ pairsD acc = some ps ∧ RpK G2 accV (mergeD [] ps) ∧ lcGo t vs mc (mPr fk fe) acc (ds.drop i) ρ2 = .ok accF ρF,
      ⟨ds.length, by omega, G1, _, [], [], [], Same.refl _, (S1.enter hE (.dK [])).wipe vs, rfl, .nil, by simpa using hl⟩, fun i mm H2 ⟨hm, G2, ρ2, accV, acc, ps, g2, S2, hps, ra, h2⟩ => ?_⟩
    by_cases hlt : i < ds.length
    · have gh2 := S2.gh
      have bh2 : Same C.B H2 := (same_new hBE).trans S2.bh
      refine .inr ⟨JJ.go i G2 H2 bh2 g2 gh2 hlt, fun H3 => ∃ G3 ρ3 accV3 acc3 ps3, Same G1 G3 ∧ StOk (C.with E (.dK accV3)) G3 (L2.wipe σ vs) H3 ρ3 ∧ pairsD acc3 = some ps3 ∧ RpK G3 accV3 (mergeD [] ps3) ∧ lcGo t vs mc (mPr fk fe) acc3 (ds.drop (i + 1)) ρ3 = .ok accF ρF,
        fun H3 ⟨G3, ρ3, accV3, acc3, ps3, z1, z2, z3, z4, z5⟩ => ⟨mm - 1, by omega, by omega, G3, ρ3, accV3, acc3, ps3, z1, z2, z3, z4, z5⟩, fun y H3 hy => ?_⟩
      have ed : ds[i]? = some ds[i] := List.getElem?_eq_getElem hlt
      obtain ⟨G3, w, ry⟩ := JJ.yld i G2 H2 y H3 _ bh2 g2 gh2 ed hy
      have S3 := S2.grow w
      rw [List.drop_eq_getElem_cons hlt] at h2
      obtain ⟨uu, ρ3, h3, h4⟩ := bnd_ok h2
      refine ⟨C.with E (.dK accV), G3, _, _, ρ3, hK, S3, ry, h3, fun σ4 S4 w4 => ⟨(w4 vs hts).trans wipe_wipe, ?_⟩⟩
      obtain ⟨kk, ρ5, h5, h6⟩ := bnd_ok h4
      refine ⟨C.with E (.dK accV), G3, _, kk, ρ5, hK, S4, h5, fun G5 H5 g5 S5 => ?_⟩
      have ww : L2.wipe σ4 vs = L2.wipe σ vs := (w4 vs hts).trans wipe_wipe
      cases kk with
      | true =>
        show (if true = true then _ else _); rw [if_pos rfl]
        rw [if_pos rfl] at h6
        obtain ⟨yd, ρ6, h7, h8⟩ := bnd_ok h6
        obtain ⟨kd, dd, ρk, hk1, hk2, rfl⟩ := mPr_ok h7
        by_cases hac : acc.length < 100000
        · rw [if_pos hac] at h8
          have h8' : lcGo t vs mc (mPr fk fe) (acc ++ [.tuple [kd, dd]]) (ds.drop (i + 1)) (wipeE ρ6 vs) = .ok accF ρF := h8
          obtain ⟨more, em⟩ := lcGo_ext h8'
          rw [em] at hpF
          obtain ⟨pa, pb, ea, eb, _⟩ := pairsD_app hpF
          obtain ⟨pc, pd, ec, ed', rfl⟩ := pairsD_app ea
          rw [hps] at ec; cases ec
          have hpd : ∃ n, kd = .int n ∧ pd = [(n, dd)] := by
            simp only [pairsD] at ed'
            cases h9 : pairD (.tuple [kd, dd]) with
            | none => rw [h9] at ed'; cases ed'
            | some p0 =>
              rw [h9] at ed'
              cases ed'
              have := pairD_inv h9
              injection this with this
              injection this with e1 e2
              injection e2 with e2 e3
              subst e1; subst e2
              exact ⟨p0.1, rfl, rfl⟩
          obtain ⟨n, rfl, rfl⟩ := hpd
          refine ⟨C.with E (.dK accV), G5, _, .int n, ρk, hK, S5, hk1, fun v6 G6 H6 g6 S6 r6 => ?_⟩
          cases r6
          refine ⟨C.with E (.dK accV), G6, _, dd, ρ6, hK, S6, hk2, fun v7 G7 H7 g7 S7 r7 => ?_⟩
          have hH7 : H7 E = some (.dK accV) := S7.bh E _ upd_same
          have gg : Same G2 G7 := ((w.g.trans g5).trans g6).trans g7
          have hle : accV.length < 100000 := by
            rw [len_rpk ra]
            have := mergeD_len ps []
            have := pairsD_len hps
            simp at *
            omega
          refine ⟨accV, .inl n, rfl, hH7, line_lt hle, G7, wipeE ρ6 vs, putK accV (.inl n) v7, _, _, g2.trans gg, ?_, ea, ?_, h8'⟩
          · have S8 := S7.step (o' := .dK (putK accV (.inl n) v7)) (hGE S7) S1.wf hBE
            rw [← ww]
            exact S8.wipe vs
          · have := put_rpk n r7 (RpK.mono gg ra)
            rw [show mergeD [] (ps ++ [(n, dd)]) = putD (mergeD [] ps) n dd from by simp [mergeD, List.foldl_append]]
            exact this
        · rw [if_neg hac] at h8
          cases h8
      | false =>
        show (if false = true then _ else _); rw [if_neg Bool.false_ne_true]
        rw [if_neg Bool.false_ne_true] at h6
        refine ⟨G5, wipeE ρ5 vs, accV, acc, ps, g2.trans (w.g.trans g5), ?_, hps, RpK.mono (w.g.trans g5) ra, h6⟩
        rw [← ww]
        exact S5.wipe vs
    · have hi' : i = ds.length := by omega
      rw [List.drop_eq_nil_of_le (by omega)] at h2
      cases h2
      rw [hps] at hpF
      cases hpF
      have gh2 := S2.gh
      have bh2 : Same C.B H2 := (same_new hBE).trans S2.bh
      refine .inl ⟨by rw [hi']; exact JJ.stop G2 H2 bh2 g2 gh2, ?_⟩
      have S3 : StOk C G2 (L2.wipe σ vs) H2 _ := S2.exit S1.wf hBE
      have S4 := S1.rest S3 g2
      refine q _ G2 H2 (g1.trans g2) S4 ⟨E, rfl, .dct (S2.bh E _ upd_same) ra, hGE S2, hBE, S1.fr E hE, fun j hj => ?_⟩
      obtain ⟨z1, s, z2, z3⟩ := hj
      by_cases hjv : j ∈ vs
      · have := restE_in hjv z2
        subst this
        rw [keepS_own] at z3; cases z3
      · rw [restE_out hjv] at z2
        obtain ⟨_, _, z4⟩ := Own.tracked S2 (i := j) (a := E) ⟨by rw [wipe_get hjv]; exact z1, s, z2, z3⟩
        have z5 : upd C.B E (.dK accV) E = none := z4
        rw [upd_same] at z5; cases z5
theorem pf_dc {fi : M (List D)} {t : D → M Unit} {ts : List Nat} (hc : X.calm = true) (hN : X.N.Nodup) (hi : PIt X tg iter fi) (ok : BlkOk X.N X.env.scope scope own)
    (hg : ∀ (s : Shared) (H : Hp) (C : Addr) (cl : List (Str × Addr)) (fp : List Addr), PGt (X.blk s H scope (compEnvC scope cl C X.env) fp) tg ts t)
    (hk : ∀ (s : Shared) (H : Hp) (C : Addr) (cl : List (Str × Addr)) (fp : List Addr), PV (X.blk s H scope (compEnvC scope cl C X.env) fp) kx fk)
    (he : ∀ (s : Shared) (H : Hp) (C : Addr) (cl : List (Str × Addr)) (fp : List Addr), PV (X.blk s H scope (compEnvC scope cl C X.env) fp) vx fe) (hs : ∀ x, foldedSetIterable iter X.env x = pure x := by intro _; rfl)
    (hts : ∀ i ∈ ts, i ∈ own.map (·.2) := by decide) :
    PF X (.DictComp kx vx [⟨tg, iter, [], 0⟩] scope pos) (mDc fi t (own.map (·.2)) mYes fk fe) := by
  obtain ⟨wi, hi, ri⟩ := hi
  exact ⟨_, pe_dc (g := TGv X.K ts t) (tt := TTv X.K mYes) (tk := TV X.K fk) (tv := TV X.K fe) hc hN hi ok (fun s H C cl fp => pg_uni (hg s H C cl fp)) (fun _ _ _ _ _ => pts_yes) (fun s H C cl fp => pv_uni (hk s H C cl fp)) (fun s H C cl fp => pv_uni (he s H C cl fp)) hs, rd_dc hts ri⟩
theorem pf_dcIf {fi : M (List D)} {t : D → M Unit} {ts : List Nat} {mc : M Bool} (hc : X.calm = true) (hN : X.N.Nodup) (hi : PIt X tg iter fi) (ok : BlkOk X.N X.env.scope scope own)
    (hg : ∀ (s : Shared) (H : Hp) (C : Addr) (cl : List (Str × Addr)) (fp : List Addr), PGt (X.blk s H scope (compEnvC scope cl C X.env) fp) tg ts t)
    (ht : ∀ (s : Shared) (H : Hp) (C : Addr) (cl : List (Str × Addr)) (fp : List Addr), PTt (X.blk s H scope (compEnvC scope cl C X.env) fp) c mc)
    (hk : ∀ (s : Shared) (H : Hp) (C : Addr) (cl : List (Str × Addr)) (fp : List Addr), PV (X.blk s H scope (compEnvC scope cl C X.env) fp) kx fk)
    (he : ∀ (s : Shared) (H : Hp) (C : Addr) (cl : List (Str × Addr)) (fp : List Addr), PV (X.blk s H scope (compEnvC scope cl C X.env) fp) vx fe) (hs : ∀ x, foldedSetIterable iter X.env x = pure x := by intro _; rfl)
    (hts : ∀ i ∈ ts, i ∈ own.map (·.2) := by decide) :
    PF X (.DictComp kx vx [⟨tg, iter, [c], 0⟩] scope pos) (mDc fi t (own.map (·.2)) mc fk fe) := by
  obtain ⟨wi, hi, ri⟩ := hi
  exact ⟨_, pe_dc (g := TGv X.K ts t) (tt := TTv X.K mc) (tk := TV X.K fk) (tv := TV X.K fe) hc hN hi ok (fun s H C cl fp => pg_uni (hg s H C cl fp)) (fun s H C cl fp => pts_one (pt_uni (ht s H C cl fp))) (fun s H C cl fp => pv_uni (hk s H C cl fp)) (fun s H C cl fp => pv_uni (he s H C cl fp)) hs, rd_dc hts ri⟩
end
end PL
namespace PL
theorem mDc_ok {fi : M (List D)} {t : D → M Unit} {vs : List Nat} {c : M Bool} {fk fe : M D} {xs : List D} {z : D} {ρ ρ' : Env} (h : mLc fi t vs c (mTup (mCons fk (mCons fe mNil))) ρ = .ok (.fr (.list xs)) ρ') (hz : gDictP [.list xs] = some z) : mDc fi t vs c fk fe ρ = .ok (.fr z) ρ' := by
  unfold mDc
  rw [bnd_eq (show mLc fi t vs c (mPr fk fe) ρ = .ok (.fr (.list xs)) ρ' from h)]
  simp only [hz]
  rfl
end PL
namespace Y
open PySem PySem.Spec L2 PL RT RZ
def topS (i : Nat) : Stmt := PySem.Challenge.pw_boastrow_k25_whole_wishes_undo_totals.main.body.getD i (.Pass ⟨0, 0, 0, 0⟩)
abbrev s_levelled : Stmt := topS 10
theorem sc_levelled : FnScope ["steps", "out", "c", "many"] ["steps"] (defScope s_levelled) := ⟨rfl, rfl, rfl, by decide +kernel, rfl, by decide +kernel, by decide +kernel⟩
abbrev s_added_up : Stmt := topS 11
theorem sc_added_up : FnScope ["changes", "many", "out", "c"] ["changes"] (defScope s_added_up) := ⟨rfl, rfl, rfl, by decide +kernel, rfl, by decide +kernel, by decide +kernel⟩
abbrev s_stretch_to : Stmt := topS 12
theorem sc_stretch_to : FnScope ["first", "beyond"] ["first", "beyond"] (defScope s_stretch_to) := ⟨rfl, rfl, rfl, by decide +kernel, rfl, by decide +kernel, by decide +kernel⟩
abbrev s_wish_behind : Stmt := topS 13
theorem sc_wish_behind : FnScope ["people", "wish", "least", "most"] ["people", "wish"] (defScope s_wish_behind) := ⟨rfl, rfl, rfl, by decide +kernel, rfl, by decide +kernel, by decide +kernel⟩
abbrev s_handed_on : Stmt := topS 14
theorem sc_handed_on : FnScope ["saying", "wish"] ["saying", "wish"] (defScope s_handed_on) := ⟨rfl, rfl, rfl, by decide +kernel, rfl, by decide +kernel, by decide +kernel⟩
abbrev s_companies_within : Stmt := topS 15
theorem sc_companies_within : FnScope ["people", "saying", "least", "most", "first"] ["people", "saying"] (defScope s_companies_within) := ⟨rfl, rfl, rfl, by decide +kernel, rfl, by decide +kernel, by decide +kernel⟩
abbrev s_said_of_company : Stmt := topS 16
theorem sc_said_of_company : FnScope ["row", "place"] ["row"] (defScope s_said_of_company) := ⟨rfl, rfl, rfl, by decide +kernel, rfl, by decide +kernel, by decide +kernel⟩
abbrev s_changes_by : Stmt := topS 17
theorem sc_changes_by : FnScope ["stretches", "changes", "first", "last"] ["stretches"] (defScope s_changes_by) := ⟨rfl, rfl, rfl, by decide +kernel, rfl, by decide +kernel, by decide +kernel⟩
abbrev s_is_number : Stmt := topS 19
theorem sc_is_number : FnScope ["thing"] ["thing"] (defScope s_is_number) := ⟨rfl, rfl, rfl, by decide +kernel, rfl, by decide +kernel, by decide +kernel⟩
abbrev s_is_row : Stmt := topS 20
theorem sc_is_row : FnScope ["thing", "saying", "least", "most"] ["thing"] (defScope s_is_row) := ⟨rfl, rfl, rfl, by decide +kernel, rfl, by decide +kernel, by decide +kernel⟩
abbrev s_is_saying : Stmt := topS 21
theorem sc_is_saying : FnScope ["thing"] ["thing"] (defScope s_is_saying) := ⟨rfl, rfl, rfl, by decide +kernel, rfl, by decide +kernel, by decide +kernel⟩
abbrev s_need_number : Stmt := topS 22
theorem sc_need_number : FnScope ["thing"] ["thing"] (defScope s_need_number) := ⟨rfl, rfl, rfl, by decide +kernel, rfl, by decide +kernel, by decide +kernel⟩
abbrev s_need_row : Stmt := topS 23
theorem sc_need_row : FnScope ["thing"] ["thing"] (defScope s_need_row) := ⟨rfl, rfl, rfl, by decide +kernel, rfl, by decide +kernel, by decide +kernel⟩
abbrev s_need_place : Stmt := topS 24
theorem sc_need_place : FnScope ["thing", "places"] ["thing", "places"] (defScope s_need_place) := ⟨rfl, rfl, rfl, by decide +kernel, rfl, by decide +kernel, by decide +kernel⟩
abbrev s_what_comes : Stmt := topS 25
theorem sc_what_comes : FnScope ["people", "company", "many", "least", "most"] ["people", "company"] (defScope s_what_comes) := ⟨rfl, rfl, rfl, by decide +kernel, rfl, by decide +kernel, by decide +kernel⟩
abbrev s_total : Stmt := topS 26
theorem sc_total : FnScope ["row", "company"] ["row", "company"] (defScope s_total) := ⟨rfl, rfl, rfl, by decide +kernel, rfl, by decide +kernel, by decide +kernel⟩
abbrev s_wishes : Stmt := topS 28
theorem sc_wishes : FnScope ["row", "many", "out", "saying"] ["row", "many"] (defScope s_wishes) := ⟨rfl, rfl, rfl, by decide +kernel, rfl, by decide +kernel, by decide +kernel⟩
abbrev s_companies : Stmt := topS 29
theorem sc_companies : FnScope ["row", "total"] ["row", "total"] (defScope s_companies) := ⟨rfl, rfl, rfl, by decide +kernel, rfl, by decide +kernel, by decide +kernel⟩
abbrev s_companies_between : Stmt := topS 30
theorem sc_companies_between : FnScope ["row", "least", "most"] ["row", "least", "most"] (defScope s_companies_between) := ⟨rfl, rfl, rfl, by decide +kernel, rfl, by decide +kernel, by decide +kernel⟩
abbrev s_least_from : Stmt := topS 31
theorem sc_least_from : FnScope ["row", "place", "many"] ["row", "place", "many"] (defScope s_least_from) := ⟨rfl, rfl, rfl, by decide +kernel, rfl, by decide +kernel, by decide +kernel⟩
abbrev s_is_table : Stmt := topS 33
theorem sc_is_table : FnScope ["thing", "ahead", "level", "step", "c", "many"] ["thing"] (defScope s_is_table) := ⟨rfl, rfl, rfl, by decide +kernel, rfl, by decide +kernel, by decide +kernel⟩
abbrev s_is_rows : Stmt := topS 34
theorem sc_is_rows : FnScope ["thing", "ahead", "_", "many"] ["thing"] (defScope s_is_rows) := ⟨rfl, rfl, rfl, by decide +kernel, rfl, by decide +kernel, by decide +kernel⟩
abbrev s_need_rows_table : Stmt := topS 35
theorem sc_need_rows_table : FnScope ["thing"] ["thing"] (defScope s_need_rows_table) := ⟨rfl, rfl, rfl, by decide +kernel, rfl, by decide +kernel, by decide +kernel⟩
abbrev s_table_of : Stmt := topS 36
theorem sc_table_of : FnScope ["row", "said", "stretch"] ["row"] (defScope s_table_of) := ⟨rfl, rfl, rfl, by decide +kernel, rfl, by decide +kernel, by decide +kernel⟩
abbrev s_plain_copies : Stmt := topS 38
theorem sc_plain_copies : FnScope ["number"] ["number"] (defScope s_plain_copies) := ⟨rfl, rfl, rfl, by decide +kernel, rfl, by decide +kernel, by decide +kernel⟩
abbrev s_is_mark : Stmt := topS 39
theorem sc_is_mark : FnScope ["thing"] ["thing"] (defScope s_is_mark) := ⟨rfl, rfl, rfl, by decide +kernel, rfl, by decide +kernel, by decide +kernel⟩
abbrev s_is_shelf : Stmt := topS 40
theorem sc_is_shelf : FnScope ["thing", "one", "other"] ["thing"] (defScope s_is_shelf) := ⟨rfl, rfl, rfl, by decide +kernel, rfl, by decide +kernel, by decide +kernel⟩
abbrev s_need_shelf : Stmt := topS 41
theorem sc_need_shelf : FnScope ["thing"] ["thing"] (defScope s_need_shelf) := ⟨rfl, rfl, rfl, by decide +kernel, rfl, by decide +kernel, by decide +kernel⟩
abbrev s_need_book : Stmt := topS 42
theorem sc_need_book : FnScope ["thing", "least"] ["thing", "least"] (defScope s_need_book) := ⟨rfl, rfl, rfl, by decide +kernel, rfl, by decide +kernel, by decide +kernel⟩
abbrev s_find_book : Stmt := topS 43
theorem sc_find_book : FnScope ["shelf", "m", "more", "number", "copies"] ["shelf", "m"] (defScope s_find_book) := ⟨rfl, rfl, rfl, by decide +kernel, rfl, by decide +kernel, by decide +kernel⟩
abbrev s_count_to : Stmt := topS 44
theorem sc_count_to : FnScope ["shelf", "number", "at", "copies"] ["shelf", "number"] (defScope s_count_to) := ⟨rfl, rfl, rfl, by decide +kernel, rfl, by decide +kernel, by decide +kernel⟩
abbrev s_book : Stmt := topS 45
theorem sc_book : FnScope ["shelf", "m"] ["shelf", "m"] (defScope s_book) := ⟨rfl, rfl, rfl, by decide +kernel, rfl, by decide +kernel, by decide +kernel⟩
abbrev s_books_to : Stmt := topS 46
theorem sc_books_to : FnScope ["shelf", "number"] ["shelf", "number"] (defScope s_books_to) := ⟨rfl, rfl, rfl, by decide +kernel, rfl, by decide +kernel, by decide +kernel⟩
abbrev s_shelf_by : Stmt := topS 48
theorem sc_shelf_by : FnScope ["table", "out", "ahead", "c", "many"] ["table"] (defScope s_shelf_by) := ⟨rfl, rfl, rfl, by decide +kernel, rfl, by decide +kernel, by decide +kernel⟩
abbrev s_shelf_of : Stmt := topS 47
theorem sc_shelf_of : FnScope ["row"] ["row"] (defScope s_shelf_of) := ⟨rfl, rfl, rfl, by decide +kernel, rfl, by decide +kernel, by decide +kernel⟩
abbrev s_l_jar : Stmt := topS 50
theorem sc_l_jar : FnScope ["_law_script", "_law_k", "_law_cell"] ["_law_script", "_law_k"] (defScope s_l_jar) := ⟨rfl, rfl, rfl, by decide +kernel, rfl, by decide +kernel, by decide +kernel⟩
abbrev s_l_pour : Stmt := topS 51
theorem sc_l_pour : FnScope ["_law_jar_here", "_law_many", "_law_found", "_law_mixed"] ["_law_jar_here", "_law_many"] (defScope s_l_pour) := ⟨rfl, rfl, rfl, by decide +kernel, rfl, by decide +kernel, by decide +kernel⟩
abbrev s_l_number : Stmt := topS 52
theorem sc_l_number : FnScope ["_law_jar_here", "_law_top"] ["_law_jar_here", "_law_top"] (defScope s_l_number) := ⟨rfl, rfl, rfl, by decide +kernel, rfl, by decide +kernel, by decide +kernel⟩
abbrev s_l_saying : Stmt := topS 53
theorem sc_l_saying : FnScope ["_law_jar_here", "_law_top", "_law_least", "_law_most"] ["_law_jar_here", "_law_top"] (defScope s_l_saying) := ⟨rfl, rfl, rfl, by decide +kernel, rfl, by decide +kernel, by decide +kernel⟩
abbrev s_l_row : Stmt := topS 54
theorem sc_l_row : FnScope ["_law_jar_here", "_law_people", "_law_top", "_law_turn"] ["_law_jar_here", "_law_people", "_law_top"] (defScope s_l_row) := ⟨rfl, rfl, rfl, by decide +kernel, rfl, by decide +kernel, by decide +kernel⟩
abbrev s_l_some_twice : Stmt := topS 55
theorem sc_l_some_twice : FnScope ["_law_jar_here", "_law_row_here", "_law_found", "_law_turn"] ["_law_jar_here", "_law_row_here"] (defScope s_l_some_twice) := ⟨rfl, rfl, rfl, by decide +kernel, rfl, by decide +kernel, by decide +kernel⟩
abbrev s_l_spots : Stmt := topS 56
theorem sc_l_spots : FnScope ["_law_jar_here", "_law_row_here", "_law_found", "_law_turn", "_law_place", "_law_least", "_law_most", "_law_wish"] ["_law_jar_here", "_law_row_here"] (defScope s_l_spots) := ⟨rfl, rfl, rfl, by decide +kernel, rfl, by decide +kernel, by decide +kernel⟩
abbrev s_l_undone : Stmt := topS 57
theorem sc_l_undone : FnScope ["_law_row_here", "_law_company", "_law_here", "_law_wish", "_law_first", "_law_last"] ["_law_row_here", "_law_company"] (defScope s_l_undone) := ⟨rfl, rfl, rfl, by decide +kernel, rfl, by decide +kernel, by decide +kernel⟩
abbrev s_l_behind : Stmt := topS 58
theorem sc_l_behind : FnScope ["_law_front", "_law_back", "_law_wish", "_law_ahead"] ["_law_front", "_law_back", "_law_wish"] (defScope s_l_behind) := ⟨rfl, rfl, rfl, by decide +kernel, rfl, by decide +kernel, by decide +kernel⟩
abbrev s_l_shelf_right : Stmt := topS 59
theorem sc_l_shelf_right : FnScope ["_law_front", "_law_back", "_law_wish", "_law_both", "_law_spot"] ["_law_front", "_law_back", "_law_wish"] (defScope s_l_shelf_right) := ⟨rfl, rfl, rfl, by decide +kernel, rfl, by decide +kernel, by decide +kernel⟩
abbrev s_law : Stmt := topS 60
theorem sc_law : FnScope ["_law_script", "_law_k", "_law_jar_here", "_law_top", "_law_most", "_law_rows", "_law_both", "_law_company", "_law_turn", "_law_wish"] ["_law_script"] (defScope s_law) := ⟨rfl, rfl, rfl, by decide +kernel, rfl, by decide +kernel, by decide +kernel⟩
def mb_levelled_1 : M Fl := (mIf (mOr (mNot (mTr (mVar 1))) (mB (mOp gNe (mPl (mOp gIx (mPl (mOp gIx (mVar 1) (mPl (mNegU (mC (.int 1)))))) (mPl (mC (.int 1))))) (mVar 3)))) (mDrop (mMut 1 gAppend (mCons (mTup (mCons (mFz (mRv (mVar 2))) (mCons (mFz (mRv (mVar 3))) mNil))) mNil))) mSkip)
def m_levelled : M Fl := (mSeq (mSet 1 (mLst mNil))
    (mSeq (mFor (mIter (mVar 0)) (tTupl (tsCons (tName 2) (tsCons (tName 3) tsNil))) mb_levelled_1)
    (mRet (mRv (mVar 1)))))
def mb_added_up_1 : M Fl := (mIf (mB (mOp gGt (mVar 3) (mPl (mC (.int 0))))) (mSeq (mAug 1 gAddI (mPl (mOp gIxA (mVar 0) (mVar 3))))
    (mDrop (mMut 2 gAppend (mCons (mTup (mCons (mFz (mRv (mVar 3))) (mCons (mFz (mRv (mVar 1))) mNil))) mNil)))) mSkip)
def m_added_up : M Fl := (mSeq (mSet 1 (mRv (mPl (mGet2 (mVar 0) (mC (.int 0)) (mC (.int 0))))))
    (mSeq (mSet 2 (mLst (mCons (mTup (mCons (mC (.int 0)) (mCons (mFz (mRv (mVar 1))) mNil))) mNil)))
    (mSeq (mFor (mIter (mPl (mFz (mFr (mN gSortedA (mCons (mVar 0) mNil)))))) (tName 3) mb_added_up_1)
    (mRet (mCall [.b] 3 m_levelled (mCons (mVar 2) mNil))))))
def m_stretch_to : M Fl := (mSeq (mIf (mB (mOp gIs (mVar 1) (mPl (mC .none)))) (mRet (mRv (mPl (mTup (mCons (mFz (mRv (mVar 0))) (mCons (mC .none) mNil)))))) mSkip)
    (mSeq (mIf (mB (mOp gLe (mVar 1) (mVar 0))) (mRet (mRv (mPl (mC .none)))) mSkip)
    (mRet (mRv (mPl (mTup (mCons (mFz (mRv (mVar 0))) (mCons (mOp gSub' (mVar 1) (mPl (mC (.int 1)))) mNil))))))))
def mb_wish_behind_1 : M Fl := (mIf (mAnd (mB (mOp gLt (mVar 2) (mVar 1))) (mOr (mB (mOp gIs (mVar 3) (mPl (mC .none)))) (mB (mOp gLe (mVar 1) (mPl (mFz (mOpX gAdd (mVar 3) (mPl (mC (.int 1)))))))))) (mAug 1 gSub' (mPl (mC (.int 1)))) mSkip)
def m_wish_behind : M Fl := (mSeq (mFor (mIter (mVar 0)) (tTupl (tsCons (tName 2) (tsCons (tName 3) tsNil))) mb_wish_behind_1)
    (mRet (mRv (mVar 1))))
def m_handed_on : M Fl := (mRet (mCall [.b, .v] 2 m_wish_behind (mCons (mPl (mFz (mLst (mCons (mFz (mRv (mVar 0))) mNil)))) (mCons (mPl (mFz (mRv (mVar 1)))) mNil))))
def m_companies_within : M Fl := (mSeq (mAsg (tTupl (tsCons (tName 2) (tsCons (tName 3) tsNil))) (mFz (mRv (mVar 1))))
    (mSeq (mSet 4 (mCall [.b, .v] 2 m_wish_behind (mCons (mVar 0) (mCons (mPl (mFz (mRv (mVar 2)))) mNil))))
    (mSeq (mIf (mB (mOp gIs (mVar 3) (mPl (mC .none)))) (mRet (mCall [.v, .b] 0 m_stretch_to (mCons (mPl (mFz (mRv (mVar 4)))) (mCons (mPl (mC .none)) mNil)))) mSkip)
    (mRet (mCall [.v, .b] 0 m_stretch_to (mCons (mPl (mFz (mRv (mVar 4)))) (mCons (mPl (mFz (mCall [.b, .v] 2 m_wish_behind (mCons (mVar 0) (mCons (mPl (mFz (mOpX gAdd (mVar 3) (mPl (mC (.int 1)))))) mNil))))) mNil)))))))
def m_said_of_company : M Fl := (mRet (mLc (mRng1 (mN gLen (mCons (mVar 0) mNil))) (tName 1) [1] mYes (mFz (mCall [.b, .v] 3 m_companies_within (mCons (mSliceP (mVar 0) (some (mFz (mOpX gAdd (mVar 1) (mPl (mC (.int 1)))))) none) (mCons (mPl (mOp gIx (mVar 0) (mVar 1))) mNil))))))
def mb_changes_by_1 : M Fl := (mSeq (mDPut 1 (mFz (mOpX gAdd (mPl (mGet2 (mVar 1) (mFz (mRv (mVar 2))) (mC (.int 0)))) (mPl (mC (.int 1))))) (mFz (mRv (mVar 2))))
    (mIf (mB (mOp gNot (mVar 3) (mPl (mC .none)))) (mDPut 1 (mOp gSub' (mPl (mGet2 (mVar 1) (mFz (mOpX gAdd (mVar 3) (mPl (mC (.int 1))))) (mC (.int 0)))) (mPl (mC (.int 1)))) (mFz (mOpX gAdd (mVar 3) (mPl (mC (.int 1)))))) mSkip))
def m_changes_by : M Fl := (mSeq (mSet 1 (mFr mDict0))
    (mSeq (mFor (mIter (mVar 0)) (tTupl (tsCons (tName 2) (tsCons (tName 3) tsNil))) mb_changes_by_1)
    (mRet (mRv (mVar 1)))))
def m_is_number : M Fl := (mRet (mRv (mPl (mAndV (mUn (gIsi ["int"]) (mVar 0)) (mAndV (mNotV (mUn (gIsi ["bool"]) (mVar 0))) (mOp gGe (mVar 0) (mPl (mC (.int 0)))))))))
def mb_is_row_1 : M Fl := (mSeq (mIf (mOr (mNot (mTr (mPl (mUn (gIsi ["tuple"]) (mVar 1))))) (mB (mOp gNe (mPl (mN gLen (mCons (mVar 1) mNil))) (mPl (mC (.int 2)))))) (mRet (mRv (mPl (mC (.bool false))))) mSkip)
    (mSeq (mAsg (tTupl (tsCons (tName 2) (tsCons (tName 3) tsNil))) (mFz (mRv (mVar 1))))
    (mSeq (mIf (mOr (mNot (mTr (mPl (mUn (gIsi ["int"]) (mVar 2))))) (mOr (mB (mOp gLt (mVar 2) (mPl (mC (.int 0))))) (mOr (mB (mOp gIs (mVar 2) (mPl (mC (.bool true))))) (mB (mOp gIs (mVar 2) (mPl (mC (.bool false)))))))) (mRet (mRv (mPl (mC (.bool false))))) mSkip)
    (mIf (mAnd (mB (mOp gNot (mVar 3) (mPl (mC .none)))) (mOr (mNot (mTr (mPl (mUn (gIsi ["int"]) (mVar 3))))) (mOr (mB (mOp gLt (mVar 3) (mVar 2))) (mOr (mB (mOp gIs (mVar 3) (mPl (mC (.bool true))))) (mB (mOp gIs (mVar 3) (mPl (mC (.bool false))))))))) (mRet (mRv (mPl (mC (.bool false))))) mSkip))))
def m_is_row : M Fl := (mSeq (mIf (mNot (mTr (mPl (mUn (gIsi ["list", "tuple"]) (mVar 0))))) (mRet (mRv (mPl (mC (.bool false))))) mSkip)
    (mSeq (mFor (mIter (mVar 0)) (tName 1) mb_is_row_1)
    (mRet (mRv (mPl (mC (.bool true)))))))
def m_is_saying : M Fl := (mRet (mCall [.b] 3 m_is_row (mCons (mPl (mFz (mLst (mCons (mFz (mRv (mVar 0))) mNil)))) mNil)))
def m_need_number : M Fl := (mIf (mNot (mTr (mPl (mFz (mCall [.b] 0 m_is_number (mCons (mVar 0) mNil)))))) mNever mSkip)
def m_need_row : M Fl := (mIf (mNot (mTr (mPl (mFz (mCall [.b] 3 m_is_row (mCons (mVar 0) mNil)))))) mNever mSkip)
def m_need_place : M Fl := (mIf (mOr (mNot (mTr (mPl (mFz (mCall [.b] 0 m_is_number (mCons (mVar 0) mNil)))))) (mB (mOp gGe (mVar 0) (mVar 1)))) mNever mSkip)
def mb_what_comes_1 : M Fl := (mIf (mAnd (mB (mOp gLe (mVar 3) (mVar 2))) (mOr (mB (mOp gIs (mVar 4) (mPl (mC .none)))) (mB (mOp gLe (mVar 2) (mVar 4))))) (mAug 2 gAddI (mPl (mC (.int 1)))) mSkip)
def m_what_comes : M Fl := (mSeq (mSet 2 (mRv (mPl (mFz (mRv (mVar 1))))))
    (mSeq (mFor (mRev (mIter (mVar 0))) (tTupl (tsCons (tName 3) (tsCons (tName 4) tsNil))) mb_what_comes_1)
    (mRet (mRv (mVar 2)))))
def m_total : M Fl := (mSeq (mDrop (mFz (mCall [.b] 0 m_need_row (mCons (mVar 0) mNil))))
    (mSeq (mDrop (mFz (mCall [.b] 0 m_need_number (mCons (mVar 1) mNil))))
    (mRet (mCall [.b, .v] 3 m_what_comes (mCons (mVar 0) (mCons (mPl (mFz (mRv (mVar 1)))) mNil))))))
def mb_wishes_1 : M Fl := (mDrop (mMut 2 gAppend (mCons (mFz (mCall [.v, .v] 0 m_handed_on (mCons (mPl (mFz (mRv (mVar 3)))) (mCons (mPl (mOp gIx (mVar 2) (mPl (mNegU (mC (.int 1)))))) mNil)))) mNil)))
def m_wishes : M Fl := (mSeq (mDrop (mFz (mCall [.b] 0 m_need_row (mCons (mVar 0) mNil))))
    (mSeq (mDrop (mFz (mCall [.b] 0 m_need_number (mCons (mVar 1) mNil))))
    (mSeq (mSet 2 (mLst (mCons (mFz (mRv (mVar 1))) mNil)))
    (mSeq (mFor (mIter (mVar 0)) (tName 3) mb_wishes_1)
    (mRet (mRv (mVar 2)))))))
def m_companies : M Fl := (mSeq (mDrop (mFz (mCall [.b] 0 m_need_row (mCons (mVar 0) mNil))))
    (mSeq (mDrop (mFz (mCall [.b] 0 m_need_number (mCons (mVar 1) mNil))))
    (mRet (mCall [.b, .v] 3 m_companies_within (mCons (mVar 0) (mCons (mPl (mTup (mCons (mFz (mRv (mVar 1))) (mCons (mFz (mRv (mVar 1))) mNil)))) mNil))))))
def m_companies_between : M Fl := (mSeq (mDrop (mFz (mCall [.b] 0 m_need_row (mCons (mVar 0) mNil))))
    (mSeq (mIf (mNot (mTr (mPl (mFz (mCall [.v] 0 m_is_saying (mCons (mPl (mTup (mCons (mFz (mRv (mVar 1))) (mCons (mFz (mRv (mVar 2))) mNil)))) mNil)))))) mNever mSkip)
    (mRet (mCall [.b, .v] 3 m_companies_within (mCons (mVar 0) (mCons (mPl (mTup (mCons (mFz (mRv (mVar 1))) (mCons (mFz (mRv (mVar 2))) mNil)))) mNil))))))
def m_least_from : M Fl := (mSeq (mDrop (mFz (mCall [.b] 0 m_need_row (mCons (mVar 0) mNil))))
    (mSeq (mDrop (mFz (mCall [.b, .b] 0 m_need_place (mCons (mVar 1) (mCons (mPl (mFz (mOpX gAdd (mPl (mN gLen (mCons (mVar 0) mNil))) (mPl (mC (.int 1)))))) mNil)))))
    (mSeq (mDrop (mFz (mCall [.b] 0 m_need_number (mCons (mVar 2) mNil))))
    (mRet (mCall [.b, .v] 2 m_wish_behind (mCons (mSliceP (mVar 0) (some (mFz (mRv (mVar 1)))) none) (mCons (mPl (mFz (mRv (mVar 2)))) mNil)))))))
def mb_is_table_1 : M Fl := (mSeq (mIf (mOr (mNot (mTr (mPl (mUn (gIsi ["tuple"]) (mVar 3))))) (mB (mOp gNe (mPl (mN gLen (mCons (mVar 3) mNil))) (mPl (mC (.int 2)))))) (mRet (mRv (mPl (mC (.bool false))))) mSkip)
    (mSeq (mAsg (tTupl (tsCons (tName 4) (tsCons (tName 5) tsNil))) (mFz (mRv (mVar 3))))
    (mSeq (mIf (mOr (mNot (mTr (mPl (mUn (gIsi ["int"]) (mVar 4))))) (mOr (mB (mOp gLe (mVar 4) (mVar 1))) (mOr (mB (mOp gIs (mVar 4) (mPl (mC (.bool true))))) (mB (mOp gIs (mVar 4) (mPl (mC (.bool false)))))))) (mRet (mRv (mPl (mC (.bool false))))) mSkip)
    (mSeq (mIf (mOr (mNot (mTr (mPl (mUn (gIsi ["int"]) (mVar 5))))) (mOr (mB (mOp gLt (mVar 5) (mPl (mC (.int 0))))) (mOr (mB (mOp gEq (mVar 5) (mVar 2))) (mOr (mB (mOp gIs (mVar 5) (mPl (mC (.bool true))))) (mB (mOp gIs (mVar 5) (mPl (mC (.bool false))))))))) (mRet (mRv (mPl (mC (.bool false))))) mSkip)
    (mSeq (mSet 1 (mRv (mPl (mFz (mRv (mVar 4))))))
    (mSet 2 (mRv (mPl (mFz (mRv (mVar 5)))))))))))
def m_is_table : M Fl := (mSeq (mIf (mOr (mNot (mTr (mPl (mUn (gIsi ["list"]) (mVar 0))))) (mNot (mTr (mVar 0)))) (mRet (mRv (mPl (mC (.bool false))))) mSkip)
    (mSeq (mSet 1 (mRv (mPl (mNegU (mC (.int 1))))))
    (mSeq (mSet 2 (mRv (mPl (mC .none))))
    (mSeq (mFor (mIter (mVar 0)) (tName 3) mb_is_table_1)
    (mRet (mRv (mPl (mOp gEq (mPl (mOp gIx (mPl (mOp gIx (mVar 0) (mPl (mC (.int 0))))) (mPl (mC (.int 0))))) (mPl (mC (.int 0)))))))))))
def mb_is_rows_1 : M Fl := (mSeq (mIf (mB (mOp gLt (mVar 3) (mPl (mOp gSub' (mVar 1) (mPl (mC (.int 1))))))) (mRet (mRv (mPl (mC (.bool false))))) mSkip)
    (mSet 1 (mRv (mPl (mFz (mRv (mVar 3)))))))
def m_is_rows : M Fl := (mSeq (mIf (mNot (mTr (mPl (mFz (mCall [.b] 5 m_is_table (mCons (mVar 0) mNil)))))) (mRet (mRv (mPl (mC (.bool false))))) mSkip)
    (mSeq (mSet 1 (mRv (mPl (mC (.int 0)))))
    (mSeq (mFor (mIter (mVar 0)) (tTupl (tsCons (tName 2) (tsCons (tName 3) tsNil))) mb_is_rows_1)
    (mRet (mRv (mPl (mC (.bool true))))))))
def m_need_rows_table : M Fl := (mIf (mNot (mTr (mPl (mFz (mCall [.b] 3 m_is_rows (mCons (mVar 0) mNil)))))) mNever mSkip)
def m_table_of : M Fl := (mSeq (mDrop (mFz (mCall [.b] 0 m_need_row (mCons (mVar 0) mNil))))
    (mSeq (mSet 1 (mCall [.b] 1 m_said_of_company (mCons (mVar 0) mNil)))
    (mRet (mCall [.b] 3 m_added_up (mCons (mPl (mFz (mCall [.b] 3 m_changes_by (mCons (mPl (mFz (mLc (mIter (mPl (mFz (mRv (mVar 1))))) (tName 2) [2] (mB (mOp gNot (mVar 2) (mPl (mC .none)))) (mFz (mRv (mVar 2)))))) mNil)))) mNil)))))
def m_plain_copies : M Fl := (mRet (mRv (mPl (mIf (mB (mOp gEq (mVar 0) (mPl (mC (.int 0))))) (mC (.int 0)) (mC (.int 1))))))
def m_is_mark : M Fl := (mSeq (mIf (mOr (mNot (mTr (mPl (mUn (gIsi ["tuple"]) (mVar 0))))) (mB (mOp gNe (mPl (mN gLen (mCons (mVar 0) mNil))) (mPl (mC (.int 2)))))) (mRet (mRv (mPl (mC (.bool false))))) mSkip)
    (mRet (mRv (mPl (mAndV (mFz (mCall [.b] 0 m_is_number (mCons (mPl (mOp gIx (mVar 0) (mPl (mC (.int 0))))) mNil))) (mAndV (mFz (mCall [.b] 0 m_is_number (mCons (mPl (mOp gIx (mVar 0) (mPl (mC (.int 1))))) mNil))) (mOp gNe (mPl (mOp gIx (mVar 0) (mPl (mC (.int 1))))) (mPl (mFz (mCall [.b] 0 m_plain_copies (mCons (mPl (mOp gIx (mVar 0) (mPl (mC (.int 0))))) mNil)))))))))))
def m_is_shelf : M Fl := (mSeq (mIf (mOr (mNot (mTr (mPl (mUn (gIsi ["list"]) (mVar 0))))) (mNot (mTr (mPl (mN gAll (mCons (mPl (mFz (mLc (mIter (mVar 0)) (tName 1) [1] mYes (mFz (mCall [.b] 0 m_is_mark (mCons (mVar 1) mNil)))))) mNil)))))) (mRet (mRv (mPl (mC (.bool false))))) mSkip)
    (mRet (mRv (mPl (mN gAll (mCons (mPl (mFz (mLc (mZip (mVar 0) (mPl (mFz (mSlice (mVar 0) (some (mC (.int 1))) none)))) (tTupl (tsCons (tName 1) (tsCons (tName 2) tsNil))) [1, 2] mYes (mOp gLt (mPl (mOp gIx (mVar 1) (mPl (mC (.int 0))))) (mPl (mOp gIx (mVar 2) (mPl (mC (.int 0))))))))) mNil))))))
def m_need_shelf : M Fl := (mIf (mNot (mTr (mPl (mFz (mCall [.b] 2 m_is_shelf (mCons (mVar 0) mNil)))))) mNever mSkip)
def m_need_book : M Fl := (mIf (mOr (mNot (mTr (mPl (mFz (mCall [.b] 0 m_is_number (mCons (mVar 0) mNil)))))) (mB (mOp gLt (mVar 0) (mVar 1)))) mNever mSkip)
def mb_find_book_1 : M Fl := (mSeq (mIf (mB (mOp gLe (mVar 1) (mPl (mFz (mOpX gAdd (mPl (mOp gSub' (mVar 3) (mPl (mC (.int 1))))) (mVar 2)))))) (mRet (mRv (mPl (mOp gSub' (mVar 1) (mVar 2))))) mSkip)
    (mSeq (mAug 2 gAddI (mPl (mOp gSub' (mVar 4) (mPl (mFz (mCall [.b] 0 m_plain_copies (mCons (mVar 3) mNil)))))))
    (mIf (mB (mOp gLe (mVar 1) (mPl (mFz (mOpX gAdd (mVar 3) (mVar 2)))))) (mRet (mRv (mVar 3))) mSkip)))
def m_find_book : M Fl := (mSeq (mSet 2 (mRv (mPl (mC (.int 0)))))
    (mSeq (mFor (mIter (mVar 0)) (tTupl (tsCons (tName 3) (tsCons (tName 4) tsNil))) mb_find_book_1)
    (mRet (mRv (mPl (mOp gSub' (mVar 1) (mVar 2)))))))
def m_count_to : M Fl := (mRet (mOpX gAdd (mVar 1) (mPl (mN gSum (mCons (mPl (mFz (mLc (mIter (mVar 0)) (tTupl (tsCons (tName 2) (tsCons (tName 3) tsNil))) [2, 3] (mB (mOp gLe (mVar 2) (mVar 1))) (mOp gSub' (mVar 3) (mPl (mFz (mCall [.b] 0 m_plain_copies (mCons (mVar 2) mNil)))))))) mNil)))))
def m_book : M Fl := (mSeq (mDrop (mFz (mCall [.b] 0 m_need_shelf (mCons (mVar 0) mNil))))
    (mSeq (mDrop (mFz (mCall [.b, .b] 0 m_need_book (mCons (mVar 1) (mCons (mPl (mC (.int 0))) mNil)))))
    (mRet (mCall [.b, .b] 3 m_find_book (mCons (mVar 0) (mCons (mVar 1) mNil))))))
def m_books_to : M Fl := (mSeq (mDrop (mFz (mCall [.b] 0 m_need_shelf (mCons (mVar 0) mNil))))
    (mSeq (mDrop (mFz (mCall [.b] 0 m_need_number (mCons (mVar 1) mNil))))
    (mRet (mCall [.b, .b] 2 m_count_to (mCons (mVar 0) (mCons (mVar 1) mNil))))))
def mb_shelf_by_1 : M Fl := (mSeq (mIf (mB (mOp gNe (mVar 4) (mVar 2))) (mDrop (mMut 1 gAppend (mCons (mTup (mCons (mFz (mRv (mVar 3))) (mCons (mOp gSub' (mPl (mFz (mOpX gAdd (mPl (mFz (mCall [.b] 0 m_plain_copies (mCons (mVar 3) mNil)))) (mVar 4)))) (mVar 2)) mNil))) mNil))) mSkip)
    (mSet 2 (mRv (mPl (mFz (mRv (mVar 4)))))))
def m_shelf_by : M Fl := (mSeq (mDrop (mFz (mCall [.b] 0 m_need_rows_table (mCons (mVar 0) mNil))))
    (mSeq (mSet 1 (mLst mNil))
    (mSeq (mSet 2 (mRv (mPl (mC (.int 0)))))
    (mSeq (mFor (mIter (mVar 0)) (tTupl (tsCons (tName 3) (tsCons (tName 4) tsNil))) mb_shelf_by_1)
    (mRet (mRv (mVar 1)))))))
def m_shelf_of : M Fl := (mRet (mCall [.b] 4 m_shelf_by (mCons (mPl (mFz (mCall [.b] 2 m_table_of (mCons (mVar 0) mNil)))) mNil)))
def m_l_jar : M Fl := (mSeq (mSet 2 (mRv (mPl (mIf (mB (mOp gLt (mVar 1) (mPl (mLenS 0)))) (mIxS 0 (mFz (mRv (mVar 1)))) (mC (.int 0))))))
    (mRet (mLst (mCons (mN gMax2 (mCons (mPl (mC (.int 0))) (mCons (mPl (mOp gSub' (mVar 2) (mPl (mOp gPow (mPl (mC (.int 10))) (mPl (mC (.int 18))))))) mNil))) (mCons (mFz (mOpX gAdd (mPl (mFz (mOpX gMul (mPl (mOp gMod (mVar 2) (mPl (mFz (mOpX gAdd (mPl (mOp gPow (mPl (mC (.int 10))) (mPl (mC (.int 35))))) (mPl (mC (.int 69)))))))) (mPl (mC (.int 128)))))) (mVar 1))) (mCons (mC (.int 0)) mNil))))))
def m_l_pour : M Fl := (mSeq (mIf (mB (mOp gGt (mPl (mOp gIx (mVar 0) (mPl (mC (.int 0))))) (mPl (mC (.int 0))))) (mSeq (mSet 2 (mRv (mPl (mOp gMod (mPl (mOp gIx (mVar 0) (mPl (mC (.int 0))))) (mVar 1)))))
    (mSeq (mSetIx 0 (mOp gDiv (mPl (mOp gIx (mVar 0) (mPl (mC (.int 0))))) (mVar 1)) (mC (.int 0)))
    (mRet (mRv (mVar 2))))) mSkip)
    (mSeq (mSetIx 0 (mFz (mOpX gAdd (mPl (mOp gIx (mVar 0) (mPl (mC (.int 2))))) (mPl (mC (.int 1))))) (mC (.int 2)))
    (mSeq (mSet 3 (mRv (mPl (mOp gMod (mPl (mOp gPow (mPl (mFz (mOpX gAdd (mPl (mOp gIx (mVar 0) (mPl (mC (.int 1))))) (mPl (mFz (mOpX gMul (mPl (mC (.int 32452843))) (mPl (mOp gIx (mVar 0) (mPl (mC (.int 2))))))))))) (mPl (mC (.int 3))))) (mPl (mFz (mOpX gAdd (mPl (mOp gPow (mPl (mC (.int 10))) (mPl (mC (.int 37))))) (mPl (mC (.int 43))))))))))
    (mSeq (mSet 3 (mRv (mPl (mOp gMod (mPl (mOp gPow (mPl (mFz (mOpX gAdd (mVar 3) (mPl (mFz (mOpX gMul (mPl (mC (.int 49979687))) (mPl (mOp gIx (mVar 0) (mPl (mC (.int 2))))))))))) (mPl (mC (.int 5))))) (mPl (mFz (mOpX gAdd (mPl (mOp gPow (mPl (mC (.int 10))) (mPl (mC (.int 39))))) (mPl (mC (.int 3))))))))))
    (mRet (mRv (mPl (mOp gMod (mPl (mOp gDiv (mVar 3) (mPl (mC (.int 131071))))) (mVar 1)))))))))
def m_l_number : M Fl := (mRet (mRv (mPl (mOp gIx (mPl (mFz (mLst (mCons (mFz (mCall [.io, .b] 2 m_l_pour (mCons (mVar 0) (mCons (mPl (mC (.int 3))) mNil)))) (mCons (mFz (mCall [.io, .b] 2 m_l_pour (mCons (mVar 0) (mCons (mPl (mC (.int 9))) mNil)))) (mCons (mFz (mCall [.io, .b] 2 m_l_pour (mCons (mVar 0) (mCons (mVar 1) mNil)))) mNil)))))) (mPl (mFz (mCall [.io, .b] 2 m_l_pour (mCons (mVar 0) (mCons (mPl (mC (.int 3))) mNil)))))))))
def m_l_saying : M Fl := (mSeq (mSet 2 (mCall [.io, .b] 0 m_l_number (mCons (mVar 0) (mCons (mVar 1) mNil))))
    (mSeq (mSet 3 (mOpX gAdd (mVar 2) (mPl (mFz (mCall [.io, .b] 0 m_l_number (mCons (mVar 0) (mCons (mVar 1) mNil)))))))
    (mRet (mRv (mPl (mTup (mCons (mFz (mRv (mVar 2))) (mCons (mOp gIx (mPl (mFz (mLst (mCons (mFz (mRv (mVar 3))) (mCons (mFz (mRv (mVar 3))) (mCons (mFz (mRv (mVar 3))) (mCons (mFz (mRv (mVar 3))) (mCons (mC .none) mNil)))))))) (mPl (mFz (mCall [.io, .b] 2 m_l_pour (mCons (mVar 0) (mCons (mPl (mC (.int 5))) mNil)))))) mNil))))))))
def m_l_row : M Fl := (mRet (mLc (mRng1 (mFz (mCall [.io, .b] 2 m_l_pour (mCons (mVar 0) (mCons (mPl (mFz (mOpX gAdd (mVar 1) (mPl (mC (.int 1)))))) mNil))))) (tName 3) [3] mYes (mFz (mCall [.io, .b] 2 m_l_saying (mCons (mVar 0) (mCons (mVar 2) mNil))))))
def mb_l_some_twice_1 : M Fl := (mDrop (mMut 2 gInsert (mCons (mFz (mCall [.io, .b] 2 m_l_pour (mCons (mVar 0) (mCons (mPl (mFz (mOpX gAdd (mPl (mN gLen (mCons (mVar 2) mNil))) (mPl (mC (.int 1)))))) mNil)))) (mCons (mOp gIx (mVar 1) (mPl (mFz (mCall [.io, .b] 2 m_l_pour (mCons (mVar 0) (mCons (mPl (mN gLen (mCons (mVar 1) mNil))) mNil)))))) mNil))))
def m_l_some_twice : M Fl := (mSeq (mSet 2 (mFr (mN gList (mCons (mVar 1) mNil))))
    (mSeq (mFor (mRng1 (mFz (mOpX gMul (mPl (mFz (mCall [.io, .b] 2 m_l_pour (mCons (mVar 0) (mCons (mPl (mC (.int 4))) mNil))))) (mPl (mN gInt1 (mCons (mPl (mOp gNe (mVar 1) (mPl (mFz (mLst mNil))))) mNil)))))) (tName 3) mb_l_some_twice_1)
    (mRet (mRv (mVar 2)))))
def mb_l_spots_1 : M Fl := (mSeq (mSet 4 (mCall [.io, .b] 2 m_l_pour (mCons (mVar 0) (mCons (mPl (mN gLen (mCons (mVar 1) mNil))) mNil))))
    (mSeq (mAsg (tTupl (tsCons (tName 5) (tsCons (tName 6) tsNil))) (mOp gIx (mVar 1) (mVar 4)))
    (mSeq (mSet 7 (mRv (mPl (mOp gIx (mPl (mFz (mLst (mCons (mFz (mRv (mVar 5))) (mCons (mFz (mOpX gAdd (mVar 5) (mPl (mC (.int 1))))) (mCons (mIf (mB (mOp gIs (mVar 6) (mPl (mC .none)))) (mFz (mRv (mVar 5))) (mFz (mOpX gAdd (mVar 6) (mPl (mC (.int 1)))))) mNil)))))) (mPl (mFz (mCall [.io, .b] 2 m_l_pour (mCons (mVar 0) (mCons (mPl (mC (.int 3))) mNil)))))))))
    (mDrop (mMut 2 gAppend (mCons (mN gMax2 (mCons (mPl (mC (.int 0))) (mCons (mPl (mOp gSub' (mPl (mFz (mOpX gAdd (mPl (mFz (mCall [.b, .b, .v] 0 m_least_from (mCons (mVar 1) (mCons (mPl (mFz (mOpX gAdd (mVar 4) (mPl (mC (.int 1)))))) (mCons (mPl (mFz (mRv (mVar 7)))) mNil)))))) (mPl (mFz (mCall [.io, .b] 2 m_l_pour (mCons (mVar 0) (mCons (mPl (mC (.int 3))) mNil)))))))) (mPl (mC (.int 1))))) mNil))) mNil))))))
def m_l_spots : M Fl := (mSeq (mSet 2 (mLst (mCons (mC (.int 0)) (mCons (mFz (mCall [.io, .b] 0 m_l_number (mCons (mVar 0) (mCons (mPl (mOp gPow (mPl (mC (.int 10))) (mPl (mC (.int 29))))) mNil)))) mNil))))
    (mSeq (mFor (mRng1 (mFz (mOpX gMul (mPl (mC (.int 6))) (mPl (mN gInt1 (mCons (mPl (mOp gNe (mVar 1) (mPl (mFz (mLst mNil))))) mNil)))))) (tName 3) mb_l_spots_1)
    (mRet (mRv (mVar 2)))))
def mb_l_undone_1 : M Fl := (mIf (mB (mOp gNe (mPl (mOp gLe (mPl (mOp gIx (mPl (mFz (mCall [.b, .v] 2 m_wishes (mCons (mVar 0) (mCons (mPl (mFz (mRv (mVar 3)))) mNil))))) (mPl (mNegU (mC (.int 1)))))) (mVar 1))) (mPl (mOp gLe (mVar 3) (mVar 2))))) (mRet (mRv (mPl (mC (.bool false))))) mSkip)
def m_l_undone : M Fl := (mSeq (mSet 2 (mCall [.b, .v] 0 m_total (mCons (mVar 0) (mCons (mPl (mFz (mRv (mVar 1)))) mNil))))
    (mSeq (mFor (mIter (mPl (mFz (mLst (mCons (mFz (mRv (mVar 2))) (mCons (mFz (mOpX gAdd (mVar 2) (mPl (mC (.int 1))))) (mCons (mN gMax2 (mCons (mPl (mC (.int 0))) (mCons (mPl (mOp gSub' (mVar 2) (mPl (mC (.int 1))))) mNil))) (mCons (mFz (mOpX gAdd (mVar 2) (mPl (mC (.int 7))))) mNil)))))))) (tName 3) mb_l_undone_1)
    (mSeq (mAsg (tTupl (tsCons (tName 4) (tsCons (tName 5) tsNil))) (mFz (mCall [.b, .v] 0 m_companies (mCons (mVar 0) (mCons (mPl (mFz (mRv (mVar 2)))) mNil)))))
    (mSeq (mIf (mOr (mB (mOp gGt (mVar 4) (mVar 1))) (mAnd (mB (mOp gNot (mVar 5) (mPl (mC .none)))) (mB (mOp gLt (mVar 5) (mVar 1))))) (mRet (mRv (mPl (mC (.bool false))))) mSkip)
    (mSeq (mIf (mOr (mAnd (mB (mOp gGt (mVar 4) (mPl (mC (.int 0))))) (mB (mOp gGe (mPl (mFz (mCall [.b, .v] 0 m_total (mCons (mVar 0) (mCons (mPl (mOp gSub' (mVar 4) (mPl (mC (.int 1))))) mNil))))) (mVar 2)))) (mB (mOp gLe (mPl (mFz (mCall [.b, .v] 0 m_total (mCons (mVar 0) (mCons (mPl (mFz (mOpX gAdd (mVar 5) (mPl (mC (.int 1)))))) mNil))))) (mVar 2)))) (mRet (mRv (mPl (mC (.bool false))))) mSkip)
    (mRet (mRv (mPl (mAndV (mOp gEq (mPl (mFz (mCall [.b, .v, .v] 0 m_companies_between (mCons (mVar 0) (mCons (mPl (mFz (mRv (mVar 2)))) (mCons (mPl (mFz (mRv (mVar 2)))) mNil)))))) (mPl (mTup (mCons (mFz (mRv (mVar 4))) (mCons (mFz (mRv (mVar 5))) mNil))))) (mOp gEq (mPl (mOp gIx (mPl (mFz (mCall [.b, .v] 2 m_wishes (mCons (mVar 0) (mCons (mPl (mFz (mRv (mVar 2)))) mNil))))) (mPl (mNegU (mC (.int 1)))))) (mVar 4)))))))))))
def m_l_behind : M Fl := (mSeq (mSet 3 (mCall [.b, .v] 2 m_wishes (mCons (mVar 0) (mCons (mPl (mFz (mRv (mVar 2)))) mNil))))
    (mRet (mRv (mPl (mOp gEq (mPl (mFz (mCall [.b, .v] 2 m_wishes (mCons (mPl (mFz (mOpX gAdd (mVar 0) (mVar 1)))) (mCons (mPl (mFz (mRv (mVar 2)))) mNil))))) (mPl (mFz (mOpX gAdd (mVar 3) (mSliceP (mPl (mFz (mCall [.b, .v] 2 m_wishes (mCons (mVar 1) (mCons (mPl (mOp gIx (mVar 3) (mPl (mNegU (mC (.int 1)))))) mNil))))) (some (mC (.int 1))) none)))))))))
def m_l_shelf_right : M Fl := (mSeq (mSet 3 (mCall [.b] 0 m_shelf_of (mCons (mPl (mFz (mOpX gAdd (mVar 0) (mVar 1)))) mNil)))
    (mSeq (mSet 4 (mRv (mPl (mOp gIx (mPl (mFz (mCall [.b, .v] 2 m_wishes (mCons (mVar 0) (mCons (mPl (mFz (mRv (mVar 2)))) mNil))))) (mPl (mNegU (mC (.int 1))))))))
    (mRet (mRv (mPl (mAndV (mOp gEq (mPl (mFz (mCall [.b, .b] 0 m_book (mCons (mVar 3) (mCons (mVar 2) mNil))))) (mPl (mFz (mCall [.b, .b] 0 m_book (mCons (mPl (mFz (mCall [.b] 0 m_shelf_of (mCons (mVar 1) mNil)))) (mCons (mVar 4) mNil)))))) (mAndV (mOp gLe (mVar 4) (mVar 2)) (mOp gGe (mPl (mFz (mCall [.b, .b] 0 m_books_to (mCons (mVar 3) (mCons (mVar 2) mNil))))) (mVar 2)))))))))
def mb_law_1 : M Fl := (mSeq (mSet 9 (mCall [.io, .b] 0 m_l_number (mCons (mVar 2) (mCons (mPl (mOp gIx (mPl (mFz (mLst (mCons (mC (.int 60)) (mCons (mOp gSub' (mPl (mOp gPow (mPl (mC (.int 10))) (mPl (mC (.int 30))))) (mPl (mC (.int 1)))) mNil))))) (mPl (mFz (mCall [.io, .b] 2 m_l_pour (mCons (mVar 2) (mCons (mPl (mC (.int 2))) mNil))))))) mNil))))
    (mSeq (mIf (mOr (mNot (mTr (mPl (mFz (mCall [.b, .b, .v] 1 m_l_behind (mCons (mPl (mOp gIx (mVar 5) (mPl (mC (.int 0))))) (mCons (mPl (mOp gIx (mVar 5) (mPl (mC (.int 1))))) (mCons (mPl (mFz (mRv (mVar 9)))) mNil)))))))) (mNot (mTr (mPl (mFz (mCall [.b, .b, .v] 2 m_l_shelf_right (mCons (mPl (mOp gIx (mVar 5) (mPl (mC (.int 0))))) (mCons (mPl (mOp gIx (mVar 5) (mPl (mC (.int 1))))) (mCons (mPl (mFz (mRv (mVar 9)))) mNil))))))))) (mRet (mRv (mPl (mC (.bool false))))) mSkip)
    (mSeq (mIf (mB (mOp gGt (mPl (mFz (mCall [.b, .b, .v] 0 m_least_from (mCons (mVar 6) (mCons (mPl (mC (.int 0))) (mCons (mPl (mFz (mRv (mVar 9)))) mNil)))))) (mPl (mFz (mCall [.b, .b, .v] 0 m_least_from (mCons (mVar 6) (mCons (mPl (mC (.int 0))) (mCons (mPl (mFz (mOpX gAdd (mVar 9) (mPl (mC (.int 1)))))) mNil)))))))) (mRet (mRv (mPl (mC (.bool false))))) mSkip)
    (mIf (mB (mOp gNe (mPl (mFz (mCall [.b, .b, .v] 0 m_least_from (mCons (mVar 6) (mCons (mPl (mN gLen (mCons (mPl (mOp gIx (mVar 5) (mPl (mC (.int 0))))) mNil))) (mCons (mPl (mFz (mRv (mVar 9)))) mNil)))))) (mPl (mOp gIx (mPl (mFz (mCall [.b, .v] 2 m_wishes (mCons (mPl (mOp gIx (mVar 5) (mPl (mC (.int 1))))) (mCons (mPl (mFz (mRv (mVar 9)))) mNil))))) (mPl (mNegU (mC (.int 1)))))))) (mRet (mRv (mPl (mC (.bool false))))) mSkip))))
def mb_law_2 : M Fl := (mIf (mNot (mTr (mPl (mFz (mCall [.b, .v] 4 m_l_undone (mCons (mVar 6) (mCons (mPl (mFz (mRv (mVar 7)))) mNil))))))) (mRet (mRv (mPl (mC (.bool false))))) mSkip)
def mb_law_3 : M Fl := (mSeq (mSet 2 (mCall [.s, .b] 1 m_l_jar (mCons (mVar 0) (mCons (mVar 1) mNil))))
    (mSeq (mSet 3 (mRv (mPl (mOp gIx (mPl (mFz (mLst (mCons (mC (.int 9)) (mCons (mC (.int 30)) (mCons (mFz (mOpX gMul (mPl (mC (.int 4))) (mPl (mOp gPow (mPl (mC (.int 10))) (mPl (mC (.int 29))))))) mNil)))))) (mPl (mFz (mCall [.io, .b] 2 m_l_pour (mCons (mVar 2) (mCons (mPl (mC (.int 3))) mNil)))))))))
    (mSeq (mSet 4 (mRv (mPl (mOp gIx (mPl (mFz (mLst (mCons (mC (.int 37)) (mCons (mC (.int 37)) (mCons (mC (.int 37)) (mCons (mC (.int 97)) mNil))))))) (mPl (mFz (mCall [.io, .b] 2 m_l_pour (mCons (mVar 2) (mCons (mPl (mC (.int 4))) mNil)))))))))
    (mSeq (mSet 5 (mLc (mRng1 (mC (.int 2))) (tName 8) [8] mYes (mFz (mCall [.io, .b] 2 m_l_some_twice (mCons (mVar 2) (mCons (mPl (mFz (mCall [.io, .b, .b] 1 m_l_row (mCons (mVar 2) (mCons (mVar 4) (mCons (mVar 3) mNil)))))) mNil))))))
    (mSeq (mSet 6 (mOpX gAdd (mPl (mOp gIx (mVar 5) (mPl (mC (.int 0))))) (mPl (mOp gIx (mVar 5) (mPl (mC (.int 1)))))))
    (mSeq (mFor (mIter (mPl (mFz (mCall [.io, .b] 6 m_l_spots (mCons (mVar 2) (mCons (mVar 6) mNil)))))) (tName 7) mb_law_2)
    (mFor (mRng1 (mC (.int 6))) (tName 8) mb_law_1)))))))
def m_law : M Fl := (mSeq (mFor (mRng1 (mN gMax2 (mCons (mPl (mC (.int 1))) (mCons (mPl (mN gMin2 (mCons (mPl (mC (.int 6))) (mCons (mPl (mLenS 0)) mNil)))) mNil)))) (tName 1) mb_law_3)
    (mRet (mRv (mPl (mC (.bool true))))))
structure Tx (K : PySem.W.Frag) (mg : Str → Option Value) (a_levelled : Addr) (d_levelled : FuncData) (a_added_up : Addr) (d_added_up : FuncData) (a_stretch_to : Addr) (d_stretch_to : FuncData) (a_wish_behind : Addr) (d_wish_behind : FuncData) (a_handed_on : Addr) (d_handed_on : FuncData) (a_companies_within : Addr) (d_companies_within : FuncData) (a_said_of_company : Addr) (d_said_of_company : FuncData) (a_changes_by : Addr) (d_changes_by : FuncData) (a_is_number : Addr) (d_is_number : FuncData) (a_is_row : Addr) (d_is_row : FuncData) (a_is_saying : Addr) (d_is_saying : FuncData) (a_need_number : Addr) (d_need_number : FuncData) (a_need_row : Addr) (d_need_row : FuncData) (a_need_place : Addr) (d_need_place : FuncData) (a_what_comes : Addr) (d_what_comes : FuncData) (a_total : Addr) (d_total : FuncData) (a_wishes : Addr) (d_wishes : FuncData) (a_companies : Addr) (d_companies : FuncData) (a_companies_between : Addr) (d_companies_between : FuncData) (a_least_from : Addr) (d_least_from : FuncData) (a_is_table : Addr) (d_is_table : FuncData) (a_is_rows : Addr) (d_is_rows : FuncData) (a_need_rows_table : Addr) (d_need_rows_table : FuncData) (a_table_of : Addr) (d_table_of : FuncData) (a_plain_copies : Addr) (d_plain_copies : FuncData) (a_is_mark : Addr) (d_is_mark : FuncData) (a_is_shelf : Addr) (d_is_shelf : FuncData) (a_need_shelf : Addr) (d_need_shelf : FuncData) (a_need_book : Addr) (d_need_book : FuncData) (a_find_book : Addr) (d_find_book : FuncData) (a_count_to : Addr) (d_count_to : FuncData) (a_book : Addr) (d_book : FuncData) (a_books_to : Addr) (d_books_to : FuncData) (a_shelf_by : Addr) (d_shelf_by : FuncData) (a_shelf_of : Addr) (d_shelf_of : FuncData) (a_l_jar : Addr) (d_l_jar : FuncData) (a_l_pour : Addr) (d_l_pour : FuncData) (a_l_number : Addr) (d_l_number : FuncData) (a_l_saying : Addr) (d_l_saying : FuncData) (a_l_row : Addr) (d_l_row : FuncData) (a_l_some_twice : Addr) (d_l_some_twice : FuncData) (a_l_spots : Addr) (d_l_spots : FuncData) (a_l_undone : Addr) (d_l_undone : FuncData) (a_l_behind : Addr) (d_l_behind : FuncData) (a_l_shelf_right : Addr) (d_l_shelf_right : FuncData) (a_law : Addr) (d_law : FuncData) : Prop where
  n_all : mg "all" = none
  n_bool : mg "bool" = none
  n_int : mg "int" = none
  n_isinstance : mg "isinstance" = none
  n_len : mg "len" = none
  n_list : mg "list" = none
  n_max : mg "max" = none
  n_min : mg "min" = none
  n_range : mg "range" = none
  n_reversed : mg "reversed" = none
  n_sorted : mg "sorted" = none
  n_sum : mg "sum" = none
  n_tuple : mg "tuple" = none
  n_zip : mg "zip" = none
  f_levelled : Fun K "levelled" "levelled" s_levelled a_levelled d_levelled
  g_levelled : mg "levelled" = some (.ref a_levelled)
  b_levelled : Binds K d_levelled ["steps"] []
  f_added_up : Fun K "added_up" "added_up" s_added_up a_added_up d_added_up
  g_added_up : mg "added_up" = some (.ref a_added_up)
  b_added_up : Binds K d_added_up ["changes"] []
  f_stretch_to : Fun K "stretch_to" "stretch_to" s_stretch_to a_stretch_to d_stretch_to
  g_stretch_to : mg "stretch_to" = some (.ref a_stretch_to)
  b_stretch_to : Binds K d_stretch_to ["first", "beyond"] []
  f_wish_behind : Fun K "wish_behind" "wish_behind" s_wish_behind a_wish_behind d_wish_behind
  g_wish_behind : mg "wish_behind" = some (.ref a_wish_behind)
  b_wish_behind : Binds K d_wish_behind ["people", "wish"] []
  f_handed_on : Fun K "handed_on" "handed_on" s_handed_on a_handed_on d_handed_on
  g_handed_on : mg "handed_on" = some (.ref a_handed_on)
  b_handed_on : Binds K d_handed_on ["saying", "wish"] []
  f_companies_within : Fun K "companies_within" "companies_within" s_companies_within a_companies_within d_companies_within
  g_companies_within : mg "companies_within" = some (.ref a_companies_within)
  b_companies_within : Binds K d_companies_within ["people", "saying"] []
  f_said_of_company : Fun K "said_of_company" "said_of_company" s_said_of_company a_said_of_company d_said_of_company
  g_said_of_company : mg "said_of_company" = some (.ref a_said_of_company)
  b_said_of_company : Binds K d_said_of_company ["row"] []
  f_changes_by : Fun K "changes_by" "changes_by" s_changes_by a_changes_by d_changes_by
  g_changes_by : mg "changes_by" = some (.ref a_changes_by)
  b_changes_by : Binds K d_changes_by ["stretches"] []
  f_is_number : Fun K "is_number" "is_number" s_is_number a_is_number d_is_number
  g_is_number : mg "is_number" = some (.ref a_is_number)
  b_is_number : Binds K d_is_number ["thing"] []
  f_is_row : Fun K "is_row" "is_row" s_is_row a_is_row d_is_row
  g_is_row : mg "is_row" = some (.ref a_is_row)
  b_is_row : Binds K d_is_row ["thing"] []
  f_is_saying : Fun K "is_saying" "is_saying" s_is_saying a_is_saying d_is_saying
  g_is_saying : mg "is_saying" = some (.ref a_is_saying)
  b_is_saying : Binds K d_is_saying ["thing"] []
  f_need_number : Fun K "need_number" "need_number" s_need_number a_need_number d_need_number
  g_need_number : mg "need_number" = some (.ref a_need_number)
  b_need_number : Binds K d_need_number ["thing"] []
  f_need_row : Fun K "need_row" "need_row" s_need_row a_need_row d_need_row
  g_need_row : mg "need_row" = some (.ref a_need_row)
  b_need_row : Binds K d_need_row ["thing"] []
  f_need_place : Fun K "need_place" "need_place" s_need_place a_need_place d_need_place
  g_need_place : mg "need_place" = some (.ref a_need_place)
  b_need_place : Binds K d_need_place ["thing", "places"] []
  f_what_comes : Fun K "what_comes" "what_comes" s_what_comes a_what_comes d_what_comes
  g_what_comes : mg "what_comes" = some (.ref a_what_comes)
  b_what_comes : Binds K d_what_comes ["people", "company"] []
  f_total : Fun K "total" "total" s_total a_total d_total
  g_total : mg "total" = some (.ref a_total)
  b_total : Binds K d_total ["row", "company"] []
  f_wishes : Fun K "wishes" "wishes" s_wishes a_wishes d_wishes
  g_wishes : mg "wishes" = some (.ref a_wishes)
  b_wishes : Binds K d_wishes ["row", "many"] []
  f_companies : Fun K "companies" "companies" s_companies a_companies d_companies
  g_companies : mg "companies" = some (.ref a_companies)
  b_companies : Binds K d_companies ["row", "total"] []
  f_companies_between : Fun K "companies_between" "companies_between" s_companies_between a_companies_between d_companies_between
  g_companies_between : mg "companies_between" = some (.ref a_companies_between)
  b_companies_between : Binds K d_companies_between ["row", "least", "most"] []
  f_least_from : Fun K "least_from" "least_from" s_least_from a_least_from d_least_from
  g_least_from : mg "least_from" = some (.ref a_least_from)
  b_least_from : Binds K d_least_from ["row", "place", "many"] []
  f_is_table : Fun K "is_table" "is_table" s_is_table a_is_table d_is_table
  g_is_table : mg "is_table" = some (.ref a_is_table)
  b_is_table : Binds K d_is_table ["thing"] []
  f_is_rows : Fun K "is_rows" "is_rows" s_is_rows a_is_rows d_is_rows
  g_is_rows : mg "is_rows" = some (.ref a_is_rows)
  b_is_rows : Binds K d_is_rows ["thing"] []
  f_need_rows_table : Fun K "need_rows_table" "need_rows_table" s_need_rows_table a_need_rows_table d_need_rows_table
  g_need_rows_table : mg "need_rows_table" = some (.ref a_need_rows_table)
  b_need_rows_table : Binds K d_need_rows_table ["thing"] []
  f_table_of : Fun K "table_of" "table_of" s_table_of a_table_of d_table_of
  g_table_of : mg "table_of" = some (.ref a_table_of)
  b_table_of : Binds K d_table_of ["row"] []
  f_plain_copies : Fun K "plain_copies" "plain_copies" s_plain_copies a_plain_copies d_plain_copies
  g_plain_copies : mg "plain_copies" = some (.ref a_plain_copies)
  b_plain_copies : Binds K d_plain_copies ["number"] []
  f_is_mark : Fun K "is_mark" "is_mark" s_is_mark a_is_mark d_is_mark
  g_is_mark : mg "is_mark" = some (.ref a_is_mark)
  b_is_mark : Binds K d_is_mark ["thing"] []
  f_is_shelf : Fun K "is_shelf" "is_shelf" s_is_shelf a_is_shelf d_is_shelf
  g_is_shelf : mg "is_shelf" = some (.ref a_is_shelf)
  b_is_shelf : Binds K d_is_shelf ["thing"] []
  f_need_shelf : Fun K "need_shelf" "need_shelf" s_need_shelf a_need_shelf d_need_shelf
  g_need_shelf : mg "need_shelf" = some (.ref a_need_shelf)
  b_need_shelf : Binds K d_need_shelf ["thing"] []
  f_need_book : Fun K "need_book" "need_book" s_need_book a_need_book d_need_book
  g_need_book : mg "need_book" = some (.ref a_need_book)
  b_need_book : Binds K d_need_book ["thing", "least"] []
  f_find_book : Fun K "find_book" "find_book" s_find_book a_find_book d_find_book
  g_find_book : mg "find_book" = some (.ref a_find_book)
  b_find_book : Binds K d_find_book ["shelf", "m"] []
  f_count_to : Fun K "count_to" "count_to" s_count_to a_count_to d_count_to
  g_count_to : mg "count_to" = some (.ref a_count_to)
  b_count_to : Binds K d_count_to ["shelf", "number"] []
  f_book : Fun K "book" "book" s_book a_book d_book
  g_book : mg "book" = some (.ref a_book)
  b_book : Binds K d_book ["shelf", "m"] []
  f_books_to : Fun K "books_to" "books_to" s_books_to a_books_to d_books_to
  g_books_to : mg "books_to" = some (.ref a_books_to)
  b_books_to : Binds K d_books_to ["shelf", "number"] []
  f_shelf_by : Fun K "shelf_by" "shelf_by" s_shelf_by a_shelf_by d_shelf_by
  g_shelf_by : mg "shelf_by" = some (.ref a_shelf_by)
  b_shelf_by : Binds K d_shelf_by ["table"] []
  f_shelf_of : Fun K "shelf_of" "shelf_of" s_shelf_of a_shelf_of d_shelf_of
  g_shelf_of : mg "shelf_of" = some (.ref a_shelf_of)
  b_shelf_of : Binds K d_shelf_of ["row"] []
  f_l_jar : Fun K "_law_jar" "_law_jar" s_l_jar a_l_jar d_l_jar
  g_l_jar : mg "_law_jar" = some (.ref a_l_jar)
  b_l_jar : Binds K d_l_jar ["_law_script", "_law_k"] []
  f_l_pour : Fun K "_law_pour" "_law_pour" s_l_pour a_l_pour d_l_pour
  g_l_pour : mg "_law_pour" = some (.ref a_l_pour)
  b_l_pour : Binds K d_l_pour ["_law_jar_here", "_law_many"] []
  f_l_number : Fun K "_law_number" "_law_number" s_l_number a_l_number d_l_number
  g_l_number : mg "_law_number" = some (.ref a_l_number)
  b_l_number : Binds K d_l_number ["_law_jar_here", "_law_top"] []
  f_l_saying : Fun K "_law_saying" "_law_saying" s_l_saying a_l_saying d_l_saying
  g_l_saying : mg "_law_saying" = some (.ref a_l_saying)
  b_l_saying : Binds K d_l_saying ["_law_jar_here", "_law_top"] []
  f_l_row : Fun K "_law_row" "_law_row" s_l_row a_l_row d_l_row
  g_l_row : mg "_law_row" = some (.ref a_l_row)
  b_l_row : Binds K d_l_row ["_law_jar_here", "_law_people", "_law_top"] []
  f_l_some_twice : Fun K "_law_some_twice" "_law_some_twice" s_l_some_twice a_l_some_twice d_l_some_twice
  g_l_some_twice : mg "_law_some_twice" = some (.ref a_l_some_twice)
  b_l_some_twice : Binds K d_l_some_twice ["_law_jar_here", "_law_row_here"] []
  f_l_spots : Fun K "_law_spots" "_law_spots" s_l_spots a_l_spots d_l_spots
  g_l_spots : mg "_law_spots" = some (.ref a_l_spots)
  b_l_spots : Binds K d_l_spots ["_law_jar_here", "_law_row_here"] []
  f_l_undone : Fun K "_law_undone" "_law_undone" s_l_undone a_l_undone d_l_undone
  g_l_undone : mg "_law_undone" = some (.ref a_l_undone)
  b_l_undone : Binds K d_l_undone ["_law_row_here", "_law_company"] []
  f_l_behind : Fun K "_law_behind" "_law_behind" s_l_behind a_l_behind d_l_behind
  g_l_behind : mg "_law_behind" = some (.ref a_l_behind)
  b_l_behind : Binds K d_l_behind ["_law_front", "_law_back", "_law_wish"] []
  f_l_shelf_right : Fun K "_law_shelf_right" "_law_shelf_right" s_l_shelf_right a_l_shelf_right d_l_shelf_right
  g_l_shelf_right : mg "_law_shelf_right" = some (.ref a_l_shelf_right)
  b_l_shelf_right : Binds K d_l_shelf_right ["_law_front", "_law_back", "_law_wish"] []
  f_law : Fun K "law" "law" s_law a_law d_law
  g_law : mg "law" = some (.ref a_law)
  b_law : Binds K d_law ["_law_script"] []
section
variable {P : Program} {w : World} {K : PySem.W.Frag} {mg : Str → Option Value} {base : Heap} {a_levelled a_added_up a_stretch_to a_wish_behind a_handed_on a_companies_within a_said_of_company a_changes_by a_is_number a_is_row a_is_saying a_need_number a_need_row a_need_place a_what_comes a_total a_wishes a_companies a_companies_between a_least_from a_is_table a_is_rows a_need_rows_table a_table_of a_plain_copies a_is_mark a_is_shelf a_need_shelf a_need_book a_find_book a_count_to a_book a_books_to a_shelf_by a_shelf_of a_l_jar a_l_pour a_l_number a_l_saying a_l_row a_l_some_twice a_l_spots a_l_undone a_l_behind a_l_shelf_right a_law : Addr} {d_levelled d_added_up d_stretch_to d_wish_behind d_handed_on d_companies_within d_said_of_company d_changes_by d_is_number d_is_row d_is_saying d_need_number d_need_row d_need_place d_what_comes d_total d_wishes d_companies d_companies_between d_least_from d_is_table d_is_rows d_need_rows_table d_table_of d_plain_copies d_is_mark d_is_shelf d_need_shelf d_need_book d_find_book d_count_to d_book d_books_to d_shelf_by d_shelf_of d_l_jar d_l_pour d_l_number d_l_saying d_l_row d_l_some_twice d_l_spots d_l_undone d_l_behind d_l_shelf_right d_law : FuncData}
theorem ok_levelled (T : Tx K mg a_levelled d_levelled a_added_up d_added_up a_stretch_to d_stretch_to a_wish_behind d_wish_behind a_handed_on d_handed_on a_companies_within d_companies_within a_said_of_company d_said_of_company a_changes_by d_changes_by a_is_number d_is_number a_is_row d_is_row a_is_saying d_is_saying a_need_number d_need_number a_need_row d_need_row a_need_place d_need_place a_what_comes d_what_comes a_total d_total a_wishes d_wishes a_companies d_companies a_companies_between d_companies_between a_least_from d_least_from a_is_table d_is_table a_is_rows d_is_rows a_need_rows_table d_need_rows_table a_table_of d_table_of a_plain_copies d_plain_copies a_is_mark d_is_mark a_is_shelf d_is_shelf a_need_shelf d_need_shelf a_need_book d_need_book a_find_book d_find_book a_count_to d_count_to a_book d_book a_books_to d_books_to a_shelf_by d_shelf_by a_shelf_of d_shelf_of a_l_jar d_l_jar a_l_pour d_l_pour a_l_number d_l_number a_l_saying d_l_saying a_l_row d_l_row a_l_some_twice d_l_some_twice a_l_spots d_l_spots a_l_undone d_l_undone a_l_behind d_l_behind a_l_shelf_right d_l_shelf_right a_law d_law) : FnG P w K mg base 1 a_levelled d_levelled ["steps"] (spD K 1 3 m_levelled) :=
  fnG_pl T.f_levelled sc_levelled rfl rfl fun cdv A outer s H E hG hr => have sc := sc_levelled; (psts_cons (pst_set (i := 1) sc.nd (pf_lst pvs_nil))
      (psts_cons (pst_for PassesOwn.never rfl (pit_seq (pp_name 0)) (pgt_tup rfl (pgts_cons (pgt_name (i := 2) sc.nd) (pgts_cons (pgt_name (i := 3) sc.nd) pgts_nil)) rfl (tsCons_len (tsCons_len tsNil_len))) (psts_one (pst_if (pt_of (pwt_or (ptt_not (ptt_truth (pp_name 1))) (pwt_or1 (pt_ne hr.units (pp_of (pv_ix (pp_of (pv_ix (pp_name 1) (pp_of (pv_neg pv_int)))) (pp_of pv_int))) (pp_name 3))))) (psts_one (pst_drop (pv_mut (j := 1) PySem.F.slot_list_append PySem.F.type_list_append mt_append pmut_append (pvs_cons (pv_tup (pvs_cons (pv_of (pf_of (pp_name 2))) (pvs_cons (pv_of (pf_of (pp_name 3))) pvs_nil))) pvs_nil)))) psts_nil)))
      (psts_one (pst_ret (pf_of (pp_name 1))))))
theorem ok_added_up (T : Tx K mg a_levelled d_levelled a_added_up d_added_up a_stretch_to d_stretch_to a_wish_behind d_wish_behind a_handed_on d_handed_on a_companies_within d_companies_within a_said_of_company d_said_of_company a_changes_by d_changes_by a_is_number d_is_number a_is_row d_is_row a_is_saying d_is_saying a_need_number d_need_number a_need_row d_need_row a_need_place d_need_place a_what_comes d_what_comes a_total d_total a_wishes d_wishes a_companies d_companies a_companies_between d_companies_between a_least_from d_least_from a_is_table d_is_table a_is_rows d_is_rows a_need_rows_table d_need_rows_table a_table_of d_table_of a_plain_copies d_plain_copies a_is_mark d_is_mark a_is_shelf d_is_shelf a_need_shelf d_need_shelf a_need_book d_need_book a_find_book d_find_book a_count_to d_count_to a_book d_book a_books_to d_books_to a_shelf_by d_shelf_by a_shelf_of d_shelf_of a_l_jar d_l_jar a_l_pour d_l_pour a_l_number d_l_number a_l_saying d_l_saying a_l_row d_l_row a_l_some_twice d_l_some_twice a_l_spots d_l_spots a_l_undone d_l_undone a_l_behind d_l_behind a_l_shelf_right d_l_shelf_right a_law d_law) : FnG P w K mg base 2 a_added_up d_added_up ["changes"] (spD K 1 3 m_added_up) :=
  fnG_pl T.f_added_up sc_added_up rfl rfl fun cdv A outer s H E hG hr => have sc := sc_added_up; (psts_cons (pst_set (i := 1) sc.nd (pf_of (pp_of (pv_get2 hr.units (pp_name 0) pv_int pv_int))))
      (psts_cons (pst_set (i := 2) sc.nd (pf_lst (pvs_cons (pv_tup (pvs_cons pv_int (pvs_cons (pv_of (pf_of (pp_name 1))) pvs_nil))) pvs_nil)))
      (psts_cons (pst_for PassesOwn.never rfl (pit_seq (pp_of (pv_of (pf_sortedA rfl (by rfl) T.n_sorted (pps_cons' (pp_name 0) pps_nil'))))) (pgt_name (i := 3) sc.nd) (psts_one (pst_if (pt_gt (pp_name 3) (pp_of pv_int)) (psts_cons (pst_aug (i := 1) ip_add pop_ip sc.nd (pp_of (pv_ixA hr.units (pp_name 0) (pp_name 3))))
      (psts_one (pst_drop (pv_mut (j := 2) PySem.F.slot_list_append PySem.F.type_list_append mt_append pmut_append (pvs_cons (pv_tup (pvs_cons (pv_of (pf_of (pp_name 3))) (pvs_cons (pv_of (pf_of (pp_name 1))) pvs_nil))) pvs_nil))))) psts_nil)))
      (psts_one (pst_ret (pf_callG (ok_levelled T) hG (hr.mono (by decide)) (by rfl) T.g_levelled T.f_levelled.kp T.b_levelled (pps_cons' (pp_name 2) pps_nil') (ms := [.b]) rfl))))))
theorem ok_stretch_to (T : Tx K mg a_levelled d_levelled a_added_up d_added_up a_stretch_to d_stretch_to a_wish_behind d_wish_behind a_handed_on d_handed_on a_companies_within d_companies_within a_said_of_company d_said_of_company a_changes_by d_changes_by a_is_number d_is_number a_is_row d_is_row a_is_saying d_is_saying a_need_number d_need_number a_need_row d_need_row a_need_place d_need_place a_what_comes d_what_comes a_total d_total a_wishes d_wishes a_companies d_companies a_companies_between d_companies_between a_least_from d_least_from a_is_table d_is_table a_is_rows d_is_rows a_need_rows_table d_need_rows_table a_table_of d_table_of a_plain_copies d_plain_copies a_is_mark d_is_mark a_is_shelf d_is_shelf a_need_shelf d_need_shelf a_need_book d_need_book a_find_book d_find_book a_count_to d_count_to a_book d_book a_books_to d_books_to a_shelf_by d_shelf_by a_shelf_of d_shelf_of a_l_jar d_l_jar a_l_pour d_l_pour a_l_number d_l_number a_l_saying d_l_saying a_l_row d_l_row a_l_some_twice d_l_some_twice a_l_spots d_l_spots a_l_undone d_l_undone a_l_behind d_l_behind a_l_shelf_right d_l_shelf_right a_law d_law) : FnG P w K mg base 1 a_stretch_to d_stretch_to ["first", "beyond"] (spD K 2 0 m_stretch_to) :=
  fnG_pl T.f_stretch_to sc_stretch_to rfl rfl fun cdv A outer s H E hG hr => have sc := sc_stretch_to; (psts_cons (pst_if (pt_is (pp_name 1) (pp_of pv_non)) (psts_one (pst_ret (pf_of (pp_of (pv_tup (pvs_cons (pv_of (pf_of (pp_name 0))) (pvs_cons pv_non pvs_nil))))))) psts_nil)
      (psts_cons (pst_if (pt_le (pp_name 1) (pp_name 0)) (psts_one (pst_ret (pf_of (pp_of pv_non)))) psts_nil)
      (psts_one (pst_ret (pf_of (pp_of (pv_tup (pvs_cons (pv_of (pf_of (pp_name 0))) (pvs_cons (pv_sub (pp_name 1) (pp_of pv_int)) pvs_nil)))))))))
theorem ok_wish_behind (T : Tx K mg a_levelled d_levelled a_added_up d_added_up a_stretch_to d_stretch_to a_wish_behind d_wish_behind a_handed_on d_handed_on a_companies_within d_companies_within a_said_of_company d_said_of_company a_changes_by d_changes_by a_is_number d_is_number a_is_row d_is_row a_is_saying d_is_saying a_need_number d_need_number a_need_row d_need_row a_need_place d_need_place a_what_comes d_what_comes a_total d_total a_wishes d_wishes a_companies d_companies a_companies_between d_companies_between a_least_from d_least_from a_is_table d_is_table a_is_rows d_is_rows a_need_rows_table d_need_rows_table a_table_of d_table_of a_plain_copies d_plain_copies a_is_mark d_is_mark a_is_shelf d_is_shelf a_need_shelf d_need_shelf a_need_book d_need_book a_find_book d_find_book a_count_to d_count_to a_book d_book a_books_to d_books_to a_shelf_by d_shelf_by a_shelf_of d_shelf_of a_l_jar d_l_jar a_l_pour d_l_pour a_l_number d_l_number a_l_saying d_l_saying a_l_row d_l_row a_l_some_twice d_l_some_twice a_l_spots d_l_spots a_l_undone d_l_undone a_l_behind d_l_behind a_l_shelf_right d_l_shelf_right a_law d_law) : FnG P w K mg base 1 a_wish_behind d_wish_behind ["people", "wish"] (spD K 2 2 m_wish_behind) :=
  fnG_pl T.f_wish_behind sc_wish_behind rfl rfl fun cdv A outer s H E hG hr => have sc := sc_wish_behind; (psts_cons (pst_for PassesOwn.never rfl (pit_seq (pp_name 0)) (pgt_tup rfl (pgts_cons (pgt_name (i := 2) sc.nd) (pgts_cons (pgt_name (i := 3) sc.nd) pgts_nil)) rfl (tsCons_len (tsCons_len tsNil_len))) (psts_one (pst_if (pt_of (pwt_and (pt_lt (pp_name 2) (pp_name 1)) (pwt_and1 (pt_of (pwt_or (pt_is (pp_name 3) (pp_of pv_non)) (pwt_or1 (pt_le (pp_name 1) (pp_of (pv_of (pf_add (pp_name 3) (pp_of pv_int))))))))))) (psts_one (pst_aug (i := 1) ip_sub pop_ip sc.nd (pp_of pv_int))) psts_nil)))
      (psts_one (pst_ret (pf_of (pp_name 1)))))
theorem ok_handed_on (T : Tx K mg a_levelled d_levelled a_added_up d_added_up a_stretch_to d_stretch_to a_wish_behind d_wish_behind a_handed_on d_handed_on a_companies_within d_companies_within a_said_of_company d_said_of_company a_changes_by d_changes_by a_is_number d_is_number a_is_row d_is_row a_is_saying d_is_saying a_need_number d_need_number a_need_row d_need_row a_need_place d_need_place a_what_comes d_what_comes a_total d_total a_wishes d_wishes a_companies d_companies a_companies_between d_companies_between a_least_from d_least_from a_is_table d_is_table a_is_rows d_is_rows a_need_rows_table d_need_rows_table a_table_of d_table_of a_plain_copies d_plain_copies a_is_mark d_is_mark a_is_shelf d_is_shelf a_need_shelf d_need_shelf a_need_book d_need_book a_find_book d_find_book a_count_to d_count_to a_book d_book a_books_to d_books_to a_shelf_by d_shelf_by a_shelf_of d_shelf_of a_l_jar d_l_jar a_l_pour d_l_pour a_l_number d_l_number a_l_saying d_l_saying a_l_row d_l_row a_l_some_twice d_l_some_twice a_l_spots d_l_spots a_l_undone d_l_undone a_l_behind d_l_behind a_l_shelf_right d_l_shelf_right a_law d_law) : FnG P w K mg base 2 a_handed_on d_handed_on ["saying", "wish"] (spD K 2 0 m_handed_on) :=
  fnG_pl T.f_handed_on sc_handed_on rfl rfl fun cdv A outer s H E hG hr => have sc := sc_handed_on; (psts_one (pst_ret (pf_callG (ok_wish_behind T) hG (hr.mono (by decide)) (by rfl) T.g_wish_behind T.f_wish_behind.kp T.b_wish_behind (pps_cons' (pp_of (pv_of (pf_lst (pvs_cons (pv_of (pf_of (pp_name 0))) pvs_nil)))) (pps_cons' (pp_of (pv_of (pf_of (pp_name 1)))) pps_nil')) (ms := [.b, .v]) rfl)))
theorem ok_companies_within (T : Tx K mg a_levelled d_levelled a_added_up d_added_up a_stretch_to d_stretch_to a_wish_behind d_wish_behind a_handed_on d_handed_on a_companies_within d_companies_within a_said_of_company d_said_of_company a_changes_by d_changes_by a_is_number d_is_number a_is_row d_is_row a_is_saying d_is_saying a_need_number d_need_number a_need_row d_need_row a_need_place d_need_place a_what_comes d_what_comes a_total d_total a_wishes d_wishes a_companies d_companies a_companies_between d_companies_between a_least_from d_least_from a_is_table d_is_table a_is_rows d_is_rows a_need_rows_table d_need_rows_table a_table_of d_table_of a_plain_copies d_plain_copies a_is_mark d_is_mark a_is_shelf d_is_shelf a_need_shelf d_need_shelf a_need_book d_need_book a_find_book d_find_book a_count_to d_count_to a_book d_book a_books_to d_books_to a_shelf_by d_shelf_by a_shelf_of d_shelf_of a_l_jar d_l_jar a_l_pour d_l_pour a_l_number d_l_number a_l_saying d_l_saying a_l_row d_l_row a_l_some_twice d_l_some_twice a_l_spots d_l_spots a_l_undone d_l_undone a_l_behind d_l_behind a_l_shelf_right d_l_shelf_right a_law d_law) : FnG P w K mg base 2 a_companies_within d_companies_within ["people", "saying"] (spD K 2 3 m_companies_within) :=
  fnG_pl T.f_companies_within sc_companies_within rfl rfl fun cdv A outer s H E hG hr => have sc := sc_companies_within; (psts_cons (pst_asg (pv_of (pf_of (pp_name 1))) (pgt_tup rfl (pgts_cons (pgt_name (i := 2) sc.nd) (pgts_cons (pgt_name (i := 3) sc.nd) pgts_nil)) rfl (tsCons_len (tsCons_len tsNil_len))))
      (psts_cons (pst_set (i := 4) sc.nd (pf_callG (ok_wish_behind T) hG (hr.mono (by decide)) (by rfl) T.g_wish_behind T.f_wish_behind.kp T.b_wish_behind (pps_cons' (pp_name 0) (pps_cons' (pp_of (pv_of (pf_of (pp_name 2)))) pps_nil')) (ms := [.b, .v]) rfl))
      (psts_cons (pst_if (pt_is (pp_name 3) (pp_of pv_non)) (psts_one (pst_ret (pf_callG (ok_stretch_to T) hG (hr.mono (by decide)) (by rfl) T.g_stretch_to T.f_stretch_to.kp T.b_stretch_to (pps_cons' (pp_of (pv_of (pf_of (pp_name 4)))) (pps_cons' (pp_of pv_non) pps_nil')) (ms := [.v, .b]) rfl))) psts_nil)
      (psts_one (pst_ret (pf_callG (ok_stretch_to T) hG (hr.mono (by decide)) (by rfl) T.g_stretch_to T.f_stretch_to.kp T.b_stretch_to (pps_cons' (pp_of (pv_of (pf_of (pp_name 4)))) (pps_cons' (pp_of (pv_of (pf_callG (ok_wish_behind T) hG (hr.mono (by decide)) (by rfl) T.g_wish_behind T.f_wish_behind.kp T.b_wish_behind (pps_cons' (pp_name 0) (pps_cons' (pp_of (pv_of (pf_add (pp_name 3) (pp_of pv_int)))) pps_nil')) (ms := [.b, .v]) rfl))) pps_nil')) (ms := [.v, .b]) rfl))))))
theorem ok_said_of_company (T : Tx K mg a_levelled d_levelled a_added_up d_added_up a_stretch_to d_stretch_to a_wish_behind d_wish_behind a_handed_on d_handed_on a_companies_within d_companies_within a_said_of_company d_said_of_company a_changes_by d_changes_by a_is_number d_is_number a_is_row d_is_row a_is_saying d_is_saying a_need_number d_need_number a_need_row d_need_row a_need_place d_need_place a_what_comes d_what_comes a_total d_total a_wishes d_wishes a_companies d_companies a_companies_between d_companies_between a_least_from d_least_from a_is_table d_is_table a_is_rows d_is_rows a_need_rows_table d_need_rows_table a_table_of d_table_of a_plain_copies d_plain_copies a_is_mark d_is_mark a_is_shelf d_is_shelf a_need_shelf d_need_shelf a_need_book d_need_book a_find_book d_find_book a_count_to d_count_to a_book d_book a_books_to d_books_to a_shelf_by d_shelf_by a_shelf_of d_shelf_of a_l_jar d_l_jar a_l_pour d_l_pour a_l_number d_l_number a_l_saying d_l_saying a_l_row d_l_row a_l_some_twice d_l_some_twice a_l_spots d_l_spots a_l_undone d_l_undone a_l_behind d_l_behind a_l_shelf_right d_l_shelf_right a_law d_law) : FnG P w K mg base 3 a_said_of_company d_said_of_company ["row"] (spD K 1 1 m_said_of_company) :=
  fnG_pl T.f_said_of_company sc_said_of_company rfl rfl fun cdv A outer s H E hG hr => have sc := sc_said_of_company; (psts_one (pst_ret (pf_lc (own := [("place", 1)]) rfl sc.nd (pit_rng1 (by rfl) T.n_range (pv_len (by rfl) T.n_len (pps_cons' (pp_name 0) pps_nil'))) (blkOk_by (own := [("place", 1)]) (N := ["row", "place"]) (sc := defScope s_said_of_company) (by decide +kernel)) (fun _ _ _ _ _ => (pgt_name (i := 1) sc.nd)) (fun _ _ _ _ _ => (pv_of (pf_callG (ok_companies_within T) hG (hr.mono (by decide)) (by rfl) T.g_companies_within T.f_companies_within.kp T.b_companies_within (pps_cons' (pp_slice (pp_name 0) (pot_some (pv_of (pf_add (pp_name 1) (pp_of pv_int)))) pot_none) (pps_cons' (pp_of (pv_ix (pp_name 0) (pp_name 1))) pps_nil')) (ms := [.b, .v]) rfl))))))
theorem ok_changes_by (T : Tx K mg a_levelled d_levelled a_added_up d_added_up a_stretch_to d_stretch_to a_wish_behind d_wish_behind a_handed_on d_handed_on a_companies_within d_companies_within a_said_of_company d_said_of_company a_changes_by d_changes_by a_is_number d_is_number a_is_row d_is_row a_is_saying d_is_saying a_need_number d_need_number a_need_row d_need_row a_need_place d_need_place a_what_comes d_what_comes a_total d_total a_wishes d_wishes a_companies d_companies a_companies_between d_companies_between a_least_from d_least_from a_is_table d_is_table a_is_rows d_is_rows a_need_rows_table d_need_rows_table a_table_of d_table_of a_plain_copies d_plain_copies a_is_mark d_is_mark a_is_shelf d_is_shelf a_need_shelf d_need_shelf a_need_book d_need_book a_find_book d_find_book a_count_to d_count_to a_book d_book a_books_to d_books_to a_shelf_by d_shelf_by a_shelf_of d_shelf_of a_l_jar d_l_jar a_l_pour d_l_pour a_l_number d_l_number a_l_saying d_l_saying a_l_row d_l_row a_l_some_twice d_l_some_twice a_l_spots d_l_spots a_l_undone d_l_undone a_l_behind d_l_behind a_l_shelf_right d_l_shelf_right a_law d_law) : FnG P w K mg base 1 a_changes_by d_changes_by ["stretches"] (spD K 1 3 m_changes_by) :=
  fnG_pl T.f_changes_by sc_changes_by rfl rfl fun cdv A outer s H E hG hr => have sc := sc_changes_by; (psts_cons (pst_set (i := 1) sc.nd pf_dict0)
      (psts_cons (pst_for PassesOwn.never rfl (pit_seq (pp_name 0)) (pgt_tup rfl (pgts_cons (pgt_name (i := 2) sc.nd) (pgts_cons (pgt_name (i := 3) sc.nd) pgts_nil)) rfl (tsCons_len (tsCons_len tsNil_len))) (psts_cons (pst_dput (j := 1) hr.units (pv_of (pf_add (pp_of (pv_get2 hr.units (pp_name 1) (pv_of (pf_of (pp_name 2))) pv_int)) (pp_of pv_int))) (pv_of (pf_of (pp_name 2))))
      (psts_one (pst_if (pt_isnot (pp_name 3) (pp_of pv_non)) (psts_one (pst_dput (j := 1) hr.units (pv_sub (pp_of (pv_get2 hr.units (pp_name 1) (pv_of (pf_add (pp_name 3) (pp_of pv_int))) pv_int)) (pp_of pv_int)) (pv_of (pf_add (pp_name 3) (pp_of pv_int))))) psts_nil))))
      (psts_one (pst_ret (pf_of (pp_name 1))))))
theorem ok_is_number (T : Tx K mg a_levelled d_levelled a_added_up d_added_up a_stretch_to d_stretch_to a_wish_behind d_wish_behind a_handed_on d_handed_on a_companies_within d_companies_within a_said_of_company d_said_of_company a_changes_by d_changes_by a_is_number d_is_number a_is_row d_is_row a_is_saying d_is_saying a_need_number d_need_number a_need_row d_need_row a_need_place d_need_place a_what_comes d_what_comes a_total d_total a_wishes d_wishes a_companies d_companies a_companies_between d_companies_between a_least_from d_least_from a_is_table d_is_table a_is_rows d_is_rows a_need_rows_table d_need_rows_table a_table_of d_table_of a_plain_copies d_plain_copies a_is_mark d_is_mark a_is_shelf d_is_shelf a_need_shelf d_need_shelf a_need_book d_need_book a_find_book d_find_book a_count_to d_count_to a_book d_book a_books_to d_books_to a_shelf_by d_shelf_by a_shelf_of d_shelf_of a_l_jar d_l_jar a_l_pour d_l_pour a_l_number d_l_number a_l_saying d_l_saying a_l_row d_l_row a_l_some_twice d_l_some_twice a_l_spots d_l_spots a_l_undone d_l_undone a_l_behind d_l_behind a_l_shelf_right d_l_shelf_right a_law d_law) : FnG P w K mg base 1 a_is_number d_is_number ["thing"] (spD K 1 0 m_is_number) :=
  fnG_pl T.f_is_number sc_is_number rfl rfl fun cdv A outer s H E hG hr => have sc := sc_is_number; (psts_one (pst_ret (pf_of (pp_of (pv_and (pv_isi (by rfl) T.n_isinstance (pp_name 0) (pe_ty (by rfl) T.n_int PyProof.Rows.boot_int) (by decide)) (pv_and (pv_not (pv_isi (by rfl) T.n_isinstance (pp_name 0) (pe_ty (by rfl) T.n_bool PyProof.Rows.boot_bool) (by decide))) (pv_one (pv_ge (pp_name 0) (pp_of pv_int)))))))))
theorem ok_is_row (T : Tx K mg a_levelled d_levelled a_added_up d_added_up a_stretch_to d_stretch_to a_wish_behind d_wish_behind a_handed_on d_handed_on a_companies_within d_companies_within a_said_of_company d_said_of_company a_changes_by d_changes_by a_is_number d_is_number a_is_row d_is_row a_is_saying d_is_saying a_need_number d_need_number a_need_row d_need_row a_need_place d_need_place a_what_comes d_what_comes a_total d_total a_wishes d_wishes a_companies d_companies a_companies_between d_companies_between a_least_from d_least_from a_is_table d_is_table a_is_rows d_is_rows a_need_rows_table d_need_rows_table a_table_of d_table_of a_plain_copies d_plain_copies a_is_mark d_is_mark a_is_shelf d_is_shelf a_need_shelf d_need_shelf a_need_book d_need_book a_find_book d_find_book a_count_to d_count_to a_book d_book a_books_to d_books_to a_shelf_by d_shelf_by a_shelf_of d_shelf_of a_l_jar d_l_jar a_l_pour d_l_pour a_l_number d_l_number a_l_saying d_l_saying a_l_row d_l_row a_l_some_twice d_l_some_twice a_l_spots d_l_spots a_l_undone d_l_undone a_l_behind d_l_behind a_l_shelf_right d_l_shelf_right a_law d_law) : FnG P w K mg base 1 a_is_row d_is_row ["thing"] (spD K 1 3 m_is_row) :=
  fnG_pl T.f_is_row sc_is_row rfl rfl fun cdv A outer s H E hG hr => have sc := sc_is_row; (psts_cons (pst_if (ptt_not (ptt_truth (pp_of (pv_isiT (by rfl) T.n_isinstance (pp_name 0) (pa_tyC (pe_ty (by rfl) T.n_list PyProof.Rows.boot_list) (pa_tyC (pe_ty (by rfl) T.n_tuple PyProof.Rows.boot_tuple) pa_tyN)) (by decide) (by decide))))) (psts_one (pst_ret (pf_of (pp_of pv_bl)))) psts_nil)
      (psts_cons (pst_for PassesOwn.never rfl (pit_seq (pp_name 0)) (pgt_name (i := 1) sc.nd) (psts_cons (pst_if (pt_of (pwt_or (ptt_not (ptt_truth (pp_of (pv_isi (by rfl) T.n_isinstance (pp_name 1) (pe_ty (by rfl) T.n_tuple PyProof.Rows.boot_tuple) (by decide))))) (pwt_or1 (pt_ne hr.units (pp_of (pv_len (by rfl) T.n_len (pps_cons' (pp_name 1) pps_nil'))) (pp_of pv_int))))) (psts_one (pst_ret (pf_of (pp_of pv_bl)))) psts_nil)
      (psts_cons (pst_asg (pv_of (pf_of (pp_name 1))) (pgt_tup rfl (pgts_cons (pgt_name (i := 2) sc.nd) (pgts_cons (pgt_name (i := 3) sc.nd) pgts_nil)) rfl (tsCons_len (tsCons_len tsNil_len))))
      (psts_cons (pst_if (pt_of (pwt_or (ptt_not (ptt_truth (pp_of (pv_isi (by rfl) T.n_isinstance (pp_name 2) (pe_ty (by rfl) T.n_int PyProof.Rows.boot_int) (by decide))))) (pwt_or (pt_lt (pp_name 2) (pp_of pv_int)) (pwt_or (pt_is (pp_name 2) (pp_of pv_bl)) (pwt_or1 (pt_is (pp_name 2) (pp_of pv_bl))))))) (psts_one (pst_ret (pf_of (pp_of pv_bl)))) psts_nil)
      (psts_one (pst_if (pt_of (pwt_and (pt_isnot (pp_name 3) (pp_of pv_non)) (pwt_and1 (pt_of (pwt_or (ptt_not (ptt_truth (pp_of (pv_isi (by rfl) T.n_isinstance (pp_name 3) (pe_ty (by rfl) T.n_int PyProof.Rows.boot_int) (by decide))))) (pwt_or (pt_lt (pp_name 3) (pp_name 2)) (pwt_or (pt_is (pp_name 3) (pp_of pv_bl)) (pwt_or1 (pt_is (pp_name 3) (pp_of pv_bl)))))))))) (psts_one (pst_ret (pf_of (pp_of pv_bl)))) psts_nil))))))
      (psts_one (pst_ret (pf_of (pp_of pv_bl))))))
theorem ok_is_saying (T : Tx K mg a_levelled d_levelled a_added_up d_added_up a_stretch_to d_stretch_to a_wish_behind d_wish_behind a_handed_on d_handed_on a_companies_within d_companies_within a_said_of_company d_said_of_company a_changes_by d_changes_by a_is_number d_is_number a_is_row d_is_row a_is_saying d_is_saying a_need_number d_need_number a_need_row d_need_row a_need_place d_need_place a_what_comes d_what_comes a_total d_total a_wishes d_wishes a_companies d_companies a_companies_between d_companies_between a_least_from d_least_from a_is_table d_is_table a_is_rows d_is_rows a_need_rows_table d_need_rows_table a_table_of d_table_of a_plain_copies d_plain_copies a_is_mark d_is_mark a_is_shelf d_is_shelf a_need_shelf d_need_shelf a_need_book d_need_book a_find_book d_find_book a_count_to d_count_to a_book d_book a_books_to d_books_to a_shelf_by d_shelf_by a_shelf_of d_shelf_of a_l_jar d_l_jar a_l_pour d_l_pour a_l_number d_l_number a_l_saying d_l_saying a_l_row d_l_row a_l_some_twice d_l_some_twice a_l_spots d_l_spots a_l_undone d_l_undone a_l_behind d_l_behind a_l_shelf_right d_l_shelf_right a_law d_law) : FnG P w K mg base 2 a_is_saying d_is_saying ["thing"] (spD K 1 0 m_is_saying) :=
  fnG_pl T.f_is_saying sc_is_saying rfl rfl fun cdv A outer s H E hG hr => have sc := sc_is_saying; (psts_one (pst_ret (pf_callG (ok_is_row T) hG (hr.mono (by decide)) (by rfl) T.g_is_row T.f_is_row.kp T.b_is_row (pps_cons' (pp_of (pv_of (pf_lst (pvs_cons (pv_of (pf_of (pp_name 0))) pvs_nil)))) pps_nil') (ms := [.b]) rfl)))
theorem ok_need_number (T : Tx K mg a_levelled d_levelled a_added_up d_added_up a_stretch_to d_stretch_to a_wish_behind d_wish_behind a_handed_on d_handed_on a_companies_within d_companies_within a_said_of_company d_said_of_company a_changes_by d_changes_by a_is_number d_is_number a_is_row d_is_row a_is_saying d_is_saying a_need_number d_need_number a_need_row d_need_row a_need_place d_need_place a_what_comes d_what_comes a_total d_total a_wishes d_wishes a_companies d_companies a_companies_between d_companies_between a_least_from d_least_from a_is_table d_is_table a_is_rows d_is_rows a_need_rows_table d_need_rows_table a_table_of d_table_of a_plain_copies d_plain_copies a_is_mark d_is_mark a_is_shelf d_is_shelf a_need_shelf d_need_shelf a_need_book d_need_book a_find_book d_find_book a_count_to d_count_to a_book d_book a_books_to d_books_to a_shelf_by d_shelf_by a_shelf_of d_shelf_of a_l_jar d_l_jar a_l_pour d_l_pour a_l_number d_l_number a_l_saying d_l_saying a_l_row d_l_row a_l_some_twice d_l_some_twice a_l_spots d_l_spots a_l_undone d_l_undone a_l_behind d_l_behind a_l_shelf_right d_l_shelf_right a_law d_law) : FnG P w K mg base 2 a_need_number d_need_number ["thing"] (spD K 1 0 m_need_number) :=
  fnG_pl T.f_need_number sc_need_number rfl rfl fun cdv A outer s H E hG hr => have sc := sc_need_number; (psts_one (pst_if (ptt_not (ptt_truth (pp_of (pv_of (pf_callG (ok_is_number T) hG (hr.mono (by decide)) (by rfl) T.g_is_number T.f_is_number.kp T.b_is_number (pps_cons' (pp_name 0) pps_nil') (ms := [.b]) rfl))))) (psts_one pst_never) psts_nil))
theorem ok_need_row (T : Tx K mg a_levelled d_levelled a_added_up d_added_up a_stretch_to d_stretch_to a_wish_behind d_wish_behind a_handed_on d_handed_on a_companies_within d_companies_within a_said_of_company d_said_of_company a_changes_by d_changes_by a_is_number d_is_number a_is_row d_is_row a_is_saying d_is_saying a_need_number d_need_number a_need_row d_need_row a_need_place d_need_place a_what_comes d_what_comes a_total d_total a_wishes d_wishes a_companies d_companies a_companies_between d_companies_between a_least_from d_least_from a_is_table d_is_table a_is_rows d_is_rows a_need_rows_table d_need_rows_table a_table_of d_table_of a_plain_copies d_plain_copies a_is_mark d_is_mark a_is_shelf d_is_shelf a_need_shelf d_need_shelf a_need_book d_need_book a_find_book d_find_book a_count_to d_count_to a_book d_book a_books_to d_books_to a_shelf_by d_shelf_by a_shelf_of d_shelf_of a_l_jar d_l_jar a_l_pour d_l_pour a_l_number d_l_number a_l_saying d_l_saying a_l_row d_l_row a_l_some_twice d_l_some_twice a_l_spots d_l_spots a_l_undone d_l_undone a_l_behind d_l_behind a_l_shelf_right d_l_shelf_right a_law d_law) : FnG P w K mg base 2 a_need_row d_need_row ["thing"] (spD K 1 0 m_need_row) :=
  fnG_pl T.f_need_row sc_need_row rfl rfl fun cdv A outer s H E hG hr => have sc := sc_need_row; (psts_one (pst_if (ptt_not (ptt_truth (pp_of (pv_of (pf_callG (ok_is_row T) hG (hr.mono (by decide)) (by rfl) T.g_is_row T.f_is_row.kp T.b_is_row (pps_cons' (pp_name 0) pps_nil') (ms := [.b]) rfl))))) (psts_one pst_never) psts_nil))
theorem ok_need_place (T : Tx K mg a_levelled d_levelled a_added_up d_added_up a_stretch_to d_stretch_to a_wish_behind d_wish_behind a_handed_on d_handed_on a_companies_within d_companies_within a_said_of_company d_said_of_company a_changes_by d_changes_by a_is_number d_is_number a_is_row d_is_row a_is_saying d_is_saying a_need_number d_need_number a_need_row d_need_row a_need_place d_need_place a_what_comes d_what_comes a_total d_total a_wishes d_wishes a_companies d_companies a_companies_between d_companies_between a_least_from d_least_from a_is_table d_is_table a_is_rows d_is_rows a_need_rows_table d_need_rows_table a_table_of d_table_of a_plain_copies d_plain_copies a_is_mark d_is_mark a_is_shelf d_is_shelf a_need_shelf d_need_shelf a_need_book d_need_book a_find_book d_find_book a_count_to d_count_to a_book d_book a_books_to d_books_to a_shelf_by d_shelf_by a_shelf_of d_shelf_of a_l_jar d_l_jar a_l_pour d_l_pour a_l_number d_l_number a_l_saying d_l_saying a_l_row d_l_row a_l_some_twice d_l_some_twice a_l_spots d_l_spots a_l_undone d_l_undone a_l_behind d_l_behind a_l_shelf_right d_l_shelf_right a_law d_law) : FnG P w K mg base 2 a_need_place d_need_place ["thing", "places"] (spD K 2 0 m_need_place) :=
  fnG_pl T.f_need_place sc_need_place rfl rfl fun cdv A outer s H E hG hr => have sc := sc_need_place; (psts_one (pst_if (pt_of (pwt_or (ptt_not (ptt_truth (pp_of (pv_of (pf_callG (ok_is_number T) hG (hr.mono (by decide)) (by rfl) T.g_is_number T.f_is_number.kp T.b_is_number (pps_cons' (pp_name 0) pps_nil') (ms := [.b]) rfl))))) (pwt_or1 (pt_ge (pp_name 0) (pp_name 1))))) (psts_one pst_never) psts_nil))
theorem ok_what_comes (T : Tx K mg a_levelled d_levelled a_added_up d_added_up a_stretch_to d_stretch_to a_wish_behind d_wish_behind a_handed_on d_handed_on a_companies_within d_companies_within a_said_of_company d_said_of_company a_changes_by d_changes_by a_is_number d_is_number a_is_row d_is_row a_is_saying d_is_saying a_need_number d_need_number a_need_row d_need_row a_need_place d_need_place a_what_comes d_what_comes a_total d_total a_wishes d_wishes a_companies d_companies a_companies_between d_companies_between a_least_from d_least_from a_is_table d_is_table a_is_rows d_is_rows a_need_rows_table d_need_rows_table a_table_of d_table_of a_plain_copies d_plain_copies a_is_mark d_is_mark a_is_shelf d_is_shelf a_need_shelf d_need_shelf a_need_book d_need_book a_find_book d_find_book a_count_to d_count_to a_book d_book a_books_to d_books_to a_shelf_by d_shelf_by a_shelf_of d_shelf_of a_l_jar d_l_jar a_l_pour d_l_pour a_l_number d_l_number a_l_saying d_l_saying a_l_row d_l_row a_l_some_twice d_l_some_twice a_l_spots d_l_spots a_l_undone d_l_undone a_l_behind d_l_behind a_l_shelf_right d_l_shelf_right a_law d_law) : FnG P w K mg base 1 a_what_comes d_what_comes ["people", "company"] (spD K 2 3 m_what_comes) :=
  fnG_pl T.f_what_comes sc_what_comes rfl rfl fun cdv A outer s H E hG hr => have sc := sc_what_comes; (psts_cons (pst_set (i := 2) sc.nd (pf_of (pp_of (pv_of (pf_of (pp_name 1))))))
      (psts_cons (pst_for PassesOwn.never rfl (pit_rev (by rfl) T.n_reversed (pp_name 0)) (pgt_tup rfl (pgts_cons (pgt_name (i := 3) sc.nd) (pgts_cons (pgt_name (i := 4) sc.nd) pgts_nil)) rfl (tsCons_len (tsCons_len tsNil_len))) (psts_one (pst_if (pt_of (pwt_and (pt_le (pp_name 3) (pp_name 2)) (pwt_and1 (pt_of (pwt_or (pt_is (pp_name 4) (pp_of pv_non)) (pwt_or1 (pt_le (pp_name 2) (pp_name 4)))))))) (psts_one (pst_aug (i := 2) ip_add pop_ip sc.nd (pp_of pv_int))) psts_nil)))
      (psts_one (pst_ret (pf_of (pp_name 2))))))
theorem ok_total (T : Tx K mg a_levelled d_levelled a_added_up d_added_up a_stretch_to d_stretch_to a_wish_behind d_wish_behind a_handed_on d_handed_on a_companies_within d_companies_within a_said_of_company d_said_of_company a_changes_by d_changes_by a_is_number d_is_number a_is_row d_is_row a_is_saying d_is_saying a_need_number d_need_number a_need_row d_need_row a_need_place d_need_place a_what_comes d_what_comes a_total d_total a_wishes d_wishes a_companies d_companies a_companies_between d_companies_between a_least_from d_least_from a_is_table d_is_table a_is_rows d_is_rows a_need_rows_table d_need_rows_table a_table_of d_table_of a_plain_copies d_plain_copies a_is_mark d_is_mark a_is_shelf d_is_shelf a_need_shelf d_need_shelf a_need_book d_need_book a_find_book d_find_book a_count_to d_count_to a_book d_book a_books_to d_books_to a_shelf_by d_shelf_by a_shelf_of d_shelf_of a_l_jar d_l_jar a_l_pour d_l_pour a_l_number d_l_number a_l_saying d_l_saying a_l_row d_l_row a_l_some_twice d_l_some_twice a_l_spots d_l_spots a_l_undone d_l_undone a_l_behind d_l_behind a_l_shelf_right d_l_shelf_right a_law d_law) : FnG P w K mg base 3 a_total d_total ["row", "company"] (spD K 2 0 m_total) :=
  fnG_pl T.f_total sc_total rfl rfl fun cdv A outer s H E hG hr => have sc := sc_total; (psts_cons (pst_drop (pv_of (pf_callG (ok_need_row T) hG (hr.mono (by decide)) (by rfl) T.g_need_row T.f_need_row.kp T.b_need_row (pps_cons' (pp_name 0) pps_nil') (ms := [.b]) rfl)))
      (psts_cons (pst_drop (pv_of (pf_callG (ok_need_number T) hG (hr.mono (by decide)) (by rfl) T.g_need_number T.f_need_number.kp T.b_need_number (pps_cons' (pp_name 1) pps_nil') (ms := [.b]) rfl)))
      (psts_one (pst_ret (pf_callG (ok_what_comes T) hG (hr.mono (by decide)) (by rfl) T.g_what_comes T.f_what_comes.kp T.b_what_comes (pps_cons' (pp_name 0) (pps_cons' (pp_of (pv_of (pf_of (pp_name 1)))) pps_nil')) (ms := [.b, .v]) rfl)))))
theorem ok_wishes (T : Tx K mg a_levelled d_levelled a_added_up d_added_up a_stretch_to d_stretch_to a_wish_behind d_wish_behind a_handed_on d_handed_on a_companies_within d_companies_within a_said_of_company d_said_of_company a_changes_by d_changes_by a_is_number d_is_number a_is_row d_is_row a_is_saying d_is_saying a_need_number d_need_number a_need_row d_need_row a_need_place d_need_place a_what_comes d_what_comes a_total d_total a_wishes d_wishes a_companies d_companies a_companies_between d_companies_between a_least_from d_least_from a_is_table d_is_table a_is_rows d_is_rows a_need_rows_table d_need_rows_table a_table_of d_table_of a_plain_copies d_plain_copies a_is_mark d_is_mark a_is_shelf d_is_shelf a_need_shelf d_need_shelf a_need_book d_need_book a_find_book d_find_book a_count_to d_count_to a_book d_book a_books_to d_books_to a_shelf_by d_shelf_by a_shelf_of d_shelf_of a_l_jar d_l_jar a_l_pour d_l_pour a_l_number d_l_number a_l_saying d_l_saying a_l_row d_l_row a_l_some_twice d_l_some_twice a_l_spots d_l_spots a_l_undone d_l_undone a_l_behind d_l_behind a_l_shelf_right d_l_shelf_right a_law d_law) : FnG P w K mg base 3 a_wishes d_wishes ["row", "many"] (spD K 2 2 m_wishes) :=
  fnG_pl T.f_wishes sc_wishes rfl rfl fun cdv A outer s H E hG hr => have sc := sc_wishes; (psts_cons (pst_drop (pv_of (pf_callG (ok_need_row T) hG (hr.mono (by decide)) (by rfl) T.g_need_row T.f_need_row.kp T.b_need_row (pps_cons' (pp_name 0) pps_nil') (ms := [.b]) rfl)))
      (psts_cons (pst_drop (pv_of (pf_callG (ok_need_number T) hG (hr.mono (by decide)) (by rfl) T.g_need_number T.f_need_number.kp T.b_need_number (pps_cons' (pp_name 1) pps_nil') (ms := [.b]) rfl)))
      (psts_cons (pst_set (i := 2) sc.nd (pf_lst (pvs_cons (pv_of (pf_of (pp_name 1))) pvs_nil)))
      (psts_cons (pst_for PassesOwn.never rfl (pit_seq (pp_name 0)) (pgt_name (i := 3) sc.nd) (psts_one (pst_drop (pv_mut (j := 2) PySem.F.slot_list_append PySem.F.type_list_append mt_append pmut_append (pvs_cons (pv_of (pf_callG (ok_handed_on T) hG (hr.mono (by decide)) (by rfl) T.g_handed_on T.f_handed_on.kp T.b_handed_on (pps_cons' (pp_of (pv_of (pf_of (pp_name 3)))) (pps_cons' (pp_of (pv_ix (pp_name 2) (pp_of (pv_neg pv_int)))) pps_nil')) (ms := [.v, .v]) rfl)) pvs_nil)))))
      (psts_one (pst_ret (pf_of (pp_name 2))))))))
theorem ok_companies (T : Tx K mg a_levelled d_levelled a_added_up d_added_up a_stretch_to d_stretch_to a_wish_behind d_wish_behind a_handed_on d_handed_on a_companies_within d_companies_within a_said_of_company d_said_of_company a_changes_by d_changes_by a_is_number d_is_number a_is_row d_is_row a_is_saying d_is_saying a_need_number d_need_number a_need_row d_need_row a_need_place d_need_place a_what_comes d_what_comes a_total d_total a_wishes d_wishes a_companies d_companies a_companies_between d_companies_between a_least_from d_least_from a_is_table d_is_table a_is_rows d_is_rows a_need_rows_table d_need_rows_table a_table_of d_table_of a_plain_copies d_plain_copies a_is_mark d_is_mark a_is_shelf d_is_shelf a_need_shelf d_need_shelf a_need_book d_need_book a_find_book d_find_book a_count_to d_count_to a_book d_book a_books_to d_books_to a_shelf_by d_shelf_by a_shelf_of d_shelf_of a_l_jar d_l_jar a_l_pour d_l_pour a_l_number d_l_number a_l_saying d_l_saying a_l_row d_l_row a_l_some_twice d_l_some_twice a_l_spots d_l_spots a_l_undone d_l_undone a_l_behind d_l_behind a_l_shelf_right d_l_shelf_right a_law d_law) : FnG P w K mg base 3 a_companies d_companies ["row", "total"] (spD K 2 0 m_companies) :=
  fnG_pl T.f_companies sc_companies rfl rfl fun cdv A outer s H E hG hr => have sc := sc_companies; (psts_cons (pst_drop (pv_of (pf_callG (ok_need_row T) hG (hr.mono (by decide)) (by rfl) T.g_need_row T.f_need_row.kp T.b_need_row (pps_cons' (pp_name 0) pps_nil') (ms := [.b]) rfl)))
      (psts_cons (pst_drop (pv_of (pf_callG (ok_need_number T) hG (hr.mono (by decide)) (by rfl) T.g_need_number T.f_need_number.kp T.b_need_number (pps_cons' (pp_name 1) pps_nil') (ms := [.b]) rfl)))
      (psts_one (pst_ret (pf_callG (ok_companies_within T) hG (hr.mono (by decide)) (by rfl) T.g_companies_within T.f_companies_within.kp T.b_companies_within (pps_cons' (pp_name 0) (pps_cons' (pp_of (pv_tup (pvs_cons (pv_of (pf_of (pp_name 1))) (pvs_cons (pv_of (pf_of (pp_name 1))) pvs_nil)))) pps_nil')) (ms := [.b, .v]) rfl)))))
theorem ok_companies_between (T : Tx K mg a_levelled d_levelled a_added_up d_added_up a_stretch_to d_stretch_to a_wish_behind d_wish_behind a_handed_on d_handed_on a_companies_within d_companies_within a_said_of_company d_said_of_company a_changes_by d_changes_by a_is_number d_is_number a_is_row d_is_row a_is_saying d_is_saying a_need_number d_need_number a_need_row d_need_row a_need_place d_need_place a_what_comes d_what_comes a_total d_total a_wishes d_wishes a_companies d_companies a_companies_between d_companies_between a_least_from d_least_from a_is_table d_is_table a_is_rows d_is_rows a_need_rows_table d_need_rows_table a_table_of d_table_of a_plain_copies d_plain_copies a_is_mark d_is_mark a_is_shelf d_is_shelf a_need_shelf d_need_shelf a_need_book d_need_book a_find_book d_find_book a_count_to d_count_to a_book d_book a_books_to d_books_to a_shelf_by d_shelf_by a_shelf_of d_shelf_of a_l_jar d_l_jar a_l_pour d_l_pour a_l_number d_l_number a_l_saying d_l_saying a_l_row d_l_row a_l_some_twice d_l_some_twice a_l_spots d_l_spots a_l_undone d_l_undone a_l_behind d_l_behind a_l_shelf_right d_l_shelf_right a_law d_law) : FnG P w K mg base 3 a_companies_between d_companies_between ["row", "least", "most"] (spD K 3 0 m_companies_between) :=
  fnG_pl T.f_companies_between sc_companies_between rfl rfl fun cdv A outer s H E hG hr => have sc := sc_companies_between; (psts_cons (pst_drop (pv_of (pf_callG (ok_need_row T) hG (hr.mono (by decide)) (by rfl) T.g_need_row T.f_need_row.kp T.b_need_row (pps_cons' (pp_name 0) pps_nil') (ms := [.b]) rfl)))
      (psts_cons (pst_if (ptt_not (ptt_truth (pp_of (pv_of (pf_callG (ok_is_saying T) hG (hr.mono (by decide)) (by rfl) T.g_is_saying T.f_is_saying.kp T.b_is_saying (pps_cons' (pp_of (pv_tup (pvs_cons (pv_of (pf_of (pp_name 1))) (pvs_cons (pv_of (pf_of (pp_name 2))) pvs_nil)))) pps_nil') (ms := [.v]) rfl))))) (psts_one pst_never) psts_nil)
      (psts_one (pst_ret (pf_callG (ok_companies_within T) hG (hr.mono (by decide)) (by rfl) T.g_companies_within T.f_companies_within.kp T.b_companies_within (pps_cons' (pp_name 0) (pps_cons' (pp_of (pv_tup (pvs_cons (pv_of (pf_of (pp_name 1))) (pvs_cons (pv_of (pf_of (pp_name 2))) pvs_nil)))) pps_nil')) (ms := [.b, .v]) rfl)))))
theorem ok_least_from (T : Tx K mg a_levelled d_levelled a_added_up d_added_up a_stretch_to d_stretch_to a_wish_behind d_wish_behind a_handed_on d_handed_on a_companies_within d_companies_within a_said_of_company d_said_of_company a_changes_by d_changes_by a_is_number d_is_number a_is_row d_is_row a_is_saying d_is_saying a_need_number d_need_number a_need_row d_need_row a_need_place d_need_place a_what_comes d_what_comes a_total d_total a_wishes d_wishes a_companies d_companies a_companies_between d_companies_between a_least_from d_least_from a_is_table d_is_table a_is_rows d_is_rows a_need_rows_table d_need_rows_table a_table_of d_table_of a_plain_copies d_plain_copies a_is_mark d_is_mark a_is_shelf d_is_shelf a_need_shelf d_need_shelf a_need_book d_need_book a_find_book d_find_book a_count_to d_count_to a_book d_book a_books_to d_books_to a_shelf_by d_shelf_by a_shelf_of d_shelf_of a_l_jar d_l_jar a_l_pour d_l_pour a_l_number d_l_number a_l_saying d_l_saying a_l_row d_l_row a_l_some_twice d_l_some_twice a_l_spots d_l_spots a_l_undone d_l_undone a_l_behind d_l_behind a_l_shelf_right d_l_shelf_right a_law d_law) : FnG P w K mg base 3 a_least_from d_least_from ["row", "place", "many"] (spD K 3 0 m_least_from) :=
  fnG_pl T.f_least_from sc_least_from rfl rfl fun cdv A outer s H E hG hr => have sc := sc_least_from; (psts_cons (pst_drop (pv_of (pf_callG (ok_need_row T) hG (hr.mono (by decide)) (by rfl) T.g_need_row T.f_need_row.kp T.b_need_row (pps_cons' (pp_name 0) pps_nil') (ms := [.b]) rfl)))
      (psts_cons (pst_drop (pv_of (pf_callG (ok_need_place T) hG (hr.mono (by decide)) (by rfl) T.g_need_place T.f_need_place.kp T.b_need_place (pps_cons' (pp_name 1) (pps_cons' (pp_of (pv_of (pf_add (pp_of (pv_len (by rfl) T.n_len (pps_cons' (pp_name 0) pps_nil'))) (pp_of pv_int)))) pps_nil')) (ms := [.b, .b]) rfl)))
      (psts_cons (pst_drop (pv_of (pf_callG (ok_need_number T) hG (hr.mono (by decide)) (by rfl) T.g_need_number T.f_need_number.kp T.b_need_number (pps_cons' (pp_name 2) pps_nil') (ms := [.b]) rfl)))
      (psts_one (pst_ret (pf_callG (ok_wish_behind T) hG (hr.mono (by decide)) (by rfl) T.g_wish_behind T.f_wish_behind.kp T.b_wish_behind (pps_cons' (pp_slice (pp_name 0) (pot_some (pv_of (pf_of (pp_name 1)))) pot_none) (pps_cons' (pp_of (pv_of (pf_of (pp_name 2)))) pps_nil')) (ms := [.b, .v]) rfl))))))
theorem ok_is_table (T : Tx K mg a_levelled d_levelled a_added_up d_added_up a_stretch_to d_stretch_to a_wish_behind d_wish_behind a_handed_on d_handed_on a_companies_within d_companies_within a_said_of_company d_said_of_company a_changes_by d_changes_by a_is_number d_is_number a_is_row d_is_row a_is_saying d_is_saying a_need_number d_need_number a_need_row d_need_row a_need_place d_need_place a_what_comes d_what_comes a_total d_total a_wishes d_wishes a_companies d_companies a_companies_between d_companies_between a_least_from d_least_from a_is_table d_is_table a_is_rows d_is_rows a_need_rows_table d_need_rows_table a_table_of d_table_of a_plain_copies d_plain_copies a_is_mark d_is_mark a_is_shelf d_is_shelf a_need_shelf d_need_shelf a_need_book d_need_book a_find_book d_find_book a_count_to d_count_to a_book d_book a_books_to d_books_to a_shelf_by d_shelf_by a_shelf_of d_shelf_of a_l_jar d_l_jar a_l_pour d_l_pour a_l_number d_l_number a_l_saying d_l_saying a_l_row d_l_row a_l_some_twice d_l_some_twice a_l_spots d_l_spots a_l_undone d_l_undone a_l_behind d_l_behind a_l_shelf_right d_l_shelf_right a_law d_law) : FnG P w K mg base 1 a_is_table d_is_table ["thing"] (spD K 1 5 m_is_table) :=
  fnG_pl T.f_is_table sc_is_table rfl rfl fun cdv A outer s H E hG hr => have sc := sc_is_table; (psts_cons (pst_if (pt_of (pwt_or (ptt_not (ptt_truth (pp_of (pv_isi (by rfl) T.n_isinstance (pp_name 0) (pe_ty (by rfl) T.n_list PyProof.Rows.boot_list) (by decide))))) (pwt_or1 (ptt_not (ptt_truth (pp_name 0)))))) (psts_one (pst_ret (pf_of (pp_of pv_bl)))) psts_nil)
      (psts_cons (pst_set (i := 1) sc.nd (pf_of (pp_of (pv_neg pv_int))))
      (psts_cons (pst_set (i := 2) sc.nd (pf_of (pp_of pv_non)))
      (psts_cons (pst_for PassesOwn.never rfl (pit_seq (pp_name 0)) (pgt_name (i := 3) sc.nd) (psts_cons (pst_if (pt_of (pwt_or (ptt_not (ptt_truth (pp_of (pv_isi (by rfl) T.n_isinstance (pp_name 3) (pe_ty (by rfl) T.n_tuple PyProof.Rows.boot_tuple) (by decide))))) (pwt_or1 (pt_ne hr.units (pp_of (pv_len (by rfl) T.n_len (pps_cons' (pp_name 3) pps_nil'))) (pp_of pv_int))))) (psts_one (pst_ret (pf_of (pp_of pv_bl)))) psts_nil)
      (psts_cons (pst_asg (pv_of (pf_of (pp_name 3))) (pgt_tup rfl (pgts_cons (pgt_name (i := 4) sc.nd) (pgts_cons (pgt_name (i := 5) sc.nd) pgts_nil)) rfl (tsCons_len (tsCons_len tsNil_len))))
      (psts_cons (pst_if (pt_of (pwt_or (ptt_not (ptt_truth (pp_of (pv_isi (by rfl) T.n_isinstance (pp_name 4) (pe_ty (by rfl) T.n_int PyProof.Rows.boot_int) (by decide))))) (pwt_or (pt_le (pp_name 4) (pp_name 1)) (pwt_or (pt_is (pp_name 4) (pp_of pv_bl)) (pwt_or1 (pt_is (pp_name 4) (pp_of pv_bl))))))) (psts_one (pst_ret (pf_of (pp_of pv_bl)))) psts_nil)
      (psts_cons (pst_if (pt_of (pwt_or (ptt_not (ptt_truth (pp_of (pv_isi (by rfl) T.n_isinstance (pp_name 5) (pe_ty (by rfl) T.n_int PyProof.Rows.boot_int) (by decide))))) (pwt_or (pt_lt (pp_name 5) (pp_of pv_int)) (pwt_or (pt_eq hr.units (pp_name 5) (pp_name 2)) (pwt_or (pt_is (pp_name 5) (pp_of pv_bl)) (pwt_or1 (pt_is (pp_name 5) (pp_of pv_bl)))))))) (psts_one (pst_ret (pf_of (pp_of pv_bl)))) psts_nil)
      (psts_cons (pst_set (i := 1) sc.nd (pf_of (pp_of (pv_of (pf_of (pp_name 4))))))
      (psts_one (pst_set (i := 2) sc.nd (pf_of (pp_of (pv_of (pf_of (pp_name 5)))))))))))))
      (psts_one (pst_ret (pf_of (pp_of (pv_eq hr.units (pp_of (pv_ix (pp_of (pv_ix (pp_name 0) (pp_of pv_int))) (pp_of pv_int))) (pp_of pv_int))))))))))
theorem ok_is_rows (T : Tx K mg a_levelled d_levelled a_added_up d_added_up a_stretch_to d_stretch_to a_wish_behind d_wish_behind a_handed_on d_handed_on a_companies_within d_companies_within a_said_of_company d_said_of_company a_changes_by d_changes_by a_is_number d_is_number a_is_row d_is_row a_is_saying d_is_saying a_need_number d_need_number a_need_row d_need_row a_need_place d_need_place a_what_comes d_what_comes a_total d_total a_wishes d_wishes a_companies d_companies a_companies_between d_companies_between a_least_from d_least_from a_is_table d_is_table a_is_rows d_is_rows a_need_rows_table d_need_rows_table a_table_of d_table_of a_plain_copies d_plain_copies a_is_mark d_is_mark a_is_shelf d_is_shelf a_need_shelf d_need_shelf a_need_book d_need_book a_find_book d_find_book a_count_to d_count_to a_book d_book a_books_to d_books_to a_shelf_by d_shelf_by a_shelf_of d_shelf_of a_l_jar d_l_jar a_l_pour d_l_pour a_l_number d_l_number a_l_saying d_l_saying a_l_row d_l_row a_l_some_twice d_l_some_twice a_l_spots d_l_spots a_l_undone d_l_undone a_l_behind d_l_behind a_l_shelf_right d_l_shelf_right a_law d_law) : FnG P w K mg base 2 a_is_rows d_is_rows ["thing"] (spD K 1 3 m_is_rows) :=
  fnG_pl T.f_is_rows sc_is_rows rfl rfl fun cdv A outer s H E hG hr => have sc := sc_is_rows; (psts_cons (pst_if (ptt_not (ptt_truth (pp_of (pv_of (pf_callG (ok_is_table T) hG (hr.mono (by decide)) (by rfl) T.g_is_table T.f_is_table.kp T.b_is_table (pps_cons' (pp_name 0) pps_nil') (ms := [.b]) rfl))))) (psts_one (pst_ret (pf_of (pp_of pv_bl)))) psts_nil)
      (psts_cons (pst_set (i := 1) sc.nd (pf_of (pp_of pv_int)))
      (psts_cons (pst_for PassesOwn.never rfl (pit_seq (pp_name 0)) (pgt_tup rfl (pgts_cons (pgt_name (i := 2) sc.nd) (pgts_cons (pgt_name (i := 3) sc.nd) pgts_nil)) rfl (tsCons_len (tsCons_len tsNil_len))) (psts_cons (pst_if (pt_lt (pp_name 3) (pp_of (pv_sub (pp_name 1) (pp_of pv_int)))) (psts_one (pst_ret (pf_of (pp_of pv_bl)))) psts_nil)
      (psts_one (pst_set (i := 1) sc.nd (pf_of (pp_of (pv_of (pf_of (pp_name 3)))))))))
      (psts_one (pst_ret (pf_of (pp_of pv_bl)))))))
theorem ok_need_rows_table (T : Tx K mg a_levelled d_levelled a_added_up d_added_up a_stretch_to d_stretch_to a_wish_behind d_wish_behind a_handed_on d_handed_on a_companies_within d_companies_within a_said_of_company d_said_of_company a_changes_by d_changes_by a_is_number d_is_number a_is_row d_is_row a_is_saying d_is_saying a_need_number d_need_number a_need_row d_need_row a_need_place d_need_place a_what_comes d_what_comes a_total d_total a_wishes d_wishes a_companies d_companies a_companies_between d_companies_between a_least_from d_least_from a_is_table d_is_table a_is_rows d_is_rows a_need_rows_table d_need_rows_table a_table_of d_table_of a_plain_copies d_plain_copies a_is_mark d_is_mark a_is_shelf d_is_shelf a_need_shelf d_need_shelf a_need_book d_need_book a_find_book d_find_book a_count_to d_count_to a_book d_book a_books_to d_books_to a_shelf_by d_shelf_by a_shelf_of d_shelf_of a_l_jar d_l_jar a_l_pour d_l_pour a_l_number d_l_number a_l_saying d_l_saying a_l_row d_l_row a_l_some_twice d_l_some_twice a_l_spots d_l_spots a_l_undone d_l_undone a_l_behind d_l_behind a_l_shelf_right d_l_shelf_right a_law d_law) : FnG P w K mg base 3 a_need_rows_table d_need_rows_table ["thing"] (spD K 1 0 m_need_rows_table) :=
  fnG_pl T.f_need_rows_table sc_need_rows_table rfl rfl fun cdv A outer s H E hG hr => have sc := sc_need_rows_table; (psts_one (pst_if (ptt_not (ptt_truth (pp_of (pv_of (pf_callG (ok_is_rows T) hG (hr.mono (by decide)) (by rfl) T.g_is_rows T.f_is_rows.kp T.b_is_rows (pps_cons' (pp_name 0) pps_nil') (ms := [.b]) rfl))))) (psts_one pst_never) psts_nil))
theorem ok_table_of (T : Tx K mg a_levelled d_levelled a_added_up d_added_up a_stretch_to d_stretch_to a_wish_behind d_wish_behind a_handed_on d_handed_on a_companies_within d_companies_within a_said_of_company d_said_of_company a_changes_by d_changes_by a_is_number d_is_number a_is_row d_is_row a_is_saying d_is_saying a_need_number d_need_number a_need_row d_need_row a_need_place d_need_place a_what_comes d_what_comes a_total d_total a_wishes d_wishes a_companies d_companies a_companies_between d_companies_between a_least_from d_least_from a_is_table d_is_table a_is_rows d_is_rows a_need_rows_table d_need_rows_table a_table_of d_table_of a_plain_copies d_plain_copies a_is_mark d_is_mark a_is_shelf d_is_shelf a_need_shelf d_need_shelf a_need_book d_need_book a_find_book d_find_book a_count_to d_count_to a_book d_book a_books_to d_books_to a_shelf_by d_shelf_by a_shelf_of d_shelf_of a_l_jar d_l_jar a_l_pour d_l_pour a_l_number d_l_number a_l_saying d_l_saying a_l_row d_l_row a_l_some_twice d_l_some_twice a_l_spots d_l_spots a_l_undone d_l_undone a_l_behind d_l_behind a_l_shelf_right d_l_shelf_right a_law d_law) : FnG P w K mg base 4 a_table_of d_table_of ["row"] (spD K 1 2 m_table_of) :=
  fnG_pl T.f_table_of sc_table_of rfl rfl fun cdv A outer s H E hG hr => have sc := sc_table_of; (psts_cons (pst_drop (pv_of (pf_callG (ok_need_row T) hG (hr.mono (by decide)) (by rfl) T.g_need_row T.f_need_row.kp T.b_need_row (pps_cons' (pp_name 0) pps_nil') (ms := [.b]) rfl)))
      (psts_cons (pst_set (i := 1) sc.nd (pf_callG (ok_said_of_company T) hG (hr.mono (by decide)) (by rfl) T.g_said_of_company T.f_said_of_company.kp T.b_said_of_company (pps_cons' (pp_name 0) pps_nil') (ms := [.b]) rfl))
      (psts_one (pst_ret (pf_callG (ok_added_up T) hG (hr.mono (by decide)) (by rfl) T.g_added_up T.f_added_up.kp T.b_added_up (pps_cons' (pp_of (pv_of (pf_callG (ok_changes_by T) hG (hr.mono (by decide)) (by rfl) T.g_changes_by T.f_changes_by.kp T.b_changes_by (pps_cons' (pp_of (pv_of (pf_lcIf (own := [("stretch", 2)]) rfl sc.nd (pit_seq (pp_of (pv_of (pf_of (pp_name 1))))) (blkOk_by (own := [("stretch", 2)]) (N := ["row", "said", "stretch"]) (sc := defScope s_table_of) (by decide +kernel)) (fun _ _ _ _ _ => (pgt_name (i := 2) sc.nd)) (fun _ _ _ _ _ => (pt_isnot (pp_name 2) (pp_of pv_non))) (fun _ _ _ _ _ => (pv_of (pf_of (pp_name 2))))))) pps_nil') (ms := [.b]) rfl))) pps_nil') (ms := [.b]) rfl)))))
theorem ok_plain_copies (T : Tx K mg a_levelled d_levelled a_added_up d_added_up a_stretch_to d_stretch_to a_wish_behind d_wish_behind a_handed_on d_handed_on a_companies_within d_companies_within a_said_of_company d_said_of_company a_changes_by d_changes_by a_is_number d_is_number a_is_row d_is_row a_is_saying d_is_saying a_need_number d_need_number a_need_row d_need_row a_need_place d_need_place a_what_comes d_what_comes a_total d_total a_wishes d_wishes a_companies d_companies a_companies_between d_companies_between a_least_from d_least_from a_is_table d_is_table a_is_rows d_is_rows a_need_rows_table d_need_rows_table a_table_of d_table_of a_plain_copies d_plain_copies a_is_mark d_is_mark a_is_shelf d_is_shelf a_need_shelf d_need_shelf a_need_book d_need_book a_find_book d_find_book a_count_to d_count_to a_book d_book a_books_to d_books_to a_shelf_by d_shelf_by a_shelf_of d_shelf_of a_l_jar d_l_jar a_l_pour d_l_pour a_l_number d_l_number a_l_saying d_l_saying a_l_row d_l_row a_l_some_twice d_l_some_twice a_l_spots d_l_spots a_l_undone d_l_undone a_l_behind d_l_behind a_l_shelf_right d_l_shelf_right a_law d_law) : FnG P w K mg base 1 a_plain_copies d_plain_copies ["number"] (spD K 1 0 m_plain_copies) :=
  fnG_pl T.f_plain_copies sc_plain_copies rfl rfl fun cdv A outer s H E hG hr => have sc := sc_plain_copies; (psts_one (pst_ret (pf_of (pp_of (pv_if (pt_eq hr.units (pp_name 0) (pp_of pv_int)) pv_int pv_int)))))
theorem ok_is_mark (T : Tx K mg a_levelled d_levelled a_added_up d_added_up a_stretch_to d_stretch_to a_wish_behind d_wish_behind a_handed_on d_handed_on a_companies_within d_companies_within a_said_of_company d_said_of_company a_changes_by d_changes_by a_is_number d_is_number a_is_row d_is_row a_is_saying d_is_saying a_need_number d_need_number a_need_row d_need_row a_need_place d_need_place a_what_comes d_what_comes a_total d_total a_wishes d_wishes a_companies d_companies a_companies_between d_companies_between a_least_from d_least_from a_is_table d_is_table a_is_rows d_is_rows a_need_rows_table d_need_rows_table a_table_of d_table_of a_plain_copies d_plain_copies a_is_mark d_is_mark a_is_shelf d_is_shelf a_need_shelf d_need_shelf a_need_book d_need_book a_find_book d_find_book a_count_to d_count_to a_book d_book a_books_to d_books_to a_shelf_by d_shelf_by a_shelf_of d_shelf_of a_l_jar d_l_jar a_l_pour d_l_pour a_l_number d_l_number a_l_saying d_l_saying a_l_row d_l_row a_l_some_twice d_l_some_twice a_l_spots d_l_spots a_l_undone d_l_undone a_l_behind d_l_behind a_l_shelf_right d_l_shelf_right a_law d_law) : FnG P w K mg base 2 a_is_mark d_is_mark ["thing"] (spD K 1 0 m_is_mark) :=
  fnG_pl T.f_is_mark sc_is_mark rfl rfl fun cdv A outer s H E hG hr => have sc := sc_is_mark; (psts_cons (pst_if (pt_of (pwt_or (ptt_not (ptt_truth (pp_of (pv_isi (by rfl) T.n_isinstance (pp_name 0) (pe_ty (by rfl) T.n_tuple PyProof.Rows.boot_tuple) (by decide))))) (pwt_or1 (pt_ne hr.units (pp_of (pv_len (by rfl) T.n_len (pps_cons' (pp_name 0) pps_nil'))) (pp_of pv_int))))) (psts_one (pst_ret (pf_of (pp_of pv_bl)))) psts_nil)
      (psts_one (pst_ret (pf_of (pp_of (pv_and (pv_of (pf_callG (ok_is_number T) hG (hr.mono (by decide)) (by rfl) T.g_is_number T.f_is_number.kp T.b_is_number (pps_cons' (pp_of (pv_ix (pp_name 0) (pp_of pv_int))) pps_nil') (ms := [.b]) rfl)) (pv_and (pv_of (pf_callG (ok_is_number T) hG (hr.mono (by decide)) (by rfl) T.g_is_number T.f_is_number.kp T.b_is_number (pps_cons' (pp_of (pv_ix (pp_name 0) (pp_of pv_int))) pps_nil') (ms := [.b]) rfl)) (pv_one (pv_ne hr.units (pp_of (pv_ix (pp_name 0) (pp_of pv_int))) (pp_of (pv_of (pf_callG (ok_plain_copies T) hG (hr.mono (by decide)) (by rfl) T.g_plain_copies T.f_plain_copies.kp T.b_plain_copies (pps_cons' (pp_of (pv_ix (pp_name 0) (pp_of pv_int))) pps_nil') (ms := [.b]) rfl))))))))))))
theorem ok_is_shelf (T : Tx K mg a_levelled d_levelled a_added_up d_added_up a_stretch_to d_stretch_to a_wish_behind d_wish_behind a_handed_on d_handed_on a_companies_within d_companies_within a_said_of_company d_said_of_company a_changes_by d_changes_by a_is_number d_is_number a_is_row d_is_row a_is_saying d_is_saying a_need_number d_need_number a_need_row d_need_row a_need_place d_need_place a_what_comes d_what_comes a_total d_total a_wishes d_wishes a_companies d_companies a_companies_between d_companies_between a_least_from d_least_from a_is_table d_is_table a_is_rows d_is_rows a_need_rows_table d_need_rows_table a_table_of d_table_of a_plain_copies d_plain_copies a_is_mark d_is_mark a_is_shelf d_is_shelf a_need_shelf d_need_shelf a_need_book d_need_book a_find_book d_find_book a_count_to d_count_to a_book d_book a_books_to d_books_to a_shelf_by d_shelf_by a_shelf_of d_shelf_of a_l_jar d_l_jar a_l_pour d_l_pour a_l_number d_l_number a_l_saying d_l_saying a_l_row d_l_row a_l_some_twice d_l_some_twice a_l_spots d_l_spots a_l_undone d_l_undone a_l_behind d_l_behind a_l_shelf_right d_l_shelf_right a_law d_law) : FnG P w K mg base 3 a_is_shelf d_is_shelf ["thing"] (spD K 1 2 m_is_shelf) :=
  fnG_pl T.f_is_shelf sc_is_shelf rfl rfl fun cdv A outer s H E hG hr => have sc := sc_is_shelf; (psts_cons (pst_if (pt_of (pwt_or (ptt_not (ptt_truth (pp_of (pv_isi (by rfl) T.n_isinstance (pp_name 0) (pe_ty (by rfl) T.n_list PyProof.Rows.boot_list) (by decide))))) (pwt_or1 (ptt_not (ptt_truth (pp_of (pv_all rfl (by rfl) T.n_all (pps_cons' (pp_of (pv_of (pf_lc (own := [("one", 1)]) rfl sc.nd (pit_seq (pp_name 0)) (blkOk_by (own := [("one", 1)]) (N := ["thing", "one", "other"]) (sc := defScope s_is_shelf) (by decide +kernel)) (fun _ _ _ _ _ => (pgt_name (i := 1) sc.nd)) (fun _ _ _ _ _ => (pv_of (pf_callG (ok_is_mark T) hG (hr.mono (by decide)) (by rfl) T.g_is_mark T.f_is_mark.kp T.b_is_mark (pps_cons' (pp_name 1) pps_nil') (ms := [.b]) rfl)))))) pps_nil')))))))) (psts_one (pst_ret (pf_of (pp_of pv_bl)))) psts_nil)
      (psts_one (pst_ret (pf_of (pp_of (pv_all rfl (by rfl) T.n_all (pps_cons' (pp_of (pv_of (pf_lc (own := [("one", 1), ("other", 2)]) rfl sc.nd (pit_zip (by rfl) T.n_zip (pp_name 0) (pp_of (pv_of (pf_slice (pp_name 0) (pot_some pv_int) pot_none)))) (blkOk_by (own := [("one", 1), ("other", 2)]) (N := ["thing", "one", "other"]) (sc := defScope s_is_shelf) (by decide +kernel)) (fun _ _ _ _ _ => (pgt_tup rfl (pgts_cons (pgt_name (i := 1) sc.nd) (pgts_cons (pgt_name (i := 2) sc.nd) pgts_nil)) rfl (tsCons_len (tsCons_len tsNil_len)))) (fun _ _ _ _ _ => (pv_lt (pp_of (pv_ix (pp_name 1) (pp_of pv_int))) (pp_of (pv_ix (pp_name 2) (pp_of pv_int)))))))) pps_nil')))))))
theorem ok_need_shelf (T : Tx K mg a_levelled d_levelled a_added_up d_added_up a_stretch_to d_stretch_to a_wish_behind d_wish_behind a_handed_on d_handed_on a_companies_within d_companies_within a_said_of_company d_said_of_company a_changes_by d_changes_by a_is_number d_is_number a_is_row d_is_row a_is_saying d_is_saying a_need_number d_need_number a_need_row d_need_row a_need_place d_need_place a_what_comes d_what_comes a_total d_total a_wishes d_wishes a_companies d_companies a_companies_between d_companies_between a_least_from d_least_from a_is_table d_is_table a_is_rows d_is_rows a_need_rows_table d_need_rows_table a_table_of d_table_of a_plain_copies d_plain_copies a_is_mark d_is_mark a_is_shelf d_is_shelf a_need_shelf d_need_shelf a_need_book d_need_book a_find_book d_find_book a_count_to d_count_to a_book d_book a_books_to d_books_to a_shelf_by d_shelf_by a_shelf_of d_shelf_of a_l_jar d_l_jar a_l_pour d_l_pour a_l_number d_l_number a_l_saying d_l_saying a_l_row d_l_row a_l_some_twice d_l_some_twice a_l_spots d_l_spots a_l_undone d_l_undone a_l_behind d_l_behind a_l_shelf_right d_l_shelf_right a_law d_law) : FnG P w K mg base 4 a_need_shelf d_need_shelf ["thing"] (spD K 1 0 m_need_shelf) :=
  fnG_pl T.f_need_shelf sc_need_shelf rfl rfl fun cdv A outer s H E hG hr => have sc := sc_need_shelf; (psts_one (pst_if (ptt_not (ptt_truth (pp_of (pv_of (pf_callG (ok_is_shelf T) hG (hr.mono (by decide)) (by rfl) T.g_is_shelf T.f_is_shelf.kp T.b_is_shelf (pps_cons' (pp_name 0) pps_nil') (ms := [.b]) rfl))))) (psts_one pst_never) psts_nil))
theorem ok_need_book (T : Tx K mg a_levelled d_levelled a_added_up d_added_up a_stretch_to d_stretch_to a_wish_behind d_wish_behind a_handed_on d_handed_on a_companies_within d_companies_within a_said_of_company d_said_of_company a_changes_by d_changes_by a_is_number d_is_number a_is_row d_is_row a_is_saying d_is_saying a_need_number d_need_number a_need_row d_need_row a_need_place d_need_place a_what_comes d_what_comes a_total d_total a_wishes d_wishes a_companies d_companies a_companies_between d_companies_between a_least_from d_least_from a_is_table d_is_table a_is_rows d_is_rows a_need_rows_table d_need_rows_table a_table_of d_table_of a_plain_copies d_plain_copies a_is_mark d_is_mark a_is_shelf d_is_shelf a_need_shelf d_need_shelf a_need_book d_need_book a_find_book d_find_book a_count_to d_count_to a_book d_book a_books_to d_books_to a_shelf_by d_shelf_by a_shelf_of d_shelf_of a_l_jar d_l_jar a_l_pour d_l_pour a_l_number d_l_number a_l_saying d_l_saying a_l_row d_l_row a_l_some_twice d_l_some_twice a_l_spots d_l_spots a_l_undone d_l_undone a_l_behind d_l_behind a_l_shelf_right d_l_shelf_right a_law d_law) : FnG P w K mg base 2 a_need_book d_need_book ["thing", "least"] (spD K 2 0 m_need_book) :=
  fnG_pl T.f_need_book sc_need_book rfl rfl fun cdv A outer s H E hG hr => have sc := sc_need_book; (psts_one (pst_if (pt_of (pwt_or (ptt_not (ptt_truth (pp_of (pv_of (pf_callG (ok_is_number T) hG (hr.mono (by decide)) (by rfl) T.g_is_number T.f_is_number.kp T.b_is_number (pps_cons' (pp_name 0) pps_nil') (ms := [.b]) rfl))))) (pwt_or1 (pt_lt (pp_name 0) (pp_name 1))))) (psts_one pst_never) psts_nil))
theorem ok_find_book (T : Tx K mg a_levelled d_levelled a_added_up d_added_up a_stretch_to d_stretch_to a_wish_behind d_wish_behind a_handed_on d_handed_on a_companies_within d_companies_within a_said_of_company d_said_of_company a_changes_by d_changes_by a_is_number d_is_number a_is_row d_is_row a_is_saying d_is_saying a_need_number d_need_number a_need_row d_need_row a_need_place d_need_place a_what_comes d_what_comes a_total d_total a_wishes d_wishes a_companies d_companies a_companies_between d_companies_between a_least_from d_least_from a_is_table d_is_table a_is_rows d_is_rows a_need_rows_table d_need_rows_table a_table_of d_table_of a_plain_copies d_plain_copies a_is_mark d_is_mark a_is_shelf d_is_shelf a_need_shelf d_need_shelf a_need_book d_need_book a_find_book d_find_book a_count_to d_count_to a_book d_book a_books_to d_books_to a_shelf_by d_shelf_by a_shelf_of d_shelf_of a_l_jar d_l_jar a_l_pour d_l_pour a_l_number d_l_number a_l_saying d_l_saying a_l_row d_l_row a_l_some_twice d_l_some_twice a_l_spots d_l_spots a_l_undone d_l_undone a_l_behind d_l_behind a_l_shelf_right d_l_shelf_right a_law d_law) : FnG P w K mg base 2 a_find_book d_find_book ["shelf", "m"] (spD K 2 3 m_find_book) :=
  fnG_pl T.f_find_book sc_find_book rfl rfl fun cdv A outer s H E hG hr => have sc := sc_find_book; (psts_cons (pst_set (i := 2) sc.nd (pf_of (pp_of pv_int)))
      (psts_cons (pst_for PassesOwn.never rfl (pit_seq (pp_name 0)) (pgt_tup rfl (pgts_cons (pgt_name (i := 3) sc.nd) (pgts_cons (pgt_name (i := 4) sc.nd) pgts_nil)) rfl (tsCons_len (tsCons_len tsNil_len))) (psts_cons (pst_if (pt_le (pp_name 1) (pp_of (pv_of (pf_add (pp_of (pv_sub (pp_name 3) (pp_of pv_int))) (pp_name 2))))) (psts_one (pst_ret (pf_of (pp_of (pv_sub (pp_name 1) (pp_name 2)))))) psts_nil)
      (psts_cons (pst_aug (i := 2) ip_add pop_ip sc.nd (pp_of (pv_sub (pp_name 4) (pp_of (pv_of (pf_callG (ok_plain_copies T) hG (hr.mono (by decide)) (by rfl) T.g_plain_copies T.f_plain_copies.kp T.b_plain_copies (pps_cons' (pp_name 3) pps_nil') (ms := [.b]) rfl))))))
      (psts_one (pst_if (pt_le (pp_name 1) (pp_of (pv_of (pf_add (pp_name 3) (pp_name 2))))) (psts_one (pst_ret (pf_of (pp_name 3)))) psts_nil)))))
      (psts_one (pst_ret (pf_of (pp_of (pv_sub (pp_name 1) (pp_name 2))))))))
theorem ok_count_to (T : Tx K mg a_levelled d_levelled a_added_up d_added_up a_stretch_to d_stretch_to a_wish_behind d_wish_behind a_handed_on d_handed_on a_companies_within d_companies_within a_said_of_company d_said_of_company a_changes_by d_changes_by a_is_number d_is_number a_is_row d_is_row a_is_saying d_is_saying a_need_number d_need_number a_need_row d_need_row a_need_place d_need_place a_what_comes d_what_comes a_total d_total a_wishes d_wishes a_companies d_companies a_companies_between d_companies_between a_least_from d_least_from a_is_table d_is_table a_is_rows d_is_rows a_need_rows_table d_need_rows_table a_table_of d_table_of a_plain_copies d_plain_copies a_is_mark d_is_mark a_is_shelf d_is_shelf a_need_shelf d_need_shelf a_need_book d_need_book a_find_book d_find_book a_count_to d_count_to a_book d_book a_books_to d_books_to a_shelf_by d_shelf_by a_shelf_of d_shelf_of a_l_jar d_l_jar a_l_pour d_l_pour a_l_number d_l_number a_l_saying d_l_saying a_l_row d_l_row a_l_some_twice d_l_some_twice a_l_spots d_l_spots a_l_undone d_l_undone a_l_behind d_l_behind a_l_shelf_right d_l_shelf_right a_law d_law) : FnG P w K mg base 2 a_count_to d_count_to ["shelf", "number"] (spD K 2 2 m_count_to) :=
  fnG_pl T.f_count_to sc_count_to rfl rfl fun cdv A outer s H E hG hr => have sc := sc_count_to; (psts_one (pst_ret (pf_add (pp_name 1) (pp_of (pv_sum rfl (by rfl) T.n_sum (pps_cons' (pp_of (pv_of (pf_lcIf (own := [("at", 2), ("copies", 3)]) rfl sc.nd (pit_seq (pp_name 0)) (blkOk_by (own := [("at", 2), ("copies", 3)]) (N := ["shelf", "number", "at", "copies"]) (sc := defScope s_count_to) (by decide +kernel)) (fun _ _ _ _ _ => (pgt_tup rfl (pgts_cons (pgt_name (i := 2) sc.nd) (pgts_cons (pgt_name (i := 3) sc.nd) pgts_nil)) rfl (tsCons_len (tsCons_len tsNil_len)))) (fun _ _ _ _ _ => (pt_le (pp_name 2) (pp_name 1))) (fun _ _ _ _ _ => (pv_sub (pp_name 3) (pp_of (pv_of (pf_callG (ok_plain_copies T) hG (hr.mono (by decide)) (by rfl) T.g_plain_copies T.f_plain_copies.kp T.b_plain_copies (pps_cons' (pp_name 2) pps_nil') (ms := [.b]) rfl)))))))) pps_nil'))))))
theorem ok_book (T : Tx K mg a_levelled d_levelled a_added_up d_added_up a_stretch_to d_stretch_to a_wish_behind d_wish_behind a_handed_on d_handed_on a_companies_within d_companies_within a_said_of_company d_said_of_company a_changes_by d_changes_by a_is_number d_is_number a_is_row d_is_row a_is_saying d_is_saying a_need_number d_need_number a_need_row d_need_row a_need_place d_need_place a_what_comes d_what_comes a_total d_total a_wishes d_wishes a_companies d_companies a_companies_between d_companies_between a_least_from d_least_from a_is_table d_is_table a_is_rows d_is_rows a_need_rows_table d_need_rows_table a_table_of d_table_of a_plain_copies d_plain_copies a_is_mark d_is_mark a_is_shelf d_is_shelf a_need_shelf d_need_shelf a_need_book d_need_book a_find_book d_find_book a_count_to d_count_to a_book d_book a_books_to d_books_to a_shelf_by d_shelf_by a_shelf_of d_shelf_of a_l_jar d_l_jar a_l_pour d_l_pour a_l_number d_l_number a_l_saying d_l_saying a_l_row d_l_row a_l_some_twice d_l_some_twice a_l_spots d_l_spots a_l_undone d_l_undone a_l_behind d_l_behind a_l_shelf_right d_l_shelf_right a_law d_law) : FnG P w K mg base 5 a_book d_book ["shelf", "m"] (spD K 2 0 m_book) :=
  fnG_pl T.f_book sc_book rfl rfl fun cdv A outer s H E hG hr => have sc := sc_book; (psts_cons (pst_drop (pv_of (pf_callG (ok_need_shelf T) hG (hr.mono (by decide)) (by rfl) T.g_need_shelf T.f_need_shelf.kp T.b_need_shelf (pps_cons' (pp_name 0) pps_nil') (ms := [.b]) rfl)))
      (psts_cons (pst_drop (pv_of (pf_callG (ok_need_book T) hG (hr.mono (by decide)) (by rfl) T.g_need_book T.f_need_book.kp T.b_need_book (pps_cons' (pp_name 1) (pps_cons' (pp_of pv_int) pps_nil')) (ms := [.b, .b]) rfl)))
      (psts_one (pst_ret (pf_callG (ok_find_book T) hG (hr.mono (by decide)) (by rfl) T.g_find_book T.f_find_book.kp T.b_find_book (pps_cons' (pp_name 0) (pps_cons' (pp_name 1) pps_nil')) (ms := [.b, .b]) rfl)))))
theorem ok_books_to (T : Tx K mg a_levelled d_levelled a_added_up d_added_up a_stretch_to d_stretch_to a_wish_behind d_wish_behind a_handed_on d_handed_on a_companies_within d_companies_within a_said_of_company d_said_of_company a_changes_by d_changes_by a_is_number d_is_number a_is_row d_is_row a_is_saying d_is_saying a_need_number d_need_number a_need_row d_need_row a_need_place d_need_place a_what_comes d_what_comes a_total d_total a_wishes d_wishes a_companies d_companies a_companies_between d_companies_between a_least_from d_least_from a_is_table d_is_table a_is_rows d_is_rows a_need_rows_table d_need_rows_table a_table_of d_table_of a_plain_copies d_plain_copies a_is_mark d_is_mark a_is_shelf d_is_shelf a_need_shelf d_need_shelf a_need_book d_need_book a_find_book d_find_book a_count_to d_count_to a_book d_book a_books_to d_books_to a_shelf_by d_shelf_by a_shelf_of d_shelf_of a_l_jar d_l_jar a_l_pour d_l_pour a_l_number d_l_number a_l_saying d_l_saying a_l_row d_l_row a_l_some_twice d_l_some_twice a_l_spots d_l_spots a_l_undone d_l_undone a_l_behind d_l_behind a_l_shelf_right d_l_shelf_right a_law d_law) : FnG P w K mg base 5 a_books_to d_books_to ["shelf", "number"] (spD K 2 0 m_books_to) :=
  fnG_pl T.f_books_to sc_books_to rfl rfl fun cdv A outer s H E hG hr => have sc := sc_books_to; (psts_cons (pst_drop (pv_of (pf_callG (ok_need_shelf T) hG (hr.mono (by decide)) (by rfl) T.g_need_shelf T.f_need_shelf.kp T.b_need_shelf (pps_cons' (pp_name 0) pps_nil') (ms := [.b]) rfl)))
      (psts_cons (pst_drop (pv_of (pf_callG (ok_need_number T) hG (hr.mono (by decide)) (by rfl) T.g_need_number T.f_need_number.kp T.b_need_number (pps_cons' (pp_name 1) pps_nil') (ms := [.b]) rfl)))
      (psts_one (pst_ret (pf_callG (ok_count_to T) hG (hr.mono (by decide)) (by rfl) T.g_count_to T.f_count_to.kp T.b_count_to (pps_cons' (pp_name 0) (pps_cons' (pp_name 1) pps_nil')) (ms := [.b, .b]) rfl)))))
theorem ok_shelf_by (T : Tx K mg a_levelled d_levelled a_added_up d_added_up a_stretch_to d_stretch_to a_wish_behind d_wish_behind a_handed_on d_handed_on a_companies_within d_companies_within a_said_of_company d_said_of_company a_changes_by d_changes_by a_is_number d_is_number a_is_row d_is_row a_is_saying d_is_saying a_need_number d_need_number a_need_row d_need_row a_need_place d_need_place a_what_comes d_what_comes a_total d_total a_wishes d_wishes a_companies d_companies a_companies_between d_companies_between a_least_from d_least_from a_is_table d_is_table a_is_rows d_is_rows a_need_rows_table d_need_rows_table a_table_of d_table_of a_plain_copies d_plain_copies a_is_mark d_is_mark a_is_shelf d_is_shelf a_need_shelf d_need_shelf a_need_book d_need_book a_find_book d_find_book a_count_to d_count_to a_book d_book a_books_to d_books_to a_shelf_by d_shelf_by a_shelf_of d_shelf_of a_l_jar d_l_jar a_l_pour d_l_pour a_l_number d_l_number a_l_saying d_l_saying a_l_row d_l_row a_l_some_twice d_l_some_twice a_l_spots d_l_spots a_l_undone d_l_undone a_l_behind d_l_behind a_l_shelf_right d_l_shelf_right a_law d_law) : FnG P w K mg base 4 a_shelf_by d_shelf_by ["table"] (spD K 1 4 m_shelf_by) :=
  fnG_pl T.f_shelf_by sc_shelf_by rfl rfl fun cdv A outer s H E hG hr => have sc := sc_shelf_by; (psts_cons (pst_drop (pv_of (pf_callG (ok_need_rows_table T) hG (hr.mono (by decide)) (by rfl) T.g_need_rows_table T.f_need_rows_table.kp T.b_need_rows_table (pps_cons' (pp_name 0) pps_nil') (ms := [.b]) rfl)))
      (psts_cons (pst_set (i := 1) sc.nd (pf_lst pvs_nil))
      (psts_cons (pst_set (i := 2) sc.nd (pf_of (pp_of pv_int)))
      (psts_cons (pst_for PassesOwn.never rfl (pit_seq (pp_name 0)) (pgt_tup rfl (pgts_cons (pgt_name (i := 3) sc.nd) (pgts_cons (pgt_name (i := 4) sc.nd) pgts_nil)) rfl (tsCons_len (tsCons_len tsNil_len))) (psts_cons (pst_if (pt_ne hr.units (pp_name 4) (pp_name 2)) (psts_one (pst_drop (pv_mut (j := 1) PySem.F.slot_list_append PySem.F.type_list_append mt_append pmut_append (pvs_cons (pv_tup (pvs_cons (pv_of (pf_of (pp_name 3))) (pvs_cons (pv_sub (pp_of (pv_of (pf_add (pp_of (pv_of (pf_callG (ok_plain_copies T) hG (hr.mono (by decide)) (by rfl) T.g_plain_copies T.f_plain_copies.kp T.b_plain_copies (pps_cons' (pp_name 3) pps_nil') (ms := [.b]) rfl))) (pp_name 4)))) (pp_name 2)) pvs_nil))) pvs_nil)))) psts_nil)
      (psts_one (pst_set (i := 2) sc.nd (pf_of (pp_of (pv_of (pf_of (pp_name 4)))))))))
      (psts_one (pst_ret (pf_of (pp_name 1))))))))
theorem ok_shelf_of (T : Tx K mg a_levelled d_levelled a_added_up d_added_up a_stretch_to d_stretch_to a_wish_behind d_wish_behind a_handed_on d_handed_on a_companies_within d_companies_within a_said_of_company d_said_of_company a_changes_by d_changes_by a_is_number d_is_number a_is_row d_is_row a_is_saying d_is_saying a_need_number d_need_number a_need_row d_need_row a_need_place d_need_place a_what_comes d_what_comes a_total d_total a_wishes d_wishes a_companies d_companies a_companies_between d_companies_between a_least_from d_least_from a_is_table d_is_table a_is_rows d_is_rows a_need_rows_table d_need_rows_table a_table_of d_table_of a_plain_copies d_plain_copies a_is_mark d_is_mark a_is_shelf d_is_shelf a_need_shelf d_need_shelf a_need_book d_need_book a_find_book d_find_book a_count_to d_count_to a_book d_book a_books_to d_books_to a_shelf_by d_shelf_by a_shelf_of d_shelf_of a_l_jar d_l_jar a_l_pour d_l_pour a_l_number d_l_number a_l_saying d_l_saying a_l_row d_l_row a_l_some_twice d_l_some_twice a_l_spots d_l_spots a_l_undone d_l_undone a_l_behind d_l_behind a_l_shelf_right d_l_shelf_right a_law d_law) : FnG P w K mg base 5 a_shelf_of d_shelf_of ["row"] (spD K 1 0 m_shelf_of) :=
  fnG_pl T.f_shelf_of sc_shelf_of rfl rfl fun cdv A outer s H E hG hr => have sc := sc_shelf_of; (psts_one (pst_ret (pf_callG (ok_shelf_by T) hG (hr.mono (by decide)) (by rfl) T.g_shelf_by T.f_shelf_by.kp T.b_shelf_by (pps_cons' (pp_of (pv_of (pf_callG (ok_table_of T) hG (hr.mono (by decide)) (by rfl) T.g_table_of T.f_table_of.kp T.b_table_of (pps_cons' (pp_name 0) pps_nil') (ms := [.b]) rfl))) pps_nil') (ms := [.b]) rfl)))
theorem ok_l_jar (T : Tx K mg a_levelled d_levelled a_added_up d_added_up a_stretch_to d_stretch_to a_wish_behind d_wish_behind a_handed_on d_handed_on a_companies_within d_companies_within a_said_of_company d_said_of_company a_changes_by d_changes_by a_is_number d_is_number a_is_row d_is_row a_is_saying d_is_saying a_need_number d_need_number a_need_row d_need_row a_need_place d_need_place a_what_comes d_what_comes a_total d_total a_wishes d_wishes a_companies d_companies a_companies_between d_companies_between a_least_from d_least_from a_is_table d_is_table a_is_rows d_is_rows a_need_rows_table d_need_rows_table a_table_of d_table_of a_plain_copies d_plain_copies a_is_mark d_is_mark a_is_shelf d_is_shelf a_need_shelf d_need_shelf a_need_book d_need_book a_find_book d_find_book a_count_to d_count_to a_book d_book a_books_to d_books_to a_shelf_by d_shelf_by a_shelf_of d_shelf_of a_l_jar d_l_jar a_l_pour d_l_pour a_l_number d_l_number a_l_saying d_l_saying a_l_row d_l_row a_l_some_twice d_l_some_twice a_l_spots d_l_spots a_l_undone d_l_undone a_l_behind d_l_behind a_l_shelf_right d_l_shelf_right a_law d_law) : FnG P w K mg base 1 a_l_jar d_l_jar ["_law_script", "_law_k"] (spD K 2 1 m_l_jar) :=
  fnG_pl T.f_l_jar sc_l_jar rfl rfl fun cdv A outer s H E hG hr => have sc := sc_l_jar; (psts_cons (pst_set (i := 2) sc.nd (pf_of (pp_of (pv_if (pt_lt (pp_name 1) (pp_of (pv_lenS 0 (by rfl) T.n_len))) (pv_ixS 0 (pv_of (pf_of (pp_name 1)))) pv_int))))
      (psts_one (pst_ret (pf_lst (pvs_cons (pv_max2 rfl (by rfl) T.n_max (pps_cons' (pp_of pv_int) (pps_cons' (pp_of (pv_sub (pp_name 2) (pp_of (pv_pow (pp_of pv_int) (pp_of pv_int))))) pps_nil'))) (pvs_cons (pv_of (pf_add (pp_of (pv_of (pf_mul (pp_of (pv_mod (pp_name 2) (pp_of (pv_of (pf_add (pp_of (pv_pow (pp_of pv_int) (pp_of pv_int))) (pp_of pv_int)))))) (pp_of pv_int)))) (pp_name 1))) (pvs_cons pv_int pvs_nil)))))))
theorem ok_l_pour (T : Tx K mg a_levelled d_levelled a_added_up d_added_up a_stretch_to d_stretch_to a_wish_behind d_wish_behind a_handed_on d_handed_on a_companies_within d_companies_within a_said_of_company d_said_of_company a_changes_by d_changes_by a_is_number d_is_number a_is_row d_is_row a_is_saying d_is_saying a_need_number d_need_number a_need_row d_need_row a_need_place d_need_place a_what_comes d_what_comes a_total d_total a_wishes d_wishes a_companies d_companies a_companies_between d_companies_between a_least_from d_least_from a_is_table d_is_table a_is_rows d_is_rows a_need_rows_table d_need_rows_table a_table_of d_table_of a_plain_copies d_plain_copies a_is_mark d_is_mark a_is_shelf d_is_shelf a_need_shelf d_need_shelf a_need_book d_need_book a_find_book d_find_book a_count_to d_count_to a_book d_book a_books_to d_books_to a_shelf_by d_shelf_by a_shelf_of d_shelf_of a_l_jar d_l_jar a_l_pour d_l_pour a_l_number d_l_number a_l_saying d_l_saying a_l_row d_l_row a_l_some_twice d_l_some_twice a_l_spots d_l_spots a_l_undone d_l_undone a_l_behind d_l_behind a_l_shelf_right d_l_shelf_right a_law d_law) : FnG P w K mg base 1 a_l_pour d_l_pour ["_law_jar_here", "_law_many"] (spD K 2 2 m_l_pour) :=
  fnG_pl T.f_l_pour sc_l_pour rfl rfl fun cdv A outer s H E hG hr => have sc := sc_l_pour; (psts_cons (pst_if (pt_gt (pp_of (pv_ix (pp_name 0) (pp_of pv_int))) (pp_of pv_int)) (psts_cons (pst_set (i := 2) sc.nd (pf_of (pp_of (pv_mod (pp_of (pv_ix (pp_name 0) (pp_of pv_int))) (pp_name 1)))))
      (psts_cons (pst_setix (j := 0) (pv_fdiv (pp_of (pv_ix (pp_name 0) (pp_of pv_int))) (pp_name 1)) pv_int)
      (psts_one (pst_ret (pf_of (pp_name 2)))))) psts_nil)
      (psts_cons (pst_setix (j := 0) (pv_of (pf_add (pp_of (pv_ix (pp_name 0) (pp_of pv_int))) (pp_of pv_int))) pv_int)
      (psts_cons (pst_set (i := 3) sc.nd (pf_of (pp_of (pv_mod (pp_of (pv_pow (pp_of (pv_of (pf_add (pp_of (pv_ix (pp_name 0) (pp_of pv_int))) (pp_of (pv_of (pf_mul (pp_of pv_int) (pp_of (pv_ix (pp_name 0) (pp_of pv_int))))))))) (pp_of pv_int))) (pp_of (pv_of (pf_add (pp_of (pv_pow (pp_of pv_int) (pp_of pv_int))) (pp_of pv_int))))))))
      (psts_cons (pst_set (i := 3) sc.nd (pf_of (pp_of (pv_mod (pp_of (pv_pow (pp_of (pv_of (pf_add (pp_name 3) (pp_of (pv_of (pf_mul (pp_of pv_int) (pp_of (pv_ix (pp_name 0) (pp_of pv_int))))))))) (pp_of pv_int))) (pp_of (pv_of (pf_add (pp_of (pv_pow (pp_of pv_int) (pp_of pv_int))) (pp_of pv_int))))))))
      (psts_one (pst_ret (pf_of (pp_of (pv_mod (pp_of (pv_fdiv (pp_name 3) (pp_of pv_int))) (pp_name 1))))))))))
theorem ok_l_number (T : Tx K mg a_levelled d_levelled a_added_up d_added_up a_stretch_to d_stretch_to a_wish_behind d_wish_behind a_handed_on d_handed_on a_companies_within d_companies_within a_said_of_company d_said_of_company a_changes_by d_changes_by a_is_number d_is_number a_is_row d_is_row a_is_saying d_is_saying a_need_number d_need_number a_need_row d_need_row a_need_place d_need_place a_what_comes d_what_comes a_total d_total a_wishes d_wishes a_companies d_companies a_companies_between d_companies_between a_least_from d_least_from a_is_table d_is_table a_is_rows d_is_rows a_need_rows_table d_need_rows_table a_table_of d_table_of a_plain_copies d_plain_copies a_is_mark d_is_mark a_is_shelf d_is_shelf a_need_shelf d_need_shelf a_need_book d_need_book a_find_book d_find_book a_count_to d_count_to a_book d_book a_books_to d_books_to a_shelf_by d_shelf_by a_shelf_of d_shelf_of a_l_jar d_l_jar a_l_pour d_l_pour a_l_number d_l_number a_l_saying d_l_saying a_l_row d_l_row a_l_some_twice d_l_some_twice a_l_spots d_l_spots a_l_undone d_l_undone a_l_behind d_l_behind a_l_shelf_right d_l_shelf_right a_law d_law) : FnG P w K mg base 2 a_l_number d_l_number ["_law_jar_here", "_law_top"] (spD K 2 0 m_l_number) :=
  fnG_pl T.f_l_number sc_l_number rfl rfl fun cdv A outer s H E hG hr => have sc := sc_l_number; (psts_one (pst_ret (pf_of (pp_of (pv_ix (pp_of (pv_of (pf_lst (pvs_cons (pv_of (pf_callG (ok_l_pour T) hG (hr.mono (by decide)) (by rfl) T.g_l_pour T.f_l_pour.kp T.b_l_pour (pps_cons' (pp_name 0) (pps_cons' (pp_of pv_int) pps_nil')) (ms := [.io, .b]) rfl)) (pvs_cons (pv_of (pf_callG (ok_l_pour T) hG (hr.mono (by decide)) (by rfl) T.g_l_pour T.f_l_pour.kp T.b_l_pour (pps_cons' (pp_name 0) (pps_cons' (pp_of pv_int) pps_nil')) (ms := [.io, .b]) rfl)) (pvs_cons (pv_of (pf_callG (ok_l_pour T) hG (hr.mono (by decide)) (by rfl) T.g_l_pour T.f_l_pour.kp T.b_l_pour (pps_cons' (pp_name 0) (pps_cons' (pp_name 1) pps_nil')) (ms := [.io, .b]) rfl)) pvs_nil)))))) (pp_of (pv_of (pf_callG (ok_l_pour T) hG (hr.mono (by decide)) (by rfl) T.g_l_pour T.f_l_pour.kp T.b_l_pour (pps_cons' (pp_name 0) (pps_cons' (pp_of pv_int) pps_nil')) (ms := [.io, .b]) rfl))))))))
theorem ok_l_saying (T : Tx K mg a_levelled d_levelled a_added_up d_added_up a_stretch_to d_stretch_to a_wish_behind d_wish_behind a_handed_on d_handed_on a_companies_within d_companies_within a_said_of_company d_said_of_company a_changes_by d_changes_by a_is_number d_is_number a_is_row d_is_row a_is_saying d_is_saying a_need_number d_need_number a_need_row d_need_row a_need_place d_need_place a_what_comes d_what_comes a_total d_total a_wishes d_wishes a_companies d_companies a_companies_between d_companies_between a_least_from d_least_from a_is_table d_is_table a_is_rows d_is_rows a_need_rows_table d_need_rows_table a_table_of d_table_of a_plain_copies d_plain_copies a_is_mark d_is_mark a_is_shelf d_is_shelf a_need_shelf d_need_shelf a_need_book d_need_book a_find_book d_find_book a_count_to d_count_to a_book d_book a_books_to d_books_to a_shelf_by d_shelf_by a_shelf_of d_shelf_of a_l_jar d_l_jar a_l_pour d_l_pour a_l_number d_l_number a_l_saying d_l_saying a_l_row d_l_row a_l_some_twice d_l_some_twice a_l_spots d_l_spots a_l_undone d_l_undone a_l_behind d_l_behind a_l_shelf_right d_l_shelf_right a_law d_law) : FnG P w K mg base 3 a_l_saying d_l_saying ["_law_jar_here", "_law_top"] (spD K 2 2 m_l_saying) :=
  fnG_pl T.f_l_saying sc_l_saying rfl rfl fun cdv A outer s H E hG hr => have sc := sc_l_saying; (psts_cons (pst_set (i := 2) sc.nd (pf_callG (ok_l_number T) hG (hr.mono (by decide)) (by rfl) T.g_l_number T.f_l_number.kp T.b_l_number (pps_cons' (pp_name 0) (pps_cons' (pp_name 1) pps_nil')) (ms := [.io, .b]) rfl))
      (psts_cons (pst_set (i := 3) sc.nd (pf_add (pp_name 2) (pp_of (pv_of (pf_callG (ok_l_number T) hG (hr.mono (by decide)) (by rfl) T.g_l_number T.f_l_number.kp T.b_l_number (pps_cons' (pp_name 0) (pps_cons' (pp_name 1) pps_nil')) (ms := [.io, .b]) rfl)))))
      (psts_one (pst_ret (pf_of (pp_of (pv_tup (pvs_cons (pv_of (pf_of (pp_name 2))) (pvs_cons (pv_ix (pp_of (pv_of (pf_lst (pvs_cons (pv_of (pf_of (pp_name 3))) (pvs_cons (pv_of (pf_of (pp_name 3))) (pvs_cons (pv_of (pf_of (pp_name 3))) (pvs_cons (pv_of (pf_of (pp_name 3))) (pvs_cons pv_non pvs_nil)))))))) (pp_of (pv_of (pf_callG (ok_l_pour T) hG (hr.mono (by decide)) (by rfl) T.g_l_pour T.f_l_pour.kp T.b_l_pour (pps_cons' (pp_name 0) (pps_cons' (pp_of pv_int) pps_nil')) (ms := [.io, .b]) rfl)))) pvs_nil)))))))))
theorem ok_l_row (T : Tx K mg a_levelled d_levelled a_added_up d_added_up a_stretch_to d_stretch_to a_wish_behind d_wish_behind a_handed_on d_handed_on a_companies_within d_companies_within a_said_of_company d_said_of_company a_changes_by d_changes_by a_is_number d_is_number a_is_row d_is_row a_is_saying d_is_saying a_need_number d_need_number a_need_row d_need_row a_need_place d_need_place a_what_comes d_what_comes a_total d_total a_wishes d_wishes a_companies d_companies a_companies_between d_companies_between a_least_from d_least_from a_is_table d_is_table a_is_rows d_is_rows a_need_rows_table d_need_rows_table a_table_of d_table_of a_plain_copies d_plain_copies a_is_mark d_is_mark a_is_shelf d_is_shelf a_need_shelf d_need_shelf a_need_book d_need_book a_find_book d_find_book a_count_to d_count_to a_book d_book a_books_to d_books_to a_shelf_by d_shelf_by a_shelf_of d_shelf_of a_l_jar d_l_jar a_l_pour d_l_pour a_l_number d_l_number a_l_saying d_l_saying a_l_row d_l_row a_l_some_twice d_l_some_twice a_l_spots d_l_spots a_l_undone d_l_undone a_l_behind d_l_behind a_l_shelf_right d_l_shelf_right a_law d_law) : FnG P w K mg base 4 a_l_row d_l_row ["_law_jar_here", "_law_people", "_law_top"] (spD K 3 1 m_l_row) :=
  fnG_pl T.f_l_row sc_l_row rfl rfl fun cdv A outer s H E hG hr => have sc := sc_l_row; (psts_one (pst_ret (pf_lc (own := [("_law_turn", 3)]) rfl sc.nd (pit_rng1 (by rfl) T.n_range (pv_of (pf_callG (ok_l_pour T) hG (hr.mono (by decide)) (by rfl) T.g_l_pour T.f_l_pour.kp T.b_l_pour (pps_cons' (pp_name 0) (pps_cons' (pp_of (pv_of (pf_add (pp_name 1) (pp_of pv_int)))) pps_nil')) (ms := [.io, .b]) rfl))) (blkOk_by (own := [("_law_turn", 3)]) (N := ["_law_jar_here", "_law_people", "_law_top", "_law_turn"]) (sc := defScope s_l_row) (by decide +kernel)) (fun _ _ _ _ _ => (pgt_name (i := 3) sc.nd)) (fun _ _ _ _ _ => (pv_of (pf_callG (ok_l_saying T) hG (hr.mono (by decide)) (by rfl) T.g_l_saying T.f_l_saying.kp T.b_l_saying (pps_cons' (pp_name 0) (pps_cons' (pp_name 2) pps_nil')) (ms := [.io, .b]) rfl))))))
theorem ok_l_some_twice (T : Tx K mg a_levelled d_levelled a_added_up d_added_up a_stretch_to d_stretch_to a_wish_behind d_wish_behind a_handed_on d_handed_on a_companies_within d_companies_within a_said_of_company d_said_of_company a_changes_by d_changes_by a_is_number d_is_number a_is_row d_is_row a_is_saying d_is_saying a_need_number d_need_number a_need_row d_need_row a_need_place d_need_place a_what_comes d_what_comes a_total d_total a_wishes d_wishes a_companies d_companies a_companies_between d_companies_between a_least_from d_least_from a_is_table d_is_table a_is_rows d_is_rows a_need_rows_table d_need_rows_table a_table_of d_table_of a_plain_copies d_plain_copies a_is_mark d_is_mark a_is_shelf d_is_shelf a_need_shelf d_need_shelf a_need_book d_need_book a_find_book d_find_book a_count_to d_count_to a_book d_book a_books_to d_books_to a_shelf_by d_shelf_by a_shelf_of d_shelf_of a_l_jar d_l_jar a_l_pour d_l_pour a_l_number d_l_number a_l_saying d_l_saying a_l_row d_l_row a_l_some_twice d_l_some_twice a_l_spots d_l_spots a_l_undone d_l_undone a_l_behind d_l_behind a_l_shelf_right d_l_shelf_right a_law d_law) : FnG P w K mg base 2 a_l_some_twice d_l_some_twice ["_law_jar_here", "_law_row_here"] (spD K 2 2 m_l_some_twice) :=
  fnG_pl T.f_l_some_twice sc_l_some_twice rfl rfl fun cdv A outer s H E hG hr => have sc := sc_l_some_twice; (psts_cons (pst_set (i := 2) sc.nd (pf_list (by rfl) T.n_list (pps_cons' (pp_name 1) pps_nil')))
      (psts_cons (pst_for PassesOwn.never rfl (pit_rng1 (by rfl) T.n_range (pv_of (pf_mul (pp_of (pv_of (pf_callG (ok_l_pour T) hG (hr.mono (by decide)) (by rfl) T.g_l_pour T.f_l_pour.kp T.b_l_pour (pps_cons' (pp_name 0) (pps_cons' (pp_of pv_int) pps_nil')) (ms := [.io, .b]) rfl))) (pp_of (pv_int1 (by rfl) T.n_int (pps_cons' (pp_of (pv_ne hr.units (pp_name 1) (pp_of (pv_of (pf_lst pvs_nil))))) pps_nil')))))) (pgt_name (i := 3) sc.nd) (psts_one (pst_drop (pv_mut (j := 2) PySem.F.slot_list_insert PySem.F.type_list_insert mt_insert pmut_insert (pvs_cons (pv_of (pf_callG (ok_l_pour T) hG (hr.mono (by decide)) (by rfl) T.g_l_pour T.f_l_pour.kp T.b_l_pour (pps_cons' (pp_name 0) (pps_cons' (pp_of (pv_of (pf_add (pp_of (pv_len (by rfl) T.n_len (pps_cons' (pp_name 2) pps_nil'))) (pp_of pv_int)))) pps_nil')) (ms := [.io, .b]) rfl)) (pvs_cons (pv_ix (pp_name 1) (pp_of (pv_of (pf_callG (ok_l_pour T) hG (hr.mono (by decide)) (by rfl) T.g_l_pour T.f_l_pour.kp T.b_l_pour (pps_cons' (pp_name 0) (pps_cons' (pp_of (pv_len (by rfl) T.n_len (pps_cons' (pp_name 1) pps_nil'))) pps_nil')) (ms := [.io, .b]) rfl)))) pvs_nil))))))
      (psts_one (pst_ret (pf_of (pp_name 2))))))
theorem ok_l_spots (T : Tx K mg a_levelled d_levelled a_added_up d_added_up a_stretch_to d_stretch_to a_wish_behind d_wish_behind a_handed_on d_handed_on a_companies_within d_companies_within a_said_of_company d_said_of_company a_changes_by d_changes_by a_is_number d_is_number a_is_row d_is_row a_is_saying d_is_saying a_need_number d_need_number a_need_row d_need_row a_need_place d_need_place a_what_comes d_what_comes a_total d_total a_wishes d_wishes a_companies d_companies a_companies_between d_companies_between a_least_from d_least_from a_is_table d_is_table a_is_rows d_is_rows a_need_rows_table d_need_rows_table a_table_of d_table_of a_plain_copies d_plain_copies a_is_mark d_is_mark a_is_shelf d_is_shelf a_need_shelf d_need_shelf a_need_book d_need_book a_find_book d_find_book a_count_to d_count_to a_book d_book a_books_to d_books_to a_shelf_by d_shelf_by a_shelf_of d_shelf_of a_l_jar d_l_jar a_l_pour d_l_pour a_l_number d_l_number a_l_saying d_l_saying a_l_row d_l_row a_l_some_twice d_l_some_twice a_l_spots d_l_spots a_l_undone d_l_undone a_l_behind d_l_behind a_l_shelf_right d_l_shelf_right a_law d_law) : FnG P w K mg base 4 a_l_spots d_l_spots ["_law_jar_here", "_law_row_here"] (spD K 2 6 m_l_spots) :=
  fnG_pl T.f_l_spots sc_l_spots rfl rfl fun cdv A outer s H E hG hr => have sc := sc_l_spots; (psts_cons (pst_set (i := 2) sc.nd (pf_lst (pvs_cons pv_int (pvs_cons (pv_of (pf_callG (ok_l_number T) hG (hr.mono (by decide)) (by rfl) T.g_l_number T.f_l_number.kp T.b_l_number (pps_cons' (pp_name 0) (pps_cons' (pp_of (pv_pow (pp_of pv_int) (pp_of pv_int))) pps_nil')) (ms := [.io, .b]) rfl)) pvs_nil))))
      (psts_cons (pst_for PassesOwn.never rfl (pit_rng1 (by rfl) T.n_range (pv_of (pf_mul (pp_of pv_int) (pp_of (pv_int1 (by rfl) T.n_int (pps_cons' (pp_of (pv_ne hr.units (pp_name 1) (pp_of (pv_of (pf_lst pvs_nil))))) pps_nil')))))) (pgt_name (i := 3) sc.nd) (psts_cons (pst_set (i := 4) sc.nd (pf_callG (ok_l_pour T) hG (hr.mono (by decide)) (by rfl) T.g_l_pour T.f_l_pour.kp T.b_l_pour (pps_cons' (pp_name 0) (pps_cons' (pp_of (pv_len (by rfl) T.n_len (pps_cons' (pp_name 1) pps_nil'))) pps_nil')) (ms := [.io, .b]) rfl))
      (psts_cons (pst_asg (pv_ix (pp_name 1) (pp_name 4)) (pgt_tup rfl (pgts_cons (pgt_name (i := 5) sc.nd) (pgts_cons (pgt_name (i := 6) sc.nd) pgts_nil)) rfl (tsCons_len (tsCons_len tsNil_len))))
      (psts_cons (pst_set (i := 7) sc.nd (pf_of (pp_of (pv_ix (pp_of (pv_of (pf_lst (pvs_cons (pv_of (pf_of (pp_name 5))) (pvs_cons (pv_of (pf_add (pp_name 5) (pp_of pv_int))) (pvs_cons (pv_if (pt_is (pp_name 6) (pp_of pv_non)) (pv_of (pf_of (pp_name 5))) (pv_of (pf_add (pp_name 6) (pp_of pv_int)))) pvs_nil)))))) (pp_of (pv_of (pf_callG (ok_l_pour T) hG (hr.mono (by decide)) (by rfl) T.g_l_pour T.f_l_pour.kp T.b_l_pour (pps_cons' (pp_name 0) (pps_cons' (pp_of pv_int) pps_nil')) (ms := [.io, .b]) rfl)))))))
      (psts_one (pst_drop (pv_mut (j := 2) PySem.F.slot_list_append PySem.F.type_list_append mt_append pmut_append (pvs_cons (pv_max2 rfl (by rfl) T.n_max (pps_cons' (pp_of pv_int) (pps_cons' (pp_of (pv_sub (pp_of (pv_of (pf_add (pp_of (pv_of (pf_callG (ok_least_from T) hG (hr.mono (by decide)) (by rfl) T.g_least_from T.f_least_from.kp T.b_least_from (pps_cons' (pp_name 1) (pps_cons' (pp_of (pv_of (pf_add (pp_name 4) (pp_of pv_int)))) (pps_cons' (pp_of (pv_of (pf_of (pp_name 7)))) pps_nil'))) (ms := [.b, .b, .v]) rfl))) (pp_of (pv_of (pf_callG (ok_l_pour T) hG (hr.mono (by decide)) (by rfl) T.g_l_pour T.f_l_pour.kp T.b_l_pour (pps_cons' (pp_name 0) (pps_cons' (pp_of pv_int) pps_nil')) (ms := [.io, .b]) rfl)))))) (pp_of pv_int))) pps_nil'))) pvs_nil))))))))
      (psts_one (pst_ret (pf_of (pp_name 2))))))
theorem ok_l_undone (T : Tx K mg a_levelled d_levelled a_added_up d_added_up a_stretch_to d_stretch_to a_wish_behind d_wish_behind a_handed_on d_handed_on a_companies_within d_companies_within a_said_of_company d_said_of_company a_changes_by d_changes_by a_is_number d_is_number a_is_row d_is_row a_is_saying d_is_saying a_need_number d_need_number a_need_row d_need_row a_need_place d_need_place a_what_comes d_what_comes a_total d_total a_wishes d_wishes a_companies d_companies a_companies_between d_companies_between a_least_from d_least_from a_is_table d_is_table a_is_rows d_is_rows a_need_rows_table d_need_rows_table a_table_of d_table_of a_plain_copies d_plain_copies a_is_mark d_is_mark a_is_shelf d_is_shelf a_need_shelf d_need_shelf a_need_book d_need_book a_find_book d_find_book a_count_to d_count_to a_book d_book a_books_to d_books_to a_shelf_by d_shelf_by a_shelf_of d_shelf_of a_l_jar d_l_jar a_l_pour d_l_pour a_l_number d_l_number a_l_saying d_l_saying a_l_row d_l_row a_l_some_twice d_l_some_twice a_l_spots d_l_spots a_l_undone d_l_undone a_l_behind d_l_behind a_l_shelf_right d_l_shelf_right a_law d_law) : FnG P w K mg base 4 a_l_undone d_l_undone ["_law_row_here", "_law_company"] (spD K 2 4 m_l_undone) :=
  fnG_pl T.f_l_undone sc_l_undone rfl rfl fun cdv A outer s H E hG hr => have sc := sc_l_undone; (psts_cons (pst_set (i := 2) sc.nd (pf_callG (ok_total T) hG (hr.mono (by decide)) (by rfl) T.g_total T.f_total.kp T.b_total (pps_cons' (pp_name 0) (pps_cons' (pp_of (pv_of (pf_of (pp_name 1)))) pps_nil')) (ms := [.b, .v]) rfl))
      (psts_cons (pst_for PassesOwn.never rfl (pit_seq (pp_of (pv_of (pf_lst (pvs_cons (pv_of (pf_of (pp_name 2))) (pvs_cons (pv_of (pf_add (pp_name 2) (pp_of pv_int))) (pvs_cons (pv_max2 rfl (by rfl) T.n_max (pps_cons' (pp_of pv_int) (pps_cons' (pp_of (pv_sub (pp_name 2) (pp_of pv_int))) pps_nil'))) (pvs_cons (pv_of (pf_add (pp_name 2) (pp_of pv_int))) pvs_nil)))))))) (pgt_name (i := 3) sc.nd) (psts_one (pst_if (pt_ne hr.units (pp_of (pv_le (pp_of (pv_ix (pp_of (pv_of (pf_callG (ok_wishes T) hG (hr.mono (by decide)) (by rfl) T.g_wishes T.f_wishes.kp T.b_wishes (pps_cons' (pp_name 0) (pps_cons' (pp_of (pv_of (pf_of (pp_name 3)))) pps_nil')) (ms := [.b, .v]) rfl))) (pp_of (pv_neg pv_int)))) (pp_name 1))) (pp_of (pv_le (pp_name 3) (pp_name 2)))) (psts_one (pst_ret (pf_of (pp_of pv_bl)))) psts_nil)))
      (psts_cons (pst_asg (pv_of (pf_callG (ok_companies T) hG (hr.mono (by decide)) (by rfl) T.g_companies T.f_companies.kp T.b_companies (pps_cons' (pp_name 0) (pps_cons' (pp_of (pv_of (pf_of (pp_name 2)))) pps_nil')) (ms := [.b, .v]) rfl)) (pgt_tup rfl (pgts_cons (pgt_name (i := 4) sc.nd) (pgts_cons (pgt_name (i := 5) sc.nd) pgts_nil)) rfl (tsCons_len (tsCons_len tsNil_len))))
      (psts_cons (pst_if (pt_of (pwt_or (pt_gt (pp_name 4) (pp_name 1)) (pwt_or1 (pt_of (pwt_and (pt_isnot (pp_name 5) (pp_of pv_non)) (pwt_and1 (pt_lt (pp_name 5) (pp_name 1)))))))) (psts_one (pst_ret (pf_of (pp_of pv_bl)))) psts_nil)
      (psts_cons (pst_if (pt_of (pwt_or (pt_of (pwt_and (pt_gt (pp_name 4) (pp_of pv_int)) (pwt_and1 (pt_ge (pp_of (pv_of (pf_callG (ok_total T) hG (hr.mono (by decide)) (by rfl) T.g_total T.f_total.kp T.b_total (pps_cons' (pp_name 0) (pps_cons' (pp_of (pv_sub (pp_name 4) (pp_of pv_int))) pps_nil')) (ms := [.b, .v]) rfl))) (pp_name 2))))) (pwt_or1 (pt_le (pp_of (pv_of (pf_callG (ok_total T) hG (hr.mono (by decide)) (by rfl) T.g_total T.f_total.kp T.b_total (pps_cons' (pp_name 0) (pps_cons' (pp_of (pv_of (pf_add (pp_name 5) (pp_of pv_int)))) pps_nil')) (ms := [.b, .v]) rfl))) (pp_name 2))))) (psts_one (pst_ret (pf_of (pp_of pv_bl)))) psts_nil)
      (psts_one (pst_ret (pf_of (pp_of (pv_and (pv_eq hr.units (pp_of (pv_of (pf_callG (ok_companies_between T) hG (hr.mono (by decide)) (by rfl) T.g_companies_between T.f_companies_between.kp T.b_companies_between (pps_cons' (pp_name 0) (pps_cons' (pp_of (pv_of (pf_of (pp_name 2)))) (pps_cons' (pp_of (pv_of (pf_of (pp_name 2)))) pps_nil'))) (ms := [.b, .v, .v]) rfl))) (pp_of (pv_tup (pvs_cons (pv_of (pf_of (pp_name 4))) (pvs_cons (pv_of (pf_of (pp_name 5))) pvs_nil))))) (pv_one (pv_eq hr.units (pp_of (pv_ix (pp_of (pv_of (pf_callG (ok_wishes T) hG (hr.mono (by decide)) (by rfl) T.g_wishes T.f_wishes.kp T.b_wishes (pps_cons' (pp_name 0) (pps_cons' (pp_of (pv_of (pf_of (pp_name 2)))) pps_nil')) (ms := [.b, .v]) rfl))) (pp_of (pv_neg pv_int)))) (pp_name 4)))))))))))))
theorem ok_l_behind (T : Tx K mg a_levelled d_levelled a_added_up d_added_up a_stretch_to d_stretch_to a_wish_behind d_wish_behind a_handed_on d_handed_on a_companies_within d_companies_within a_said_of_company d_said_of_company a_changes_by d_changes_by a_is_number d_is_number a_is_row d_is_row a_is_saying d_is_saying a_need_number d_need_number a_need_row d_need_row a_need_place d_need_place a_what_comes d_what_comes a_total d_total a_wishes d_wishes a_companies d_companies a_companies_between d_companies_between a_least_from d_least_from a_is_table d_is_table a_is_rows d_is_rows a_need_rows_table d_need_rows_table a_table_of d_table_of a_plain_copies d_plain_copies a_is_mark d_is_mark a_is_shelf d_is_shelf a_need_shelf d_need_shelf a_need_book d_need_book a_find_book d_find_book a_count_to d_count_to a_book d_book a_books_to d_books_to a_shelf_by d_shelf_by a_shelf_of d_shelf_of a_l_jar d_l_jar a_l_pour d_l_pour a_l_number d_l_number a_l_saying d_l_saying a_l_row d_l_row a_l_some_twice d_l_some_twice a_l_spots d_l_spots a_l_undone d_l_undone a_l_behind d_l_behind a_l_shelf_right d_l_shelf_right a_law d_law) : FnG P w K mg base 4 a_l_behind d_l_behind ["_law_front", "_law_back", "_law_wish"] (spD K 3 1 m_l_behind) :=
  fnG_pl T.f_l_behind sc_l_behind rfl rfl fun cdv A outer s H E hG hr => have sc := sc_l_behind; (psts_cons (pst_set (i := 3) sc.nd (pf_callG (ok_wishes T) hG (hr.mono (by decide)) (by rfl) T.g_wishes T.f_wishes.kp T.b_wishes (pps_cons' (pp_name 0) (pps_cons' (pp_of (pv_of (pf_of (pp_name 2)))) pps_nil')) (ms := [.b, .v]) rfl))
      (psts_one (pst_ret (pf_of (pp_of (pv_eq hr.units (pp_of (pv_of (pf_callG (ok_wishes T) hG (hr.mono (by decide)) (by rfl) T.g_wishes T.f_wishes.kp T.b_wishes (pps_cons' (pp_of (pv_of (pf_add (pp_name 0) (pp_name 1)))) (pps_cons' (pp_of (pv_of (pf_of (pp_name 2)))) pps_nil')) (ms := [.b, .v]) rfl))) (pp_of (pv_of (pf_add (pp_name 3) (pp_slice (pp_of (pv_of (pf_callG (ok_wishes T) hG (hr.mono (by decide)) (by rfl) T.g_wishes T.f_wishes.kp T.b_wishes (pps_cons' (pp_name 1) (pps_cons' (pp_of (pv_ix (pp_name 3) (pp_of (pv_neg pv_int)))) pps_nil')) (ms := [.b, .v]) rfl))) (pot_some pv_int) pot_none))))))))))
theorem ok_l_shelf_right (T : Tx K mg a_levelled d_levelled a_added_up d_added_up a_stretch_to d_stretch_to a_wish_behind d_wish_behind a_handed_on d_handed_on a_companies_within d_companies_within a_said_of_company d_said_of_company a_changes_by d_changes_by a_is_number d_is_number a_is_row d_is_row a_is_saying d_is_saying a_need_number d_need_number a_need_row d_need_row a_need_place d_need_place a_what_comes d_what_comes a_total d_total a_wishes d_wishes a_companies d_companies a_companies_between d_companies_between a_least_from d_least_from a_is_table d_is_table a_is_rows d_is_rows a_need_rows_table d_need_rows_table a_table_of d_table_of a_plain_copies d_plain_copies a_is_mark d_is_mark a_is_shelf d_is_shelf a_need_shelf d_need_shelf a_need_book d_need_book a_find_book d_find_book a_count_to d_count_to a_book d_book a_books_to d_books_to a_shelf_by d_shelf_by a_shelf_of d_shelf_of a_l_jar d_l_jar a_l_pour d_l_pour a_l_number d_l_number a_l_saying d_l_saying a_l_row d_l_row a_l_some_twice d_l_some_twice a_l_spots d_l_spots a_l_undone d_l_undone a_l_behind d_l_behind a_l_shelf_right d_l_shelf_right a_law d_law) : FnG P w K mg base 6 a_l_shelf_right d_l_shelf_right ["_law_front", "_law_back", "_law_wish"] (spD K 3 2 m_l_shelf_right) :=
  fnG_pl T.f_l_shelf_right sc_l_shelf_right rfl rfl fun cdv A outer s H E hG hr => have sc := sc_l_shelf_right; (psts_cons (pst_set (i := 3) sc.nd (pf_callG (ok_shelf_of T) hG (hr.mono (by decide)) (by rfl) T.g_shelf_of T.f_shelf_of.kp T.b_shelf_of (pps_cons' (pp_of (pv_of (pf_add (pp_name 0) (pp_name 1)))) pps_nil') (ms := [.b]) rfl))
      (psts_cons (pst_set (i := 4) sc.nd (pf_of (pp_of (pv_ix (pp_of (pv_of (pf_callG (ok_wishes T) hG (hr.mono (by decide)) (by rfl) T.g_wishes T.f_wishes.kp T.b_wishes (pps_cons' (pp_name 0) (pps_cons' (pp_of (pv_of (pf_of (pp_name 2)))) pps_nil')) (ms := [.b, .v]) rfl))) (pp_of (pv_neg pv_int))))))
      (psts_one (pst_ret (pf_of (pp_of (pv_and (pv_eq hr.units (pp_of (pv_of (pf_callG (ok_book T) hG (hr.mono (by decide)) (by rfl) T.g_book T.f_book.kp T.b_book (pps_cons' (pp_name 3) (pps_cons' (pp_name 2) pps_nil')) (ms := [.b, .b]) rfl))) (pp_of (pv_of (pf_callG (ok_book T) hG (hr.mono (by decide)) (by rfl) T.g_book T.f_book.kp T.b_book (pps_cons' (pp_of (pv_of (pf_callG (ok_shelf_of T) hG (hr.mono (by decide)) (by rfl) T.g_shelf_of T.f_shelf_of.kp T.b_shelf_of (pps_cons' (pp_name 1) pps_nil') (ms := [.b]) rfl))) (pps_cons' (pp_name 4) pps_nil')) (ms := [.b, .b]) rfl)))) (pv_and (pv_le (pp_name 4) (pp_name 2)) (pv_one (pv_ge (pp_of (pv_of (pf_callG (ok_books_to T) hG (hr.mono (by decide)) (by rfl) T.g_books_to T.f_books_to.kp T.b_books_to (pps_cons' (pp_name 3) (pps_cons' (pp_name 2) pps_nil')) (ms := [.b, .b]) rfl))) (pp_name 2)))))))))))
theorem ok_law (T : Tx K mg a_levelled d_levelled a_added_up d_added_up a_stretch_to d_stretch_to a_wish_behind d_wish_behind a_handed_on d_handed_on a_companies_within d_companies_within a_said_of_company d_said_of_company a_changes_by d_changes_by a_is_number d_is_number a_is_row d_is_row a_is_saying d_is_saying a_need_number d_need_number a_need_row d_need_row a_need_place d_need_place a_what_comes d_what_comes a_total d_total a_wishes d_wishes a_companies d_companies a_companies_between d_companies_between a_least_from d_least_from a_is_table d_is_table a_is_rows d_is_rows a_need_rows_table d_need_rows_table a_table_of d_table_of a_plain_copies d_plain_copies a_is_mark d_is_mark a_is_shelf d_is_shelf a_need_shelf d_need_shelf a_need_book d_need_book a_find_book d_find_book a_count_to d_count_to a_book d_book a_books_to d_books_to a_shelf_by d_shelf_by a_shelf_of d_shelf_of a_l_jar d_l_jar a_l_pour d_l_pour a_l_number d_l_number a_l_saying d_l_saying a_l_row d_l_row a_l_some_twice d_l_some_twice a_l_spots d_l_spots a_l_undone d_l_undone a_l_behind d_l_behind a_l_shelf_right d_l_shelf_right a_law d_law) : FnG P w K mg base 7 a_law d_law ["_law_script"] (spD K 1 9 m_law) :=
  fnG_pl T.f_law sc_law rfl rfl fun cdv A outer s H E hG hr => have sc := sc_law; (psts_cons (pst_for PassesOwn.never rfl (pit_rng1 (by rfl) T.n_range (pv_max2 rfl (by rfl) T.n_max (pps_cons' (pp_of pv_int) (pps_cons' (pp_of (pv_min2 rfl (by rfl) T.n_min (pps_cons' (pp_of pv_int) (pps_cons' (pp_of (pv_lenS 0 (by rfl) T.n_len)) pps_nil')))) pps_nil')))) (pgt_name (i := 1) sc.nd) (psts_cons (pst_set (i := 2) sc.nd (pf_callG (ok_l_jar T) hG (hr.mono (by decide)) (by rfl) T.g_l_jar T.f_l_jar.kp T.b_l_jar (pps_cons' (pp_name 0) (pps_cons' (pp_name 1) pps_nil')) (ms := [.s, .b]) rfl))
      (psts_cons (pst_set (i := 3) sc.nd (pf_of (pp_of (pv_ix (pp_of (pv_of (pf_lst (pvs_cons pv_int (pvs_cons pv_int (pvs_cons (pv_of (pf_mul (pp_of pv_int) (pp_of (pv_pow (pp_of pv_int) (pp_of pv_int))))) pvs_nil)))))) (pp_of (pv_of (pf_callG (ok_l_pour T) hG (hr.mono (by decide)) (by rfl) T.g_l_pour T.f_l_pour.kp T.b_l_pour (pps_cons' (pp_name 2) (pps_cons' (pp_of pv_int) pps_nil')) (ms := [.io, .b]) rfl)))))))
      (psts_cons (pst_set (i := 4) sc.nd (pf_of (pp_of (pv_ix (pp_of (pv_of (pf_lst (pvs_cons pv_int (pvs_cons pv_int (pvs_cons pv_int (pvs_cons pv_int pvs_nil))))))) (pp_of (pv_of (pf_callG (ok_l_pour T) hG (hr.mono (by decide)) (by rfl) T.g_l_pour T.f_l_pour.kp T.b_l_pour (pps_cons' (pp_name 2) (pps_cons' (pp_of pv_int) pps_nil')) (ms := [.io, .b]) rfl)))))))
      (psts_cons (pst_setLc (own := [("_law_turn", 8)]) (i := 5) rfl sc.nd rfl rfl (sw_true rfl rfl rfl (by decide +kernel)) (pit_rng1 (by rfl) T.n_range pv_int) (blkOk_by (own := [("_law_turn", 8)]) (N := ["_law_script", "_law_k", "_law_jar_here", "_law_top", "_law_most", "_law_rows", "_law_both", "_law_company", "_law_turn", "_law_wish"]) (sc := defScope s_law) (by decide +kernel)) (fun _ _ _ _ _ => (pgt_name (i := 8) sc.nd)) (fun _ _ _ _ _ => (pv_of (pf_callG (ok_l_some_twice T) hG (hr.mono (by decide)) (by rfl) T.g_l_some_twice T.f_l_some_twice.kp T.b_l_some_twice (pps_cons' (pp_name 2) (pps_cons' (pp_of (pv_of (pf_callG (ok_l_row T) hG (hr.mono (by decide)) (by rfl) T.g_l_row T.f_l_row.kp T.b_l_row (pps_cons' (pp_name 2) (pps_cons' (pp_name 4) (pps_cons' (pp_name 3) pps_nil'))) (ms := [.io, .b, .b]) rfl))) pps_nil')) (ms := [.io, .b]) rfl))))
      (psts_cons (pst_set (i := 6) sc.nd (pf_add (pp_of (pv_ix (pp_name 5) (pp_of pv_int))) (pp_of (pv_ix (pp_name 5) (pp_of pv_int)))))
      (psts_cons (pst_for PassesOwn.never rfl (pit_seq (pp_of (pv_of (pf_callG (ok_l_spots T) hG (hr.mono (by decide)) (by rfl) T.g_l_spots T.f_l_spots.kp T.b_l_spots (pps_cons' (pp_name 2) (pps_cons' (pp_name 6) pps_nil')) (ms := [.io, .b]) rfl)))) (pgt_name (i := 7) sc.nd) (psts_one (pst_if (ptt_not (ptt_truth (pp_of (pv_of (pf_callG (ok_l_undone T) hG (hr.mono (by decide)) (by rfl) T.g_l_undone T.f_l_undone.kp T.b_l_undone (pps_cons' (pp_name 6) (pps_cons' (pp_of (pv_of (pf_of (pp_name 7)))) pps_nil')) (ms := [.b, .v]) rfl))))) (psts_one (pst_ret (pf_of (pp_of pv_bl)))) psts_nil)))
      (psts_one (pst_for PassesOwn.never rfl (pit_rng1 (by rfl) T.n_range pv_int) (pgt_name (i := 8) sc.nd) (psts_cons (pst_set (i := 9) sc.nd (pf_callG (ok_l_number T) hG (hr.mono (by decide)) (by rfl) T.g_l_number T.f_l_number.kp T.b_l_number (pps_cons' (pp_name 2) (pps_cons' (pp_of (pv_ix (pp_of (pv_of (pf_lst (pvs_cons pv_int (pvs_cons (pv_sub (pp_of (pv_pow (pp_of pv_int) (pp_of pv_int))) (pp_of pv_int)) pvs_nil))))) (pp_of (pv_of (pf_callG (ok_l_pour T) hG (hr.mono (by decide)) (by rfl) T.g_l_pour T.f_l_pour.kp T.b_l_pour (pps_cons' (pp_name 2) (pps_cons' (pp_of pv_int) pps_nil')) (ms := [.io, .b]) rfl))))) pps_nil')) (ms := [.io, .b]) rfl))
      (psts_cons (pst_if (pt_of (pwt_or (ptt_not (ptt_truth (pp_of (pv_of (pf_callG (ok_l_behind T) hG (hr.mono (by decide)) (by rfl) T.g_l_behind T.f_l_behind.kp T.b_l_behind (pps_cons' (pp_of (pv_ix (pp_name 5) (pp_of pv_int))) (pps_cons' (pp_of (pv_ix (pp_name 5) (pp_of pv_int))) (pps_cons' (pp_of (pv_of (pf_of (pp_name 9)))) pps_nil'))) (ms := [.b, .b, .v]) rfl))))) (pwt_or1 (ptt_not (ptt_truth (pp_of (pv_of (pf_callG (ok_l_shelf_right T) hG (hr.mono (by decide)) (by rfl) T.g_l_shelf_right T.f_l_shelf_right.kp T.b_l_shelf_right (pps_cons' (pp_of (pv_ix (pp_name 5) (pp_of pv_int))) (pps_cons' (pp_of (pv_ix (pp_name 5) (pp_of pv_int))) (pps_cons' (pp_of (pv_of (pf_of (pp_name 9)))) pps_nil'))) (ms := [.b, .b, .v]) rfl)))))))) (psts_one (pst_ret (pf_of (pp_of pv_bl)))) psts_nil)
      (psts_cons (pst_if (pt_gt (pp_of (pv_of (pf_callG (ok_least_from T) hG (hr.mono (by decide)) (by rfl) T.g_least_from T.f_least_from.kp T.b_least_from (pps_cons' (pp_name 6) (pps_cons' (pp_of pv_int) (pps_cons' (pp_of (pv_of (pf_of (pp_name 9)))) pps_nil'))) (ms := [.b, .b, .v]) rfl))) (pp_of (pv_of (pf_callG (ok_least_from T) hG (hr.mono (by decide)) (by rfl) T.g_least_from T.f_least_from.kp T.b_least_from (pps_cons' (pp_name 6) (pps_cons' (pp_of pv_int) (pps_cons' (pp_of (pv_of (pf_add (pp_name 9) (pp_of pv_int)))) pps_nil'))) (ms := [.b, .b, .v]) rfl)))) (psts_one (pst_ret (pf_of (pp_of pv_bl)))) psts_nil)
      (psts_one (pst_if (pt_ne hr.units (pp_of (pv_of (pf_callG (ok_least_from T) hG (hr.mono (by decide)) (by rfl) T.g_least_from T.f_least_from.kp T.b_least_from (pps_cons' (pp_name 6) (pps_cons' (pp_of (pv_len (by rfl) T.n_len (pps_cons' (pp_of (pv_ix (pp_name 5) (pp_of pv_int))) pps_nil'))) (pps_cons' (pp_of (pv_of (pf_of (pp_name 9)))) pps_nil'))) (ms := [.b, .b, .v]) rfl))) (pp_of (pv_ix (pp_of (pv_of (pf_callG (ok_wishes T) hG (hr.mono (by decide)) (by rfl) T.g_wishes T.f_wishes.kp T.b_wishes (pps_cons' (pp_of (pv_ix (pp_name 5) (pp_of pv_int))) (pps_cons' (pp_of (pv_of (pf_of (pp_name 9)))) pps_nil')) (ms := [.b, .v]) rfl))) (pp_of (pv_neg pv_int))))) (psts_one (pst_ret (pf_of (pp_of pv_bl)))) psts_nil))))))))))))))
      (psts_one (pst_ret (pf_of (pp_of pv_bl)))))
end
set_option maxHeartbeats 0 in
theorem all_mk {l : PySem.W.OpenLaw} {w : World} {K : PySem.W.Frag} {h : Heap} {mg : Str → Option Value} {fa a_levelled a_added_up a_stretch_to a_wish_behind a_handed_on a_companies_within a_said_of_company a_changes_by a_is_number a_is_row a_is_saying a_need_number a_need_row a_need_place a_what_comes a_total a_wishes a_companies a_companies_between a_least_from a_is_table a_is_rows a_need_rows_table a_table_of a_plain_copies a_is_mark a_is_shelf a_need_shelf a_need_book a_find_book a_count_to a_book a_books_to a_shelf_by a_shelf_of a_l_jar a_l_pour a_l_number a_l_saying a_l_row a_l_some_twice a_l_spots a_l_undone a_l_behind a_l_shelf_right a_law : Addr} (X : K.In h) (G : h.Ns mainGlobals mg) (hfa : mg "law" = some (.ref fa))
    {od_levelled an_levelled od_added_up an_added_up od_stretch_to an_stretch_to od_wish_behind an_wish_behind od_handed_on an_handed_on od_companies_within an_companies_within od_said_of_company an_said_of_company od_changes_by an_changes_by od_is_number an_is_number od_is_row an_is_row od_is_saying an_is_saying od_need_number an_need_number od_need_row an_need_row od_need_place an_need_place od_what_comes an_what_comes od_total an_total od_wishes an_wishes od_companies an_companies od_companies_between an_companies_between od_least_from an_least_from od_is_table an_is_table od_is_rows an_is_rows od_need_rows_table an_need_rows_table od_table_of an_table_of od_plain_copies an_plain_copies od_is_mark an_is_mark od_is_shelf an_is_shelf od_need_shelf an_need_shelf od_need_book an_need_book od_find_book an_find_book od_count_to an_count_to od_book an_book od_books_to an_books_to od_shelf_by an_shelf_by od_shelf_of an_shelf_of od_l_jar an_l_jar od_l_pour an_l_pour od_l_number an_l_number od_l_saying an_l_saying od_l_row an_l_row od_l_some_twice an_l_some_twice od_l_spots an_l_spots od_l_undone an_l_undone od_l_behind an_l_behind od_l_shelf_right an_l_shelf_right od_law an_law : Option Addr} {sl_levelled sl_added_up sl_stretch_to sl_wish_behind sl_handed_on sl_companies_within sl_said_of_company sl_changes_by sl_is_number sl_is_row sl_is_saying sl_need_number sl_need_row sl_need_place sl_what_comes sl_total sl_wishes sl_companies sl_companies_between sl_least_from sl_is_table sl_is_rows sl_need_rows_table sl_table_of sl_plain_copies sl_is_mark sl_is_shelf sl_need_shelf sl_need_book sl_find_book sl_count_to sl_book sl_books_to sl_shelf_by sl_shelf_of sl_l_jar sl_l_pour sl_l_number sl_l_saying sl_l_row sl_l_some_twice sl_l_spots sl_l_undone sl_l_behind sl_l_shelf_right sl_law : Array (Option Value)} {oc_levelled kV_levelled dc_levelled pm_levelled cd_levelled ct_levelled oc_added_up kV_added_up dc_added_up pm_added_up cd_added_up ct_added_up oc_stretch_to kV_stretch_to dc_stretch_to pm_stretch_to cd_stretch_to ct_stretch_to oc_wish_behind kV_wish_behind dc_wish_behind pm_wish_behind cd_wish_behind ct_wish_behind oc_handed_on kV_handed_on dc_handed_on pm_handed_on cd_handed_on ct_handed_on oc_companies_within kV_companies_within dc_companies_within pm_companies_within cd_companies_within ct_companies_within oc_said_of_company kV_said_of_company dc_said_of_company pm_said_of_company cd_said_of_company ct_said_of_company oc_changes_by kV_changes_by dc_changes_by pm_changes_by cd_changes_by ct_changes_by oc_is_number kV_is_number dc_is_number pm_is_number cd_is_number ct_is_number oc_is_row kV_is_row dc_is_row pm_is_row cd_is_row ct_is_row oc_is_saying kV_is_saying dc_is_saying pm_is_saying cd_is_saying ct_is_saying oc_need_number kV_need_number dc_need_number pm_need_number cd_need_number ct_need_number oc_need_row kV_need_row dc_need_row pm_need_row cd_need_row ct_need_row oc_need_place kV_need_place dc_need_place pm_need_place cd_need_place ct_need_place oc_what_comes kV_what_comes dc_what_comes pm_what_comes cd_what_comes ct_what_comes oc_total kV_total dc_total pm_total cd_total ct_total oc_wishes kV_wishes dc_wishes pm_wishes cd_wishes ct_wishes oc_companies kV_companies dc_companies pm_companies cd_companies ct_companies oc_companies_between kV_companies_between dc_companies_between pm_companies_between cd_companies_between ct_companies_between oc_least_from kV_least_from dc_least_from pm_least_from cd_least_from ct_least_from oc_is_table kV_is_table dc_is_table pm_is_table cd_is_table ct_is_table oc_is_rows kV_is_rows dc_is_rows pm_is_rows cd_is_rows ct_is_rows oc_need_rows_table kV_need_rows_table dc_need_rows_table pm_need_rows_table cd_need_rows_table ct_need_rows_table oc_table_of kV_table_of dc_table_of pm_table_of cd_table_of ct_table_of oc_plain_copies kV_plain_copies dc_plain_copies pm_plain_copies cd_plain_copies ct_plain_copies oc_is_mark kV_is_mark dc_is_mark pm_is_mark cd_is_mark ct_is_mark oc_is_shelf kV_is_shelf dc_is_shelf pm_is_shelf cd_is_shelf ct_is_shelf oc_need_shelf kV_need_shelf dc_need_shelf pm_need_shelf cd_need_shelf ct_need_shelf oc_need_book kV_need_book dc_need_book pm_need_book cd_need_book ct_need_book oc_find_book kV_find_book dc_find_book pm_find_book cd_find_book ct_find_book oc_count_to kV_count_to dc_count_to pm_count_to cd_count_to ct_count_to oc_book kV_book dc_book pm_book cd_book ct_book oc_books_to kV_books_to dc_books_to pm_books_to cd_books_to ct_books_to oc_shelf_by kV_shelf_by dc_shelf_by pm_shelf_by cd_shelf_by ct_shelf_by oc_shelf_of kV_shelf_of dc_shelf_of pm_shelf_of cd_shelf_of ct_shelf_of oc_l_jar kV_l_jar dc_l_jar pm_l_jar cd_l_jar ct_l_jar oc_l_pour kV_l_pour dc_l_pour pm_l_pour cd_l_pour ct_l_pour oc_l_number kV_l_number dc_l_number pm_l_number cd_l_number ct_l_number oc_l_saying kV_l_saying dc_l_saying pm_l_saying cd_l_saying ct_l_saying oc_l_row kV_l_row dc_l_row pm_l_row cd_l_row ct_l_row oc_l_some_twice kV_l_some_twice dc_l_some_twice pm_l_some_twice cd_l_some_twice ct_l_some_twice oc_l_spots kV_l_spots dc_l_spots pm_l_spots cd_l_spots ct_l_spots oc_l_undone kV_l_undone dc_l_undone pm_l_undone cd_l_undone ct_l_undone oc_l_behind kV_l_behind dc_l_behind pm_l_behind cd_l_behind ct_l_behind oc_l_shelf_right kV_l_shelf_right dc_l_shelf_right pm_l_shelf_right cd_l_shelf_right ct_l_shelf_right oc_law kV_law dc_law pm_law cd_law ct_law : Value}
    (alevelled : PySem.W.nsIn K mainGlobals "levelled" = some (some (.ref a_levelled))) (llevelled : K.lookup a_levelled = some ⟨oc_levelled, od_levelled, .func (PySem.W.fnOf "levelled" "levelled" (defArgs s_levelled) (defBody s_levelled) (defScope s_levelled) .none kV_levelled dc_levelled pm_levelled an_levelled cd_levelled ct_levelled), sl_levelled⟩) (clevelled : PySem.W.codeIn K cd_levelled "levelled" = true) (klevelled : PySem.W.keepIn K (.ref a_levelled) = true)
    (aadded_up : PySem.W.nsIn K mainGlobals "added_up" = some (some (.ref a_added_up))) (ladded_up : K.lookup a_added_up = some ⟨oc_added_up, od_added_up, .func (PySem.W.fnOf "added_up" "added_up" (defArgs s_added_up) (defBody s_added_up) (defScope s_added_up) .none kV_added_up dc_added_up pm_added_up an_added_up cd_added_up ct_added_up), sl_added_up⟩) (cadded_up : PySem.W.codeIn K cd_added_up "added_up" = true) (kadded_up : PySem.W.keepIn K (.ref a_added_up) = true)
    (astretch_to : PySem.W.nsIn K mainGlobals "stretch_to" = some (some (.ref a_stretch_to))) (lstretch_to : K.lookup a_stretch_to = some ⟨oc_stretch_to, od_stretch_to, .func (PySem.W.fnOf "stretch_to" "stretch_to" (defArgs s_stretch_to) (defBody s_stretch_to) (defScope s_stretch_to) .none kV_stretch_to dc_stretch_to pm_stretch_to an_stretch_to cd_stretch_to ct_stretch_to), sl_stretch_to⟩) (cstretch_to : PySem.W.codeIn K cd_stretch_to "stretch_to" = true) (kstretch_to : PySem.W.keepIn K (.ref a_stretch_to) = true)
    (awish_behind : PySem.W.nsIn K mainGlobals "wish_behind" = some (some (.ref a_wish_behind))) (lwish_behind : K.lookup a_wish_behind = some ⟨oc_wish_behind, od_wish_behind, .func (PySem.W.fnOf "wish_behind" "wish_behind" (defArgs s_wish_behind) (defBody s_wish_behind) (defScope s_wish_behind) .none kV_wish_behind dc_wish_behind pm_wish_behind an_wish_behind cd_wish_behind ct_wish_behind), sl_wish_behind⟩) (cwish_behind : PySem.W.codeIn K cd_wish_behind "wish_behind" = true) (kwish_behind : PySem.W.keepIn K (.ref a_wish_behind) = true)
    (ahanded_on : PySem.W.nsIn K mainGlobals "handed_on" = some (some (.ref a_handed_on))) (lhanded_on : K.lookup a_handed_on = some ⟨oc_handed_on, od_handed_on, .func (PySem.W.fnOf "handed_on" "handed_on" (defArgs s_handed_on) (defBody s_handed_on) (defScope s_handed_on) .none kV_handed_on dc_handed_on pm_handed_on an_handed_on cd_handed_on ct_handed_on), sl_handed_on⟩) (chanded_on : PySem.W.codeIn K cd_handed_on "handed_on" = true) (khanded_on : PySem.W.keepIn K (.ref a_handed_on) = true)
    (acompanies_within : PySem.W.nsIn K mainGlobals "companies_within" = some (some (.ref a_companies_within))) (lcompanies_within : K.lookup a_companies_within = some ⟨oc_companies_within, od_companies_within, .func (PySem.W.fnOf "companies_within" "companies_within" (defArgs s_companies_within) (defBody s_companies_within) (defScope s_companies_within) .none kV_companies_within dc_companies_within pm_companies_within an_companies_within cd_companies_within ct_companies_within), sl_companies_within⟩) (ccompanies_within : PySem.W.codeIn K cd_companies_within "companies_within" = true) (kcompanies_within : PySem.W.keepIn K (.ref a_companies_within) = true)
    (asaid_of_company : PySem.W.nsIn K mainGlobals "said_of_company" = some (some (.ref a_said_of_company))) (lsaid_of_company : K.lookup a_said_of_company = some ⟨oc_said_of_company, od_said_of_company, .func (PySem.W.fnOf "said_of_company" "said_of_company" (defArgs s_said_of_company) (defBody s_said_of_company) (defScope s_said_of_company) .none kV_said_of_company dc_said_of_company pm_said_of_company an_said_of_company cd_said_of_company ct_said_of_company), sl_said_of_company⟩) (csaid_of_company : PySem.W.codeIn K cd_said_of_company "said_of_company" = true) (ksaid_of_company : PySem.W.keepIn K (.ref a_said_of_company) = true)
    (achanges_by : PySem.W.nsIn K mainGlobals "changes_by" = some (some (.ref a_changes_by))) (lchanges_by : K.lookup a_changes_by = some ⟨oc_changes_by, od_changes_by, .func (PySem.W.fnOf "changes_by" "changes_by" (defArgs s_changes_by) (defBody s_changes_by) (defScope s_changes_by) .none kV_changes_by dc_changes_by pm_changes_by an_changes_by cd_changes_by ct_changes_by), sl_changes_by⟩) (cchanges_by : PySem.W.codeIn K cd_changes_by "changes_by" = true) (kchanges_by : PySem.W.keepIn K (.ref a_changes_by) = true)
    (ais_number : PySem.W.nsIn K mainGlobals "is_number" = some (some (.ref a_is_number))) (lis_number : K.lookup a_is_number = some ⟨oc_is_number, od_is_number, .func (PySem.W.fnOf "is_number" "is_number" (defArgs s_is_number) (defBody s_is_number) (defScope s_is_number) .none kV_is_number dc_is_number pm_is_number an_is_number cd_is_number ct_is_number), sl_is_number⟩) (cis_number : PySem.W.codeIn K cd_is_number "is_number" = true) (kis_number : PySem.W.keepIn K (.ref a_is_number) = true)
    (ais_row : PySem.W.nsIn K mainGlobals "is_row" = some (some (.ref a_is_row))) (lis_row : K.lookup a_is_row = some ⟨oc_is_row, od_is_row, .func (PySem.W.fnOf "is_row" "is_row" (defArgs s_is_row) (defBody s_is_row) (defScope s_is_row) .none kV_is_row dc_is_row pm_is_row an_is_row cd_is_row ct_is_row), sl_is_row⟩) (cis_row : PySem.W.codeIn K cd_is_row "is_row" = true) (kis_row : PySem.W.keepIn K (.ref a_is_row) = true)
    (ais_saying : PySem.W.nsIn K mainGlobals "is_saying" = some (some (.ref a_is_saying))) (lis_saying : K.lookup a_is_saying = some ⟨oc_is_saying, od_is_saying, .func (PySem.W.fnOf "is_saying" "is_saying" (defArgs s_is_saying) (defBody s_is_saying) (defScope s_is_saying) .none kV_is_saying dc_is_saying pm_is_saying an_is_saying cd_is_saying ct_is_saying), sl_is_saying⟩) (cis_saying : PySem.W.codeIn K cd_is_saying "is_saying" = true) (kis_saying : PySem.W.keepIn K (.ref a_is_saying) = true)
    (aneed_number : PySem.W.nsIn K mainGlobals "need_number" = some (some (.ref a_need_number))) (lneed_number : K.lookup a_need_number = some ⟨oc_need_number, od_need_number, .func (PySem.W.fnOf "need_number" "need_number" (defArgs s_need_number) (defBody s_need_number) (defScope s_need_number) .none kV_need_number dc_need_number pm_need_number an_need_number cd_need_number ct_need_number), sl_need_number⟩) (cneed_number : PySem.W.codeIn K cd_need_number "need_number" = true) (kneed_number : PySem.W.keepIn K (.ref a_need_number) = true)
    (aneed_row : PySem.W.nsIn K mainGlobals "need_row" = some (some (.ref a_need_row))) (lneed_row : K.lookup a_need_row = some ⟨oc_need_row, od_need_row, .func (PySem.W.fnOf "need_row" "need_row" (defArgs s_need_row) (defBody s_need_row) (defScope s_need_row) .none kV_need_row dc_need_row pm_need_row an_need_row cd_need_row ct_need_row), sl_need_row⟩) (cneed_row : PySem.W.codeIn K cd_need_row "need_row" = true) (kneed_row : PySem.W.keepIn K (.ref a_need_row) = true)
    (aneed_place : PySem.W.nsIn K mainGlobals "need_place" = some (some (.ref a_need_place))) (lneed_place : K.lookup a_need_place = some ⟨oc_need_place, od_need_place, .func (PySem.W.fnOf "need_place" "need_place" (defArgs s_need_place) (defBody s_need_place) (defScope s_need_place) .none kV_need_place dc_need_place pm_need_place an_need_place cd_need_place ct_need_place), sl_need_place⟩) (cneed_place : PySem.W.codeIn K cd_need_place "need_place" = true) (kneed_place : PySem.W.keepIn K (.ref a_need_place) = true)
    (awhat_comes : PySem.W.nsIn K mainGlobals "what_comes" = some (some (.ref a_what_comes))) (lwhat_comes : K.lookup a_what_comes = some ⟨oc_what_comes, od_what_comes, .func (PySem.W.fnOf "what_comes" "what_comes" (defArgs s_what_comes) (defBody s_what_comes) (defScope s_what_comes) .none kV_what_comes dc_what_comes pm_what_comes an_what_comes cd_what_comes ct_what_comes), sl_what_comes⟩) (cwhat_comes : PySem.W.codeIn K cd_what_comes "what_comes" = true) (kwhat_comes : PySem.W.keepIn K (.ref a_what_comes) = true)
    (atotal : PySem.W.nsIn K mainGlobals "total" = some (some (.ref a_total))) (ltotal : K.lookup a_total = some ⟨oc_total, od_total, .func (PySem.W.fnOf "total" "total" (defArgs s_total) (defBody s_total) (defScope s_total) .none kV_total dc_total pm_total an_total cd_total ct_total), sl_total⟩) (ctotal : PySem.W.codeIn K cd_total "total" = true) (ktotal : PySem.W.keepIn K (.ref a_total) = true)
    (awishes : PySem.W.nsIn K mainGlobals "wishes" = some (some (.ref a_wishes))) (lwishes : K.lookup a_wishes = some ⟨oc_wishes, od_wishes, .func (PySem.W.fnOf "wishes" "wishes" (defArgs s_wishes) (defBody s_wishes) (defScope s_wishes) .none kV_wishes dc_wishes pm_wishes an_wishes cd_wishes ct_wishes), sl_wishes⟩) (cwishes : PySem.W.codeIn K cd_wishes "wishes" = true) (kwishes : PySem.W.keepIn K (.ref a_wishes) = true)
    (acompanies : PySem.W.nsIn K mainGlobals "companies" = some (some (.ref a_companies))) (lcompanies : K.lookup a_companies = some ⟨oc_companies, od_companies, .func (PySem.W.fnOf "companies" "companies" (defArgs s_companies) (defBody s_companies) (defScope s_companies) .none kV_companies dc_companies pm_companies an_companies cd_companies ct_companies), sl_companies⟩) (ccompanies : PySem.W.codeIn K cd_companies "companies" = true) (kcompanies : PySem.W.keepIn K (.ref a_companies) = true)
    (acompanies_between : PySem.W.nsIn K mainGlobals "companies_between" = some (some (.ref a_companies_between))) (lcompanies_between : K.lookup a_companies_between = some ⟨oc_companies_between, od_companies_between, .func (PySem.W.fnOf "companies_between" "companies_between" (defArgs s_companies_between) (defBody s_companies_between) (defScope s_companies_between) .none kV_companies_between dc_companies_between pm_companies_between an_companies_between cd_companies_between ct_companies_between), sl_companies_between⟩) (ccompanies_between : PySem.W.codeIn K cd_companies_between "companies_between" = true) (kcompanies_between : PySem.W.keepIn K (.ref a_companies_between) = true)
    (aleast_from : PySem.W.nsIn K mainGlobals "least_from" = some (some (.ref a_least_from))) (lleast_from : K.lookup a_least_from = some ⟨oc_least_from, od_least_from, .func (PySem.W.fnOf "least_from" "least_from" (defArgs s_least_from) (defBody s_least_from) (defScope s_least_from) .none kV_least_from dc_least_from pm_least_from an_least_from cd_least_from ct_least_from), sl_least_from⟩) (cleast_from : PySem.W.codeIn K cd_least_from "least_from" = true) (kleast_from : PySem.W.keepIn K (.ref a_least_from) = true)
    (ais_table : PySem.W.nsIn K mainGlobals "is_table" = some (some (.ref a_is_table))) (lis_table : K.lookup a_is_table = some ⟨oc_is_table, od_is_table, .func (PySem.W.fnOf "is_table" "is_table" (defArgs s_is_table) (defBody s_is_table) (defScope s_is_table) .none kV_is_table dc_is_table pm_is_table an_is_table cd_is_table ct_is_table), sl_is_table⟩) (cis_table : PySem.W.codeIn K cd_is_table "is_table" = true) (kis_table : PySem.W.keepIn K (.ref a_is_table) = true)
    (ais_rows : PySem.W.nsIn K mainGlobals "is_rows" = some (some (.ref a_is_rows))) (lis_rows : K.lookup a_is_rows = some ⟨oc_is_rows, od_is_rows, .func (PySem.W.fnOf "is_rows" "is_rows" (defArgs s_is_rows) (defBody s_is_rows) (defScope s_is_rows) .none kV_is_rows dc_is_rows pm_is_rows an_is_rows cd_is_rows ct_is_rows), sl_is_rows⟩) (cis_rows : PySem.W.codeIn K cd_is_rows "is_rows" = true) (kis_rows : PySem.W.keepIn K (.ref a_is_rows) = true)
    (aneed_rows_table : PySem.W.nsIn K mainGlobals "need_rows_table" = some (some (.ref a_need_rows_table))) (lneed_rows_table : K.lookup a_need_rows_table = some ⟨oc_need_rows_table, od_need_rows_table, .func (PySem.W.fnOf "need_rows_table" "need_rows_table" (defArgs s_need_rows_table) (defBody s_need_rows_table) (defScope s_need_rows_table) .none kV_need_rows_table dc_need_rows_table pm_need_rows_table an_need_rows_table cd_need_rows_table ct_need_rows_table), sl_need_rows_table⟩) (cneed_rows_table : PySem.W.codeIn K cd_need_rows_table "need_rows_table" = true) (kneed_rows_table : PySem.W.keepIn K (.ref a_need_rows_table) = true)
    (atable_of : PySem.W.nsIn K mainGlobals "table_of" = some (some (.ref a_table_of))) (ltable_of : K.lookup a_table_of = some ⟨oc_table_of, od_table_of, .func (PySem.W.fnOf "table_of" "table_of" (defArgs s_table_of) (defBody s_table_of) (defScope s_table_of) .none kV_table_of dc_table_of pm_table_of an_table_of cd_table_of ct_table_of), sl_table_of⟩) (ctable_of : PySem.W.codeIn K cd_table_of "table_of" = true) (ktable_of : PySem.W.keepIn K (.ref a_table_of) = true)
    (aplain_copies : PySem.W.nsIn K mainGlobals "plain_copies" = some (some (.ref a_plain_copies))) (lplain_copies : K.lookup a_plain_copies = some ⟨oc_plain_copies, od_plain_copies, .func (PySem.W.fnOf "plain_copies" "plain_copies" (defArgs s_plain_copies) (defBody s_plain_copies) (defScope s_plain_copies) .none kV_plain_copies dc_plain_copies pm_plain_copies an_plain_copies cd_plain_copies ct_plain_copies), sl_plain_copies⟩) (cplain_copies : PySem.W.codeIn K cd_plain_copies "plain_copies" = true) (kplain_copies : PySem.W.keepIn K (.ref a_plain_copies) = true)
    (ais_mark : PySem.W.nsIn K mainGlobals "is_mark" = some (some (.ref a_is_mark))) (lis_mark : K.lookup a_is_mark = some ⟨oc_is_mark, od_is_mark, .func (PySem.W.fnOf "is_mark" "is_mark" (defArgs s_is_mark) (defBody s_is_mark) (defScope s_is_mark) .none kV_is_mark dc_is_mark pm_is_mark an_is_mark cd_is_mark ct_is_mark), sl_is_mark⟩) (cis_mark : PySem.W.codeIn K cd_is_mark "is_mark" = true) (kis_mark : PySem.W.keepIn K (.ref a_is_mark) = true)
    (ais_shelf : PySem.W.nsIn K mainGlobals "is_shelf" = some (some (.ref a_is_shelf))) (lis_shelf : K.lookup a_is_shelf = some ⟨oc_is_shelf, od_is_shelf, .func (PySem.W.fnOf "is_shelf" "is_shelf" (defArgs s_is_shelf) (defBody s_is_shelf) (defScope s_is_shelf) .none kV_is_shelf dc_is_shelf pm_is_shelf an_is_shelf cd_is_shelf ct_is_shelf), sl_is_shelf⟩) (cis_shelf : PySem.W.codeIn K cd_is_shelf "is_shelf" = true) (kis_shelf : PySem.W.keepIn K (.ref a_is_shelf) = true)
    (aneed_shelf : PySem.W.nsIn K mainGlobals "need_shelf" = some (some (.ref a_need_shelf))) (lneed_shelf : K.lookup a_need_shelf = some ⟨oc_need_shelf, od_need_shelf, .func (PySem.W.fnOf "need_shelf" "need_shelf" (defArgs s_need_shelf) (defBody s_need_shelf) (defScope s_need_shelf) .none kV_need_shelf dc_need_shelf pm_need_shelf an_need_shelf cd_need_shelf ct_need_shelf), sl_need_shelf⟩) (cneed_shelf : PySem.W.codeIn K cd_need_shelf "need_shelf" = true) (kneed_shelf : PySem.W.keepIn K (.ref a_need_shelf) = true)
    (aneed_book : PySem.W.nsIn K mainGlobals "need_book" = some (some (.ref a_need_book))) (lneed_book : K.lookup a_need_book = some ⟨oc_need_book, od_need_book, .func (PySem.W.fnOf "need_book" "need_book" (defArgs s_need_book) (defBody s_need_book) (defScope s_need_book) .none kV_need_book dc_need_book pm_need_book an_need_book cd_need_book ct_need_book), sl_need_book⟩) (cneed_book : PySem.W.codeIn K cd_need_book "need_book" = true) (kneed_book : PySem.W.keepIn K (.ref a_need_book) = true)
    (afind_book : PySem.W.nsIn K mainGlobals "find_book" = some (some (.ref a_find_book))) (lfind_book : K.lookup a_find_book = some ⟨oc_find_book, od_find_book, .func (PySem.W.fnOf "find_book" "find_book" (defArgs s_find_book) (defBody s_find_book) (defScope s_find_book) .none kV_find_book dc_find_book pm_find_book an_find_book cd_find_book ct_find_book), sl_find_book⟩) (cfind_book : PySem.W.codeIn K cd_find_book "find_book" = true) (kfind_book : PySem.W.keepIn K (.ref a_find_book) = true)
    (acount_to : PySem.W.nsIn K mainGlobals "count_to" = some (some (.ref a_count_to))) (lcount_to : K.lookup a_count_to = some ⟨oc_count_to, od_count_to, .func (PySem.W.fnOf "count_to" "count_to" (defArgs s_count_to) (defBody s_count_to) (defScope s_count_to) .none kV_count_to dc_count_to pm_count_to an_count_to cd_count_to ct_count_to), sl_count_to⟩) (ccount_to : PySem.W.codeIn K cd_count_to "count_to" = true) (kcount_to : PySem.W.keepIn K (.ref a_count_to) = true)
    (abook : PySem.W.nsIn K mainGlobals "book" = some (some (.ref a_book))) (lbook : K.lookup a_book = some ⟨oc_book, od_book, .func (PySem.W.fnOf "book" "book" (defArgs s_book) (defBody s_book) (defScope s_book) .none kV_book dc_book pm_book an_book cd_book ct_book), sl_book⟩) (cbook : PySem.W.codeIn K cd_book "book" = true) (kbook : PySem.W.keepIn K (.ref a_book) = true)
    (abooks_to : PySem.W.nsIn K mainGlobals "books_to" = some (some (.ref a_books_to))) (lbooks_to : K.lookup a_books_to = some ⟨oc_books_to, od_books_to, .func (PySem.W.fnOf "books_to" "books_to" (defArgs s_books_to) (defBody s_books_to) (defScope s_books_to) .none kV_books_to dc_books_to pm_books_to an_books_to cd_books_to ct_books_to), sl_books_to⟩) (cbooks_to : PySem.W.codeIn K cd_books_to "books_to" = true) (kbooks_to : PySem.W.keepIn K (.ref a_books_to) = true)
    (ashelf_by : PySem.W.nsIn K mainGlobals "shelf_by" = some (some (.ref a_shelf_by))) (lshelf_by : K.lookup a_shelf_by = some ⟨oc_shelf_by, od_shelf_by, .func (PySem.W.fnOf "shelf_by" "shelf_by" (defArgs s_shelf_by) (defBody s_shelf_by) (defScope s_shelf_by) .none kV_shelf_by dc_shelf_by pm_shelf_by an_shelf_by cd_shelf_by ct_shelf_by), sl_shelf_by⟩) (cshelf_by : PySem.W.codeIn K cd_shelf_by "shelf_by" = true) (kshelf_by : PySem.W.keepIn K (.ref a_shelf_by) = true)
    (ashelf_of : PySem.W.nsIn K mainGlobals "shelf_of" = some (some (.ref a_shelf_of))) (lshelf_of : K.lookup a_shelf_of = some ⟨oc_shelf_of, od_shelf_of, .func (PySem.W.fnOf "shelf_of" "shelf_of" (defArgs s_shelf_of) (defBody s_shelf_of) (defScope s_shelf_of) .none kV_shelf_of dc_shelf_of pm_shelf_of an_shelf_of cd_shelf_of ct_shelf_of), sl_shelf_of⟩) (cshelf_of : PySem.W.codeIn K cd_shelf_of "shelf_of" = true) (kshelf_of : PySem.W.keepIn K (.ref a_shelf_of) = true)
    (al_jar : PySem.W.nsIn K mainGlobals "_law_jar" = some (some (.ref a_l_jar))) (ll_jar : K.lookup a_l_jar = some ⟨oc_l_jar, od_l_jar, .func (PySem.W.fnOf "_law_jar" "_law_jar" (defArgs s_l_jar) (defBody s_l_jar) (defScope s_l_jar) .none kV_l_jar dc_l_jar pm_l_jar an_l_jar cd_l_jar ct_l_jar), sl_l_jar⟩) (cl_jar : PySem.W.codeIn K cd_l_jar "_law_jar" = true) (kl_jar : PySem.W.keepIn K (.ref a_l_jar) = true)
    (al_pour : PySem.W.nsIn K mainGlobals "_law_pour" = some (some (.ref a_l_pour))) (ll_pour : K.lookup a_l_pour = some ⟨oc_l_pour, od_l_pour, .func (PySem.W.fnOf "_law_pour" "_law_pour" (defArgs s_l_pour) (defBody s_l_pour) (defScope s_l_pour) .none kV_l_pour dc_l_pour pm_l_pour an_l_pour cd_l_pour ct_l_pour), sl_l_pour⟩) (cl_pour : PySem.W.codeIn K cd_l_pour "_law_pour" = true) (kl_pour : PySem.W.keepIn K (.ref a_l_pour) = true)
    (al_number : PySem.W.nsIn K mainGlobals "_law_number" = some (some (.ref a_l_number))) (ll_number : K.lookup a_l_number = some ⟨oc_l_number, od_l_number, .func (PySem.W.fnOf "_law_number" "_law_number" (defArgs s_l_number) (defBody s_l_number) (defScope s_l_number) .none kV_l_number dc_l_number pm_l_number an_l_number cd_l_number ct_l_number), sl_l_number⟩) (cl_number : PySem.W.codeIn K cd_l_number "_law_number" = true) (kl_number : PySem.W.keepIn K (.ref a_l_number) = true)
    (al_saying : PySem.W.nsIn K mainGlobals "_law_saying" = some (some (.ref a_l_saying))) (ll_saying : K.lookup a_l_saying = some ⟨oc_l_saying, od_l_saying, .func (PySem.W.fnOf "_law_saying" "_law_saying" (defArgs s_l_saying) (defBody s_l_saying) (defScope s_l_saying) .none kV_l_saying dc_l_saying pm_l_saying an_l_saying cd_l_saying ct_l_saying), sl_l_saying⟩) (cl_saying : PySem.W.codeIn K cd_l_saying "_law_saying" = true) (kl_saying : PySem.W.keepIn K (.ref a_l_saying) = true)
    (al_row : PySem.W.nsIn K mainGlobals "_law_row" = some (some (.ref a_l_row))) (ll_row : K.lookup a_l_row = some ⟨oc_l_row, od_l_row, .func (PySem.W.fnOf "_law_row" "_law_row" (defArgs s_l_row) (defBody s_l_row) (defScope s_l_row) .none kV_l_row dc_l_row pm_l_row an_l_row cd_l_row ct_l_row), sl_l_row⟩) (cl_row : PySem.W.codeIn K cd_l_row "_law_row" = true) (kl_row : PySem.W.keepIn K (.ref a_l_row) = true)
    (al_some_twice : PySem.W.nsIn K mainGlobals "_law_some_twice" = some (some (.ref a_l_some_twice))) (ll_some_twice : K.lookup a_l_some_twice = some ⟨oc_l_some_twice, od_l_some_twice, .func (PySem.W.fnOf "_law_some_twice" "_law_some_twice" (defArgs s_l_some_twice) (defBody s_l_some_twice) (defScope s_l_some_twice) .none kV_l_some_twice dc_l_some_twice pm_l_some_twice an_l_some_twice cd_l_some_twice ct_l_some_twice), sl_l_some_twice⟩) (cl_some_twice : PySem.W.codeIn K cd_l_some_twice "_law_some_twice" = true) (kl_some_twice : PySem.W.keepIn K (.ref a_l_some_twice) = true)
    (al_spots : PySem.W.nsIn K mainGlobals "_law_spots" = some (some (.ref a_l_spots))) (ll_spots : K.lookup a_l_spots = some ⟨oc_l_spots, od_l_spots, .func (PySem.W.fnOf "_law_spots" "_law_spots" (defArgs s_l_spots) (defBody s_l_spots) (defScope s_l_spots) .none kV_l_spots dc_l_spots pm_l_spots an_l_spots cd_l_spots ct_l_spots), sl_l_spots⟩) (cl_spots : PySem.W.codeIn K cd_l_spots "_law_spots" = true) (kl_spots : PySem.W.keepIn K (.ref a_l_spots) = true)
    (al_undone : PySem.W.nsIn K mainGlobals "_law_undone" = some (some (.ref a_l_undone))) (ll_undone : K.lookup a_l_undone = some ⟨oc_l_undone, od_l_undone, .func (PySem.W.fnOf "_law_undone" "_law_undone" (defArgs s_l_undone) (defBody s_l_undone) (defScope s_l_undone) .none kV_l_undone dc_l_undone pm_l_undone an_l_undone cd_l_undone ct_l_undone), sl_l_undone⟩) (cl_undone : PySem.W.codeIn K cd_l_undone "_law_undone" = true) (kl_undone : PySem.W.keepIn K (.ref a_l_undone) = true)
    (al_behind : PySem.W.nsIn K mainGlobals "_law_behind" = some (some (.ref a_l_behind))) (ll_behind : K.lookup a_l_behind = some ⟨oc_l_behind, od_l_behind, .func (PySem.W.fnOf "_law_behind" "_law_behind" (defArgs s_l_behind) (defBody s_l_behind) (defScope s_l_behind) .none kV_l_behind dc_l_behind pm_l_behind an_l_behind cd_l_behind ct_l_behind), sl_l_behind⟩) (cl_behind : PySem.W.codeIn K cd_l_behind "_law_behind" = true) (kl_behind : PySem.W.keepIn K (.ref a_l_behind) = true)
    (al_shelf_right : PySem.W.nsIn K mainGlobals "_law_shelf_right" = some (some (.ref a_l_shelf_right))) (ll_shelf_right : K.lookup a_l_shelf_right = some ⟨oc_l_shelf_right, od_l_shelf_right, .func (PySem.W.fnOf "_law_shelf_right" "_law_shelf_right" (defArgs s_l_shelf_right) (defBody s_l_shelf_right) (defScope s_l_shelf_right) .none kV_l_shelf_right dc_l_shelf_right pm_l_shelf_right an_l_shelf_right cd_l_shelf_right ct_l_shelf_right), sl_l_shelf_right⟩) (cl_shelf_right : PySem.W.codeIn K cd_l_shelf_right "_law_shelf_right" = true) (kl_shelf_right : PySem.W.keepIn K (.ref a_l_shelf_right) = true)
    (alaw : PySem.W.nsIn K mainGlobals "law" = some (some (.ref a_law))) (llaw : K.lookup a_law = some ⟨oc_law, od_law, .func (PySem.W.fnOf "law" "law" (defArgs s_law) (defBody s_law) (defScope s_law) .none kV_law dc_law pm_law an_law cd_law ct_law), sl_law⟩) (claw : PySem.W.codeIn K cd_law "law" = true) (klaw : PySem.W.keepIn K (.ref a_law) = true)
    (zall : PySem.W.nsIn K mainGlobals "all" = some none)
    (zbool : PySem.W.nsIn K mainGlobals "bool" = some none)
    (zint : PySem.W.nsIn K mainGlobals "int" = some none)
    (zisinstance : PySem.W.nsIn K mainGlobals "isinstance" = some none)
    (zlen : PySem.W.nsIn K mainGlobals "len" = some none)
    (zlist : PySem.W.nsIn K mainGlobals "list" = some none)
    (zmax : PySem.W.nsIn K mainGlobals "max" = some none)
    (zmin : PySem.W.nsIn K mainGlobals "min" = some none)
    (zrange : PySem.W.nsIn K mainGlobals "range" = some none)
    (zreversed : PySem.W.nsIn K mainGlobals "reversed" = some none)
    (zsorted : PySem.W.nsIn K mainGlobals "sorted" = some none)
    (zsum : PySem.W.nsIn K mainGlobals "sum" = some none)
    (ztuple : PySem.W.nsIn K mainGlobals "tuple" = some none)
    (zzip : PySem.W.nsIn K mainGlobals "zip" = some none)
    : ∃ fd : FuncData, (∀ (s : Shared) (v : Value), BindsTo s fd ⟨[v], []⟩ [("_law_script", v)]) ∧ ∀ base : Heap, K.In base → base.Ns mainGlobals mg → FnG l.prog w K mg base 7 fa fd ["_law_script"] (spD K 1 9 m_law) := by
  have e := hfa.symm.trans (PySem.W.mg_of X G alaw)
  cases e
  have Flevelled := fun_mk (st := s_levelled) llevelled clevelled klevelled
  have blevelled := Flevelled.binds (ps := ["steps"]) fun _ _ _ _ _ _ us hl => match us, hl with | [_], _ => rfl
  have Fadded_up := fun_mk (st := s_added_up) ladded_up cadded_up kadded_up
  have badded_up := Fadded_up.binds (ps := ["changes"]) fun _ _ _ _ _ _ us hl => match us, hl with | [_], _ => rfl
  have Fstretch_to := fun_mk (st := s_stretch_to) lstretch_to cstretch_to kstretch_to
  have bstretch_to := Fstretch_to.binds (ps := ["first", "beyond"]) fun _ _ _ _ _ _ us hl => match us, hl with | [_, _], _ => rfl
  have Fwish_behind := fun_mk (st := s_wish_behind) lwish_behind cwish_behind kwish_behind
  have bwish_behind := Fwish_behind.binds (ps := ["people", "wish"]) fun _ _ _ _ _ _ us hl => match us, hl with | [_, _], _ => rfl
  have Fhanded_on := fun_mk (st := s_handed_on) lhanded_on chanded_on khanded_on
  have bhanded_on := Fhanded_on.binds (ps := ["saying", "wish"]) fun _ _ _ _ _ _ us hl => match us, hl with | [_, _], _ => rfl
  have Fcompanies_within := fun_mk (st := s_companies_within) lcompanies_within ccompanies_within kcompanies_within
  have bcompanies_within := Fcompanies_within.binds (ps := ["people", "saying"]) fun _ _ _ _ _ _ us hl => match us, hl with | [_, _], _ => rfl
  have Fsaid_of_company := fun_mk (st := s_said_of_company) lsaid_of_company csaid_of_company ksaid_of_company
  have bsaid_of_company := Fsaid_of_company.binds (ps := ["row"]) fun _ _ _ _ _ _ us hl => match us, hl with | [_], _ => rfl
  have Fchanges_by := fun_mk (st := s_changes_by) lchanges_by cchanges_by kchanges_by
  have bchanges_by := Fchanges_by.binds (ps := ["stretches"]) fun _ _ _ _ _ _ us hl => match us, hl with | [_], _ => rfl
  have Fis_number := fun_mk (st := s_is_number) lis_number cis_number kis_number
  have bis_number := Fis_number.binds (ps := ["thing"]) fun _ _ _ _ _ _ us hl => match us, hl with | [_], _ => rfl
  have Fis_row := fun_mk (st := s_is_row) lis_row cis_row kis_row
  have bis_row := Fis_row.binds (ps := ["thing"]) fun _ _ _ _ _ _ us hl => match us, hl with | [_], _ => rfl
  have Fis_saying := fun_mk (st := s_is_saying) lis_saying cis_saying kis_saying
  have bis_saying := Fis_saying.binds (ps := ["thing"]) fun _ _ _ _ _ _ us hl => match us, hl with | [_], _ => rfl
  have Fneed_number := fun_mk (st := s_need_number) lneed_number cneed_number kneed_number
  have bneed_number := Fneed_number.binds (ps := ["thing"]) fun _ _ _ _ _ _ us hl => match us, hl with | [_], _ => rfl
  have Fneed_row := fun_mk (st := s_need_row) lneed_row cneed_row kneed_row
  have bneed_row := Fneed_row.binds (ps := ["thing"]) fun _ _ _ _ _ _ us hl => match us, hl with | [_], _ => rfl
  have Fneed_place := fun_mk (st := s_need_place) lneed_place cneed_place kneed_place
  have bneed_place := Fneed_place.binds (ps := ["thing", "places"]) fun _ _ _ _ _ _ us hl => match us, hl with | [_, _], _ => rfl
  have Fwhat_comes := fun_mk (st := s_what_comes) lwhat_comes cwhat_comes kwhat_comes
  have bwhat_comes := Fwhat_comes.binds (ps := ["people", "company"]) fun _ _ _ _ _ _ us hl => match us, hl with | [_, _], _ => rfl
  have Ftotal := fun_mk (st := s_total) ltotal ctotal ktotal
  have btotal := Ftotal.binds (ps := ["row", "company"]) fun _ _ _ _ _ _ us hl => match us, hl with | [_, _], _ => rfl
  have Fwishes := fun_mk (st := s_wishes) lwishes cwishes kwishes
  have bwishes := Fwishes.binds (ps := ["row", "many"]) fun _ _ _ _ _ _ us hl => match us, hl with | [_, _], _ => rfl
  have Fcompanies := fun_mk (st := s_companies) lcompanies ccompanies kcompanies
  have bcompanies := Fcompanies.binds (ps := ["row", "total"]) fun _ _ _ _ _ _ us hl => match us, hl with | [_, _], _ => rfl
  have Fcompanies_between := fun_mk (st := s_companies_between) lcompanies_between ccompanies_between kcompanies_between
  have bcompanies_between := Fcompanies_between.binds (ps := ["row", "least", "most"]) fun _ _ _ _ _ _ us hl => match us, hl with | [_, _, _], _ => rfl
  have Fleast_from := fun_mk (st := s_least_from) lleast_from cleast_from kleast_from
  have bleast_from := Fleast_from.binds (ps := ["row", "place", "many"]) fun _ _ _ _ _ _ us hl => match us, hl with | [_, _, _], _ => rfl
  have Fis_table := fun_mk (st := s_is_table) lis_table cis_table kis_table
  have bis_table := Fis_table.binds (ps := ["thing"]) fun _ _ _ _ _ _ us hl => match us, hl with | [_], _ => rfl
  have Fis_rows := fun_mk (st := s_is_rows) lis_rows cis_rows kis_rows
  have bis_rows := Fis_rows.binds (ps := ["thing"]) fun _ _ _ _ _ _ us hl => match us, hl with | [_], _ => rfl
  have Fneed_rows_table := fun_mk (st := s_need_rows_table) lneed_rows_table cneed_rows_table kneed_rows_table
  have bneed_rows_table := Fneed_rows_table.binds (ps := ["thing"]) fun _ _ _ _ _ _ us hl => match us, hl with | [_], _ => rfl
  have Ftable_of := fun_mk (st := s_table_of) ltable_of ctable_of ktable_of
  have btable_of := Ftable_of.binds (ps := ["row"]) fun _ _ _ _ _ _ us hl => match us, hl with | [_], _ => rfl
  have Fplain_copies := fun_mk (st := s_plain_copies) lplain_copies cplain_copies kplain_copies
  have bplain_copies := Fplain_copies.binds (ps := ["number"]) fun _ _ _ _ _ _ us hl => match us, hl with | [_], _ => rfl
  have Fis_mark := fun_mk (st := s_is_mark) lis_mark cis_mark kis_mark
  have bis_mark := Fis_mark.binds (ps := ["thing"]) fun _ _ _ _ _ _ us hl => match us, hl with | [_], _ => rfl
  have Fis_shelf := fun_mk (st := s_is_shelf) lis_shelf cis_shelf kis_shelf
  have bis_shelf := Fis_shelf.binds (ps := ["thing"]) fun _ _ _ _ _ _ us hl => match us, hl with | [_], _ => rfl
  have Fneed_shelf := fun_mk (st := s_need_shelf) lneed_shelf cneed_shelf kneed_shelf
  have bneed_shelf := Fneed_shelf.binds (ps := ["thing"]) fun _ _ _ _ _ _ us hl => match us, hl with | [_], _ => rfl
  have Fneed_book := fun_mk (st := s_need_book) lneed_book cneed_book kneed_book
  have bneed_book := Fneed_book.binds (ps := ["thing", "least"]) fun _ _ _ _ _ _ us hl => match us, hl with | [_, _], _ => rfl
  have Ffind_book := fun_mk (st := s_find_book) lfind_book cfind_book kfind_book
  have bfind_book := Ffind_book.binds (ps := ["shelf", "m"]) fun _ _ _ _ _ _ us hl => match us, hl with | [_, _], _ => rfl
  have Fcount_to := fun_mk (st := s_count_to) lcount_to ccount_to kcount_to
  have bcount_to := Fcount_to.binds (ps := ["shelf", "number"]) fun _ _ _ _ _ _ us hl => match us, hl with | [_, _], _ => rfl
  have Fbook := fun_mk (st := s_book) lbook cbook kbook
  have bbook := Fbook.binds (ps := ["shelf", "m"]) fun _ _ _ _ _ _ us hl => match us, hl with | [_, _], _ => rfl
  have Fbooks_to := fun_mk (st := s_books_to) lbooks_to cbooks_to kbooks_to
  have bbooks_to := Fbooks_to.binds (ps := ["shelf", "number"]) fun _ _ _ _ _ _ us hl => match us, hl with | [_, _], _ => rfl
  have Fshelf_by := fun_mk (st := s_shelf_by) lshelf_by cshelf_by kshelf_by
  have bshelf_by := Fshelf_by.binds (ps := ["table"]) fun _ _ _ _ _ _ us hl => match us, hl with | [_], _ => rfl
  have Fshelf_of := fun_mk (st := s_shelf_of) lshelf_of cshelf_of kshelf_of
  have bshelf_of := Fshelf_of.binds (ps := ["row"]) fun _ _ _ _ _ _ us hl => match us, hl with | [_], _ => rfl
  have Fl_jar := fun_mk (st := s_l_jar) ll_jar cl_jar kl_jar
  have bl_jar := Fl_jar.binds (ps := ["_law_script", "_law_k"]) fun _ _ _ _ _ _ us hl => match us, hl with | [_, _], _ => rfl
  have Fl_pour := fun_mk (st := s_l_pour) ll_pour cl_pour kl_pour
  have bl_pour := Fl_pour.binds (ps := ["_law_jar_here", "_law_many"]) fun _ _ _ _ _ _ us hl => match us, hl with | [_, _], _ => rfl
  have Fl_number := fun_mk (st := s_l_number) ll_number cl_number kl_number
  have bl_number := Fl_number.binds (ps := ["_law_jar_here", "_law_top"]) fun _ _ _ _ _ _ us hl => match us, hl with | [_, _], _ => rfl
  have Fl_saying := fun_mk (st := s_l_saying) ll_saying cl_saying kl_saying
  have bl_saying := Fl_saying.binds (ps := ["_law_jar_here", "_law_top"]) fun _ _ _ _ _ _ us hl => match us, hl with | [_, _], _ => rfl
  have Fl_row := fun_mk (st := s_l_row) ll_row cl_row kl_row
  have bl_row := Fl_row.binds (ps := ["_law_jar_here", "_law_people", "_law_top"]) fun _ _ _ _ _ _ us hl => match us, hl with | [_, _, _], _ => rfl
  have Fl_some_twice := fun_mk (st := s_l_some_twice) ll_some_twice cl_some_twice kl_some_twice
  have bl_some_twice := Fl_some_twice.binds (ps := ["_law_jar_here", "_law_row_here"]) fun _ _ _ _ _ _ us hl => match us, hl with | [_, _], _ => rfl
  have Fl_spots := fun_mk (st := s_l_spots) ll_spots cl_spots kl_spots
  have bl_spots := Fl_spots.binds (ps := ["_law_jar_here", "_law_row_here"]) fun _ _ _ _ _ _ us hl => match us, hl with | [_, _], _ => rfl
  have Fl_undone := fun_mk (st := s_l_undone) ll_undone cl_undone kl_undone
  have bl_undone := Fl_undone.binds (ps := ["_law_row_here", "_law_company"]) fun _ _ _ _ _ _ us hl => match us, hl with | [_, _], _ => rfl
  have Fl_behind := fun_mk (st := s_l_behind) ll_behind cl_behind kl_behind
  have bl_behind := Fl_behind.binds (ps := ["_law_front", "_law_back", "_law_wish"]) fun _ _ _ _ _ _ us hl => match us, hl with | [_, _, _], _ => rfl
  have Fl_shelf_right := fun_mk (st := s_l_shelf_right) ll_shelf_right cl_shelf_right kl_shelf_right
  have bl_shelf_right := Fl_shelf_right.binds (ps := ["_law_front", "_law_back", "_law_wish"]) fun _ _ _ _ _ _ us hl => match us, hl with | [_, _, _], _ => rfl
  have Flaw := fun_mk (st := s_law) llaw claw klaw
  have blaw := Flaw.binds (ps := ["_law_script"]) fun _ _ _ _ _ _ us hl => match us, hl with | [_], _ => rfl
  have T : Tx K mg a_levelled _ a_added_up _ a_stretch_to _ a_wish_behind _ a_handed_on _ a_companies_within _ a_said_of_company _ a_changes_by _ a_is_number _ a_is_row _ a_is_saying _ a_need_number _ a_need_row _ a_need_place _ a_what_comes _ a_total _ a_wishes _ a_companies _ a_companies_between _ a_least_from _ a_is_table _ a_is_rows _ a_need_rows_table _ a_table_of _ a_plain_copies _ a_is_mark _ a_is_shelf _ a_need_shelf _ a_need_book _ a_find_book _ a_count_to _ a_book _ a_books_to _ a_shelf_by _ a_shelf_of _ a_l_jar _ a_l_pour _ a_l_number _ a_l_saying _ a_l_row _ a_l_some_twice _ a_l_spots _ a_l_undone _ a_l_behind _ a_l_shelf_right _ fa _ := ⟨PySem.W.mg_none_of X G zall, PySem.W.mg_none_of X G zbool, PySem.W.mg_none_of X G zint, PySem.W.mg_none_of X G zisinstance, PySem.W.mg_none_of X G zlen, PySem.W.mg_none_of X G zlist, PySem.W.mg_none_of X G zmax, PySem.W.mg_none_of X G zmin, PySem.W.mg_none_of X G zrange, PySem.W.mg_none_of X G zreversed, PySem.W.mg_none_of X G zsorted, PySem.W.mg_none_of X G zsum, PySem.W.mg_none_of X G ztuple, PySem.W.mg_none_of X G zzip, Flevelled, PySem.W.mg_of X G alevelled, blevelled, Fadded_up, PySem.W.mg_of X G aadded_up, badded_up, Fstretch_to, PySem.W.mg_of X G astretch_to, bstretch_to, Fwish_behind, PySem.W.mg_of X G awish_behind, bwish_behind, Fhanded_on, PySem.W.mg_of X G ahanded_on, bhanded_on, Fcompanies_within, PySem.W.mg_of X G acompanies_within, bcompanies_within, Fsaid_of_company, PySem.W.mg_of X G asaid_of_company, bsaid_of_company, Fchanges_by, PySem.W.mg_of X G achanges_by, bchanges_by, Fis_number, PySem.W.mg_of X G ais_number, bis_number, Fis_row, PySem.W.mg_of X G ais_row, bis_row, Fis_saying, PySem.W.mg_of X G ais_saying, bis_saying, Fneed_number, PySem.W.mg_of X G aneed_number, bneed_number, Fneed_row, PySem.W.mg_of X G aneed_row, bneed_row, Fneed_place, PySem.W.mg_of X G aneed_place, bneed_place, Fwhat_comes, PySem.W.mg_of X G awhat_comes, bwhat_comes, Ftotal, PySem.W.mg_of X G atotal, btotal, Fwishes, PySem.W.mg_of X G awishes, bwishes, Fcompanies, PySem.W.mg_of X G acompanies, bcompanies, Fcompanies_between, PySem.W.mg_of X G acompanies_between, bcompanies_between, Fleast_from, PySem.W.mg_of X G aleast_from, bleast_from, Fis_table, PySem.W.mg_of X G ais_table, bis_table, Fis_rows, PySem.W.mg_of X G ais_rows, bis_rows, Fneed_rows_table, PySem.W.mg_of X G aneed_rows_table, bneed_rows_table, Ftable_of, PySem.W.mg_of X G atable_of, btable_of, Fplain_copies, PySem.W.mg_of X G aplain_copies, bplain_copies, Fis_mark, PySem.W.mg_of X G ais_mark, bis_mark, Fis_shelf, PySem.W.mg_of X G ais_shelf, bis_shelf, Fneed_shelf, PySem.W.mg_of X G aneed_shelf, bneed_shelf, Fneed_book, PySem.W.mg_of X G aneed_book, bneed_book, Ffind_book, PySem.W.mg_of X G afind_book, bfind_book, Fcount_to, PySem.W.mg_of X G acount_to, bcount_to, Fbook, PySem.W.mg_of X G abook, bbook, Fbooks_to, PySem.W.mg_of X G abooks_to, bbooks_to, Fshelf_by, PySem.W.mg_of X G ashelf_by, bshelf_by, Fshelf_of, PySem.W.mg_of X G ashelf_of, bshelf_of, Fl_jar, PySem.W.mg_of X G al_jar, bl_jar, Fl_pour, PySem.W.mg_of X G al_pour, bl_pour, Fl_number, PySem.W.mg_of X G al_number, bl_number, Fl_saying, PySem.W.mg_of X G al_saying, bl_saying, Fl_row, PySem.W.mg_of X G al_row, bl_row, Fl_some_twice, PySem.W.mg_of X G al_some_twice, bl_some_twice, Fl_spots, PySem.W.mg_of X G al_spots, bl_spots, Fl_undone, PySem.W.mg_of X G al_undone, bl_undone, Fl_behind, PySem.W.mg_of X G al_behind, bl_behind, Fl_shelf_right, PySem.W.mg_of X G al_shelf_right, bl_shelf_right, Flaw, PySem.W.mg_of X G alaw, blaw⟩
  exact ⟨_, fun s v => .of_eq rfl, fun base _ _ => ok_law T⟩
end Y
namespace Y
open PySem PL L2
def p_levelled_b1 (x145 : D) (v116 : D) : Option (D) :=
  bind2 (tup2 x145) fun v146 v147 =>
  bind1 (
    bind1 (truD v116) fun b149 =>
    if b149 = true then
      bind1 (negP (.int 1)) fun v151 =>
      bind1 (gIx v116 v151) fun v153 =>
      bind1 (gIx v153 (.int 1)) fun v155 =>
      bind1 (gNe v155 v147) fun v157 =>
      bind1 (asBool v157) fun b159 =>
      some b159
    else
      some true) fun b161 =>
  if b161 = true then
    bind2 (mutP gAppend v116 [(.tuple [v146, v147])]) fun v164 v165 =>
    some v164
  else
    some v116
def p_levelled (d1 : D) : Option (D) :=
  bind2 (itemsD d1) fun q89 x90 =>
  bind1 (foldP (fun x s => p_levelled_b1 x s) x90 (.list [])) fun v168 =>
  some v168
def p_added_up_b1 (d174 : D) (x295 : D) (v274 : D) (v275 : D) : Option (D × D) :=
  bind1 (gGt x295 (.int 0)) fun v296 =>
  bind1 (asBool v296) fun b298 =>
  if b298 = true then
    bind1 (gIxA d174 x295) fun v301 =>
    bind1 (gAddI v274 v301) fun v303 =>
    bind2 (mutP gAppend v275 [(.tuple [x295, v303])]) fun v306 v307 =>
    some (v303, v306)
  else
    some (v274, v275)
def p_added_up (d174 : D) : Option (D) :=
  bind1 (isDct d174) fun u247 =>
  bind1 (get2D d174 (.int 0) (.int 0)) fun v249 =>
  bind1 (gSortedA [d174]) fun v253 =>
  bind2 (itemsD v253) fun q255 x256 =>
  bind2 (foldP (fun x s => p_added_up_b1 d174 x s.1 s.2) x256 (v249, (PyData.list [(.tuple [(.int 0), v249])]))) fun v310 v311 =>
  bind1 (p_levelled v311) fun v315 =>
  some v315
def p_stretch_to (d319 : D) (d320 : D) : Option (D) :=
  bind1 (gIs d320 (.none : D)) fun v336 =>
  bind1 (asBool v336) fun b338 =>
  if b338 = true then
    some (.tuple [d319, (.none : D)])
  else
    bind1 (gLe d320 d319) fun v342 =>
    bind1 (asBool v342) fun b344 =>
    if b344 = true then
      some (.none : D)
    else
      bind1 (gSub' d320 (.int 1)) fun v348 =>
      some (.tuple [d319, v348])
def p_wish_behind_b1 (x499 : D) (v469 : D) : Option (D) :=
  bind2 (tup2 x499) fun v500 v501 =>
  bind1 (
    bind1 (gLt v500 v469) fun v503 =>
    bind1 (asBool v503) fun b505 =>
    if b505 = true then
      bind1 (gIs v501 (.none : D)) fun v507 =>
      bind1 (asBool v507) fun b509 =>
      if b509 = true then
        some true
      else
        bind1 (addV v501 (.int 1)) fun v511 =>
        bind1 (gLe v469 v511) fun v513 =>
        bind1 (asBool v513) fun b515 =>
        some b515
    else
      some false) fun b517 =>
  if b517 = true then
    bind1 (gSub' v469 (.int 1)) fun v520 =>
    some v520
  else
    some v469
def p_wish_behind (d351 : D) (d352 : D) : Option (D) :=
  bind2 (itemsD d351) fun q441 x442 =>
  bind1 (foldP (fun x s => p_wish_behind_b1 x s) x442 d352) fun v523 =>
  some v523
def p_handed_on (d529 : D) (d530 : D) : Option (D) :=
  bind1 (p_wish_behind (.list [d529]) d530) fun v536 =>
  some v536
def p_companies_within (d541 : D) (d542 : D) : Option (D) :=
  bind2 (tup2 d542) fun v571 v572 =>
  bind1 (p_wish_behind d541 v571) fun v575 =>
  bind1 (gIs v572 (.none : D)) fun v580 =>
  bind1 (asBool v580) fun b582 =>
  if b582 = true then
    bind1 (p_stretch_to v575 (.none : D)) fun v585 =>
    some v585
  else
    bind1 (addV v572 (.int 1)) fun v589 =>
    bind1 (p_wish_behind d541 v589) fun v591 =>
    bind1 (p_stretch_to v575 v591) fun v595 =>
    some v595
def p_said_of_company_c1 (d599 : D) (x653 : D) : Option D :=
  bind1 (addV x653 (.int 1)) fun v654 =>
  bind1 (ixP v654) fun i656 =>
  bind2 (sliceW d599 (some i656) none) fun b658 v659 =>
  bind1 (gIx d599 x653) fun v661 =>
  bind1 (p_companies_within v659 v661) fun v663 =>
  some v663
def p_said_of_company (d599 : D) : Option (D) :=
  bind1 (gLen [d599]) fun v636 =>
  bind1 (rng1P v636) fun x638 =>
  bind1 (mapT (p_said_of_company_c1 d599) x638) fun x666 =>
  some (.list x666)
def p_changes_by_b1 (x846 : D) (v811 : D) : Option (D) :=
  bind2 (tup2 x846) fun v847 v848 =>
  bind1 (isDct v811) fun u850 =>
  bind1 (get2D v811 v847 (.int 0)) fun v852 =>
  bind1 (addV v852 (.int 1)) fun v854 =>
  bind1 (dputP v811 v847 v854) fun v856 =>
  bind1 (gNot v848 (.none : D)) fun v859 =>
  bind1 (asBool v859) fun b861 =>
  if b861 = true then
    bind1 (isDct v856) fun u864 =>
    bind1 (addV v848 (.int 1)) fun v866 =>
    bind1 (get2D v856 v866 (.int 0)) fun v868 =>
    bind1 (gSub' v868 (.int 1)) fun v870 =>
    bind1 (dputP v856 v866 v870) fun v872 =>
    some v872
  else
    some v856
def p_changes_by (d672 : D) : Option (D) :=
  bind2 (itemsD d672) fun q778 x779 =>
  bind1 (foldP (fun x s => p_changes_by_b1 x s) x779 (.dict [])) fun v875 =>
  some v875
def p_is_number (d881 : D) : Option (D) :=
  bind1 (
    bind1 ((gIsi ["int"]) d881) fun v895 =>
    bind1 (asBool v895) fun b897 =>
    if b897 = true then
      bind1 ((gIsi ["bool"]) d881) fun v899 =>
      bind1 (asBool v899) fun b901 =>
      if b901 = true then
        some (.bool false)
      else
        bind1 (gGe d881 (.int 0)) fun v903 =>
        some v903
    else
      some (.bool false)) fun v905 =>
  some v905
def p_is_row_b1 (x1262 : D) : Option (Ct (Unit) (D)) :=
  bind1 (
    bind1 ((gIsi ["tuple"]) x1262) fun v1263 =>
    bind1 (truD v1263) fun b1265 =>
    if b1265 = true then
      bind1 (gLen [x1262]) fun v1267 =>
      bind1 (gNe v1267 (.int 2)) fun v1269 =>
      bind1 (asBool v1269) fun b1271 =>
      some b1271
    else
      some true) fun b1273 =>
  if b1273 = true then
    some (.rt (.bool false))
  else
    bind2 (tup2 x1262) fun v1277 v1278 =>
    bind1 (
      bind1 ((gIsi ["int"]) v1277) fun v1281 =>
      bind1 (truD v1281) fun b1283 =>
      if b1283 = true then
        bind1 (gLt v1277 (.int 0)) fun v1285 =>
        bind1 (asBool v1285) fun b1287 =>
        if b1287 = true then
          some true
        else
          bind1 (gIs v1277 (.bool true)) fun v1289 =>
          bind1 (asBool v1289) fun b1291 =>
          if b1291 = true then
            some true
          else
            bind1 (gIs v1277 (.bool false)) fun v1293 =>
            bind1 (asBool v1293) fun b1295 =>
            some b1295
      else
        some true) fun b1297 =>
    if b1297 = true then
      some (.rt (.bool false))
    else
      bind1 (
        bind1 (gNot v1278 (.none : D)) fun v1301 =>
        bind1 (asBool v1301) fun b1303 =>
        if b1303 = true then
          bind1 ((gIsi ["int"]) v1278) fun v1305 =>
          bind1 (truD v1305) fun b1307 =>
          if b1307 = true then
            bind1 (gLt v1278 v1277) fun v1309 =>
            bind1 (asBool v1309) fun b1311 =>
            if b1311 = true then
              some true
            else
              bind1 (gIs v1278 (.bool true)) fun v1313 =>
              bind1 (asBool v1313) fun b1315 =>
              if b1315 = true then
                some true
              else
                bind1 (gIs v1278 (.bool false)) fun v1317 =>
                bind1 (asBool v1317) fun b1319 =>
                some b1319
          else
            some true
        else
          some false) fun b1321 =>
      if b1321 = true then
        some (.rt (.bool false))
      else
        some (.nx ())
def p_is_row (d908 : D) : Option (D) :=
  bind1 ((gIsi ["list", "tuple"]) d908) fun v1120 =>
  bind1 (truD v1120) fun b1122 =>
  if b1122 = true then
    bind2 (itemsD d908) fun q1126 x1127 =>
    ctB0 (forP (fun x _ => p_is_row_b1 x) x1127 ()) (fun r => some r) fun _ =>
    some (.bool true)
  else
    some (.bool false)
def p_is_saying (d1332 : D) : Option (D) :=
  bind1 (p_is_row (.list [d1332])) fun v1337 =>
  some v1337
def p_need_number (d1341 : D) : Option (D) :=
  bind1 (p_is_number d1341) fun v1348 =>
  bind1 (truD v1348) fun b1351 =>
  if b1351 = true then
    some (.none : D)
  else
    none
def p_need_row (d1354 : D) : Option (D) :=
  bind1 (p_is_row d1354) fun v1361 =>
  bind1 (truD v1361) fun b1364 =>
  if b1364 = true then
    some (.none : D)
  else
    none
def p_need_place (d1367 : D) (d1368 : D) : Option (D) :=
  bind1 (
    bind1 (p_is_number d1367) fun v1381 =>
    bind1 (truD v1381) fun b1384 =>
    if b1384 = true then
      bind1 (gGe d1367 d1368) fun v1386 =>
      bind1 (asBool v1386) fun b1388 =>
      some b1388
    else
      some true) fun b1390 =>
  if b1390 = true then
    none
  else
    some (.none : D)
def p_what_comes_b1 (x1533 : D) (v1505 : D) : Option (D) :=
  bind2 (tup2 x1533) fun v1534 v1535 =>
  bind1 (
    bind1 (gLe v1534 v1505) fun v1537 =>
    bind1 (asBool v1537) fun b1539 =>
    if b1539 = true then
      bind1 (gIs v1535 (.none : D)) fun v1541 =>
      bind1 (asBool v1541) fun b1543 =>
      if b1543 = true then
        some true
      else
        bind1 (gLe v1505 v1535) fun v1545 =>
        bind1 (asBool v1545) fun b1547 =>
        some b1547
    else
      some false) fun b1549 =>
  if b1549 = true then
    bind1 (gAddI v1505 (.int 1)) fun v1552 =>
    some v1552
  else
    some v1505
def p_what_comes (d1393 : D) (d1394 : D) : Option (D) :=
  bind2 (itemsD d1393) fun q1479 x1480 =>
  bind1 (foldP (fun x s => p_what_comes_b1 x s) x1480.reverse d1394) fun v1555 =>
  some v1555
def p_total (d1561 : D) (d1562 : D) : Option (D) :=
  bind1 (p_need_row d1561) fun v1575 =>
  bind1 (p_need_number d1562) fun v1579 =>
  bind1 (p_what_comes d1561 d1562) fun v1583 =>
  some v1583
def p_wishes_b1 (x1688 : D) (v1672 : D) : Option (D) :=
  bind1 (negP (.int 1)) fun v1689 =>
  bind1 (gIx v1672 v1689) fun v1691 =>
  bind1 (p_handed_on x1688 v1691) fun v1693 =>
  bind2 (mutP gAppend v1672 [v1693]) fun v1696 v1697 =>
  some v1696
def p_wishes (d1587 : D) (d1588 : D) : Option (D) :=
  bind1 (p_need_row d1587) fun v1647 =>
  bind1 (p_need_number d1588) fun v1651 =>
  bind2 (itemsD d1587) fun q1656 x1657 =>
  bind1 (foldP (fun x s => p_wishes_b1 x s) x1657 (.list [d1588])) fun v1700 =>
  some v1700
def p_companies (d1705 : D) (d1706 : D) : Option (D) :=
  bind1 (p_need_row d1705) fun v1719 =>
  bind1 (p_need_number d1706) fun v1723 =>
  bind1 (p_companies_within d1705 (.tuple [d1706, d1706])) fun v1727 =>
  some v1727
def p_companies_between (d1731 : D) (d1732 : D) (d1733 : D) : Option (D) :=
  bind1 (p_need_row d1731) fun v1748 =>
  bind1 (p_is_saying (.tuple [d1732, d1733])) fun v1752 =>
  bind1 (truD v1752) fun b1755 =>
  if b1755 = true then
    bind1 (p_companies_within d1731 (.tuple [d1732, d1733])) fun v1758 =>
    some v1758
  else
    none
def p_least_from (d1762 : D) (d1763 : D) (d1764 : D) : Option (D) :=
  bind1 (p_need_row d1762) fun v1792 =>
  bind1 (gLen [d1762]) fun v1796 =>
  bind1 (addV v1796 (.int 1)) fun v1798 =>
  bind1 (p_need_place d1763 v1798) fun v1800 =>
  bind1 (p_need_number d1764) fun v1804 =>
  bind1 (atP d1763) fun u1808 =>
  bind1 (ixP d1763) fun i1810 =>
  bind1 (slW d1762 (some i1810) none) fun v1812 =>
  bind1 (p_wish_behind v1812 d1764) fun v1814 =>
  some v1814
def p_is_table_b1 (x2215 : D) (v2140 : D) (v2141 : D) : Option (Ct (D × D) (D)) :=
  bind1 (
    bind1 ((gIsi ["tuple"]) x2215) fun v2216 =>
    bind1 (truD v2216) fun b2218 =>
    if b2218 = true then
      bind1 (gLen [x2215]) fun v2220 =>
      bind1 (gNe v2220 (.int 2)) fun v2222 =>
      bind1 (asBool v2222) fun b2224 =>
      some b2224
    else
      some true) fun b2226 =>
  if b2226 = true then
    some (.rt (.bool false))
  else
    bind2 (tup2 x2215) fun v2230 v2231 =>
    bind1 (
      bind1 ((gIsi ["int"]) v2230) fun v2234 =>
      bind1 (truD v2234) fun b2236 =>
      if b2236 = true then
        bind1 (gLe v2230 v2140) fun v2238 =>
        bind1 (asBool v2238) fun b2240 =>
        if b2240 = true then
          some true
        else
          bind1 (gIs v2230 (.bool true)) fun v2242 =>
          bind1 (asBool v2242) fun b2244 =>
          if b2244 = true then
            some true
          else
            bind1 (gIs v2230 (.bool false)) fun v2246 =>
            bind1 (asBool v2246) fun b2248 =>
            some b2248
      else
        some true) fun b2250 =>
    if b2250 = true then
      some (.rt (.bool false))
    else
      bind1 (
        bind1 ((gIsi ["int"]) v2231) fun v2254 =>
        bind1 (truD v2254) fun b2256 =>
        if b2256 = true then
          bind1 (gLt v2231 (.int 0)) fun v2258 =>
          bind1 (asBool v2258) fun b2260 =>
          if b2260 = true then
            some true
          else
            bind1 (gEq v2231 v2141) fun v2262 =>
            bind1 (asBool v2262) fun b2264 =>
            if b2264 = true then
              some true
            else
              bind1 (gIs v2231 (.bool true)) fun v2266 =>
              bind1 (asBool v2266) fun b2268 =>
              if b2268 = true then
                some true
              else
                bind1 (gIs v2231 (.bool false)) fun v2270 =>
                bind1 (asBool v2270) fun b2272 =>
                some b2272
        else
          some true) fun b2274 =>
      if b2274 = true then
        some (.rt (.bool false))
      else
        some (.nx (v2230, v2231))
def p_is_table (d1819 : D) : Option (D) :=
  bind1 (
    bind1 ((gIsi ["list"]) d1819) fun v2057 =>
    bind1 (truD v2057) fun b2059 =>
    if b2059 = true then
      bind1 (truD d1819) fun b2061 =>
      some (!b2061)
    else
      some true) fun b2063 =>
  if b2063 = true then
    some (.bool false)
  else
    bind1 (negP (.int 1)) fun v2067 =>
    bind2 (itemsD d1819) fun q2071 x2072 =>
    ctB2 (forP (fun x s => p_is_table_b1 x s.1 s.2) x2072 (v2067, (.none : D))) (fun r => some r) fun v2280 v2281 =>
    bind1 (gIx d1819 (.int 0)) fun v2287 =>
    bind1 (gIx v2287 (.int 0)) fun v2289 =>
    bind1 (gEq v2289 (.int 0)) fun v2291 =>
    some v2291
def p_is_rows_b1 (x2403 : D) (v2384 : D) : Option (Ct (D) (D)) :=
  bind2 (tup2 x2403) fun v2404 v2405 =>
  bind1 (gSub' v2384 (.int 1)) fun v2407 =>
  bind1 (gLt v2405 v2407) fun v2409 =>
  bind1 (asBool v2409) fun b2411 =>
  if b2411 = true then
    some (.rt (.bool false))
  else
    some (.nx v2405)
def p_is_rows (d2295 : D) : Option (D) :=
  bind1 (p_is_table d2295) fun v2359 =>
  bind1 (truD v2359) fun b2362 =>
  if b2362 = true then
    bind2 (itemsD d2295) fun q2367 x2368 =>
    ctB1 (forP (fun x s => p_is_rows_b1 x s) x2368 (.int 0)) (fun r => some r) fun v2416 =>
    some (.bool true)
  else
    some (.bool false)
def p_need_rows_table (d2423 : D) : Option (D) :=
  bind1 (p_is_rows d2423) fun v2430 =>
  bind1 (truD v2430) fun b2433 =>
  if b2433 = true then
    some (.none : D)
  else
    none
def p_table_of_c1 (x2486 : D) : Option (Option D) :=
  bind1 (gNot x2486 (.none : D)) fun v2487 =>
  bind1 (asBool v2487) fun b2489 =>
  if b2489 = true then
    some (some x2486)
  else
    some none
def p_table_of (d2436 : D) : Option (D) :=
  bind1 (p_need_row d2436) fun v2470 =>
  bind1 (p_said_of_company d2436) fun v2474 =>
  bind2 (itemsD v2474) fun q2478 x2479 =>
  bind1 (filT (p_table_of_c1) x2479) fun x2491 =>
  bind1 (p_changes_by (.list x2491)) fun v2496 =>
  bind1 (p_added_up v2496) fun v2499 =>
  some v2499
def p_plain_copies (d2503 : D) : Option (D) :=
  bind1 (
    bind1 (gEq d2503 (.int 0)) fun v2511 =>
    bind1 (asBool v2511) fun b2513 =>
    if b2513 = true then
      some (.int 0)
    else
      some (.int 1)) fun v2515 =>
  some v2515
def p_is_mark (d2518 : D) : Option (D) :=
  bind1 (
    bind1 ((gIsi ["tuple"]) d2518) fun v2555 =>
    bind1 (truD v2555) fun b2557 =>
    if b2557 = true then
      bind1 (gLen [d2518]) fun v2559 =>
      bind1 (gNe v2559 (.int 2)) fun v2561 =>
      bind1 (asBool v2561) fun b2563 =>
      some b2563
    else
      some true) fun b2565 =>
  if b2565 = true then
    some (.bool false)
  else
    bind1 (
      bind1 (gIx d2518 (.int 0)) fun v2569 =>
      bind1 (p_is_number v2569) fun v2571 =>
      bind1 (asBool v2571) fun b2574 =>
      if b2574 = true then
        bind1 (gIx d2518 (.int 1)) fun v2576 =>
        bind1 (p_is_number v2576) fun v2578 =>
        bind1 (asBool v2578) fun b2581 =>
        if b2581 = true then
          bind1 (p_plain_copies v2569) fun v2583 =>
          bind1 (gNe v2576 v2583) fun v2586 =>
          some v2586
        else
          some (.bool false)
      else
        some (.bool false)) fun v2588 =>
    some v2588
def p_is_shelf_c1 (x2666 : D) : Option D :=
  bind1 (p_is_mark x2666) fun v2667 =>
  some v2667
def p_is_shelf_c2 (x2700 : D) : Option D :=
  bind2 (tup2 x2700) fun v2701 v2702 =>
  bind1 (gIx v2701 (.int 0)) fun v2704 =>
  bind1 (gIx v2702 (.int 0)) fun v2706 =>
  bind1 (gLt v2704 v2706) fun v2708 =>
  some v2708
def p_is_shelf (d2591 : D) : Option (D) :=
  bind1 (
    bind1 ((gIsi ["list"]) d2591) fun v2655 =>
    bind1 (truD v2655) fun b2657 =>
    if b2657 = true then
      bind2 (itemsD d2591) fun q2659 x2660 =>
      bind1 (mapT (p_is_shelf_c1) x2660) fun x2670 =>
      bind1 (gAll [(.list x2670)]) fun v2675 =>
      bind1 (truD v2675) fun b2677 =>
      some (!b2677)
    else
      some true) fun b2679 =>
  if b2679 = true then
    some (.bool false)
  else
    bind1 (ixP (.int 1)) fun i2683 =>
    bind1 (slF d2591 (some i2683) none) fun v2685 =>
    bind1 (zipP d2591 v2685) fun x2687 =>
    bind1 (mapT (p_is_shelf_c2) x2687) fun x2710 =>
    bind1 (gAll [(.list x2710)]) fun v2715 =>
    some v2715
def p_need_shelf (d2718 : D) : Option (D) :=
  bind1 (p_is_shelf d2718) fun v2725 =>
  bind1 (truD v2725) fun b2728 =>
  if b2728 = true then
    some (.none : D)
  else
    none
def p_need_book (d2731 : D) (d2732 : D) : Option (D) :=
  bind1 (
    bind1 (p_is_number d2731) fun v2745 =>
    bind1 (truD v2745) fun b2748 =>
    if b2748 = true then
      bind1 (gLt d2731 d2732) fun v2750 =>
      bind1 (asBool v2750) fun b2752 =>
      some b2752
    else
      some true) fun b2754 =>
  if b2754 = true then
    none
  else
    some (.none : D)
def p_find_book_b1 (d2758 : D) (x2949 : D) (v2911 : D) : Option (Ct (D) (D)) :=
  bind2 (tup2 x2949) fun v2950 v2951 =>
  bind1 (gSub' v2950 (.int 1)) fun v2953 =>
  bind1 (addV v2953 v2911) fun v2955 =>
  bind1 (gLe d2758 v2955) fun v2957 =>
  bind1 (asBool v2957) fun b2959 =>
  if b2959 = true then
    bind1 (gSub' d2758 v2911) fun v2962 =>
    some (.rt v2962)
  else
    bind1 (p_plain_copies v2950) fun v2965 =>
    bind1 (gSub' v2951 v2965) fun v2968 =>
    bind1 (gAddI v2911 v2968) fun v2970 =>
    bind1 (addV v2950 v2970) fun v2973 =>
    bind1 (gLe d2758 v2973) fun v2975 =>
    bind1 (asBool v2975) fun b2977 =>
    if b2977 = true then
      some (.rt v2950)
    else
      some (.nx v2970)
def p_find_book (d2757 : D) (d2758 : D) : Option (D) :=
  bind2 (itemsD d2757) fun q2875 x2876 =>
  ctB1 (forP (fun x s => p_find_book_b1 d2758 x s) x2876 (.int 0)) (fun r => some r) fun v2981 =>
  bind1 (gSub' d2758 v2981) fun v2986 =>
  some v2986
def p_count_to_c1 (d2991 : D) (x3047 : D) : Option (Option D) :=
  bind2 (tup2 x3047) fun v3048 v3049 =>
  bind1 (gLe v3048 d2991) fun v3051 =>
  bind1 (asBool v3051) fun b3053 =>
  if b3053 = true then
    bind1 (p_plain_copies v3048) fun v3055 =>
    bind1 (gSub' v3049 v3055) fun v3058 =>
    some (some v3058)
  else
    some none
def p_count_to (d2990 : D) (d2991 : D) : Option (D) :=
  bind2 (itemsD d2990) fun q3031 x3032 =>
  bind1 (filT (p_count_to_c1 d2991) x3032) fun x3060 =>
  bind1 (gSum [(.list x3060)]) fun v3065 =>
  bind1 (addV d2991 v3065) fun v3067 =>
  some v3067
def p_book (d3070 : D) (d3071 : D) : Option (D) :=
  bind1 (p_need_shelf d3070) fun v3084 =>
  bind1 (p_need_book d3071 (.int 0)) fun v3088 =>
  bind1 (p_find_book d3070 d3071) fun v3092 =>
  some v3092
def p_books_to (d3096 : D) (d3097 : D) : Option (D) :=
  bind1 (p_need_shelf d3096) fun v3110 =>
  bind1 (p_need_number d3097) fun v3114 =>
  bind1 (p_count_to d3096 d3097) fun v3118 =>
  some v3118
def p_shelf_by_b1 (x3306 : D) (v3270 : D) (v3271 : D) : Option (D × D) :=
  bind2 (tup2 x3306) fun v3307 v3308 =>
  bind1 (
    bind1 (gNe v3308 v3271) fun v3316 =>
    bind1 (asBool v3316) fun b3318 =>
    if b3318 = true then
      bind1 (p_plain_copies v3307) fun v3321 =>
      bind1 (addV v3321 v3308) fun v3324 =>
      bind1 (gSub' v3324 v3271) fun v3326 =>
      bind2 (mutP gAppend v3270 [(.tuple [v3307, v3326])]) fun v3328 v3329 =>
      some v3328
    else
      some v3270) fun v3332 =>
  some (v3332, v3308)
def p_shelf_by (d3122 : D) : Option (D) :=
  bind1 (p_need_rows_table d3122) fun v3232 =>
  bind2 (itemsD d3122) fun q3238 x3239 =>
  bind2 (foldP (fun x s => p_shelf_by_b1 x s.1 s.2) x3239 ((PyData.list []), (PyData.int 0))) fun v3334 v3335 =>
  some v3334
def p_shelf_of (d3341 : D) : Option (D) :=
  bind1 (p_table_of d3341) fun v3349 =>
  bind1 (p_shelf_by v3349) fun v3352 =>
  some v3352
def p_l_jar (d3356 : List Int) (d3357 : D) : Option (D) :=
  bind1 (
    bind1 (gLt d3357 (.int ((d3356.length : Nat) : Int))) fun v3386 =>
    bind1 (asBool v3386) fun b3388 =>
    if b3388 = true then
      bind1 (atP d3357) fun u3390 =>
      bind1 (ixSP d3356 d3357) fun v3392 =>
      some v3392
    else
      some (.int 0)) fun v3394 =>
  bind1 (gPow (.int 10) (.int 18)) fun v3397 =>
  bind1 (gSub' v3394 v3397) fun v3399 =>
  bind1 (gMax2 [(.int 0), v3399]) fun v3401 =>
  bind1 (gPow (.int 10) (.int 35)) fun v3403 =>
  bind1 (addV v3403 (.int 69)) fun v3405 =>
  bind1 (gMod v3394 v3405) fun v3407 =>
  bind1 (mulV v3407 (.int 128)) fun v3409 =>
  bind1 (addV v3409 d3357) fun v3411 =>
  some (.list [v3401, v3411, (.int 0)])
def p_l_pour (d3414 : D) (d3415 : D) : Option (D × D) :=
  bind1 (gIx d3414 (.int 0)) fun v3480 =>
  bind1 (gGt v3480 (.int 0)) fun v3482 =>
  bind1 (asBool v3482) fun b3484 =>
  if b3484 = true then
    bind1 (gIx d3414 (.int 0)) fun v3487 =>
    bind1 (gMod v3487 d3415) fun v3489 =>
    bind1 (gIx d3414 (.int 0)) fun v3492 =>
    bind1 (gDiv v3492 d3415) fun v3494 =>
    bind1 (setP d3414 (.int 0) v3494) fun v3496 =>
    some (v3489, v3496)
  else
    bind1 (gIx d3414 (.int 2)) fun v3500 =>
    bind1 (addV v3500 (.int 1)) fun v3502 =>
    bind1 (setP d3414 (.int 2) v3502) fun v3504 =>
    bind1 (gIx v3504 (.int 1)) fun v3507 =>
    bind1 (gIx v3504 (.int 2)) fun v3509 =>
    bind1 (mulV (.int 32452843) v3509) fun v3511 =>
    bind1 (addV v3507 v3511) fun v3513 =>
    bind1 (gPow v3513 (.int 3)) fun v3515 =>
    bind1 (gPow (.int 10) (.int 37)) fun v3517 =>
    bind1 (addV v3517 (.int 43)) fun v3519 =>
    bind1 (gMod v3515 v3519) fun v3521 =>
    bind1 (gIx v3504 (.int 2)) fun v3524 =>
    bind1 (mulV (.int 49979687) v3524) fun v3526 =>
    bind1 (addV v3521 v3526) fun v3528 =>
    bind1 (gPow v3528 (.int 5)) fun v3530 =>
    bind1 (gPow (.int 10) (.int 39)) fun v3532 =>
    bind1 (addV v3532 (.int 3)) fun v3534 =>
    bind1 (gMod v3530 v3534) fun v3536 =>
    bind1 (gDiv v3536 (.int 131071)) fun v3539 =>
    bind1 (gMod v3539 d3415) fun v3541 =>
    some (v3541, v3504)
def p_l_number (d3545 : D) (d3546 : D) : Option (D × D) :=
  bind2 (p_l_pour d3545 (.int 3)) fun v3566 v3567 =>
  bind2 (p_l_pour v3567 (.int 9)) fun v3570 v3571 =>
  bind2 (p_l_pour v3571 d3546) fun v3574 v3575 =>
  bind2 (p_l_pour v3575 (.int 3)) fun v3578 v3579 =>
  bind1 (gIx (.list [v3566, v3570, v3574]) v3578) fun v3582 =>
  some (v3582, v3579)
def p_l_saying (d3586 : D) (d3587 : D) : Option (D × D) :=
  bind2 (p_l_number d3586 d3587) fun v3607 v3608 =>
  bind2 (p_l_number v3608 d3587) fun v3612 v3613 =>
  bind1 (addV v3607 v3612) fun v3616 =>
  bind2 (p_l_pour v3613 (.int 5)) fun v3619 v3620 =>
  bind1 (gIx (.list [v3616, v3616, v3616, v3616, (.none : D)]) v3619) fun v3623 =>
  some ((PyData.tuple [v3607, v3623]), v3620)
def p_l_row_c1 (d3629 : D) (x3682 : D) (v3675 : D) : Option (Option D × (D)) :=
  bind2 (p_l_saying v3675 d3629) fun v3683 v3684 =>
  some ((some v3683), v3684)
def p_l_row (d3627 : D) (d3628 : D) (d3629 : D) : Option (D × D) :=
  bind1 (addV d3628 (.int 1)) fun v3662 =>
  bind2 (p_l_pour d3627 v3662) fun v3664 v3665 =>
  bind1 (rng1P v3664) fun x3668 =>
  bind2 (lcT (fun x s => p_l_row_c1 d3629 x s) x3668 v3665) fun x3687 v3690 =>
  some ((PyData.list x3687), v3690)
def p_l_some_twice_b1 (d3696 : D) (x3852 : D) (v3825 : D) (v3826 : D) : Option (D × D) :=
  bind1 (gLen [v3826]) fun v3853 =>
  bind1 (addV v3853 (.int 1)) fun v3855 =>
  bind2 (p_l_pour v3825 v3855) fun v3857 v3858 =>
  bind1 (gLen [d3696]) fun v3861 =>
  bind2 (p_l_pour v3858 v3861) fun v3863 v3864 =>
  bind1 (gIx d3696 v3863) fun v3867 =>
  bind2 (mutP gInsert v3826 [v3857, v3867]) fun v3869 v3870 =>
  some (v3864, v3869)
def p_l_some_twice (d3695 : D) (d3696 : D) : Option (D × D) :=
  bind1 (gList [d3696]) fun v3788 =>
  bind2 (p_l_pour d3695 (.int 4)) fun v3791 v3792 =>
  bind1 (gNe d3696 (.list [])) fun v3795 =>
  bind1 (gInt1 [v3795]) fun v3797 =>
  bind1 (mulV v3791 v3797) fun v3799 =>
  bind1 (rng1P v3799) fun x3801 =>
  bind2 (foldP (fun x s => p_l_some_twice_b1 d3696 x s.1 s.2) x3801 (v3792, v3788)) fun v3873 v3874 =>
  some (v3874, v3873)
def p_l_spots_b1 (d3881 : D) (x4237 : D) (v4166 : D) (v4167 : D) : Option (D × D) :=
  bind1 (gLen [d3881]) fun v4238 =>
  bind2 (p_l_pour v4166 v4238) fun v4240 v4241 =>
  bind1 (gIx d3881 v4240) fun v4245 =>
  bind2 (tup2 v4245) fun v4247 v4248 =>
  bind2 (
    bind1 (addV v4247 (.int 1)) fun v4251 =>
    bind1 (gIs v4248 (.none : D)) fun v4253 =>
    bind1 (asBool v4253) fun b4255 =>
    if b4255 = true then
      bind2 (p_l_pour v4241 (.int 3)) fun v4257 v4258 =>
      bind1 (gIx (.list [v4247, v4251, v4247]) v4257) fun v4261 =>
      some (v4258, v4261)
    else
      bind1 (addV v4248 (.int 1)) fun v4263 =>
      bind2 (p_l_pour v4241 (.int 3)) fun v4265 v4266 =>
      bind1 (gIx (.list [v4247, v4251, v4263]) v4265) fun v4269 =>
      some (v4266, v4269)) fun v4271 v4272 =>
  bind1 (addV v4240 (.int 1)) fun v4275 =>
  bind1 (p_least_from d3881 v4275 v4272) fun v4277 =>
  bind2 (p_l_pour v4271 (.int 3)) fun v4280 v4281 =>
  bind1 (addV v4277 v4280) fun v4284 =>
  bind1 (gSub' v4284 (.int 1)) fun v4286 =>
  bind1 (gMax2 [(.int 0), v4286]) fun v4288 =>
  bind2 (mutP gAppend v4167 [v4288]) fun v4290 v4291 =>
  some (v4281, v4290)
def p_l_spots (d3880 : D) (d3881 : D) : Option (D × D) :=
  bind1 (gPow (.int 10) (.int 29)) fun v4093 =>
  bind2 (p_l_number d3880 v4093) fun v4095 v4096 =>
  bind1 (gNe d3881 (.list [])) fun v4100 =>
  bind1 (gInt1 [v4100]) fun v4102 =>
  bind1 (mulV (.int 6) v4102) fun v4104 =>
  bind1 (rng1P v4104) fun x4106 =>
  bind2 (foldP (fun x s => p_l_spots_b1 d3881 x s.1 s.2) x4106 (v4096, (PyData.list [(.int 0), v4095]))) fun v4294 v4295 =>
  some (v4295, v4294)
def p_l_undone_b1 (d4305 : D) (d4306 : D) (v4459 : D) (x4513 : D) : Option (Ct (Unit) (D)) :=
  bind1 (p_wishes d4305 x4513) fun v4514 =>
  bind1 (negP (.int 1)) fun v4517 =>
  bind1 (gIx v4514 v4517) fun v4519 =>
  bind1 (gLe v4519 d4306) fun v4521 =>
  bind1 (gLe x4513 v4459) fun v4523 =>
  bind1 (gNe v4521 v4523) fun v4525 =>
  bind1 (asBool v4525) fun b4527 =>
  if b4527 = true then
    some (.rt (.bool false))
  else
    some (.nx ())
def p_l_undone (d4305 : D) (d4306 : D) : Option (D) :=
  bind1 (p_total d4305 d4306) fun v4459 =>
  bind1 (addV v4459 (.int 1)) fun v4463 =>
  bind1 (gSub' v4459 (.int 1)) fun v4465 =>
  bind1 (gMax2 [(.int 0), v4465]) fun v4467 =>
  bind1 (addV v4459 (.int 7)) fun v4469 =>
  bind2 (itemsD (.list [v4459, v4463, v4467, v4469])) fun q4471 x4472 =>
  ctB0 (forP (fun x _ => p_l_undone_b1 d4305 d4306 v4459 x) x4472 ()) (fun r => some r) fun _ =>
  bind1 (p_companies d4305 v4459) fun v4534 =>
  bind2 (tup2 v4534) fun v4537 v4538 =>
  bind1 (
    bind1 (gGt v4537 d4306) fun v4541 =>
    bind1 (asBool v4541) fun b4543 =>
    if b4543 = true then
      some true
    else
      bind1 (gNot v4538 (.none : D)) fun v4545 =>
      bind1 (asBool v4545) fun b4547 =>
      if b4547 = true then
        bind1 (gLt v4538 d4306) fun v4549 =>
        bind1 (asBool v4549) fun b4551 =>
        some b4551
      else
        some false) fun b4553 =>
  if b4553 = true then
    some (.bool false)
  else
    bind1 (
      bind1 (gGt v4537 (.int 0)) fun v4557 =>
      bind1 (asBool v4557) fun b4559 =>
      if b4559 = true then
        bind1 (gSub' v4537 (.int 1)) fun v4561 =>
        bind1 (p_total d4305 v4561) fun v4563 =>
        bind1 (gGe v4563 v4459) fun v4566 =>
        bind1 (asBool v4566) fun b4568 =>
        if b4568 = true then
          some true
        else
          bind1 (addV v4538 (.int 1)) fun v4570 =>
          bind1 (p_total d4305 v4570) fun v4572 =>
          bind1 (gLe v4572 v4459) fun v4575 =>
          bind1 (asBool v4575) fun b4577 =>
          some b4577
      else
        bind1 (addV v4538 (.int 1)) fun v4579 =>
        bind1 (p_total d4305 v4579) fun v4581 =>
        bind1 (gLe v4581 v4459) fun v4584 =>
        bind1 (asBool v4584) fun b4586 =>
        some b4586) fun b4588 =>
    if b4588 = true then
      some (.bool false)
    else
      bind1 (
        bind1 (p_companies_between d4305 v4459 v4459) fun v4592 =>
        bind1 (gEq v4592 (.tuple [v4537, v4538])) fun v4595 =>
        bind1 (asBool v4595) fun b4597 =>
        if b4597 = true then
          bind1 (p_wishes d4305 v4459) fun v4599 =>
          bind1 (negP (.int 1)) fun v4602 =>
          bind1 (gIx v4599 v4602) fun v4604 =>
          bind1 (gEq v4604 v4537) fun v4606 =>
          some v4606
        else
          some (.bool false)) fun v4608 =>
      some v4608
def p_l_behind (d4612 : D) (d4613 : D) (d4614 : D) : Option (D) :=
  bind1 (p_wishes d4612 d4614) fun v4640 =>
  bind1 (addF d4612 d4613) fun v4644 =>
  bind1 (p_wishes v4644 d4614) fun v4646 =>
  bind1 (negP (.int 1)) fun v4649 =>
  bind1 (gIx v4640 v4649) fun v4651 =>
  bind1 (p_wishes d4613 v4651) fun v4653 =>
  bind1 (ixP (.int 1)) fun i4656 =>
  bind1 (slW v4653 (some i4656) none) fun v4658 =>
  bind1 (addF v4640 v4658) fun v4660 =>
  bind1 (gEq v4646 v4660) fun v4662 =>
  some v4662
def p_l_shelf_right (d4665 : D) (d4666 : D) (d4667 : D) : Option (D) :=
  bind1 (addF d4665 d4666) fun v4707 =>
  bind1 (p_shelf_of v4707) fun v4709 =>
  bind1 (p_wishes d4665 d4667) fun v4713 =>
  bind1 (negP (.int 1)) fun v4716 =>
  bind1 (gIx v4713 v4716) fun v4718 =>
  bind1 (
    bind1 (p_book v4709 d4667) fun v4721 =>
    bind1 (p_shelf_of d4666) fun v4724 =>
    bind1 (p_book v4724 v4718) fun v4727 =>
    bind1 (gEq v4721 v4727) fun v4730 =>
    bind1 (asBool v4730) fun b4732 =>
    if b4732 = true then
      bind1 (gLe v4718 d4667) fun v4734 =>
      bind1 (asBool v4734) fun b4736 =>
      if b4736 = true then
        bind1 (p_books_to v4709 d4667) fun v4738 =>
        bind1 (gGe v4738 d4667) fun v4741 =>
        some v4741
      else
        some (.bool false)
    else
      some (.bool false)) fun v4743 =>
  some v4743
def p_law_c1 (v6474 : D) (v6467 : D) (x6499 : D) (v6488 : D) : Option (Option D × (D)) :=
  bind2 (p_l_row v6488 v6474 v6467) fun v6500 v6501 =>
  bind2 (p_l_some_twice v6501 v6500) fun v6504 v6505 =>
  some ((some v6504), v6505)
def p_law_b1 (v6519 : D) (x6548 : D) : Option (Ct (Unit) (D)) :=
  bind1 (p_l_undone v6519 x6548) fun v6549 =>
  bind1 (truD v6549) fun b6552 =>
  if b6552 = true then
    some (.nx ())
  else
    some (.rt (.bool false))
def p_law_b2 (x6508 : List D) (v6519 : D) (x6708 : D) (v6632 : D) : Option (Ct (D) (D)) :=
  bind1 (gPow (.int 10) (.int 30)) fun v6709 =>
  bind1 (gSub' v6709 (.int 1)) fun v6711 =>
  bind2 (p_l_pour v6632 (.int 2)) fun v6713 v6714 =>
  bind1 (gIx (.list [(.int 60), v6711]) v6713) fun v6717 =>
  bind2 (p_l_number v6714 v6717) fun v6719 v6720 =>
  bind1 (
    bind1 (gIx (.list x6508) (.int 0)) fun v6724 =>
    bind1 (gIx (.list x6508) (.int 1)) fun v6726 =>
    bind1 (p_l_behind v6724 v6726 v6719) fun v6728 =>
    bind1 (truD v6728) fun b6731 =>
    if b6731 = true then
      bind1 (p_l_shelf_right v6724 v6726 v6719) fun v6733 =>
      bind1 (truD v6733) fun b6736 =>
      some (!b6736)
    else
      some true) fun b6738 =>
  if b6738 = true then
    some (.rt (.bool false))
  else
    bind1 (p_least_from v6519 (.int 0) v6719) fun v6742 =>
    bind1 (addV v6719 (.int 1)) fun v6745 =>
    bind1 (p_least_from v6519 (.int 0) v6745) fun v6747 =>
    bind1 (gGt v6742 v6747) fun v6750 =>
    bind1 (asBool v6750) fun b6752 =>
    if b6752 = true then
      some (.rt (.bool false))
    else
      bind1 (gIx (.list x6508) (.int 0)) fun v6756 =>
      bind1 (gLen [v6756]) fun v6758 =>
      bind1 (p_least_from v6519 v6758 v6719) fun v6760 =>
      bind1 (gIx (.list x6508) (.int 1)) fun v6763 =>
      bind1 (p_wishes v6763 v6719) fun v6765 =>
      bind1 (negP (.int 1)) fun v6768 =>
      bind1 (gIx v6765 v6768) fun v6770 =>
      bind1 (gNe v6760 v6770) fun v6772 =>
      bind1 (asBool v6772) fun b6774 =>
      if b6774 = true then
        some (.rt (.bool false))
      else
        some (.nx v6720)
def p_law_b3 (d4746 : List Int) (x6454 : D) : Option (Ct (Unit) (D)) :=
  bind1 (p_l_jar d4746 x6454) fun v6455 =>
  bind1 (gPow (.int 10) (.int 29)) fun v6459 =>
  bind1 (mulV (.int 4) v6459) fun v6461 =>
  bind2 (p_l_pour v6455 (.int 3)) fun v6463 v6464 =>
  bind1 (gIx (.list [(.int 9), (.int 30), v6461]) v6463) fun v6467 =>
  bind2 (p_l_pour v6464 (.int 4)) fun v6470 v6471 =>
  bind1 (gIx (.list [(.int 37), (.int 37), (.int 37), (.int 97)]) v6470) fun v6474 =>
  bind1 (rng1P (.int 2)) fun x6477 =>
  bind2 (lcT (fun x s => p_law_c1 v6474 v6467 x s) x6477 v6471) fun x6508 v6511 =>
  bind1 (gIx (.list x6508) (.int 0)) fun v6515 =>
  bind1 (gIx (.list x6508) (.int 1)) fun v6517 =>
  bind1 (addF v6515 v6517) fun v6519 =>
  bind2 (p_l_spots v6511 v6519) fun v6522 v6523 =>
  bind2 (itemsD v6522) fun q6526 x6527 =>
  ctB0 (forP (fun x _ => p_law_b1 v6519 x) x6527 ()) (fun r => some (.rt r)) fun _ =>
  bind1 (rng1P (.int 6)) fun x6559 =>
  ctB1 (forP (fun x s => p_law_b2 x6508 v6519 x s) x6559 v6523) (fun r => some (.rt r)) fun v6778 =>
  some (.nx ())
def p_law (d4746 : List Int) : Option (D) :=
  bind1 (gMin2 [(.int 6), (.int ((d4746.length : Nat) : Int))]) fun v5771 =>
  bind1 (gMax2 [(.int 1), v5771]) fun v5773 =>
  bind1 (rng1P v5773) fun x5775 =>
  ctB0 (forP (fun x _ => p_law_b3 d4746 x) x5775 ()) (fun r => some r) fun _ =>
  some (.bool true)
end Y
namespace Y
open PySem PL L2
theorem tb_levelled_1 (d1 : D) (x145 : D) (v116 : D) (j117 : Sl) (j118 : Sl) (s0 : D) (h : p_levelled_b1 x145 v116 = some s0) : ∃ ρ1, (tTupl (tsCons (tName 2) (tsCons (tName 3) tsNil))) x145 [.bor d1, .own v116, j117, j118] = .ok () ρ1 ∧ PL.Run mb_levelled_1 ρ1 (fun fl ρ' => (fl = .nx ∨ fl = .ct) ∧ (fun (s : D) (ρ : PL.Env) => ∃ (j117 : Sl) (j118 : Sl), ρ = [.bor d1, .own s, j117, j118]) s0 ρ') := by
  unfold p_levelled_b1 at h
  obtain ⟨v146, v147, h148, h⟩ := ob2 h
  refine ⟨[.bor d1, .own v116, .val v146, .val v147], by simp [(tT2 h148)], ?_⟩
  unfold mb_levelled_1
  obtain ⟨b161, h163, h⟩ := ob1 h
  have e162 : (mOr (mNot (mTr (mVar 1))) (mB (mOp gNe (mPl (mOp gIx (mPl (mOp gIx (mVar 1) (mPl (mNegU (mC (.int 1)))))) (mPl (mC (.int 1))))) (mVar 3)))) [.bor d1, .own v116, .val v146, .val v147] = .ok b161 [.bor d1, .own v116, .val v146, .val v147] := by
    obtain ⟨b149, h150, h163⟩ := ob1 h163
    rcases b149 with _ | _
    · rw [if_neg Bool.false_ne_true] at h163
      obtain rfl := Option.some.inj h163
      simp [h150]
    · rw [if_pos rfl] at h163
      obtain ⟨v151, h152, h163⟩ := ob1 h163
      obtain ⟨v153, h154, h163⟩ := ob1 h163
      obtain ⟨v155, h156, h163⟩ := ob1 h163
      obtain ⟨v157, h158, h163⟩ := ob1 h163
      obtain ⟨b159, h160, h163⟩ := ob1 h163
      obtain rfl := Option.some.inj h163
      simp [h150, h152, h154, h156, h158, h160]
  rcases b161 with _ | _
  · rw [if_neg Bool.false_ne_true] at h
    refine run_if_f e162 ?_
    obtain rfl := Option.some.inj h
    exact run_end (m := mSkip) (fl := .nx) rfl ⟨.inl rfl, .val v146, .val v147, rfl⟩
  · rw [if_pos rfl] at h
    refine run_if_t e162 ?_
    obtain ⟨v164, v165, h166, h⟩ := ob2 h
    have e167 : (mDrop (mMut 1 gAppend (mCons (mTup (mCons (mFz (mRv (mVar 2))) (mCons (mFz (mRv (mVar 3))) mNil))) mNil))) [.bor d1, .own v116, .val v146, .val v147] = .ok .nx [.bor d1, .own v164, .val v146, .val v147] := by simp [h166, (mutP_lst h166)]
    obtain rfl := Option.some.inj h
    exact run_end e167 ⟨.inl rfl, .val v146, .val v147, rfl⟩
theorem tr_levelled (d1 : D) (r : D) (h : p_levelled d1 = some r) : evalD [.b] 3 m_levelled [.bor d1] = some ((.fr r), [.bor d1]) := by
  unfold p_levelled at h
  refine run_evalD (m := m_levelled) ?_
  show PL.Run m_levelled [.bor d1, .un, .un, .un] _
  unfold m_levelled
  have e88 : (mSet 1 (mLst mNil)) [.bor d1, .un, .un, .un] = .ok .nx [.bor d1, .own (.list []), .un, .un] := by simp []
  refine run_seq e88 ?_
  obtain ⟨q89, x90, h91, h⟩ := ob2 h
  have e92 : (mIter (mVar 0)) [.bor d1, .own (.list []), .un, .un] = .ok x90 [.bor d1, .own (.list []), .un, .un] := by simp [h91]
  obtain ⟨v168, h171, h⟩ := ob1 h
  obtain ⟨_, e172, j169, j170, rfl⟩ := run_for_nx e92 (foldP_run (fun (s : D) (ρ : PL.Env) => ∃ (j117 : Sl) (j118 : Sl), ρ = [.bor d1, .own s, j117, j118]) (t := (tTupl (tsCons (tName 2) (tsCons (tName 3) tsNil)))) (b := mb_levelled_1) (fun x s ρ s0 hi hf => by obtain ⟨j117, j118, rfl⟩ := hi; exact tb_levelled_1 d1 x s j117 j118 s0 hf) x90 (.list []) _ v168 ⟨.un, .un, rfl⟩ h171)
  refine run_seq e172 ?_
  have e173 : (mRv (mVar 1)) [.bor d1, .own v168, j169, j170] = .ok (.pl (.slot 1)) [.bor d1, .own v168, j169, j170] := by simp []
  obtain rfl := Option.some.inj h
  exact run_ret e173 ⟨by simp [flR], by simp⟩
theorem tb_added_up_1 (d174 : D) (x295 : D) (v274 : D) (v275 : D) (j276 : Sl) (s0 : D × D) (h : p_added_up_b1 d174 x295 v274 v275 = some s0) : ∃ ρ1, (tName 3) x295 [.bor d174, .val v274, .own v275, j276] = .ok () ρ1 ∧ PL.Run mb_added_up_1 ρ1 (fun fl ρ' => (fl = .nx ∨ fl = .ct) ∧ (fun (s : D × D) (ρ : PL.Env) => ∃ (j276 : Sl), ρ = [.bor d174, .val s.1, .own s.2, j276]) s0 ρ') := by
  unfold p_added_up_b1 at h
  refine ⟨[.bor d174, .val v274, .own v275, .val x295], by simp [], ?_⟩
  unfold mb_added_up_1
  obtain ⟨v296, h297, h⟩ := ob1 h
  obtain ⟨b298, h299, h⟩ := ob1 h
  have e300 : (mB (mOp gGt (mVar 3) (mPl (mC (.int 0))))) [.bor d174, .val v274, .own v275, .val x295] = .ok b298 [.bor d174, .val v274, .own v275, .val x295] := by simp [h297, h299]
  rcases b298 with _ | _
  · rw [if_neg Bool.false_ne_true] at h
    refine run_if_f e300 ?_
    obtain rfl := Option.some.inj h
    exact run_end (m := mSkip) (fl := .nx) rfl ⟨.inl rfl, .val x295, rfl⟩
  · rw [if_pos rfl] at h
    refine run_if_t e300 ?_
    obtain ⟨v301, h302, h⟩ := ob1 h
    obtain ⟨v303, h304, h⟩ := ob1 h
    have e305 : (mAug 1 gAddI (mPl (mOp gIxA (mVar 0) (mVar 3)))) [.bor d174, .val v274, .own v275, .val x295] = .ok .nx [.bor d174, .val v303, .own v275, .val x295] := by simp [h302, h304]
    refine run_seq e305 ?_
    obtain ⟨v306, v307, h308, h⟩ := ob2 h
    have e309 : (mDrop (mMut 2 gAppend (mCons (mTup (mCons (mFz (mRv (mVar 3))) (mCons (mFz (mRv (mVar 1))) mNil))) mNil))) [.bor d174, .val v303, .own v275, .val x295] = .ok .nx [.bor d174, .val v303, .own v306, .val x295] := by simp [h308, (mutP_lst h308)]
    obtain rfl := Option.some.inj h
    exact run_end e309 ⟨.inl rfl, .val x295, rfl⟩
theorem tr_added_up (d174 : D) (r : D) (h : p_added_up d174 = some r) : evalD [.b] 3 m_added_up [.bor d174] = some ((.fr r), [.bor d174]) := by
  unfold p_added_up at h
  refine run_evalD (m := m_added_up) ?_
  show PL.Run m_added_up [.bor d174, .un, .un, .un] _
  unfold m_added_up
  obtain ⟨u247, h248, h⟩ := ob1 h
  obtain ⟨v249, h250, h⟩ := ob1 h
  have e251 : (mSet 1 (mRv (mPl (mGet2 (mVar 0) (mC (.int 0)) (mC (.int 0)))))) [.bor d174, .un, .un, .un] = .ok .nx [.bor d174, .val v249, .un, .un] := by simp [h248, h250]
  refine run_seq e251 ?_
  have e252 : (mSet 2 (mLst (mCons (mTup (mCons (mC (.int 0)) (mCons (mFz (mRv (mVar 1))) mNil))) mNil))) [.bor d174, .val v249, .un, .un] = .ok .nx [.bor d174, .val v249, .own (.list [(.tuple [(.int 0), v249])]), .un] := by simp []
  refine run_seq e252 ?_
  obtain ⟨v253, h254, h⟩ := ob1 h
  obtain ⟨q255, x256, h257, h⟩ := ob2 h
  have e258 : (mIter (mPl (mFz (mFr (mN gSortedA (mCons (mVar 0) mNil)))))) [.bor d174, .val v249, .own (.list [(.tuple [(.int 0), v249])]), .un] = .ok x256 [.bor d174, .val v249, .own (.list [(.tuple [(.int 0), v249])]), .un] := by simp [h254, h257]
  obtain ⟨v310, v311, h313, h⟩ := ob2 h
  obtain ⟨_, e314, j312, rfl⟩ := run_for_nx e258 (foldP_run (fun (s : D × D) (ρ : PL.Env) => ∃ (j276 : Sl), ρ = [.bor d174, .val s.1, .own s.2, j276]) (t := (tName 3)) (b := mb_added_up_1) (fun x s ρ s0 hi hf => by obtain ⟨j276, rfl⟩ := hi; exact tb_added_up_1 d174 x s.1 s.2 j276 s0 hf) x256 (v249, (PyData.list [(.tuple [(.int 0), v249])])) _ (v310, v311) ⟨.un, rfl⟩ h313)
  refine run_seq e314 ?_
  obtain ⟨v315, h316, h⟩ := ob1 h
  have e317 := tr_levelled v311 _ h316
  have e318 : (mCall [.b] 3 m_levelled (mCons (mVar 2) mNil)) [.bor d174, .val v310, .own v311, j312] = .ok (.fr v315) [.bor d174, .val v310, .own v311, j312] := by simp [e317]
  obtain rfl := Option.some.inj h
  exact run_ret e318 ⟨by simp [flR], by simp⟩
theorem tr_stretch_to (d319 : D) (d320 : D) (r : D) (h : p_stretch_to d319 d320 = some r) : evalD [.v, .b] 0 m_stretch_to [.val d319, .bor d320] = some ((.pl (.val r)), [.val d319, .bor d320]) := by
  unfold p_stretch_to at h
  refine run_evalD (m := m_stretch_to) ?_
  show PL.Run m_stretch_to [.val d319, .bor d320] _
  unfold m_stretch_to
  obtain ⟨v336, h337, h⟩ := ob1 h
  obtain ⟨b338, h339, h⟩ := ob1 h
  have e340 : (mB (mOp gIs (mVar 1) (mPl (mC .none)))) [.val d319, .bor d320] = .ok b338 [.val d319, .bor d320] := by simp [h337, h339]
  rcases b338 with _ | _
  · rw [if_neg Bool.false_ne_true] at h
    refine run_seq_if_f e340 ?_
    refine run_seq_skip ?_
    obtain ⟨v342, h343, h⟩ := ob1 h
    obtain ⟨b344, h345, h⟩ := ob1 h
    have e346 : (mB (mOp gLe (mVar 1) (mVar 0))) [.val d319, .bor d320] = .ok b344 [.val d319, .bor d320] := by simp [h343, h345]
    rcases b344 with _ | _
    · rw [if_neg Bool.false_ne_true] at h
      refine run_seq_if_f e346 ?_
      refine run_seq_skip ?_
      obtain ⟨v348, h349, h⟩ := ob1 h
      have e350 : (mRv (mPl (mTup (mCons (mFz (mRv (mVar 0))) (mCons (mOp gSub' (mVar 1) (mPl (mC (.int 1)))) mNil))))) [.val d319, .bor d320] = .ok (.pl (.val (.tuple [d319, v348]))) [.val d319, .bor d320] := by simp [h349]
      obtain rfl := Option.some.inj h
      exact run_ret e350 ⟨by simp [flR], by simp⟩
    · rw [if_pos rfl] at h
      refine run_seq_if_t e346 ?_
      have e347 : (mRv (mPl (mC .none))) [.val d319, .bor d320] = .ok (.pl (.val (.none : D))) [.val d319, .bor d320] := by simp []
      obtain rfl := Option.some.inj h
      exact run_seq_ret e347 ⟨by simp [flR], by simp⟩
  · rw [if_pos rfl] at h
    refine run_seq_if_t e340 ?_
    have e341 : (mRv (mPl (mTup (mCons (mFz (mRv (mVar 0))) (mCons (mC .none) mNil))))) [.val d319, .bor d320] = .ok (.pl (.val (.tuple [d319, (.none : D)]))) [.val d319, .bor d320] := by simp []
    obtain rfl := Option.some.inj h
    exact run_seq_ret e341 ⟨by simp [flR], by simp⟩
theorem tb_wish_behind_1 (d351 : D) (x499 : D) (v469 : D) (j470 : Sl) (j471 : Sl) (s0 : D) (h : p_wish_behind_b1 x499 v469 = some s0) : ∃ ρ1, (tTupl (tsCons (tName 2) (tsCons (tName 3) tsNil))) x499 [.bor d351, .val v469, j470, j471] = .ok () ρ1 ∧ PL.Run mb_wish_behind_1 ρ1 (fun fl ρ' => (fl = .nx ∨ fl = .ct) ∧ (fun (s : D) (ρ : PL.Env) => ∃ (j470 : Sl) (j471 : Sl), ρ = [.bor d351, .val s, j470, j471]) s0 ρ') := by
  unfold p_wish_behind_b1 at h
  obtain ⟨v500, v501, h502, h⟩ := ob2 h
  refine ⟨[.bor d351, .val v469, .val v500, .val v501], by simp [(tT2 h502)], ?_⟩
  unfold mb_wish_behind_1
  obtain ⟨b517, h519, h⟩ := ob1 h
  have e518 : (mAnd (mB (mOp gLt (mVar 2) (mVar 1))) (mOr (mB (mOp gIs (mVar 3) (mPl (mC .none)))) (mB (mOp gLe (mVar 1) (mPl (mFz (mOpX gAdd (mVar 3) (mPl (mC (.int 1)))))))))) [.bor d351, .val v469, .val v500, .val v501] = .ok b517 [.bor d351, .val v469, .val v500, .val v501] := by
    obtain ⟨v503, h504, h519⟩ := ob1 h519
    obtain ⟨b505, h506, h519⟩ := ob1 h519
    rcases b505 with _ | _
    · rw [if_neg Bool.false_ne_true] at h519
      obtain rfl := Option.some.inj h519
      simp [h504, h506]
    · rw [if_pos rfl] at h519
      obtain ⟨v507, h508, h519⟩ := ob1 h519
      obtain ⟨b509, h510, h519⟩ := ob1 h519
      rcases b509 with _ | _
      · rw [if_neg Bool.false_ne_true] at h519
        obtain ⟨v511, h512, h519⟩ := ob1 h519
        obtain ⟨v513, h514, h519⟩ := ob1 h519
        obtain ⟨b515, h516, h519⟩ := ob1 h519
        obtain rfl := Option.some.inj h519
        simp [h504, h506, h508, h510, (addV_eq h512), h514, h516]
      · rw [if_pos rfl] at h519
        obtain rfl := Option.some.inj h519
        simp [h504, h506, h508, h510]
  rcases b517 with _ | _
  · rw [if_neg Bool.false_ne_true] at h
    refine run_if_f e518 ?_
    obtain rfl := Option.some.inj h
    exact run_end (m := mSkip) (fl := .nx) rfl ⟨.inl rfl, .val v500, .val v501, rfl⟩
  · rw [if_pos rfl] at h
    refine run_if_t e518 ?_
    obtain ⟨v520, h521, h⟩ := ob1 h
    have e522 : (mAug 1 gSub' (mPl (mC (.int 1)))) [.bor d351, .val v469, .val v500, .val v501] = .ok .nx [.bor d351, .val v520, .val v500, .val v501] := by simp [h521]
    obtain rfl := Option.some.inj h
    exact run_end e522 ⟨.inl rfl, .val v500, .val v501, rfl⟩
theorem tr_wish_behind (d351 : D) (d352 : D) (r : D) (h : p_wish_behind d351 d352 = some r) : ∃ (z1 : Sl), evalD [.b, .v] 2 m_wish_behind [.bor d351, .val d352] = some ((.pl (.val r)), [.bor d351, z1]) := by
  unfold p_wish_behind at h
  have e0 : PL.Run m_wish_behind [.bor d351, .val d352, .un, .un] fun fl ρ' => ∃ (z1 : Sl), flR fl ρ' = some (.pl (.val r)) ∧ ρ'.take 2 = [.bor d351, z1] := by
    unfold m_wish_behind
    obtain ⟨q441, x442, h443, h⟩ := ob2 h
    have e444 : (mIter (mVar 0)) [.bor d351, .val d352, .un, .un] = .ok x442 [.bor d351, .val d352, .un, .un] := by simp [h443]
    obtain ⟨v523, h526, h⟩ := ob1 h
    obtain ⟨_, e527, j524, j525, rfl⟩ := run_for_nx e444 (foldP_run (fun (s : D) (ρ : PL.Env) => ∃ (j470 : Sl) (j471 : Sl), ρ = [.bor d351, .val s, j470, j471]) (t := (tTupl (tsCons (tName 2) (tsCons (tName 3) tsNil)))) (b := mb_wish_behind_1) (fun x s ρ s0 hi hf => by obtain ⟨j470, j471, rfl⟩ := hi; exact tb_wish_behind_1 d351 x s j470 j471 s0 hf) x442 d352 _ v523 ⟨.un, .un, rfl⟩ h526)
    refine run_seq e527 ?_
    have e528 : (mRv (mVar 1)) [.bor d351, .val v523, j524, j525] = .ok (.pl (.val v523)) [.bor d351, .val v523, j524, j525] := by simp []
    obtain rfl := Option.some.inj h
    exact run_ret e528 ⟨.val v523, by simp [flR], by simp⟩
  obtain ⟨fl, ρ', e0, z1, e1, e2⟩ := e0
  exact ⟨z1, run_evalD (m := m_wish_behind) ⟨fl, ρ', e0, e1, e2⟩⟩
theorem tr_handed_on (d529 : D) (d530 : D) (r : D) (h : p_handed_on d529 d530 = some r) : evalD [.v, .v] 0 m_handed_on [.val d529, .val d530] = some ((.pl (.val r)), [.val d529, .val d530]) := by
  unfold p_handed_on at h
  refine run_evalD (m := m_handed_on) ?_
  show PL.Run m_handed_on [.val d529, .val d530] _
  unfold m_handed_on
  obtain ⟨v536, h537, h⟩ := ob1 h
  obtain ⟨z539, e538⟩ := tr_wish_behind (.list [d529]) d530 _ h537
  have e540 : (mCall [.b, .v] 2 m_wish_behind (mCons (mPl (mFz (mLst (mCons (mFz (mRv (mVar 0))) mNil)))) (mCons (mPl (mFz (mRv (mVar 1)))) mNil))) [.val d529, .val d530] = .ok (.pl (.val v536)) [.val d529, .val d530] := by simp [e538]
  obtain rfl := Option.some.inj h
  exact run_ret e540 ⟨by simp [flR], by simp⟩
theorem tr_companies_within (d541 : D) (d542 : D) (r : D) (h : p_companies_within d541 d542 = some r) : evalD [.b, .v] 3 m_companies_within [.bor d541, .val d542] = some ((.pl (.val r)), [.bor d541, .val d542]) := by
  unfold p_companies_within at h
  refine run_evalD (m := m_companies_within) ?_
  show PL.Run m_companies_within [.bor d541, .val d542, .un, .un, .un] _
  unfold m_companies_within
  obtain ⟨v571, v572, h573, h⟩ := ob2 h
  have e574 : (mAsg (tTupl (tsCons (tName 2) (tsCons (tName 3) tsNil))) (mFz (mRv (mVar 1)))) [.bor d541, .val d542, .un, .un, .un] = .ok .nx [.bor d541, .val d542, .val v571, .val v572, .un] := by simp [(tT2 h573)]
  refine run_seq e574 ?_
  obtain ⟨v575, h576, h⟩ := ob1 h
  obtain ⟨z578, e577⟩ := tr_wish_behind d541 v571 _ h576
  have e579 : (mSet 4 (mCall [.b, .v] 2 m_wish_behind (mCons (mVar 0) (mCons (mPl (mFz (mRv (mVar 2)))) mNil)))) [.bor d541, .val d542, .val v571, .val v572, .un] = .ok .nx [.bor d541, .val d542, .val v571, .val v572, .val v575] := by simp [e577]
  refine run_seq e579 ?_
  obtain ⟨v580, h581, h⟩ := ob1 h
  obtain ⟨b582, h583, h⟩ := ob1 h
  have e584 : (mB (mOp gIs (mVar 3) (mPl (mC .none)))) [.bor d541, .val d542, .val v571, .val v572, .val v575] = .ok b582 [.bor d541, .val d542, .val v571, .val v572, .val v575] := by simp [h581, h583]
  rcases b582 with _ | _
  · rw [if_neg Bool.false_ne_true] at h
    refine run_seq_if_f e584 ?_
    refine run_seq_skip ?_
    obtain ⟨v589, h590, h⟩ := ob1 h
    obtain ⟨v591, h592, h⟩ := ob1 h
    obtain ⟨z594, e593⟩ := tr_wish_behind d541 v589 _ h592
    obtain ⟨v595, h596, h⟩ := ob1 h
    have e597 := tr_stretch_to v575 v591 _ h596
    have e598 : (mCall [.v, .b] 0 m_stretch_to (mCons (mPl (mFz (mRv (mVar 4)))) (mCons (mPl (mFz (mCall [.b, .v] 2 m_wish_behind (mCons (mVar 0) (mCons (mPl (mFz (mOpX gAdd (mVar 3) (mPl (mC (.int 1)))))) mNil))))) mNil))) [.bor d541, .val d542, .val v571, .val v572, .val v575] = .ok (.pl (.val v595)) [.bor d541, .val d542, .val v571, .val v572, .val v575] := by simp [(addV_eq h590), e593, e597]
    obtain rfl := Option.some.inj h
    exact run_ret e598 ⟨by simp [flR], by simp⟩
  · rw [if_pos rfl] at h
    refine run_seq_if_t e584 ?_
    obtain ⟨v585, h586, h⟩ := ob1 h
    have e587 := tr_stretch_to v575 (.none : D) _ h586
    have e588 : (mCall [.v, .b] 0 m_stretch_to (mCons (mPl (mFz (mRv (mVar 4)))) (mCons (mPl (mC .none)) mNil))) [.bor d541, .val d542, .val v571, .val v572, .val v575] = .ok (.pl (.val v585)) [.bor d541, .val d542, .val v571, .val v572, .val v575] := by simp [e587]
    obtain rfl := Option.some.inj h
    exact run_seq_ret e588 ⟨by simp [flR], by simp⟩
theorem tc_said_of_company_1 (d599 : D) (x653 : D) (y : D) (h : p_said_of_company_c1 d599 x653 = some y) : ∃ ρ1 ρ2 ρ3, (tName 1) x653 [.bor d599, .un] = .ok () ρ1 ∧ mYes ρ1 = .ok true ρ2 ∧ (mFz (mCall [.b, .v] 3 m_companies_within (mCons (mSliceP (mVar 0) (some (mFz (mOpX gAdd (mVar 1) (mPl (mC (.int 1)))))) none) (mCons (mPl (mOp gIx (mVar 0) (mVar 1))) mNil)))) ρ2 = .ok y ρ3 ∧ (fun (ρ : PL.Env) => ρ = [.bor d599, .un]) (wipeE ρ3 [1]) := by
  unfold p_said_of_company_c1 at h
  obtain ⟨v654, h655, h⟩ := ob1 h
  obtain ⟨i656, h657, h⟩ := ob1 h
  obtain ⟨b658, v659, h660, h⟩ := ob2 h
  have w_h660 := sliceW_w h660
  obtain ⟨v661, h662, h⟩ := ob1 h
  obtain ⟨v663, h664, h⟩ := ob1 h
  have e665 := tr_companies_within v659 v661 _ h664
  obtain rfl := Option.some.inj h
  exact ⟨[.bor d599, .val x653], [.bor d599, .val x653], [.bor d599, .val x653], by (rcases b658 with _ | _; (focus (simp [(addV_eq h655), h657, h660, h662, e665])); (have w := w_h660 rfl; subst w; simp [(addV_eq h655), h657, h660, h662, e665])), by (rcases b658 with _ | _; (focus (simp [(addV_eq h655), h657, h660, h662, e665])); (have w := w_h660 rfl; subst w; simp [(addV_eq h655), h657, h660, h662, e665])), by (rcases b658 with _ | _; (focus (simp [(addV_eq h655), h657, h660, h662, e665])); (have w := w_h660 rfl; subst w; simp [(addV_eq h655), h657, h660, h662, e665])), by simp⟩
theorem tr_said_of_company (d599 : D) (r : D) (h : p_said_of_company d599 = some r) : evalD [.b] 1 m_said_of_company [.bor d599] = some ((.fr r), [.bor d599]) := by
  unfold p_said_of_company at h
  refine run_evalD (m := m_said_of_company) ?_
  show PL.Run m_said_of_company [.bor d599, .un] _
  unfold m_said_of_company
  obtain ⟨v636, h637, h⟩ := ob1 h
  obtain ⟨x638, h639, h⟩ := ob1 h
  obtain ⟨x666, h667, h⟩ := ob1 h
  obtain ⟨r669, e668, r670⟩ := mapT_run (fun (ρ : PL.Env) => ρ = [.bor d599, .un]) (fi := (mRng1 (mN gLen (mCons (mVar 0) mNil)))) (t := (tName 1)) (vs := [1]) (c := mYes) (fe := (mFz (mCall [.b, .v] 3 m_companies_within (mCons (mSliceP (mVar 0) (some (mFz (mOpX gAdd (mVar 1) (mPl (mC (.int 1)))))) none) (mCons (mPl (mOp gIx (mVar 0) (mVar 1))) mNil))))) (ρ0 := [.bor d599, .un]) (ρ1 := [.bor d599, .un]) (by simp [h637, h639]) (by simp) h667 (fun x ρ y hi hf => by subst hi; exact tc_said_of_company_1 d599 x y hf)
  subst r670
  have e671 : (mLc (mRng1 (mN gLen (mCons (mVar 0) mNil))) (tName 1) [1] mYes (mFz (mCall [.b, .v] 3 m_companies_within (mCons (mSliceP (mVar 0) (some (mFz (mOpX gAdd (mVar 1) (mPl (mC (.int 1)))))) none) (mCons (mPl (mOp gIx (mVar 0) (mVar 1))) mNil))))) [.bor d599, .un] = .ok (.fr (.list x666)) [.bor d599, .un] := by simp [h637, h639, e668]
  obtain rfl := Option.some.inj h
  exact run_ret e671 ⟨by simp [flR], by simp⟩
theorem tb_changes_by_1 (d672 : D) (x846 : D) (v811 : D) (j812 : Sl) (j813 : Sl) (s0 : D) (h : p_changes_by_b1 x846 v811 = some s0) : ∃ ρ1, (tTupl (tsCons (tName 2) (tsCons (tName 3) tsNil))) x846 [.bor d672, .own v811, j812, j813] = .ok () ρ1 ∧ PL.Run mb_changes_by_1 ρ1 (fun fl ρ' => (fl = .nx ∨ fl = .ct) ∧ (fun (s : D) (ρ : PL.Env) => ∃ (j812 : Sl) (j813 : Sl), ρ = [.bor d672, .own s, j812, j813]) s0 ρ') := by
  unfold p_changes_by_b1 at h
  obtain ⟨v847, v848, h849, h⟩ := ob2 h
  refine ⟨[.bor d672, .own v811, .val v847, .val v848], by simp [(tT2 h849)], ?_⟩
  unfold mb_changes_by_1
  obtain ⟨u850, h851, h⟩ := ob1 h
  obtain ⟨v852, h853, h⟩ := ob1 h
  obtain ⟨v854, h855, h⟩ := ob1 h
  obtain ⟨v856, h857, h⟩ := ob1 h
  have e858 : (mDPut 1 (mFz (mOpX gAdd (mPl (mGet2 (mVar 1) (mFz (mRv (mVar 2))) (mC (.int 0)))) (mPl (mC (.int 1))))) (mFz (mRv (mVar 2)))) [.bor d672, .own v811, .val v847, .val v848] = .ok .nx [.bor d672, .own v856, .val v847, .val v848] := by simp [h851, h853, (addV_eq h855), h857]
  refine run_seq e858 ?_
  obtain ⟨v859, h860, h⟩ := ob1 h
  obtain ⟨b861, h862, h⟩ := ob1 h
  have e863 : (mB (mOp gNot (mVar 3) (mPl (mC .none)))) [.bor d672, .own v856, .val v847, .val v848] = .ok b861 [.bor d672, .own v856, .val v847, .val v848] := by simp [h860, h862]
  rcases b861 with _ | _
  · rw [if_neg Bool.false_ne_true] at h
    refine run_if_f e863 ?_
    obtain rfl := Option.some.inj h
    exact run_end (m := mSkip) (fl := .nx) rfl ⟨.inl rfl, .val v847, .val v848, rfl⟩
  · rw [if_pos rfl] at h
    refine run_if_t e863 ?_
    obtain ⟨u864, h865, h⟩ := ob1 h
    obtain ⟨v866, h867, h⟩ := ob1 h
    obtain ⟨v868, h869, h⟩ := ob1 h
    obtain ⟨v870, h871, h⟩ := ob1 h
    obtain ⟨v872, h873, h⟩ := ob1 h
    have e874 : (mDPut 1 (mOp gSub' (mPl (mGet2 (mVar 1) (mFz (mOpX gAdd (mVar 3) (mPl (mC (.int 1))))) (mC (.int 0)))) (mPl (mC (.int 1)))) (mFz (mOpX gAdd (mVar 3) (mPl (mC (.int 1)))))) [.bor d672, .own v856, .val v847, .val v848] = .ok .nx [.bor d672, .own v872, .val v847, .val v848] := by simp [h865, (addV_eq h867), h869, h871, h873]
    obtain rfl := Option.some.inj h
    exact run_end e874 ⟨.inl rfl, .val v847, .val v848, rfl⟩
theorem tr_changes_by (d672 : D) (r : D) (h : p_changes_by d672 = some r) : evalD [.b] 3 m_changes_by [.bor d672] = some ((.fr r), [.bor d672]) := by
  unfold p_changes_by at h
  refine run_evalD (m := m_changes_by) ?_
  show PL.Run m_changes_by [.bor d672, .un, .un, .un] _
  unfold m_changes_by
  have e777 : (mSet 1 (mFr mDict0)) [.bor d672, .un, .un, .un] = .ok .nx [.bor d672, .own (.dict []), .un, .un] := by simp []
  refine run_seq e777 ?_
  obtain ⟨q778, x779, h780, h⟩ := ob2 h
  have e781 : (mIter (mVar 0)) [.bor d672, .own (.dict []), .un, .un] = .ok x779 [.bor d672, .own (.dict []), .un, .un] := by simp [h780]
  obtain ⟨v875, h878, h⟩ := ob1 h
  obtain ⟨_, e879, j876, j877, rfl⟩ := run_for_nx e781 (foldP_run (fun (s : D) (ρ : PL.Env) => ∃ (j812 : Sl) (j813 : Sl), ρ = [.bor d672, .own s, j812, j813]) (t := (tTupl (tsCons (tName 2) (tsCons (tName 3) tsNil)))) (b := mb_changes_by_1) (fun x s ρ s0 hi hf => by obtain ⟨j812, j813, rfl⟩ := hi; exact tb_changes_by_1 d672 x s j812 j813 s0 hf) x779 (.dict []) _ v875 ⟨.un, .un, rfl⟩ h878)
  refine run_seq e879 ?_
  have e880 : (mRv (mVar 1)) [.bor d672, .own v875, j876, j877] = .ok (.pl (.slot 1)) [.bor d672, .own v875, j876, j877] := by simp []
  obtain rfl := Option.some.inj h
  exact run_ret e880 ⟨by simp [flR], by simp⟩
theorem tr_is_number (d881 : D) (r : D) (h : p_is_number d881 = some r) : evalD [.b] 0 m_is_number [.bor d881] = some ((.pl (.val r)), [.bor d881]) := by
  unfold p_is_number at h
  refine run_evalD (m := m_is_number) ?_
  show PL.Run m_is_number [.bor d881] _
  unfold m_is_number
  obtain ⟨v905, h907, h⟩ := ob1 h
  have e906 : (mRv (mPl (mAndV (mUn (gIsi ["int"]) (mVar 0)) (mAndV (mNotV (mUn (gIsi ["bool"]) (mVar 0))) (mOp gGe (mVar 0) (mPl (mC (.int 0)))))))) [.bor d881] = .ok (.pl (.val v905)) [.bor d881] := by
    obtain ⟨v895, h896, h907⟩ := ob1 h907
    obtain ⟨b897, h898, h907⟩ := ob1 h907
    rcases b897 with _ | _
    · rw [if_neg Bool.false_ne_true] at h907
      obtain rfl := Option.some.inj h907
      simp [h896, h898]
    · rw [if_pos rfl] at h907
      obtain ⟨v899, h900, h907⟩ := ob1 h907
      obtain ⟨b901, h902, h907⟩ := ob1 h907
      rcases b901 with _ | _
      · rw [if_neg Bool.false_ne_true] at h907
        obtain ⟨v903, h904, h907⟩ := ob1 h907
        obtain rfl := Option.some.inj h907
        simp [h896, h898, h900, h902, h904]
      · rw [if_pos rfl] at h907
        obtain rfl := Option.some.inj h907
        simp [h896, h898, h900, h902]
  obtain rfl := Option.some.inj h
  exact run_ret e906 ⟨by simp [flR], by simp⟩
theorem tb_is_row_1 (d908 : D) (x1262 : D) (j1193 : Sl) (j1194 : Sl) (j1195 : Sl) (o : Ct (Unit) (D)) (h : p_is_row_b1 x1262 = some o) : ∃ ρ1, (tName 1) x1262 [.bor d908, j1193, j1194, j1195] = .ok () ρ1 ∧ PL.Run mb_is_row_1 ρ1 ((ctQ (fun (s : Unit) (ρ : PL.Env) => ∃ (j1193 : Sl) (j1194 : Sl) (j1195 : Sl), ρ = [.bor d908, j1193, j1194, j1195]) (fun (r : D) fl ρ' => flR fl ρ' = some (.pl (.val r)) ∧ ρ'.take 1 = [.bor d908]) o)) := by
  unfold p_is_row_b1 at h
  refine ⟨[.bor d908, .val x1262, j1194, j1195], by simp [], ?_⟩
  unfold mb_is_row_1
  obtain ⟨b1273, h1275, h⟩ := ob1 h
  have e1274 : (mOr (mNot (mTr (mPl (mUn (gIsi ["tuple"]) (mVar 1))))) (mB (mOp gNe (mPl (mN gLen (mCons (mVar 1) mNil))) (mPl (mC (.int 2)))))) [.bor d908, .val x1262, j1194, j1195] = .ok b1273 [.bor d908, .val x1262, j1194, j1195] := by
    obtain ⟨v1263, h1264, h1275⟩ := ob1 h1275
    obtain ⟨b1265, h1266, h1275⟩ := ob1 h1275
    rcases b1265 with _ | _
    · rw [if_neg Bool.false_ne_true] at h1275
      obtain rfl := Option.some.inj h1275
      simp [h1264, h1266]
    · rw [if_pos rfl] at h1275
      obtain ⟨v1267, h1268, h1275⟩ := ob1 h1275
      obtain ⟨v1269, h1270, h1275⟩ := ob1 h1275
      obtain ⟨b1271, h1272, h1275⟩ := ob1 h1275
      obtain rfl := Option.some.inj h1275
      simp [h1264, h1266, h1268, h1270, h1272]
  rcases b1273 with _ | _
  · rw [if_neg Bool.false_ne_true] at h
    refine run_seq_if_f e1274 ?_
    refine run_seq_skip ?_
    obtain ⟨v1277, v1278, h1279, h⟩ := ob2 h
    have e1280 : (mAsg (tTupl (tsCons (tName 2) (tsCons (tName 3) tsNil))) (mFz (mRv (mVar 1)))) [.bor d908, .val x1262, j1194, j1195] = .ok .nx [.bor d908, .val x1262, .val v1277, .val v1278] := by simp [(tT2 h1279)]
    refine run_seq e1280 ?_
    obtain ⟨b1297, h1299, h⟩ := ob1 h
    have e1298 : (mOr (mNot (mTr (mPl (mUn (gIsi ["int"]) (mVar 2))))) (mOr (mB (mOp gLt (mVar 2) (mPl (mC (.int 0))))) (mOr (mB (mOp gIs (mVar 2) (mPl (mC (.bool true))))) (mB (mOp gIs (mVar 2) (mPl (mC (.bool false)))))))) [.bor d908, .val x1262, .val v1277, .val v1278] = .ok b1297 [.bor d908, .val x1262, .val v1277, .val v1278] := by
      obtain ⟨v1281, h1282, h1299⟩ := ob1 h1299
      obtain ⟨b1283, h1284, h1299⟩ := ob1 h1299
      rcases b1283 with _ | _
      · rw [if_neg Bool.false_ne_true] at h1299
        obtain rfl := Option.some.inj h1299
        simp [h1282, h1284]
      · rw [if_pos rfl] at h1299
        obtain ⟨v1285, h1286, h1299⟩ := ob1 h1299
        obtain ⟨b1287, h1288, h1299⟩ := ob1 h1299
        rcases b1287 with _ | _
        · rw [if_neg Bool.false_ne_true] at h1299
          obtain ⟨v1289, h1290, h1299⟩ := ob1 h1299
          obtain ⟨b1291, h1292, h1299⟩ := ob1 h1299
          rcases b1291 with _ | _
          · rw [if_neg Bool.false_ne_true] at h1299
            obtain ⟨v1293, h1294, h1299⟩ := ob1 h1299
            obtain ⟨b1295, h1296, h1299⟩ := ob1 h1299
            obtain rfl := Option.some.inj h1299
            simp [h1282, h1284, h1286, h1288, h1290, h1292, h1294, h1296]
          · rw [if_pos rfl] at h1299
            obtain rfl := Option.some.inj h1299
            simp [h1282, h1284, h1286, h1288, h1290, h1292]
        · rw [if_pos rfl] at h1299
          obtain rfl := Option.some.inj h1299
          simp [h1282, h1284, h1286, h1288]
    rcases b1297 with _ | _
    · rw [if_neg Bool.false_ne_true] at h
      refine run_seq_if_f e1298 ?_
      refine run_seq_skip ?_
      obtain ⟨b1321, h1323, h⟩ := ob1 h
      have e1322 : (mAnd (mB (mOp gNot (mVar 3) (mPl (mC .none)))) (mOr (mNot (mTr (mPl (mUn (gIsi ["int"]) (mVar 3))))) (mOr (mB (mOp gLt (mVar 3) (mVar 2))) (mOr (mB (mOp gIs (mVar 3) (mPl (mC (.bool true))))) (mB (mOp gIs (mVar 3) (mPl (mC (.bool false))))))))) [.bor d908, .val x1262, .val v1277, .val v1278] = .ok b1321 [.bor d908, .val x1262, .val v1277, .val v1278] := by
        obtain ⟨v1301, h1302, h1323⟩ := ob1 h1323
        obtain ⟨b1303, h1304, h1323⟩ := ob1 h1323
        rcases b1303 with _ | _
        · rw [if_neg Bool.false_ne_true] at h1323
          obtain rfl := Option.some.inj h1323
          simp [h1302, h1304]
        · rw [if_pos rfl] at h1323
          obtain ⟨v1305, h1306, h1323⟩ := ob1 h1323
          obtain ⟨b1307, h1308, h1323⟩ := ob1 h1323
          rcases b1307 with _ | _
          · rw [if_neg Bool.false_ne_true] at h1323
            obtain rfl := Option.some.inj h1323
            simp [h1302, h1304, h1306, h1308]
          · rw [if_pos rfl] at h1323
            obtain ⟨v1309, h1310, h1323⟩ := ob1 h1323
            obtain ⟨b1311, h1312, h1323⟩ := ob1 h1323
            rcases b1311 with _ | _
            · rw [if_neg Bool.false_ne_true] at h1323
              obtain ⟨v1313, h1314, h1323⟩ := ob1 h1323
              obtain ⟨b1315, h1316, h1323⟩ := ob1 h1323
              rcases b1315 with _ | _
              · rw [if_neg Bool.false_ne_true] at h1323
                obtain ⟨v1317, h1318, h1323⟩ := ob1 h1323
                obtain ⟨b1319, h1320, h1323⟩ := ob1 h1323
                obtain rfl := Option.some.inj h1323
                simp [h1302, h1304, h1306, h1308, h1310, h1312, h1314, h1316, h1318, h1320]
              · rw [if_pos rfl] at h1323
                obtain rfl := Option.some.inj h1323
                simp [h1302, h1304, h1306, h1308, h1310, h1312, h1314, h1316]
            · rw [if_pos rfl] at h1323
              obtain rfl := Option.some.inj h1323
              simp [h1302, h1304, h1306, h1308, h1310, h1312]
      rcases b1321 with _ | _
      · rw [if_neg Bool.false_ne_true] at h
        refine run_if_f e1322 ?_
        obtain rfl := Option.some.inj h
        exact run_end (m := mSkip) (fl := .nx) rfl ⟨.inl rfl, .val x1262, .val v1277, .val v1278, rfl⟩
      · rw [if_pos rfl] at h
        refine run_if_t e1322 ?_
        have e1324 : (mRv (mPl (mC (.bool false)))) [.bor d908, .val x1262, .val v1277, .val v1278] = .ok (.pl (.val (.bool false))) [.bor d908, .val x1262, .val v1277, .val v1278] := by simp []
        obtain rfl := Option.some.inj h
        exact run_ret e1324 ⟨trivial, ⟨by simp [flR], by simp⟩⟩
    · rw [if_pos rfl] at h
      refine run_seq_if_t e1298 ?_
      have e1300 : (mRv (mPl (mC (.bool false)))) [.bor d908, .val x1262, .val v1277, .val v1278] = .ok (.pl (.val (.bool false))) [.bor d908, .val x1262, .val v1277, .val v1278] := by simp []
      obtain rfl := Option.some.inj h
      exact run_seq_ret e1300 ⟨trivial, ⟨by simp [flR], by simp⟩⟩
  · rw [if_pos rfl] at h
    refine run_seq_if_t e1274 ?_
    have e1276 : (mRv (mPl (mC (.bool false)))) [.bor d908, .val x1262, j1194, j1195] = .ok (.pl (.val (.bool false))) [.bor d908, .val x1262, j1194, j1195] := by simp []
    obtain rfl := Option.some.inj h
    exact run_seq_ret e1276 ⟨trivial, ⟨by simp [flR], by simp⟩⟩
theorem tr_is_row (d908 : D) (r : D) (h : p_is_row d908 = some r) : evalD [.b] 3 m_is_row [.bor d908] = some ((.pl (.val r)), [.bor d908]) := by
  unfold p_is_row at h
  refine run_evalD (m := m_is_row) ?_
  show PL.Run m_is_row [.bor d908, .un, .un, .un] _
  unfold m_is_row
  obtain ⟨v1120, h1121, h⟩ := ob1 h
  obtain ⟨b1122, h1123, h⟩ := ob1 h
  have e1124 : (mNot (mTr (mPl (mUn (gIsi ["list", "tuple"]) (mVar 0))))) [.bor d908, .un, .un, .un] = .ok (!b1122) [.bor d908, .un, .un, .un] := by simp [h1121, h1123]
  rcases b1122 with _ | _
  · rw [if_neg Bool.false_ne_true] at h
    refine run_seq_if_t e1124 ?_
    have e1125 : (mRv (mPl (mC (.bool false)))) [.bor d908, .un, .un, .un] = .ok (.pl (.val (.bool false))) [.bor d908, .un, .un, .un] := by simp []
    obtain rfl := Option.some.inj h
    exact run_seq_ret e1125 ⟨by simp [flR], by simp⟩
  · rw [if_pos rfl] at h
    refine run_seq_if_f e1124 ?_
    refine run_seq_skip ?_
    obtain ⟨q1126, x1127, h1128, h⟩ := ob2 h
    have e1129 : (mIter (mVar 0)) [.bor d908, .un, .un, .un] = .ok x1127 [.bor d908, .un, .un, .un] := by simp [h1128]
    obtain ⟨o1331, h1328, h⟩ := obct0 h
    have e1329 := forP_run (fun (s : Unit) (ρ : PL.Env) => ∃ (j1193 : Sl) (j1194 : Sl) (j1195 : Sl), ρ = [.bor d908, j1193, j1194, j1195]) (fun (r : D) fl ρ' => flR fl ρ' = some (.pl (.val r)) ∧ ρ'.take 1 = [.bor d908]) (t := (tName 1)) (b := mb_is_row_1) (fun x s ρ o hi hf => by obtain ⟨j1193, j1194, j1195, rfl⟩ := hi; exact tb_is_row_1 d908 x j1193 j1194 j1195 o hf) x1127 () _ o1331 ⟨.un, .un, .un, rfl⟩ h1328
    rcases h with ⟨r, rfl, h⟩ | ⟨rfl, h⟩
    · refine run_seq_ct (run_for e1129 e1329) (fun t fl ρ' ho hf hq => ?_) (fun s ρ' ho hi => nomatch ho)
      cases ho
      cases h
      exact hq
    · refine run_seq_ct (run_for e1129 e1329) (fun t fl ρ' ho hf hq => nomatch ho) (fun s ρ' ho hi => ?_)
      cases ho
      obtain ⟨j1325, j1326, j1327, rfl⟩ := hi
      have e1330 : (mRv (mPl (mC (.bool true)))) [.bor d908, j1325, j1326, j1327] = .ok (.pl (.val (.bool true))) [.bor d908, j1325, j1326, j1327] := by simp []
      obtain rfl := Option.some.inj h
      exact run_ret e1330 ⟨by simp [flR], by simp⟩
theorem tr_is_saying (d1332 : D) (r : D) (h : p_is_saying d1332 = some r) : evalD [.v] 0 m_is_saying [.val d1332] = some ((.pl (.val r)), [.val d1332]) := by
  unfold p_is_saying at h
  refine run_evalD (m := m_is_saying) ?_
  show PL.Run m_is_saying [.val d1332] _
  unfold m_is_saying
  obtain ⟨v1337, h1338, h⟩ := ob1 h
  have e1339 := tr_is_row (.list [d1332]) _ h1338
  have e1340 : (mCall [.b] 3 m_is_row (mCons (mPl (mFz (mLst (mCons (mFz (mRv (mVar 0))) mNil)))) mNil)) [.val d1332] = .ok (.pl (.val v1337)) [.val d1332] := by simp [e1339]
  obtain rfl := Option.some.inj h
  exact run_ret e1340 ⟨by simp [flR], by simp⟩
theorem tr_need_number (d1341 : D) (r : D) (h : p_need_number d1341 = some r) : evalD [.b] 0 m_need_number [.bor d1341] = some ((.pl (.val r)), [.bor d1341]) := by
  unfold p_need_number at h
  refine run_evalD (m := m_need_number) ?_
  show PL.Run m_need_number [.bor d1341] _
  unfold m_need_number
  obtain ⟨v1348, h1349, h⟩ := ob1 h
  have e1350 := tr_is_number d1341 _ h1349
  obtain ⟨b1351, h1352, h⟩ := ob1 h
  have e1353 : (mNot (mTr (mPl (mFz (mCall [.b] 0 m_is_number (mCons (mVar 0) mNil)))))) [.bor d1341] = .ok (!b1351) [.bor d1341] := by simp [e1350, h1352]
  rcases b1351 with _ | _
  · rw [if_neg Bool.false_ne_true] at h
    refine run_if_t e1353 ?_
    exact nomatch h
  · rw [if_pos rfl] at h
    refine run_if_f e1353 ?_
    obtain rfl := Option.some.inj h
    exact run_end (m := mSkip) (fl := .nx) rfl ⟨by simp [flR], by simp⟩
theorem tr_need_row (d1354 : D) (r : D) (h : p_need_row d1354 = some r) : evalD [.b] 0 m_need_row [.bor d1354] = some ((.pl (.val r)), [.bor d1354]) := by
  unfold p_need_row at h
  refine run_evalD (m := m_need_row) ?_
  show PL.Run m_need_row [.bor d1354] _
  unfold m_need_row
  obtain ⟨v1361, h1362, h⟩ := ob1 h
  have e1363 := tr_is_row d1354 _ h1362
  obtain ⟨b1364, h1365, h⟩ := ob1 h
  have e1366 : (mNot (mTr (mPl (mFz (mCall [.b] 3 m_is_row (mCons (mVar 0) mNil)))))) [.bor d1354] = .ok (!b1364) [.bor d1354] := by simp [e1363, h1365]
  rcases b1364 with _ | _
  · rw [if_neg Bool.false_ne_true] at h
    refine run_if_t e1366 ?_
    exact nomatch h
  · rw [if_pos rfl] at h
    refine run_if_f e1366 ?_
    obtain rfl := Option.some.inj h
    exact run_end (m := mSkip) (fl := .nx) rfl ⟨by simp [flR], by simp⟩
theorem tr_need_place (d1367 : D) (d1368 : D) (r : D) (h : p_need_place d1367 d1368 = some r) : evalD [.b, .b] 0 m_need_place [.bor d1367, .bor d1368] = some ((.pl (.val r)), [.bor d1367, .bor d1368]) := by
  unfold p_need_place at h
  refine run_evalD (m := m_need_place) ?_
  show PL.Run m_need_place [.bor d1367, .bor d1368] _
  unfold m_need_place
  obtain ⟨b1390, h1392, h⟩ := ob1 h
  have e1391 : (mOr (mNot (mTr (mPl (mFz (mCall [.b] 0 m_is_number (mCons (mVar 0) mNil)))))) (mB (mOp gGe (mVar 0) (mVar 1)))) [.bor d1367, .bor d1368] = .ok b1390 [.bor d1367, .bor d1368] := by
    obtain ⟨v1381, h1382, h1392⟩ := ob1 h1392
    have e1383 := tr_is_number d1367 _ h1382
    obtain ⟨b1384, h1385, h1392⟩ := ob1 h1392
    rcases b1384 with _ | _
    · rw [if_neg Bool.false_ne_true] at h1392
      obtain rfl := Option.some.inj h1392
      simp [e1383, h1385]
    · rw [if_pos rfl] at h1392
      obtain ⟨v1386, h1387, h1392⟩ := ob1 h1392
      obtain ⟨b1388, h1389, h1392⟩ := ob1 h1392
      obtain rfl := Option.some.inj h1392
      simp [e1383, h1385, h1387, h1389]
  rcases b1390 with _ | _
  · rw [if_neg Bool.false_ne_true] at h
    refine run_if_f e1391 ?_
    obtain rfl := Option.some.inj h
    exact run_end (m := mSkip) (fl := .nx) rfl ⟨by simp [flR], by simp⟩
  · rw [if_pos rfl] at h
    refine run_if_t e1391 ?_
    exact nomatch h
theorem tb_what_comes_1 (d1393 : D) (d1394 : D) (x1533 : D) (v1505 : D) (j1506 : Sl) (j1507 : Sl) (s0 : D) (h : p_what_comes_b1 x1533 v1505 = some s0) : ∃ ρ1, (tTupl (tsCons (tName 3) (tsCons (tName 4) tsNil))) x1533 [.bor d1393, .val d1394, .val v1505, j1506, j1507] = .ok () ρ1 ∧ PL.Run mb_what_comes_1 ρ1 (fun fl ρ' => (fl = .nx ∨ fl = .ct) ∧ (fun (s : D) (ρ : PL.Env) => ∃ (j1506 : Sl) (j1507 : Sl), ρ = [.bor d1393, .val d1394, .val s, j1506, j1507]) s0 ρ') := by
  unfold p_what_comes_b1 at h
  obtain ⟨v1534, v1535, h1536, h⟩ := ob2 h
  refine ⟨[.bor d1393, .val d1394, .val v1505, .val v1534, .val v1535], by simp [(tT2 h1536)], ?_⟩
  unfold mb_what_comes_1
  obtain ⟨b1549, h1551, h⟩ := ob1 h
  have e1550 : (mAnd (mB (mOp gLe (mVar 3) (mVar 2))) (mOr (mB (mOp gIs (mVar 4) (mPl (mC .none)))) (mB (mOp gLe (mVar 2) (mVar 4))))) [.bor d1393, .val d1394, .val v1505, .val v1534, .val v1535] = .ok b1549 [.bor d1393, .val d1394, .val v1505, .val v1534, .val v1535] := by
    obtain ⟨v1537, h1538, h1551⟩ := ob1 h1551
    obtain ⟨b1539, h1540, h1551⟩ := ob1 h1551
    rcases b1539 with _ | _
    · rw [if_neg Bool.false_ne_true] at h1551
      obtain rfl := Option.some.inj h1551
      simp [h1538, h1540]
    · rw [if_pos rfl] at h1551
      obtain ⟨v1541, h1542, h1551⟩ := ob1 h1551
      obtain ⟨b1543, h1544, h1551⟩ := ob1 h1551
      rcases b1543 with _ | _
      · rw [if_neg Bool.false_ne_true] at h1551
        obtain ⟨v1545, h1546, h1551⟩ := ob1 h1551
        obtain ⟨b1547, h1548, h1551⟩ := ob1 h1551
        obtain rfl := Option.some.inj h1551
        simp [h1538, h1540, h1542, h1544, h1546, h1548]
      · rw [if_pos rfl] at h1551
        obtain rfl := Option.some.inj h1551
        simp [h1538, h1540, h1542, h1544]
  rcases b1549 with _ | _
  · rw [if_neg Bool.false_ne_true] at h
    refine run_if_f e1550 ?_
    obtain rfl := Option.some.inj h
    exact run_end (m := mSkip) (fl := .nx) rfl ⟨.inl rfl, .val v1534, .val v1535, rfl⟩
  · rw [if_pos rfl] at h
    refine run_if_t e1550 ?_
    obtain ⟨v1552, h1553, h⟩ := ob1 h
    have e1554 : (mAug 2 gAddI (mPl (mC (.int 1)))) [.bor d1393, .val d1394, .val v1505, .val v1534, .val v1535] = .ok .nx [.bor d1393, .val d1394, .val v1552, .val v1534, .val v1535] := by simp [h1553]
    obtain rfl := Option.some.inj h
    exact run_end e1554 ⟨.inl rfl, .val v1534, .val v1535, rfl⟩
theorem tr_what_comes (d1393 : D) (d1394 : D) (r : D) (h : p_what_comes d1393 d1394 = some r) : evalD [.b, .v] 3 m_what_comes [.bor d1393, .val d1394] = some ((.pl (.val r)), [.bor d1393, .val d1394]) := by
  unfold p_what_comes at h
  refine run_evalD (m := m_what_comes) ?_
  show PL.Run m_what_comes [.bor d1393, .val d1394, .un, .un, .un] _
  unfold m_what_comes
  have e1478 : (mSet 2 (mRv (mPl (mFz (mRv (mVar 1)))))) [.bor d1393, .val d1394, .un, .un, .un] = .ok .nx [.bor d1393, .val d1394, .val d1394, .un, .un] := by simp []
  refine run_seq e1478 ?_
  obtain ⟨q1479, x1480, h1481, h⟩ := ob2 h
  have e1482 : (mRev (mIter (mVar 0))) [.bor d1393, .val d1394, .val d1394, .un, .un] = .ok x1480.reverse [.bor d1393, .val d1394, .val d1394, .un, .un] := by simp [h1481]
  obtain ⟨v1555, h1558, h⟩ := ob1 h
  obtain ⟨_, e1559, j1556, j1557, rfl⟩ := run_for_nx e1482 (foldP_run (fun (s : D) (ρ : PL.Env) => ∃ (j1506 : Sl) (j1507 : Sl), ρ = [.bor d1393, .val d1394, .val s, j1506, j1507]) (t := (tTupl (tsCons (tName 3) (tsCons (tName 4) tsNil)))) (b := mb_what_comes_1) (fun x s ρ s0 hi hf => by obtain ⟨j1506, j1507, rfl⟩ := hi; exact tb_what_comes_1 d1393 d1394 x s j1506 j1507 s0 hf) x1480.reverse d1394 _ v1555 ⟨.un, .un, rfl⟩ h1558)
  refine run_seq e1559 ?_
  have e1560 : (mRv (mVar 2)) [.bor d1393, .val d1394, .val v1555, j1556, j1557] = .ok (.pl (.val v1555)) [.bor d1393, .val d1394, .val v1555, j1556, j1557] := by simp []
  obtain rfl := Option.some.inj h
  exact run_ret e1560 ⟨by simp [flR], by simp⟩
theorem tr_total (d1561 : D) (d1562 : D) (r : D) (h : p_total d1561 d1562 = some r) : evalD [.b, .v] 0 m_total [.bor d1561, .val d1562] = some ((.pl (.val r)), [.bor d1561, .val d1562]) := by
  unfold p_total at h
  refine run_evalD (m := m_total) ?_
  show PL.Run m_total [.bor d1561, .val d1562] _
  unfold m_total
  obtain ⟨v1575, h1576, h⟩ := ob1 h
  have e1577 := tr_need_row d1561 _ h1576
  have e1578 : (mDrop (mFz (mCall [.b] 0 m_need_row (mCons (mVar 0) mNil)))) [.bor d1561, .val d1562] = .ok .nx [.bor d1561, .val d1562] := by simp [e1577]
  refine run_seq e1578 ?_
  obtain ⟨v1579, h1580, h⟩ := ob1 h
  have e1581 := tr_need_number d1562 _ h1580
  have e1582 : (mDrop (mFz (mCall [.b] 0 m_need_number (mCons (mVar 1) mNil)))) [.bor d1561, .val d1562] = .ok .nx [.bor d1561, .val d1562] := by simp [e1581]
  refine run_seq e1582 ?_
  obtain ⟨v1583, h1584, h⟩ := ob1 h
  have e1585 := tr_what_comes d1561 d1562 _ h1584
  have e1586 : (mCall [.b, .v] 3 m_what_comes (mCons (mVar 0) (mCons (mPl (mFz (mRv (mVar 1)))) mNil))) [.bor d1561, .val d1562] = .ok (.pl (.val v1583)) [.bor d1561, .val d1562] := by simp [e1585]
  obtain rfl := Option.some.inj h
  exact run_ret e1586 ⟨by simp [flR], by simp⟩
theorem tb_wishes_1 (d1587 : D) (d1588 : D) (x1688 : D) (v1672 : D) (j1673 : Sl) (s0 : D) (h : p_wishes_b1 x1688 v1672 = some s0) : ∃ ρ1, (tName 3) x1688 [.bor d1587, .val d1588, .own v1672, j1673] = .ok () ρ1 ∧ PL.Run mb_wishes_1 ρ1 (fun fl ρ' => (fl = .nx ∨ fl = .ct) ∧ (fun (s : D) (ρ : PL.Env) => ∃ (j1673 : Sl), ρ = [.bor d1587, .val d1588, .own s, j1673]) s0 ρ') := by
  unfold p_wishes_b1 at h
  refine ⟨[.bor d1587, .val d1588, .own v1672, .val x1688], by simp [], ?_⟩
  unfold mb_wishes_1
  obtain ⟨v1689, h1690, h⟩ := ob1 h
  obtain ⟨v1691, h1692, h⟩ := ob1 h
  obtain ⟨v1693, h1694, h⟩ := ob1 h
  have e1695 := tr_handed_on x1688 v1691 _ h1694
  obtain ⟨v1696, v1697, h1698, h⟩ := ob2 h
  have e1699 : (mDrop (mMut 2 gAppend (mCons (mFz (mCall [.v, .v] 0 m_handed_on (mCons (mPl (mFz (mRv (mVar 3)))) (mCons (mPl (mOp gIx (mVar 2) (mPl (mNegU (mC (.int 1)))))) mNil)))) mNil))) [.bor d1587, .val d1588, .own v1672, .val x1688] = .ok .nx [.bor d1587, .val d1588, .own v1696, .val x1688] := by simp [h1690, h1692, e1695, h1698, (mutP_lst h1698)]
  obtain rfl := Option.some.inj h
  exact run_end e1699 ⟨.inl rfl, .val x1688, rfl⟩
theorem tr_wishes (d1587 : D) (d1588 : D) (r : D) (h : p_wishes d1587 d1588 = some r) : evalD [.b, .v] 2 m_wishes [.bor d1587, .val d1588] = some ((.fr r), [.bor d1587, .val d1588]) := by
  unfold p_wishes at h
  refine run_evalD (m := m_wishes) ?_
  show PL.Run m_wishes [.bor d1587, .val d1588, .un, .un] _
  unfold m_wishes
  obtain ⟨v1647, h1648, h⟩ := ob1 h
  have e1649 := tr_need_row d1587 _ h1648
  have e1650 : (mDrop (mFz (mCall [.b] 0 m_need_row (mCons (mVar 0) mNil)))) [.bor d1587, .val d1588, .un, .un] = .ok .nx [.bor d1587, .val d1588, .un, .un] := by simp [e1649]
  refine run_seq e1650 ?_
  obtain ⟨v1651, h1652, h⟩ := ob1 h
  have e1653 := tr_need_number d1588 _ h1652
  have e1654 : (mDrop (mFz (mCall [.b] 0 m_need_number (mCons (mVar 1) mNil)))) [.bor d1587, .val d1588, .un, .un] = .ok .nx [.bor d1587, .val d1588, .un, .un] := by simp [e1653]
  refine run_seq e1654 ?_
  have e1655 : (mSet 2 (mLst (mCons (mFz (mRv (mVar 1))) mNil))) [.bor d1587, .val d1588, .un, .un] = .ok .nx [.bor d1587, .val d1588, .own (.list [d1588]), .un] := by simp []
  refine run_seq e1655 ?_
  obtain ⟨q1656, x1657, h1658, h⟩ := ob2 h
  have e1659 : (mIter (mVar 0)) [.bor d1587, .val d1588, .own (.list [d1588]), .un] = .ok x1657 [.bor d1587, .val d1588, .own (.list [d1588]), .un] := by simp [h1658]
  obtain ⟨v1700, h1702, h⟩ := ob1 h
  obtain ⟨_, e1703, j1701, rfl⟩ := run_for_nx e1659 (foldP_run (fun (s : D) (ρ : PL.Env) => ∃ (j1673 : Sl), ρ = [.bor d1587, .val d1588, .own s, j1673]) (t := (tName 3)) (b := mb_wishes_1) (fun x s ρ s0 hi hf => by obtain ⟨j1673, rfl⟩ := hi; exact tb_wishes_1 d1587 d1588 x s j1673 s0 hf) x1657 (.list [d1588]) _ v1700 ⟨.un, rfl⟩ h1702)
  refine run_seq e1703 ?_
  have e1704 : (mRv (mVar 2)) [.bor d1587, .val d1588, .own v1700, j1701] = .ok (.pl (.slot 2)) [.bor d1587, .val d1588, .own v1700, j1701] := by simp []
  obtain rfl := Option.some.inj h
  exact run_ret e1704 ⟨by simp [flR], by simp⟩
theorem tr_companies (d1705 : D) (d1706 : D) (r : D) (h : p_companies d1705 d1706 = some r) : evalD [.b, .v] 0 m_companies [.bor d1705, .val d1706] = some ((.pl (.val r)), [.bor d1705, .val d1706]) := by
  unfold p_companies at h
  refine run_evalD (m := m_companies) ?_
  show PL.Run m_companies [.bor d1705, .val d1706] _
  unfold m_companies
  obtain ⟨v1719, h1720, h⟩ := ob1 h
  have e1721 := tr_need_row d1705 _ h1720
  have e1722 : (mDrop (mFz (mCall [.b] 0 m_need_row (mCons (mVar 0) mNil)))) [.bor d1705, .val d1706] = .ok .nx [.bor d1705, .val d1706] := by simp [e1721]
  refine run_seq e1722 ?_
  obtain ⟨v1723, h1724, h⟩ := ob1 h
  have e1725 := tr_need_number d1706 _ h1724
  have e1726 : (mDrop (mFz (mCall [.b] 0 m_need_number (mCons (mVar 1) mNil)))) [.bor d1705, .val d1706] = .ok .nx [.bor d1705, .val d1706] := by simp [e1725]
  refine run_seq e1726 ?_
  obtain ⟨v1727, h1728, h⟩ := ob1 h
  have e1729 := tr_companies_within d1705 (.tuple [d1706, d1706]) _ h1728
  have e1730 : (mCall [.b, .v] 3 m_companies_within (mCons (mVar 0) (mCons (mPl (mTup (mCons (mFz (mRv (mVar 1))) (mCons (mFz (mRv (mVar 1))) mNil)))) mNil))) [.bor d1705, .val d1706] = .ok (.pl (.val v1727)) [.bor d1705, .val d1706] := by simp [e1729]
  obtain rfl := Option.some.inj h
  exact run_ret e1730 ⟨by simp [flR], by simp⟩
theorem tr_companies_between (d1731 : D) (d1732 : D) (d1733 : D) (r : D) (h : p_companies_between d1731 d1732 d1733 = some r) : evalD [.b, .v, .v] 0 m_companies_between [.bor d1731, .val d1732, .val d1733] = some ((.pl (.val r)), [.bor d1731, .val d1732, .val d1733]) := by
  unfold p_companies_between at h
  refine run_evalD (m := m_companies_between) ?_
  show PL.Run m_companies_between [.bor d1731, .val d1732, .val d1733] _
  unfold m_companies_between
  obtain ⟨v1748, h1749, h⟩ := ob1 h
  have e1750 := tr_need_row d1731 _ h1749
  have e1751 : (mDrop (mFz (mCall [.b] 0 m_need_row (mCons (mVar 0) mNil)))) [.bor d1731, .val d1732, .val d1733] = .ok .nx [.bor d1731, .val d1732, .val d1733] := by simp [e1750]
  refine run_seq e1751 ?_
  obtain ⟨v1752, h1753, h⟩ := ob1 h
  have e1754 := tr_is_saying (.tuple [d1732, d1733]) _ h1753
  obtain ⟨b1755, h1756, h⟩ := ob1 h
  have e1757 : (mNot (mTr (mPl (mFz (mCall [.v] 0 m_is_saying (mCons (mPl (mTup (mCons (mFz (mRv (mVar 1))) (mCons (mFz (mRv (mVar 2))) mNil)))) mNil)))))) [.bor d1731, .val d1732, .val d1733] = .ok (!b1755) [.bor d1731, .val d1732, .val d1733] := by simp [e1754, h1756]
  rcases b1755 with _ | _
  · rw [if_neg Bool.false_ne_true] at h
    refine run_seq_if_t e1757 ?_
    exact nomatch h
  · rw [if_pos rfl] at h
    refine run_seq_if_f e1757 ?_
    refine run_seq_skip ?_
    obtain ⟨v1758, h1759, h⟩ := ob1 h
    have e1760 := tr_companies_within d1731 (.tuple [d1732, d1733]) _ h1759
    have e1761 : (mCall [.b, .v] 3 m_companies_within (mCons (mVar 0) (mCons (mPl (mTup (mCons (mFz (mRv (mVar 1))) (mCons (mFz (mRv (mVar 2))) mNil)))) mNil))) [.bor d1731, .val d1732, .val d1733] = .ok (.pl (.val v1758)) [.bor d1731, .val d1732, .val d1733] := by simp [e1760]
    obtain rfl := Option.some.inj h
    exact run_ret e1761 ⟨by simp [flR], by simp⟩
theorem tr_least_from (d1762 : D) (d1763 : D) (d1764 : D) (r : D) (h : p_least_from d1762 d1763 d1764 = some r) : evalD [.b, .b, .v] 0 m_least_from [.bor d1762, .bor d1763, .val d1764] = some ((.pl (.val r)), [.bor d1762, .bor d1763, .val d1764]) := by
  unfold p_least_from at h
  refine run_evalD (m := m_least_from) ?_
  show PL.Run m_least_from [.bor d1762, .bor d1763, .val d1764] _
  unfold m_least_from
  obtain ⟨v1792, h1793, h⟩ := ob1 h
  have e1794 := tr_need_row d1762 _ h1793
  have e1795 : (mDrop (mFz (mCall [.b] 0 m_need_row (mCons (mVar 0) mNil)))) [.bor d1762, .bor d1763, .val d1764] = .ok .nx [.bor d1762, .bor d1763, .val d1764] := by simp [e1794]
  refine run_seq e1795 ?_
  obtain ⟨v1796, h1797, h⟩ := ob1 h
  obtain ⟨v1798, h1799, h⟩ := ob1 h
  obtain ⟨v1800, h1801, h⟩ := ob1 h
  have e1802 := tr_need_place d1763 v1798 _ h1801
  have e1803 : (mDrop (mFz (mCall [.b, .b] 0 m_need_place (mCons (mVar 1) (mCons (mPl (mFz (mOpX gAdd (mPl (mN gLen (mCons (mVar 0) mNil))) (mPl (mC (.int 1)))))) mNil))))) [.bor d1762, .bor d1763, .val d1764] = .ok .nx [.bor d1762, .bor d1763, .val d1764] := by simp [h1797, (addV_eq h1799), e1802]
  refine run_seq e1803 ?_
  obtain ⟨v1804, h1805, h⟩ := ob1 h
  have e1806 := tr_need_number d1764 _ h1805
  have e1807 : (mDrop (mFz (mCall [.b] 0 m_need_number (mCons (mVar 2) mNil)))) [.bor d1762, .bor d1763, .val d1764] = .ok .nx [.bor d1762, .bor d1763, .val d1764] := by simp [e1806]
  refine run_seq e1807 ?_
  obtain ⟨u1808, h1809, h⟩ := ob1 h
  obtain ⟨i1810, h1811, h⟩ := ob1 h
  obtain ⟨v1812, h1813, h⟩ := ob1 h
  obtain ⟨v1814, h1815, h⟩ := ob1 h
  obtain ⟨z1817, e1816⟩ := tr_wish_behind v1812 d1764 _ h1815
  have e1818 : (mCall [.b, .v] 2 m_wish_behind (mCons (mSliceP (mVar 0) (some (mFz (mRv (mVar 1)))) none) (mCons (mPl (mFz (mRv (mVar 2)))) mNil))) [.bor d1762, .bor d1763, .val d1764] = .ok (.pl (.val v1814)) [.bor d1762, .bor d1763, .val d1764] := by simp [(atP_eq h1809), h1811, (slW_eq h1813), e1816]
  obtain rfl := Option.some.inj h
  exact run_ret e1818 ⟨by simp [flR], by simp⟩
theorem tb_is_table_1 (d1819 : D) (x2215 : D) (v2140 : D) (v2141 : D) (j2142 : Sl) (j2143 : Sl) (j2144 : Sl) (o : Ct (D × D) (D)) (h : p_is_table_b1 x2215 v2140 v2141 = some o) : ∃ ρ1, (tName 3) x2215 [.bor d1819, .val v2140, .val v2141, j2142, j2143, j2144] = .ok () ρ1 ∧ PL.Run mb_is_table_1 ρ1 ((ctQ (fun (s : D × D) (ρ : PL.Env) => ∃ (j2142 : Sl) (j2143 : Sl) (j2144 : Sl), ρ = [.bor d1819, .val s.1, .val s.2, j2142, j2143, j2144]) (fun (r : D) fl ρ' => flR fl ρ' = some (.pl (.val r)) ∧ ρ'.take 1 = [.bor d1819]) o)) := by
  unfold p_is_table_b1 at h
  refine ⟨[.bor d1819, .val v2140, .val v2141, .val x2215, j2143, j2144], by simp [], ?_⟩
  unfold mb_is_table_1
  obtain ⟨b2226, h2228, h⟩ := ob1 h
  have e2227 : (mOr (mNot (mTr (mPl (mUn (gIsi ["tuple"]) (mVar 3))))) (mB (mOp gNe (mPl (mN gLen (mCons (mVar 3) mNil))) (mPl (mC (.int 2)))))) [.bor d1819, .val v2140, .val v2141, .val x2215, j2143, j2144] = .ok b2226 [.bor d1819, .val v2140, .val v2141, .val x2215, j2143, j2144] := by
    obtain ⟨v2216, h2217, h2228⟩ := ob1 h2228
    obtain ⟨b2218, h2219, h2228⟩ := ob1 h2228
    rcases b2218 with _ | _
    · rw [if_neg Bool.false_ne_true] at h2228
      obtain rfl := Option.some.inj h2228
      simp [h2217, h2219]
    · rw [if_pos rfl] at h2228
      obtain ⟨v2220, h2221, h2228⟩ := ob1 h2228
      obtain ⟨v2222, h2223, h2228⟩ := ob1 h2228
      obtain ⟨b2224, h2225, h2228⟩ := ob1 h2228
      obtain rfl := Option.some.inj h2228
      simp [h2217, h2219, h2221, h2223, h2225]
  rcases b2226 with _ | _
  · rw [if_neg Bool.false_ne_true] at h
    refine run_seq_if_f e2227 ?_
    refine run_seq_skip ?_
    obtain ⟨v2230, v2231, h2232, h⟩ := ob2 h
    have e2233 : (mAsg (tTupl (tsCons (tName 4) (tsCons (tName 5) tsNil))) (mFz (mRv (mVar 3)))) [.bor d1819, .val v2140, .val v2141, .val x2215, j2143, j2144] = .ok .nx [.bor d1819, .val v2140, .val v2141, .val x2215, .val v2230, .val v2231] := by simp [(tT2 h2232)]
    refine run_seq e2233 ?_
    obtain ⟨b2250, h2252, h⟩ := ob1 h
    have e2251 : (mOr (mNot (mTr (mPl (mUn (gIsi ["int"]) (mVar 4))))) (mOr (mB (mOp gLe (mVar 4) (mVar 1))) (mOr (mB (mOp gIs (mVar 4) (mPl (mC (.bool true))))) (mB (mOp gIs (mVar 4) (mPl (mC (.bool false)))))))) [.bor d1819, .val v2140, .val v2141, .val x2215, .val v2230, .val v2231] = .ok b2250 [.bor d1819, .val v2140, .val v2141, .val x2215, .val v2230, .val v2231] := by
      obtain ⟨v2234, h2235, h2252⟩ := ob1 h2252
      obtain ⟨b2236, h2237, h2252⟩ := ob1 h2252
      rcases b2236 with _ | _
      · rw [if_neg Bool.false_ne_true] at h2252
        obtain rfl := Option.some.inj h2252
        simp [h2235, h2237]
      · rw [if_pos rfl] at h2252
        obtain ⟨v2238, h2239, h2252⟩ := ob1 h2252
        obtain ⟨b2240, h2241, h2252⟩ := ob1 h2252
        rcases b2240 with _ | _
        · rw [if_neg Bool.false_ne_true] at h2252
          obtain ⟨v2242, h2243, h2252⟩ := ob1 h2252
          obtain ⟨b2244, h2245, h2252⟩ := ob1 h2252
          rcases b2244 with _ | _
          · rw [if_neg Bool.false_ne_true] at h2252
            obtain ⟨v2246, h2247, h2252⟩ := ob1 h2252
            obtain ⟨b2248, h2249, h2252⟩ := ob1 h2252
            obtain rfl := Option.some.inj h2252
            simp [h2235, h2237, h2239, h2241, h2243, h2245, h2247, h2249]
          · rw [if_pos rfl] at h2252
            obtain rfl := Option.some.inj h2252
            simp [h2235, h2237, h2239, h2241, h2243, h2245]
        · rw [if_pos rfl] at h2252
          obtain rfl := Option.some.inj h2252
          simp [h2235, h2237, h2239, h2241]
    rcases b2250 with _ | _
    · rw [if_neg Bool.false_ne_true] at h
      refine run_seq_if_f e2251 ?_
      refine run_seq_skip ?_
      obtain ⟨b2274, h2276, h⟩ := ob1 h
      have e2275 : (mOr (mNot (mTr (mPl (mUn (gIsi ["int"]) (mVar 5))))) (mOr (mB (mOp gLt (mVar 5) (mPl (mC (.int 0))))) (mOr (mB (mOp gEq (mVar 5) (mVar 2))) (mOr (mB (mOp gIs (mVar 5) (mPl (mC (.bool true))))) (mB (mOp gIs (mVar 5) (mPl (mC (.bool false))))))))) [.bor d1819, .val v2140, .val v2141, .val x2215, .val v2230, .val v2231] = .ok b2274 [.bor d1819, .val v2140, .val v2141, .val x2215, .val v2230, .val v2231] := by
        obtain ⟨v2254, h2255, h2276⟩ := ob1 h2276
        obtain ⟨b2256, h2257, h2276⟩ := ob1 h2276
        rcases b2256 with _ | _
        · rw [if_neg Bool.false_ne_true] at h2276
          obtain rfl := Option.some.inj h2276
          simp [h2255, h2257]
        · rw [if_pos rfl] at h2276
          obtain ⟨v2258, h2259, h2276⟩ := ob1 h2276
          obtain ⟨b2260, h2261, h2276⟩ := ob1 h2276
          rcases b2260 with _ | _
          · rw [if_neg Bool.false_ne_true] at h2276
            obtain ⟨v2262, h2263, h2276⟩ := ob1 h2276
            obtain ⟨b2264, h2265, h2276⟩ := ob1 h2276
            rcases b2264 with _ | _
            · rw [if_neg Bool.false_ne_true] at h2276
              obtain ⟨v2266, h2267, h2276⟩ := ob1 h2276
              obtain ⟨b2268, h2269, h2276⟩ := ob1 h2276
              rcases b2268 with _ | _
              · rw [if_neg Bool.false_ne_true] at h2276
                obtain ⟨v2270, h2271, h2276⟩ := ob1 h2276
                obtain ⟨b2272, h2273, h2276⟩ := ob1 h2276
                obtain rfl := Option.some.inj h2276
                simp [h2255, h2257, h2259, h2261, h2263, h2265, h2267, h2269, h2271, h2273]
              · rw [if_pos rfl] at h2276
                obtain rfl := Option.some.inj h2276
                simp [h2255, h2257, h2259, h2261, h2263, h2265, h2267, h2269]
            · rw [if_pos rfl] at h2276
              obtain rfl := Option.some.inj h2276
              simp [h2255, h2257, h2259, h2261, h2263, h2265]
          · rw [if_pos rfl] at h2276
            obtain rfl := Option.some.inj h2276
            simp [h2255, h2257, h2259, h2261]
      rcases b2274 with _ | _
      · rw [if_neg Bool.false_ne_true] at h
        refine run_seq_if_f e2275 ?_
        refine run_seq_skip ?_
        have e2278 : (mSet 1 (mRv (mPl (mFz (mRv (mVar 4)))))) [.bor d1819, .val v2140, .val v2141, .val x2215, .val v2230, .val v2231] = .ok .nx [.bor d1819, .val v2230, .val v2141, .val x2215, .val v2230, .val v2231] := by simp []
        refine run_seq e2278 ?_
        have e2279 : (mSet 2 (mRv (mPl (mFz (mRv (mVar 5)))))) [.bor d1819, .val v2230, .val v2141, .val x2215, .val v2230, .val v2231] = .ok .nx [.bor d1819, .val v2230, .val v2231, .val x2215, .val v2230, .val v2231] := by simp []
        obtain rfl := Option.some.inj h
        exact run_end e2279 ⟨.inl rfl, .val x2215, .val v2230, .val v2231, rfl⟩
      · rw [if_pos rfl] at h
        refine run_seq_if_t e2275 ?_
        have e2277 : (mRv (mPl (mC (.bool false)))) [.bor d1819, .val v2140, .val v2141, .val x2215, .val v2230, .val v2231] = .ok (.pl (.val (.bool false))) [.bor d1819, .val v2140, .val v2141, .val x2215, .val v2230, .val v2231] := by simp []
        obtain rfl := Option.some.inj h
        exact run_seq_ret e2277 ⟨trivial, ⟨by simp [flR], by simp⟩⟩
    · rw [if_pos rfl] at h
      refine run_seq_if_t e2251 ?_
      have e2253 : (mRv (mPl (mC (.bool false)))) [.bor d1819, .val v2140, .val v2141, .val x2215, .val v2230, .val v2231] = .ok (.pl (.val (.bool false))) [.bor d1819, .val v2140, .val v2141, .val x2215, .val v2230, .val v2231] := by simp []
      obtain rfl := Option.some.inj h
      exact run_seq_ret e2253 ⟨trivial, ⟨by simp [flR], by simp⟩⟩
  · rw [if_pos rfl] at h
    refine run_seq_if_t e2227 ?_
    have e2229 : (mRv (mPl (mC (.bool false)))) [.bor d1819, .val v2140, .val v2141, .val x2215, j2143, j2144] = .ok (.pl (.val (.bool false))) [.bor d1819, .val v2140, .val v2141, .val x2215, j2143, j2144] := by simp []
    obtain rfl := Option.some.inj h
    exact run_seq_ret e2229 ⟨trivial, ⟨by simp [flR], by simp⟩⟩
theorem tr_is_table (d1819 : D) (r : D) (h : p_is_table d1819 = some r) : evalD [.b] 5 m_is_table [.bor d1819] = some ((.pl (.val r)), [.bor d1819]) := by
  unfold p_is_table at h
  refine run_evalD (m := m_is_table) ?_
  show PL.Run m_is_table [.bor d1819, .un, .un, .un, .un, .un] _
  unfold m_is_table
  obtain ⟨b2063, h2065, h⟩ := ob1 h
  have e2064 : (mOr (mNot (mTr (mPl (mUn (gIsi ["list"]) (mVar 0))))) (mNot (mTr (mVar 0)))) [.bor d1819, .un, .un, .un, .un, .un] = .ok b2063 [.bor d1819, .un, .un, .un, .un, .un] := by
    obtain ⟨v2057, h2058, h2065⟩ := ob1 h2065
    obtain ⟨b2059, h2060, h2065⟩ := ob1 h2065
    rcases b2059 with _ | _
    · rw [if_neg Bool.false_ne_true] at h2065
      obtain rfl := Option.some.inj h2065
      simp [h2058, h2060]
    · rw [if_pos rfl] at h2065
      obtain ⟨b2061, h2062, h2065⟩ := ob1 h2065
      obtain rfl := Option.some.inj h2065
      simp [h2058, h2060, h2062]
  rcases b2063 with _ | _
  · rw [if_neg Bool.false_ne_true] at h
    refine run_seq_if_f e2064 ?_
    refine run_seq_skip ?_
    obtain ⟨v2067, h2068, h⟩ := ob1 h
    have e2069 : (mSet 1 (mRv (mPl (mNegU (mC (.int 1)))))) [.bor d1819, .un, .un, .un, .un, .un] = .ok .nx [.bor d1819, .val v2067, .un, .un, .un, .un] := by simp [h2068]
    refine run_seq e2069 ?_
    have e2070 : (mSet 2 (mRv (mPl (mC .none)))) [.bor d1819, .val v2067, .un, .un, .un, .un] = .ok .nx [.bor d1819, .val v2067, .val (.none : D), .un, .un, .un] := by simp []
    refine run_seq e2070 ?_
    obtain ⟨q2071, x2072, h2073, h⟩ := ob2 h
    have e2074 : (mIter (mVar 0)) [.bor d1819, .val v2067, .val (.none : D), .un, .un, .un] = .ok x2072 [.bor d1819, .val v2067, .val (.none : D), .un, .un, .un] := by simp [h2073]
    obtain ⟨o2294, h2285, h⟩ := obct2 h
    have e2286 := forP_run (fun (s : D × D) (ρ : PL.Env) => ∃ (j2142 : Sl) (j2143 : Sl) (j2144 : Sl), ρ = [.bor d1819, .val s.1, .val s.2, j2142, j2143, j2144]) (fun (r : D) fl ρ' => flR fl ρ' = some (.pl (.val r)) ∧ ρ'.take 1 = [.bor d1819]) (t := (tName 3)) (b := mb_is_table_1) (fun x s ρ o hi hf => by obtain ⟨j2142, j2143, j2144, rfl⟩ := hi; exact tb_is_table_1 d1819 x s.1 s.2 j2142 j2143 j2144 o hf) x2072 (v2067, (.none : D)) _ o2294 ⟨.un, .un, .un, rfl⟩ h2285
    rcases h with ⟨r, rfl, h⟩ | ⟨v2280, v2281, rfl, h⟩
    · refine run_seq_ct (run_for e2074 e2286) (fun t fl ρ' ho hf hq => ?_) (fun s ρ' ho hi => nomatch ho)
      cases ho
      cases h
      exact hq
    · refine run_seq_ct (run_for e2074 e2286) (fun t fl ρ' ho hf hq => nomatch ho) (fun s ρ' ho hi => ?_)
      cases ho
      obtain ⟨j2282, j2283, j2284, rfl⟩ := hi
      obtain ⟨v2287, h2288, h⟩ := ob1 h
      obtain ⟨v2289, h2290, h⟩ := ob1 h
      obtain ⟨v2291, h2292, h⟩ := ob1 h
      have e2293 : (mRv (mPl (mOp gEq (mPl (mOp gIx (mPl (mOp gIx (mVar 0) (mPl (mC (.int 0))))) (mPl (mC (.int 0))))) (mPl (mC (.int 0)))))) [.bor d1819, .val v2280, .val v2281, j2282, j2283, j2284] = .ok (.pl (.val v2291)) [.bor d1819, .val v2280, .val v2281, j2282, j2283, j2284] := by simp [h2288, h2290, h2292]
      obtain rfl := Option.some.inj h
      exact run_ret e2293 ⟨by simp [flR], by simp⟩
  · rw [if_pos rfl] at h
    refine run_seq_if_t e2064 ?_
    have e2066 : (mRv (mPl (mC (.bool false)))) [.bor d1819, .un, .un, .un, .un, .un] = .ok (.pl (.val (.bool false))) [.bor d1819, .un, .un, .un, .un, .un] := by simp []
    obtain rfl := Option.some.inj h
    exact run_seq_ret e2066 ⟨by simp [flR], by simp⟩
theorem tb_is_rows_1 (d2295 : D) (x2403 : D) (v2384 : D) (j2385 : Sl) (j2386 : Sl) (o : Ct (D) (D)) (h : p_is_rows_b1 x2403 v2384 = some o) : ∃ ρ1, (tTupl (tsCons (tName 2) (tsCons (tName 3) tsNil))) x2403 [.bor d2295, .val v2384, j2385, j2386] = .ok () ρ1 ∧ PL.Run mb_is_rows_1 ρ1 ((ctQ (fun (s : D) (ρ : PL.Env) => ∃ (j2385 : Sl) (j2386 : Sl), ρ = [.bor d2295, .val s, j2385, j2386]) (fun (r : D) fl ρ' => flR fl ρ' = some (.pl (.val r)) ∧ ρ'.take 1 = [.bor d2295]) o)) := by
  unfold p_is_rows_b1 at h
  obtain ⟨v2404, v2405, h2406, h⟩ := ob2 h
  refine ⟨[.bor d2295, .val v2384, .val v2404, .val v2405], by simp [(tT2 h2406)], ?_⟩
  unfold mb_is_rows_1
  obtain ⟨v2407, h2408, h⟩ := ob1 h
  obtain ⟨v2409, h2410, h⟩ := ob1 h
  obtain ⟨b2411, h2412, h⟩ := ob1 h
  have e2413 : (mB (mOp gLt (mVar 3) (mPl (mOp gSub' (mVar 1) (mPl (mC (.int 1))))))) [.bor d2295, .val v2384, .val v2404, .val v2405] = .ok b2411 [.bor d2295, .val v2384, .val v2404, .val v2405] := by simp [h2408, h2410, h2412]
  rcases b2411 with _ | _
  · rw [if_neg Bool.false_ne_true] at h
    refine run_seq_if_f e2413 ?_
    refine run_seq_skip ?_
    have e2415 : (mSet 1 (mRv (mPl (mFz (mRv (mVar 3)))))) [.bor d2295, .val v2384, .val v2404, .val v2405] = .ok .nx [.bor d2295, .val v2405, .val v2404, .val v2405] := by simp []
    obtain rfl := Option.some.inj h
    exact run_end e2415 ⟨.inl rfl, .val v2404, .val v2405, rfl⟩
  · rw [if_pos rfl] at h
    refine run_seq_if_t e2413 ?_
    have e2414 : (mRv (mPl (mC (.bool false)))) [.bor d2295, .val v2384, .val v2404, .val v2405] = .ok (.pl (.val (.bool false))) [.bor d2295, .val v2384, .val v2404, .val v2405] := by simp []
    obtain rfl := Option.some.inj h
    exact run_seq_ret e2414 ⟨trivial, ⟨by simp [flR], by simp⟩⟩
theorem tr_is_rows (d2295 : D) (r : D) (h : p_is_rows d2295 = some r) : evalD [.b] 3 m_is_rows [.bor d2295] = some ((.pl (.val r)), [.bor d2295]) := by
  unfold p_is_rows at h
  refine run_evalD (m := m_is_rows) ?_
  show PL.Run m_is_rows [.bor d2295, .un, .un, .un] _
  unfold m_is_rows
  obtain ⟨v2359, h2360, h⟩ := ob1 h
  have e2361 := tr_is_table d2295 _ h2360
  obtain ⟨b2362, h2363, h⟩ := ob1 h
  have e2364 : (mNot (mTr (mPl (mFz (mCall [.b] 5 m_is_table (mCons (mVar 0) mNil)))))) [.bor d2295, .un, .un, .un] = .ok (!b2362) [.bor d2295, .un, .un, .un] := by simp [e2361, h2363]
  rcases b2362 with _ | _
  · rw [if_neg Bool.false_ne_true] at h
    refine run_seq_if_t e2364 ?_
    have e2365 : (mRv (mPl (mC (.bool false)))) [.bor d2295, .un, .un, .un] = .ok (.pl (.val (.bool false))) [.bor d2295, .un, .un, .un] := by simp []
    obtain rfl := Option.some.inj h
    exact run_seq_ret e2365 ⟨by simp [flR], by simp⟩
  · rw [if_pos rfl] at h
    refine run_seq_if_f e2364 ?_
    refine run_seq_skip ?_
    have e2366 : (mSet 1 (mRv (mPl (mC (.int 0))))) [.bor d2295, .un, .un, .un] = .ok .nx [.bor d2295, .val (.int 0), .un, .un] := by simp []
    refine run_seq e2366 ?_
    obtain ⟨q2367, x2368, h2369, h⟩ := ob2 h
    have e2370 : (mIter (mVar 0)) [.bor d2295, .val (.int 0), .un, .un] = .ok x2368 [.bor d2295, .val (.int 0), .un, .un] := by simp [h2369]
    obtain ⟨o2422, h2419, h⟩ := obct1 h
    have e2420 := forP_run (fun (s : D) (ρ : PL.Env) => ∃ (j2385 : Sl) (j2386 : Sl), ρ = [.bor d2295, .val s, j2385, j2386]) (fun (r : D) fl ρ' => flR fl ρ' = some (.pl (.val r)) ∧ ρ'.take 1 = [.bor d2295]) (t := (tTupl (tsCons (tName 2) (tsCons (tName 3) tsNil)))) (b := mb_is_rows_1) (fun x s ρ o hi hf => by obtain ⟨j2385, j2386, rfl⟩ := hi; exact tb_is_rows_1 d2295 x s j2385 j2386 o hf) x2368 (.int 0) _ o2422 ⟨.un, .un, rfl⟩ h2419
    rcases h with ⟨r, rfl, h⟩ | ⟨v2416, rfl, h⟩
    · refine run_seq_ct (run_for e2370 e2420) (fun t fl ρ' ho hf hq => ?_) (fun s ρ' ho hi => nomatch ho)
      cases ho
      cases h
      exact hq
    · refine run_seq_ct (run_for e2370 e2420) (fun t fl ρ' ho hf hq => nomatch ho) (fun s ρ' ho hi => ?_)
      cases ho
      obtain ⟨j2417, j2418, rfl⟩ := hi
      have e2421 : (mRv (mPl (mC (.bool true)))) [.bor d2295, .val v2416, j2417, j2418] = .ok (.pl (.val (.bool true))) [.bor d2295, .val v2416, j2417, j2418] := by simp []
      obtain rfl := Option.some.inj h
      exact run_ret e2421 ⟨by simp [flR], by simp⟩
theorem tr_need_rows_table (d2423 : D) (r : D) (h : p_need_rows_table d2423 = some r) : evalD [.b] 0 m_need_rows_table [.bor d2423] = some ((.pl (.val r)), [.bor d2423]) := by
  unfold p_need_rows_table at h
  refine run_evalD (m := m_need_rows_table) ?_
  show PL.Run m_need_rows_table [.bor d2423] _
  unfold m_need_rows_table
  obtain ⟨v2430, h2431, h⟩ := ob1 h
  have e2432 := tr_is_rows d2423 _ h2431
  obtain ⟨b2433, h2434, h⟩ := ob1 h
  have e2435 : (mNot (mTr (mPl (mFz (mCall [.b] 3 m_is_rows (mCons (mVar 0) mNil)))))) [.bor d2423] = .ok (!b2433) [.bor d2423] := by simp [e2432, h2434]
  rcases b2433 with _ | _
  · rw [if_neg Bool.false_ne_true] at h
    refine run_if_t e2435 ?_
    exact nomatch h
  · rw [if_pos rfl] at h
    refine run_if_f e2435 ?_
    obtain rfl := Option.some.inj h
    exact run_end (m := mSkip) (fl := .nx) rfl ⟨by simp [flR], by simp⟩
theorem tc_table_of_1 (d2436 : D) (v2474 : D) (x2486 : D) (o : Option D) (h : p_table_of_c1 x2486 = some o) : ∃ ρ1 ρ2, (tName 2) x2486 [.bor d2436, .val v2474, .un] = .ok () ρ1 ∧ lcQ (mB (mOp gNot (mVar 2) (mPl (mC .none)))) (mFz (mRv (mVar 2))) [2] (fun (ρ : PL.Env) => ρ = [.bor d2436, .val v2474, .un]) ρ1 ρ2 o := by
  unfold p_table_of_c1 at h
  obtain ⟨v2487, h2488, h⟩ := ob1 h
  obtain ⟨b2489, h2490, h⟩ := ob1 h
  rcases b2489 with _ | _
  · rw [if_neg Bool.false_ne_true] at h
    obtain rfl := Option.some.inj h
    exact ⟨[.bor d2436, .val v2474, .val x2486], [.bor d2436, .val v2474, .val x2486], by simp [h2488, h2490], by simp [h2488, h2490], by simp⟩
  · rw [if_pos rfl] at h
    obtain rfl := Option.some.inj h
    exact ⟨[.bor d2436, .val v2474, .val x2486], [.bor d2436, .val v2474, .val x2486], by simp [h2488, h2490], [.bor d2436, .val v2474, .val x2486], by simp [h2488, h2490], by simp [h2488, h2490], by simp⟩
theorem tr_table_of (d2436 : D) (r : D) (h : p_table_of d2436 = some r) : evalD [.b] 2 m_table_of [.bor d2436] = some ((.fr r), [.bor d2436]) := by
  unfold p_table_of at h
  refine run_evalD (m := m_table_of) ?_
  show PL.Run m_table_of [.bor d2436, .un, .un] _
  unfold m_table_of
  obtain ⟨v2470, h2471, h⟩ := ob1 h
  have e2472 := tr_need_row d2436 _ h2471
  have e2473 : (mDrop (mFz (mCall [.b] 0 m_need_row (mCons (mVar 0) mNil)))) [.bor d2436, .un, .un] = .ok .nx [.bor d2436, .un, .un] := by simp [e2472]
  refine run_seq e2473 ?_
  obtain ⟨v2474, h2475, h⟩ := ob1 h
  have e2476 := tr_said_of_company d2436 _ h2475
  have e2477 : (mSet 1 (mCall [.b] 1 m_said_of_company (mCons (mVar 0) mNil))) [.bor d2436, .un, .un] = .ok .nx [.bor d2436, .own v2474, .un] := by simp [e2476]
  refine run_seq e2477 ?_
  obtain ⟨q2478, x2479, h2480, h⟩ := ob2 h
  obtain ⟨x2491, h2492, h⟩ := ob1 h
  obtain ⟨r2494, e2493, r2495⟩ := filT_run (fun (ρ : PL.Env) => ρ = [.bor d2436, .val v2474, .un]) (fi := (mIter (mPl (mFz (mRv (mVar 1)))))) (t := (tName 2)) (vs := [2]) (c := (mB (mOp gNot (mVar 2) (mPl (mC .none))))) (fe := (mFz (mRv (mVar 2)))) (ρ0 := [.bor d2436, .own v2474, .un]) (ρ1 := [.bor d2436, .val v2474, .un]) (by simp [h2480]) (by simp) h2492 (fun x ρ o hi hf => by subst hi; exact tc_table_of_1 d2436 v2474 x o hf)
  subst r2495
  obtain ⟨v2496, h2497, h⟩ := ob1 h
  have e2498 := tr_changes_by (.list x2491) _ h2497
  obtain ⟨v2499, h2500, h⟩ := ob1 h
  have e2501 := tr_added_up v2496 _ h2500
  have e2502 : (mCall [.b] 3 m_added_up (mCons (mPl (mFz (mCall [.b] 3 m_changes_by (mCons (mPl (mFz (mLc (mIter (mPl (mFz (mRv (mVar 1))))) (tName 2) [2] (mB (mOp gNot (mVar 2) (mPl (mC .none)))) (mFz (mRv (mVar 2)))))) mNil)))) mNil)) [.bor d2436, .own v2474, .un] = .ok (.fr v2499) [.bor d2436, .val v2474, .un] := by simp [h2480, e2493, e2498, e2501]
  obtain rfl := Option.some.inj h
  exact run_ret e2502 ⟨by simp [flR], by simp⟩
theorem tr_plain_copies (d2503 : D) (r : D) (h : p_plain_copies d2503 = some r) : evalD [.b] 0 m_plain_copies [.bor d2503] = some ((.pl (.val r)), [.bor d2503]) := by
  unfold p_plain_copies at h
  refine run_evalD (m := m_plain_copies) ?_
  show PL.Run m_plain_copies [.bor d2503] _
  unfold m_plain_copies
  obtain ⟨v2515, h2517, h⟩ := ob1 h
  have e2516 : (mRv (mPl (mIf (mB (mOp gEq (mVar 0) (mPl (mC (.int 0))))) (mC (.int 0)) (mC (.int 1))))) [.bor d2503] = .ok (.pl (.val v2515)) [.bor d2503] := by
    obtain ⟨v2511, h2512, h2517⟩ := ob1 h2517
    obtain ⟨b2513, h2514, h2517⟩ := ob1 h2517
    rcases b2513 with _ | _
    · rw [if_neg Bool.false_ne_true] at h2517
      obtain rfl := Option.some.inj h2517
      simp [h2512, h2514]
    · rw [if_pos rfl] at h2517
      obtain rfl := Option.some.inj h2517
      simp [h2512, h2514]
  obtain rfl := Option.some.inj h
  exact run_ret e2516 ⟨by simp [flR], by simp⟩
theorem tr_is_mark (d2518 : D) (r : D) (h : p_is_mark d2518 = some r) : evalD [.b] 0 m_is_mark [.bor d2518] = some ((.pl (.val r)), [.bor d2518]) := by
  unfold p_is_mark at h
  refine run_evalD (m := m_is_mark) ?_
  show PL.Run m_is_mark [.bor d2518] _
  unfold m_is_mark
  obtain ⟨b2565, h2567, h⟩ := ob1 h
  have e2566 : (mOr (mNot (mTr (mPl (mUn (gIsi ["tuple"]) (mVar 0))))) (mB (mOp gNe (mPl (mN gLen (mCons (mVar 0) mNil))) (mPl (mC (.int 2)))))) [.bor d2518] = .ok b2565 [.bor d2518] := by
    obtain ⟨v2555, h2556, h2567⟩ := ob1 h2567
    obtain ⟨b2557, h2558, h2567⟩ := ob1 h2567
    rcases b2557 with _ | _
    · rw [if_neg Bool.false_ne_true] at h2567
      obtain rfl := Option.some.inj h2567
      simp [h2556, h2558]
    · rw [if_pos rfl] at h2567
      obtain ⟨v2559, h2560, h2567⟩ := ob1 h2567
      obtain ⟨v2561, h2562, h2567⟩ := ob1 h2567
      obtain ⟨b2563, h2564, h2567⟩ := ob1 h2567
      obtain rfl := Option.some.inj h2567
      simp [h2556, h2558, h2560, h2562, h2564]
  rcases b2565 with _ | _
  · rw [if_neg Bool.false_ne_true] at h
    refine run_seq_if_f e2566 ?_
    refine run_seq_skip ?_
    obtain ⟨v2588, h2590, h⟩ := ob1 h
    have e2589 : (mRv (mPl (mAndV (mFz (mCall [.b] 0 m_is_number (mCons (mPl (mOp gIx (mVar 0) (mPl (mC (.int 0))))) mNil))) (mAndV (mFz (mCall [.b] 0 m_is_number (mCons (mPl (mOp gIx (mVar 0) (mPl (mC (.int 1))))) mNil))) (mOp gNe (mPl (mOp gIx (mVar 0) (mPl (mC (.int 1))))) (mPl (mFz (mCall [.b] 0 m_plain_copies (mCons (mPl (mOp gIx (mVar 0) (mPl (mC (.int 0))))) mNil))))))))) [.bor d2518] = .ok (.pl (.val v2588)) [.bor d2518] := by
      obtain ⟨v2569, h2570, h2590⟩ := ob1 h2590
      obtain ⟨v2571, h2572, h2590⟩ := ob1 h2590
      have e2573 := tr_is_number v2569 _ h2572
      obtain ⟨b2574, h2575, h2590⟩ := ob1 h2590
      rcases b2574 with _ | _
      · rw [if_neg Bool.false_ne_true] at h2590
        obtain rfl := Option.some.inj h2590
        simp [h2570, e2573, h2575]
      · rw [if_pos rfl] at h2590
        obtain ⟨v2576, h2577, h2590⟩ := ob1 h2590
        obtain ⟨v2578, h2579, h2590⟩ := ob1 h2590
        have e2580 := tr_is_number v2576 _ h2579
        obtain ⟨b2581, h2582, h2590⟩ := ob1 h2590
        rcases b2581 with _ | _
        · rw [if_neg Bool.false_ne_true] at h2590
          obtain rfl := Option.some.inj h2590
          simp [h2570, e2573, h2575, h2577, e2580, h2582]
        · rw [if_pos rfl] at h2590
          obtain ⟨v2583, h2584, h2590⟩ := ob1 h2590
          have e2585 := tr_plain_copies v2569 _ h2584
          obtain ⟨v2586, h2587, h2590⟩ := ob1 h2590
          obtain rfl := Option.some.inj h2590
          simp [h2570, e2573, h2575, h2577, e2580, h2582, e2585, h2587]
    obtain rfl := Option.some.inj h
    exact run_ret e2589 ⟨by simp [flR], by simp⟩
  · rw [if_pos rfl] at h
    refine run_seq_if_t e2566 ?_
    have e2568 : (mRv (mPl (mC (.bool false)))) [.bor d2518] = .ok (.pl (.val (.bool false))) [.bor d2518] := by simp []
    obtain rfl := Option.some.inj h
    exact run_seq_ret e2568 ⟨by simp [flR], by simp⟩
theorem tc_is_shelf_1 (d2591 : D) (x2666 : D) (y : D) (h : p_is_shelf_c1 x2666 = some y) : ∃ ρ1 ρ2 ρ3, (tName 1) x2666 [.bor d2591, .un, .un] = .ok () ρ1 ∧ mYes ρ1 = .ok true ρ2 ∧ (mFz (mCall [.b] 0 m_is_mark (mCons (mVar 1) mNil))) ρ2 = .ok y ρ3 ∧ (fun (ρ : PL.Env) => ρ = [.bor d2591, .un, .un]) (wipeE ρ3 [1]) := by
  unfold p_is_shelf_c1 at h
  obtain ⟨v2667, h2668, h⟩ := ob1 h
  have e2669 := tr_is_mark x2666 _ h2668
  obtain rfl := Option.some.inj h
  exact ⟨[.bor d2591, .val x2666, .un], [.bor d2591, .val x2666, .un], [.bor d2591, .val x2666, .un], by simp [e2669], by simp [e2669], by simp [e2669], by simp⟩
theorem tc_is_shelf_2 (d2591 : D) (x2700 : D) (y : D) (h : p_is_shelf_c2 x2700 = some y) : ∃ ρ1 ρ2 ρ3, (tTupl (tsCons (tName 1) (tsCons (tName 2) tsNil))) x2700 [.bor d2591, .un, .un] = .ok () ρ1 ∧ mYes ρ1 = .ok true ρ2 ∧ (mOp gLt (mPl (mOp gIx (mVar 1) (mPl (mC (.int 0))))) (mPl (mOp gIx (mVar 2) (mPl (mC (.int 0)))))) ρ2 = .ok y ρ3 ∧ (fun (ρ : PL.Env) => ρ = [.bor d2591, .un, .un]) (wipeE ρ3 [1, 2]) := by
  unfold p_is_shelf_c2 at h
  obtain ⟨v2701, v2702, h2703, h⟩ := ob2 h
  obtain ⟨v2704, h2705, h⟩ := ob1 h
  obtain ⟨v2706, h2707, h⟩ := ob1 h
  obtain ⟨v2708, h2709, h⟩ := ob1 h
  obtain rfl := Option.some.inj h
  exact ⟨[.bor d2591, .val v2701, .val v2702], [.bor d2591, .val v2701, .val v2702], [.bor d2591, .val v2701, .val v2702], by simp [(tT2 h2703), h2705, h2707, h2709], by simp [(tT2 h2703), h2705, h2707, h2709], by simp [(tT2 h2703), h2705, h2707, h2709], by simp⟩
theorem tr_is_shelf (d2591 : D) (r : D) (h : p_is_shelf d2591 = some r) : evalD [.b] 2 m_is_shelf [.bor d2591] = some ((.pl (.val r)), [.bor d2591]) := by
  unfold p_is_shelf at h
  refine run_evalD (m := m_is_shelf) ?_
  show PL.Run m_is_shelf [.bor d2591, .un, .un] _
  unfold m_is_shelf
  obtain ⟨b2679, h2681, h⟩ := ob1 h
  have e2680 : (mOr (mNot (mTr (mPl (mUn (gIsi ["list"]) (mVar 0))))) (mNot (mTr (mPl (mN gAll (mCons (mPl (mFz (mLc (mIter (mVar 0)) (tName 1) [1] mYes (mFz (mCall [.b] 0 m_is_mark (mCons (mVar 1) mNil)))))) mNil)))))) [.bor d2591, .un, .un] = .ok b2679 [.bor d2591, .un, .un] := by
    obtain ⟨v2655, h2656, h2681⟩ := ob1 h2681
    obtain ⟨b2657, h2658, h2681⟩ := ob1 h2681
    rcases b2657 with _ | _
    · rw [if_neg Bool.false_ne_true] at h2681
      obtain rfl := Option.some.inj h2681
      simp [h2656, h2658]
    · rw [if_pos rfl] at h2681
      obtain ⟨q2659, x2660, h2661, h2681⟩ := ob2 h2681
      obtain ⟨x2670, h2671, h2681⟩ := ob1 h2681
      obtain ⟨r2673, e2672, r2674⟩ := mapT_run (fun (ρ : PL.Env) => ρ = [.bor d2591, .un, .un]) (fi := (mIter (mVar 0))) (t := (tName 1)) (vs := [1]) (c := mYes) (fe := (mFz (mCall [.b] 0 m_is_mark (mCons (mVar 1) mNil)))) (ρ0 := [.bor d2591, .un, .un]) (ρ1 := [.bor d2591, .un, .un]) (by simp [h2656, h2658, h2661]) (by simp) h2671 (fun x ρ y hi hf => by subst hi; exact tc_is_shelf_1 d2591 x y hf)
      subst r2674
      obtain ⟨v2675, h2676, h2681⟩ := ob1 h2681
      obtain ⟨b2677, h2678, h2681⟩ := ob1 h2681
      obtain rfl := Option.some.inj h2681
      simp [h2656, h2658, h2661, e2672, h2676, h2678]
  rcases b2679 with _ | _
  · rw [if_neg Bool.false_ne_true] at h
    refine run_seq_if_f e2680 ?_
    refine run_seq_skip ?_
    obtain ⟨i2683, h2684, h⟩ := ob1 h
    obtain ⟨v2685, h2686, h⟩ := ob1 h
    obtain ⟨x2687, h2688, h⟩ := ob1 h
    have e2689 := zipP_ok (f := (mVar 0)) (g := (mPl (mFz (mSlice (mVar 0) (some (mC (.int 1))) none)))) (ρ := [.bor d2591, .un, .un]) (ρ1 := [.bor d2591, .un, .un]) (ρ2 := [.bor d2591, .un, .un]) (p := (.slot 0)) (q := (.val v2685)) (d := d2591) (e := v2685) (by simp [h2684, (slF_eq h2686)]) (by simp [h2684, (slF_eq h2686)]) (by simp) (by simp) h2688
    obtain ⟨x2710, h2711, h⟩ := ob1 h
    obtain ⟨r2713, e2712, r2714⟩ := mapT_run (fun (ρ : PL.Env) => ρ = [.bor d2591, .un, .un]) (fi := (mZip (mVar 0) (mPl (mFz (mSlice (mVar 0) (some (mC (.int 1))) none))))) (t := (tTupl (tsCons (tName 1) (tsCons (tName 2) tsNil)))) (vs := [1, 2]) (c := mYes) (fe := (mOp gLt (mPl (mOp gIx (mVar 1) (mPl (mC (.int 0))))) (mPl (mOp gIx (mVar 2) (mPl (mC (.int 0))))))) (ρ0 := [.bor d2591, .un, .un]) (ρ1 := [.bor d2591, .un, .un]) (by simp [h2684, (slF_eq h2686), e2689]) (by simp) h2711 (fun x ρ y hi hf => by subst hi; exact tc_is_shelf_2 d2591 x y hf)
    subst r2714
    obtain ⟨v2715, h2716, h⟩ := ob1 h
    have e2717 : (mRv (mPl (mN gAll (mCons (mPl (mFz (mLc (mZip (mVar 0) (mPl (mFz (mSlice (mVar 0) (some (mC (.int 1))) none)))) (tTupl (tsCons (tName 1) (tsCons (tName 2) tsNil))) [1, 2] mYes (mOp gLt (mPl (mOp gIx (mVar 1) (mPl (mC (.int 0))))) (mPl (mOp gIx (mVar 2) (mPl (mC (.int 0))))))))) mNil)))) [.bor d2591, .un, .un] = .ok (.pl (.val v2715)) [.bor d2591, .un, .un] := by simp [h2684, (slF_eq h2686), e2689, e2712, h2716]
    obtain rfl := Option.some.inj h
    exact run_ret e2717 ⟨by simp [flR], by simp⟩
  · rw [if_pos rfl] at h
    refine run_seq_if_t e2680 ?_
    have e2682 : (mRv (mPl (mC (.bool false)))) [.bor d2591, .un, .un] = .ok (.pl (.val (.bool false))) [.bor d2591, .un, .un] := by simp []
    obtain rfl := Option.some.inj h
    exact run_seq_ret e2682 ⟨by simp [flR], by simp⟩
theorem tr_need_shelf (d2718 : D) (r : D) (h : p_need_shelf d2718 = some r) : evalD [.b] 0 m_need_shelf [.bor d2718] = some ((.pl (.val r)), [.bor d2718]) := by
  unfold p_need_shelf at h
  refine run_evalD (m := m_need_shelf) ?_
  show PL.Run m_need_shelf [.bor d2718] _
  unfold m_need_shelf
  obtain ⟨v2725, h2726, h⟩ := ob1 h
  have e2727 := tr_is_shelf d2718 _ h2726
  obtain ⟨b2728, h2729, h⟩ := ob1 h
  have e2730 : (mNot (mTr (mPl (mFz (mCall [.b] 2 m_is_shelf (mCons (mVar 0) mNil)))))) [.bor d2718] = .ok (!b2728) [.bor d2718] := by simp [e2727, h2729]
  rcases b2728 with _ | _
  · rw [if_neg Bool.false_ne_true] at h
    refine run_if_t e2730 ?_
    exact nomatch h
  · rw [if_pos rfl] at h
    refine run_if_f e2730 ?_
    obtain rfl := Option.some.inj h
    exact run_end (m := mSkip) (fl := .nx) rfl ⟨by simp [flR], by simp⟩
theorem tr_need_book (d2731 : D) (d2732 : D) (r : D) (h : p_need_book d2731 d2732 = some r) : evalD [.b, .b] 0 m_need_book [.bor d2731, .bor d2732] = some ((.pl (.val r)), [.bor d2731, .bor d2732]) := by
  unfold p_need_book at h
  refine run_evalD (m := m_need_book) ?_
  show PL.Run m_need_book [.bor d2731, .bor d2732] _
  unfold m_need_book
  obtain ⟨b2754, h2756, h⟩ := ob1 h
  have e2755 : (mOr (mNot (mTr (mPl (mFz (mCall [.b] 0 m_is_number (mCons (mVar 0) mNil)))))) (mB (mOp gLt (mVar 0) (mVar 1)))) [.bor d2731, .bor d2732] = .ok b2754 [.bor d2731, .bor d2732] := by
    obtain ⟨v2745, h2746, h2756⟩ := ob1 h2756
    have e2747 := tr_is_number d2731 _ h2746
    obtain ⟨b2748, h2749, h2756⟩ := ob1 h2756
    rcases b2748 with _ | _
    · rw [if_neg Bool.false_ne_true] at h2756
      obtain rfl := Option.some.inj h2756
      simp [e2747, h2749]
    · rw [if_pos rfl] at h2756
      obtain ⟨v2750, h2751, h2756⟩ := ob1 h2756
      obtain ⟨b2752, h2753, h2756⟩ := ob1 h2756
      obtain rfl := Option.some.inj h2756
      simp [e2747, h2749, h2751, h2753]
  rcases b2754 with _ | _
  · rw [if_neg Bool.false_ne_true] at h
    refine run_if_f e2755 ?_
    obtain rfl := Option.some.inj h
    exact run_end (m := mSkip) (fl := .nx) rfl ⟨by simp [flR], by simp⟩
  · rw [if_pos rfl] at h
    refine run_if_t e2755 ?_
    exact nomatch h
theorem tb_find_book_1 (d2757 : D) (d2758 : D) (x2949 : D) (v2911 : D) (j2912 : Sl) (j2913 : Sl) (o : Ct (D) (D)) (h : p_find_book_b1 d2758 x2949 v2911 = some o) : ∃ ρ1, (tTupl (tsCons (tName 3) (tsCons (tName 4) tsNil))) x2949 [.bor d2757, .bor d2758, .val v2911, j2912, j2913] = .ok () ρ1 ∧ PL.Run mb_find_book_1 ρ1 ((ctQ (fun (s : D) (ρ : PL.Env) => ∃ (j2912 : Sl) (j2913 : Sl), ρ = [.bor d2757, .bor d2758, .val s, j2912, j2913]) (fun (r : D) fl ρ' => flR fl ρ' = some (.pl (.val r)) ∧ ρ'.take 2 = [.bor d2757, .bor d2758]) o)) := by
  unfold p_find_book_b1 at h
  obtain ⟨v2950, v2951, h2952, h⟩ := ob2 h
  refine ⟨[.bor d2757, .bor d2758, .val v2911, .val v2950, .val v2951], by simp [(tT2 h2952)], ?_⟩
  unfold mb_find_book_1
  obtain ⟨v2953, h2954, h⟩ := ob1 h
  obtain ⟨v2955, h2956, h⟩ := ob1 h
  obtain ⟨v2957, h2958, h⟩ := ob1 h
  obtain ⟨b2959, h2960, h⟩ := ob1 h
  have e2961 : (mB (mOp gLe (mVar 1) (mPl (mFz (mOpX gAdd (mPl (mOp gSub' (mVar 3) (mPl (mC (.int 1))))) (mVar 2)))))) [.bor d2757, .bor d2758, .val v2911, .val v2950, .val v2951] = .ok b2959 [.bor d2757, .bor d2758, .val v2911, .val v2950, .val v2951] := by simp [h2954, (addV_eq h2956), h2958, h2960]
  rcases b2959 with _ | _
  · rw [if_neg Bool.false_ne_true] at h
    refine run_seq_if_f e2961 ?_
    refine run_seq_skip ?_
    obtain ⟨v2965, h2966, h⟩ := ob1 h
    have e2967 := tr_plain_copies v2950 _ h2966
    obtain ⟨v2968, h2969, h⟩ := ob1 h
    obtain ⟨v2970, h2971, h⟩ := ob1 h
    have e2972 : (mAug 2 gAddI (mPl (mOp gSub' (mVar 4) (mPl (mFz (mCall [.b] 0 m_plain_copies (mCons (mVar 3) mNil))))))) [.bor d2757, .bor d2758, .val v2911, .val v2950, .val v2951] = .ok .nx [.bor d2757, .bor d2758, .val v2970, .val v2950, .val v2951] := by simp [e2967, h2969, h2971]
    refine run_seq e2972 ?_
    obtain ⟨v2973, h2974, h⟩ := ob1 h
    obtain ⟨v2975, h2976, h⟩ := ob1 h
    obtain ⟨b2977, h2978, h⟩ := ob1 h
    have e2979 : (mB (mOp gLe (mVar 1) (mPl (mFz (mOpX gAdd (mVar 3) (mVar 2)))))) [.bor d2757, .bor d2758, .val v2970, .val v2950, .val v2951] = .ok b2977 [.bor d2757, .bor d2758, .val v2970, .val v2950, .val v2951] := by simp [(addV_eq h2974), h2976, h2978]
    rcases b2977 with _ | _
    · rw [if_neg Bool.false_ne_true] at h
      refine run_if_f e2979 ?_
      obtain rfl := Option.some.inj h
      exact run_end (m := mSkip) (fl := .nx) rfl ⟨.inl rfl, .val v2950, .val v2951, rfl⟩
    · rw [if_pos rfl] at h
      refine run_if_t e2979 ?_
      have e2980 : (mRv (mVar 3)) [.bor d2757, .bor d2758, .val v2970, .val v2950, .val v2951] = .ok (.pl (.val v2950)) [.bor d2757, .bor d2758, .val v2970, .val v2950, .val v2951] := by simp []
      obtain rfl := Option.some.inj h
      exact run_ret e2980 ⟨trivial, ⟨by simp [flR], by simp⟩⟩
  · rw [if_pos rfl] at h
    refine run_seq_if_t e2961 ?_
    obtain ⟨v2962, h2963, h⟩ := ob1 h
    have e2964 : (mRv (mPl (mOp gSub' (mVar 1) (mVar 2)))) [.bor d2757, .bor d2758, .val v2911, .val v2950, .val v2951] = .ok (.pl (.val v2962)) [.bor d2757, .bor d2758, .val v2911, .val v2950, .val v2951] := by simp [h2963]
    obtain rfl := Option.some.inj h
    exact run_seq_ret e2964 ⟨trivial, ⟨by simp [flR], by simp⟩⟩
theorem tr_find_book (d2757 : D) (d2758 : D) (r : D) (h : p_find_book d2757 d2758 = some r) : evalD [.b, .b] 3 m_find_book [.bor d2757, .bor d2758] = some ((.pl (.val r)), [.bor d2757, .bor d2758]) := by
  unfold p_find_book at h
  refine run_evalD (m := m_find_book) ?_
  show PL.Run m_find_book [.bor d2757, .bor d2758, .un, .un, .un] _
  unfold m_find_book
  have e2874 : (mSet 2 (mRv (mPl (mC (.int 0))))) [.bor d2757, .bor d2758, .un, .un, .un] = .ok .nx [.bor d2757, .bor d2758, .val (.int 0), .un, .un] := by simp []
  refine run_seq e2874 ?_
  obtain ⟨q2875, x2876, h2877, h⟩ := ob2 h
  have e2878 : (mIter (mVar 0)) [.bor d2757, .bor d2758, .val (.int 0), .un, .un] = .ok x2876 [.bor d2757, .bor d2758, .val (.int 0), .un, .un] := by simp [h2877]
  obtain ⟨o2989, h2984, h⟩ := obct1 h
  have e2985 := forP_run (fun (s : D) (ρ : PL.Env) => ∃ (j2912 : Sl) (j2913 : Sl), ρ = [.bor d2757, .bor d2758, .val s, j2912, j2913]) (fun (r : D) fl ρ' => flR fl ρ' = some (.pl (.val r)) ∧ ρ'.take 2 = [.bor d2757, .bor d2758]) (t := (tTupl (tsCons (tName 3) (tsCons (tName 4) tsNil)))) (b := mb_find_book_1) (fun x s ρ o hi hf => by obtain ⟨j2912, j2913, rfl⟩ := hi; exact tb_find_book_1 d2757 d2758 x s j2912 j2913 o hf) x2876 (.int 0) _ o2989 ⟨.un, .un, rfl⟩ h2984
  rcases h with ⟨r, rfl, h⟩ | ⟨v2981, rfl, h⟩
  · refine run_seq_ct (run_for e2878 e2985) (fun t fl ρ' ho hf hq => ?_) (fun s ρ' ho hi => nomatch ho)
    cases ho
    cases h
    exact hq
  · refine run_seq_ct (run_for e2878 e2985) (fun t fl ρ' ho hf hq => nomatch ho) (fun s ρ' ho hi => ?_)
    cases ho
    obtain ⟨j2982, j2983, rfl⟩ := hi
    obtain ⟨v2986, h2987, h⟩ := ob1 h
    have e2988 : (mRv (mPl (mOp gSub' (mVar 1) (mVar 2)))) [.bor d2757, .bor d2758, .val v2981, j2982, j2983] = .ok (.pl (.val v2986)) [.bor d2757, .bor d2758, .val v2981, j2982, j2983] := by simp [h2987]
    obtain rfl := Option.some.inj h
    exact run_ret e2988 ⟨by simp [flR], by simp⟩
theorem tc_count_to_1 (d2990 : D) (d2991 : D) (x3047 : D) (o : Option D) (h : p_count_to_c1 d2991 x3047 = some o) : ∃ ρ1 ρ2, (tTupl (tsCons (tName 2) (tsCons (tName 3) tsNil))) x3047 [.bor d2990, .bor d2991, .un, .un] = .ok () ρ1 ∧ lcQ (mB (mOp gLe (mVar 2) (mVar 1))) (mOp gSub' (mVar 3) (mPl (mFz (mCall [.b] 0 m_plain_copies (mCons (mVar 2) mNil))))) [2, 3] (fun (ρ : PL.Env) => ρ = [.bor d2990, .bor d2991, .un, .un]) ρ1 ρ2 o := by
  unfold p_count_to_c1 at h
  obtain ⟨v3048, v3049, h3050, h⟩ := ob2 h
  obtain ⟨v3051, h3052, h⟩ := ob1 h
  obtain ⟨b3053, h3054, h⟩ := ob1 h
  rcases b3053 with _ | _
  · rw [if_neg Bool.false_ne_true] at h
    obtain rfl := Option.some.inj h
    exact ⟨[.bor d2990, .bor d2991, .val v3048, .val v3049], [.bor d2990, .bor d2991, .val v3048, .val v3049], by simp [(tT2 h3050), h3052, h3054], by simp [(tT2 h3050), h3052, h3054], by simp⟩
  · rw [if_pos rfl] at h
    obtain ⟨v3055, h3056, h⟩ := ob1 h
    have e3057 := tr_plain_copies v3048 _ h3056
    obtain ⟨v3058, h3059, h⟩ := ob1 h
    obtain rfl := Option.some.inj h
    exact ⟨[.bor d2990, .bor d2991, .val v3048, .val v3049], [.bor d2990, .bor d2991, .val v3048, .val v3049], by simp [(tT2 h3050), h3052, h3054, e3057, h3059], [.bor d2990, .bor d2991, .val v3048, .val v3049], by simp [(tT2 h3050), h3052, h3054, e3057, h3059], by simp [(tT2 h3050), h3052, h3054, e3057, h3059], by simp⟩
theorem tr_count_to (d2990 : D) (d2991 : D) (r : D) (h : p_count_to d2990 d2991 = some r) : evalD [.b, .b] 2 m_count_to [.bor d2990, .bor d2991] = some ((.pl (.val r)), [.bor d2990, .bor d2991]) := by
  unfold p_count_to at h
  refine run_evalD (m := m_count_to) ?_
  show PL.Run m_count_to [.bor d2990, .bor d2991, .un, .un] _
  unfold m_count_to
  obtain ⟨q3031, x3032, h3033, h⟩ := ob2 h
  obtain ⟨x3060, h3061, h⟩ := ob1 h
  obtain ⟨r3063, e3062, r3064⟩ := filT_run (fun (ρ : PL.Env) => ρ = [.bor d2990, .bor d2991, .un, .un]) (fi := (mIter (mVar 0))) (t := (tTupl (tsCons (tName 2) (tsCons (tName 3) tsNil)))) (vs := [2, 3]) (c := (mB (mOp gLe (mVar 2) (mVar 1)))) (fe := (mOp gSub' (mVar 3) (mPl (mFz (mCall [.b] 0 m_plain_copies (mCons (mVar 2) mNil)))))) (ρ0 := [.bor d2990, .bor d2991, .un, .un]) (ρ1 := [.bor d2990, .bor d2991, .un, .un]) (by simp [h3033]) (by simp) h3061 (fun x ρ o hi hf => by subst hi; exact tc_count_to_1 d2990 d2991 x o hf)
  subst r3064
  obtain ⟨v3065, h3066, h⟩ := ob1 h
  obtain ⟨v3067, h3068, h⟩ := ob1 h
  have e3069 : (mOpX gAdd (mVar 1) (mPl (mN gSum (mCons (mPl (mFz (mLc (mIter (mVar 0)) (tTupl (tsCons (tName 2) (tsCons (tName 3) tsNil))) [2, 3] (mB (mOp gLe (mVar 2) (mVar 1))) (mOp gSub' (mVar 3) (mPl (mFz (mCall [.b] 0 m_plain_copies (mCons (mVar 2) mNil)))))))) mNil)))) [.bor d2990, .bor d2991, .un, .un] = .ok (.pl (.val v3067)) [.bor d2990, .bor d2991, .un, .un] := by simp [h3033, e3062, h3066, (addV_eq h3068)]
  obtain rfl := Option.some.inj h
  exact run_ret e3069 ⟨by simp [flR], by simp⟩
theorem tr_book (d3070 : D) (d3071 : D) (r : D) (h : p_book d3070 d3071 = some r) : evalD [.b, .b] 0 m_book [.bor d3070, .bor d3071] = some ((.pl (.val r)), [.bor d3070, .bor d3071]) := by
  unfold p_book at h
  refine run_evalD (m := m_book) ?_
  show PL.Run m_book [.bor d3070, .bor d3071] _
  unfold m_book
  obtain ⟨v3084, h3085, h⟩ := ob1 h
  have e3086 := tr_need_shelf d3070 _ h3085
  have e3087 : (mDrop (mFz (mCall [.b] 0 m_need_shelf (mCons (mVar 0) mNil)))) [.bor d3070, .bor d3071] = .ok .nx [.bor d3070, .bor d3071] := by simp [e3086]
  refine run_seq e3087 ?_
  obtain ⟨v3088, h3089, h⟩ := ob1 h
  have e3090 := tr_need_book d3071 (.int 0) _ h3089
  have e3091 : (mDrop (mFz (mCall [.b, .b] 0 m_need_book (mCons (mVar 1) (mCons (mPl (mC (.int 0))) mNil))))) [.bor d3070, .bor d3071] = .ok .nx [.bor d3070, .bor d3071] := by simp [e3090]
  refine run_seq e3091 ?_
  obtain ⟨v3092, h3093, h⟩ := ob1 h
  have e3094 := tr_find_book d3070 d3071 _ h3093
  have e3095 : (mCall [.b, .b] 3 m_find_book (mCons (mVar 0) (mCons (mVar 1) mNil))) [.bor d3070, .bor d3071] = .ok (.pl (.val v3092)) [.bor d3070, .bor d3071] := by simp [e3094]
  obtain rfl := Option.some.inj h
  exact run_ret e3095 ⟨by simp [flR], by simp⟩
theorem tr_books_to (d3096 : D) (d3097 : D) (r : D) (h : p_books_to d3096 d3097 = some r) : evalD [.b, .b] 0 m_books_to [.bor d3096, .bor d3097] = some ((.pl (.val r)), [.bor d3096, .bor d3097]) := by
  unfold p_books_to at h
  refine run_evalD (m := m_books_to) ?_
  show PL.Run m_books_to [.bor d3096, .bor d3097] _
  unfold m_books_to
  obtain ⟨v3110, h3111, h⟩ := ob1 h
  have e3112 := tr_need_shelf d3096 _ h3111
  have e3113 : (mDrop (mFz (mCall [.b] 0 m_need_shelf (mCons (mVar 0) mNil)))) [.bor d3096, .bor d3097] = .ok .nx [.bor d3096, .bor d3097] := by simp [e3112]
  refine run_seq e3113 ?_
  obtain ⟨v3114, h3115, h⟩ := ob1 h
  have e3116 := tr_need_number d3097 _ h3115
  have e3117 : (mDrop (mFz (mCall [.b] 0 m_need_number (mCons (mVar 1) mNil)))) [.bor d3096, .bor d3097] = .ok .nx [.bor d3096, .bor d3097] := by simp [e3116]
  refine run_seq e3117 ?_
  obtain ⟨v3118, h3119, h⟩ := ob1 h
  have e3120 := tr_count_to d3096 d3097 _ h3119
  have e3121 : (mCall [.b, .b] 2 m_count_to (mCons (mVar 0) (mCons (mVar 1) mNil))) [.bor d3096, .bor d3097] = .ok (.pl (.val v3118)) [.bor d3096, .bor d3097] := by simp [e3120]
  obtain rfl := Option.some.inj h
  exact run_ret e3121 ⟨by simp [flR], by simp⟩
theorem tb_shelf_by_1 (d3122 : D) (x3306 : D) (v3270 : D) (v3271 : D) (j3272 : Sl) (j3273 : Sl) (s0 : D × D) (h : p_shelf_by_b1 x3306 v3270 v3271 = some s0) : ∃ ρ1, (tTupl (tsCons (tName 3) (tsCons (tName 4) tsNil))) x3306 [.bor d3122, .own v3270, .val v3271, j3272, j3273] = .ok () ρ1 ∧ PL.Run mb_shelf_by_1 ρ1 (fun fl ρ' => (fl = .nx ∨ fl = .ct) ∧ (fun (s : D × D) (ρ : PL.Env) => ∃ (j3272 : Sl) (j3273 : Sl), ρ = [.bor d3122, .own s.1, .val s.2, j3272, j3273]) s0 ρ') := by
  unfold p_shelf_by_b1 at h
  obtain ⟨v3307, v3308, h3309, h⟩ := ob2 h
  refine ⟨[.bor d3122, .own v3270, .val v3271, .val v3307, .val v3308], by simp [(tT2 h3309)], ?_⟩
  unfold mb_shelf_by_1
  obtain ⟨v3332, h3314, h⟩ := ob1 h
  have e3315 : PL.Run (mIf (mB (mOp gNe (mVar 4) (mVar 2))) (mDrop (mMut 1 gAppend (mCons (mTup (mCons (mFz (mRv (mVar 3))) (mCons (mOp gSub' (mPl (mFz (mOpX gAdd (mPl (mFz (mCall [.b] 0 m_plain_copies (mCons (mVar 3) mNil)))) (mVar 4)))) (mVar 2)) mNil))) mNil))) mSkip) [.bor d3122, .own v3270, .val v3271, .val v3307, .val v3308] fun fl ρ' => fl = .nx ∧ ρ' = [.bor d3122, .own v3332, .val v3271, .val v3307, .val v3308] := by
    obtain ⟨v3316, h3317, h3314⟩ := ob1 h3314
    obtain ⟨b3318, h3319, h3314⟩ := ob1 h3314
    have e3320 : (mB (mOp gNe (mVar 4) (mVar 2))) [.bor d3122, .own v3270, .val v3271, .val v3307, .val v3308] = .ok b3318 [.bor d3122, .own v3270, .val v3271, .val v3307, .val v3308] := by simp [h3317, h3319]
    rcases b3318 with _ | _
    · rw [if_neg Bool.false_ne_true] at h3314
      refine run_if_f e3320 ?_
      obtain rfl := Option.some.inj h3314
      exact run_end (m := mSkip) (fl := .nx) rfl ⟨rfl, rfl⟩
    · rw [if_pos rfl] at h3314
      refine run_if_t e3320 ?_
      obtain ⟨v3321, h3322, h3314⟩ := ob1 h3314
      have e3323 := tr_plain_copies v3307 _ h3322
      obtain ⟨v3324, h3325, h3314⟩ := ob1 h3314
      obtain ⟨v3326, h3327, h3314⟩ := ob1 h3314
      obtain ⟨v3328, v3329, h3330, h3314⟩ := ob2 h3314
      have e3331 : (mDrop (mMut 1 gAppend (mCons (mTup (mCons (mFz (mRv (mVar 3))) (mCons (mOp gSub' (mPl (mFz (mOpX gAdd (mPl (mFz (mCall [.b] 0 m_plain_copies (mCons (mVar 3) mNil)))) (mVar 4)))) (mVar 2)) mNil))) mNil))) [.bor d3122, .own v3270, .val v3271, .val v3307, .val v3308] = .ok .nx [.bor d3122, .own v3328, .val v3271, .val v3307, .val v3308] := by simp [e3323, (addV_eq h3325), h3327, h3330, (mutP_lst h3330)]
      obtain rfl := Option.some.inj h3314
      exact run_end e3331 ⟨rfl, rfl⟩
  obtain ⟨_, _, e3315, rfl, rfl⟩ := e3315
  refine run_seq e3315 ?_
  have e3333 : (mSet 2 (mRv (mPl (mFz (mRv (mVar 4)))))) [.bor d3122, .own v3332, .val v3271, .val v3307, .val v3308] = .ok .nx [.bor d3122, .own v3332, .val v3308, .val v3307, .val v3308] := by simp []
  obtain rfl := Option.some.inj h
  exact run_end e3333 ⟨.inl rfl, .val v3307, .val v3308, rfl⟩
theorem tr_shelf_by (d3122 : D) (r : D) (h : p_shelf_by d3122 = some r) : evalD [.b] 4 m_shelf_by [.bor d3122] = some ((.fr r), [.bor d3122]) := by
  unfold p_shelf_by at h
  refine run_evalD (m := m_shelf_by) ?_
  show PL.Run m_shelf_by [.bor d3122, .un, .un, .un, .un] _
  unfold m_shelf_by
  obtain ⟨v3232, h3233, h⟩ := ob1 h
  have e3234 := tr_need_rows_table d3122 _ h3233
  have e3235 : (mDrop (mFz (mCall [.b] 0 m_need_rows_table (mCons (mVar 0) mNil)))) [.bor d3122, .un, .un, .un, .un] = .ok .nx [.bor d3122, .un, .un, .un, .un] := by simp [e3234]
  refine run_seq e3235 ?_
  have e3236 : (mSet 1 (mLst mNil)) [.bor d3122, .un, .un, .un, .un] = .ok .nx [.bor d3122, .own (.list []), .un, .un, .un] := by simp []
  refine run_seq e3236 ?_
  have e3237 : (mSet 2 (mRv (mPl (mC (.int 0))))) [.bor d3122, .own (.list []), .un, .un, .un] = .ok .nx [.bor d3122, .own (.list []), .val (.int 0), .un, .un] := by simp []
  refine run_seq e3237 ?_
  obtain ⟨q3238, x3239, h3240, h⟩ := ob2 h
  have e3241 : (mIter (mVar 0)) [.bor d3122, .own (.list []), .val (.int 0), .un, .un] = .ok x3239 [.bor d3122, .own (.list []), .val (.int 0), .un, .un] := by simp [h3240]
  obtain ⟨v3334, v3335, h3338, h⟩ := ob2 h
  obtain ⟨_, e3339, j3336, j3337, rfl⟩ := run_for_nx e3241 (foldP_run (fun (s : D × D) (ρ : PL.Env) => ∃ (j3272 : Sl) (j3273 : Sl), ρ = [.bor d3122, .own s.1, .val s.2, j3272, j3273]) (t := (tTupl (tsCons (tName 3) (tsCons (tName 4) tsNil)))) (b := mb_shelf_by_1) (fun x s ρ s0 hi hf => by obtain ⟨j3272, j3273, rfl⟩ := hi; exact tb_shelf_by_1 d3122 x s.1 s.2 j3272 j3273 s0 hf) x3239 ((PyData.list []), (PyData.int 0)) _ (v3334, v3335) ⟨.un, .un, rfl⟩ h3338)
  refine run_seq e3339 ?_
  have e3340 : (mRv (mVar 1)) [.bor d3122, .own v3334, .val v3335, j3336, j3337] = .ok (.pl (.slot 1)) [.bor d3122, .own v3334, .val v3335, j3336, j3337] := by simp []
  obtain rfl := Option.some.inj h
  exact run_ret e3340 ⟨by simp [flR], by simp⟩
theorem tr_shelf_of (d3341 : D) (r : D) (h : p_shelf_of d3341 = some r) : evalD [.b] 0 m_shelf_of [.bor d3341] = some ((.fr r), [.bor d3341]) := by
  unfold p_shelf_of at h
  refine run_evalD (m := m_shelf_of) ?_
  show PL.Run m_shelf_of [.bor d3341] _
  unfold m_shelf_of
  obtain ⟨v3349, h3350, h⟩ := ob1 h
  have e3351 := tr_table_of d3341 _ h3350
  obtain ⟨v3352, h3353, h⟩ := ob1 h
  have e3354 := tr_shelf_by v3349 _ h3353
  have e3355 : (mCall [.b] 4 m_shelf_by (mCons (mPl (mFz (mCall [.b] 2 m_table_of (mCons (mVar 0) mNil)))) mNil)) [.bor d3341] = .ok (.fr v3352) [.bor d3341] := by simp [e3351, e3354]
  obtain rfl := Option.some.inj h
  exact run_ret e3355 ⟨by simp [flR], by simp⟩
theorem tr_l_jar (d3356 : List Int) (d3357 : D) (r : D) (h : p_l_jar d3356 d3357 = some r) : evalD [.s, .b] 1 m_l_jar [.scr d3356, .bor d3357] = some ((.fr r), [.scr d3356, .bor d3357]) := by
  unfold p_l_jar at h
  refine run_evalD (m := m_l_jar) ?_
  show PL.Run m_l_jar [.scr d3356, .bor d3357, .un] _
  unfold m_l_jar
  obtain ⟨v3394, h3396, h⟩ := ob1 h
  have e3395 : (mSet 2 (mRv (mPl (mIf (mB (mOp gLt (mVar 1) (mPl (mLenS 0)))) (mIxS 0 (mFz (mRv (mVar 1)))) (mC (.int 0)))))) [.scr d3356, .bor d3357, .un] = .ok .nx [.scr d3356, .bor d3357, .val v3394] := by
    obtain ⟨v3386, h3387, h3396⟩ := ob1 h3396
    obtain ⟨b3388, h3389, h3396⟩ := ob1 h3396
    rcases b3388 with _ | _
    · rw [if_neg Bool.false_ne_true] at h3396
      obtain rfl := Option.some.inj h3396
      simp [h3387, h3389]
    · rw [if_pos rfl] at h3396
      obtain ⟨u3390, h3391, h3396⟩ := ob1 h3396
      obtain ⟨v3392, h3393, h3396⟩ := ob1 h3396
      obtain rfl := Option.some.inj h3396
      simp [h3387, h3389, (atP_eq h3391), h3393, s_ixS]
  refine run_seq e3395 ?_
  obtain ⟨v3397, h3398, h⟩ := ob1 h
  obtain ⟨v3399, h3400, h⟩ := ob1 h
  obtain ⟨v3401, h3402, h⟩ := ob1 h
  obtain ⟨v3403, h3404, h⟩ := ob1 h
  obtain ⟨v3405, h3406, h⟩ := ob1 h
  obtain ⟨v3407, h3408, h⟩ := ob1 h
  obtain ⟨v3409, h3410, h⟩ := ob1 h
  obtain ⟨v3411, h3412, h⟩ := ob1 h
  have e3413 : (mLst (mCons (mN gMax2 (mCons (mPl (mC (.int 0))) (mCons (mPl (mOp gSub' (mVar 2) (mPl (mOp gPow (mPl (mC (.int 10))) (mPl (mC (.int 18))))))) mNil))) (mCons (mFz (mOpX gAdd (mPl (mFz (mOpX gMul (mPl (mOp gMod (mVar 2) (mPl (mFz (mOpX gAdd (mPl (mOp gPow (mPl (mC (.int 10))) (mPl (mC (.int 35))))) (mPl (mC (.int 69)))))))) (mPl (mC (.int 128)))))) (mVar 1))) (mCons (mC (.int 0)) mNil)))) [.scr d3356, .bor d3357, .val v3394] = .ok (.fr (.list [v3401, v3411, (.int 0)])) [.scr d3356, .bor d3357, .val v3394] := by simp [h3398, h3400, h3402, h3404, (addV_eq h3406), h3408, (mulV_eq h3410), (addV_eq h3412)]
  obtain rfl := Option.some.inj h
  exact run_ret e3413 ⟨by simp [flR], by simp⟩
theorem tr_l_pour (d3414 : D) (d3415 : D) (r : D) (v3544 : D) (h : p_l_pour d3414 d3415 = some (r, v3544)) : evalD [.io, .b] 2 m_l_pour [.io d3414, .bor d3415] = some ((.pl (.val r)), [.io v3544, .bor d3415]) := by
  unfold p_l_pour at h
  refine run_evalD (m := m_l_pour) ?_
  show PL.Run m_l_pour [.io d3414, .bor d3415, .un, .un] _
  unfold m_l_pour
  obtain ⟨v3480, h3481, h⟩ := ob1 h
  obtain ⟨v3482, h3483, h⟩ := ob1 h
  obtain ⟨b3484, h3485, h⟩ := ob1 h
  have e3486 : (mB (mOp gGt (mPl (mOp gIx (mVar 0) (mPl (mC (.int 0))))) (mPl (mC (.int 0))))) [.io d3414, .bor d3415, .un, .un] = .ok b3484 [.io d3414, .bor d3415, .un, .un] := by simp [h3481, h3483, h3485]
  rcases b3484 with _ | _
  · rw [if_neg Bool.false_ne_true] at h
    refine run_seq_if_f e3486 ?_
    refine run_seq_skip ?_
    obtain ⟨v3500, h3501, h⟩ := ob1 h
    obtain ⟨v3502, h3503, h⟩ := ob1 h
    obtain ⟨v3504, h3505, h⟩ := ob1 h
    have e3506 : (mSetIx 0 (mFz (mOpX gAdd (mPl (mOp gIx (mVar 0) (mPl (mC (.int 2))))) (mPl (mC (.int 1))))) (mC (.int 2))) [.io d3414, .bor d3415, .un, .un] = .ok .nx [.io v3504, .bor d3415, .un, .un] := by simp [h3501, (addV_eq h3503), h3505]
    refine run_seq e3506 ?_
    obtain ⟨v3507, h3508, h⟩ := ob1 h
    obtain ⟨v3509, h3510, h⟩ := ob1 h
    obtain ⟨v3511, h3512, h⟩ := ob1 h
    obtain ⟨v3513, h3514, h⟩ := ob1 h
    obtain ⟨v3515, h3516, h⟩ := ob1 h
    obtain ⟨v3517, h3518, h⟩ := ob1 h
    obtain ⟨v3519, h3520, h⟩ := ob1 h
    obtain ⟨v3521, h3522, h⟩ := ob1 h
    have e3523 : (mSet 3 (mRv (mPl (mOp gMod (mPl (mOp gPow (mPl (mFz (mOpX gAdd (mPl (mOp gIx (mVar 0) (mPl (mC (.int 1))))) (mPl (mFz (mOpX gMul (mPl (mC (.int 32452843))) (mPl (mOp gIx (mVar 0) (mPl (mC (.int 2))))))))))) (mPl (mC (.int 3))))) (mPl (mFz (mOpX gAdd (mPl (mOp gPow (mPl (mC (.int 10))) (mPl (mC (.int 37))))) (mPl (mC (.int 43)))))))))) [.io v3504, .bor d3415, .un, .un] = .ok .nx [.io v3504, .bor d3415, .un, .val v3521] := by simp [h3508, h3510, (mulV_eq h3512), (addV_eq h3514), h3516, h3518, (addV_eq h3520), h3522]
    refine run_seq e3523 ?_
    obtain ⟨v3524, h3525, h⟩ := ob1 h
    obtain ⟨v3526, h3527, h⟩ := ob1 h
    obtain ⟨v3528, h3529, h⟩ := ob1 h
    obtain ⟨v3530, h3531, h⟩ := ob1 h
    obtain ⟨v3532, h3533, h⟩ := ob1 h
    obtain ⟨v3534, h3535, h⟩ := ob1 h
    obtain ⟨v3536, h3537, h⟩ := ob1 h
    have e3538 : (mSet 3 (mRv (mPl (mOp gMod (mPl (mOp gPow (mPl (mFz (mOpX gAdd (mVar 3) (mPl (mFz (mOpX gMul (mPl (mC (.int 49979687))) (mPl (mOp gIx (mVar 0) (mPl (mC (.int 2))))))))))) (mPl (mC (.int 5))))) (mPl (mFz (mOpX gAdd (mPl (mOp gPow (mPl (mC (.int 10))) (mPl (mC (.int 39))))) (mPl (mC (.int 3)))))))))) [.io v3504, .bor d3415, .un, .val v3521] = .ok .nx [.io v3504, .bor d3415, .un, .val v3536] := by simp [h3525, (mulV_eq h3527), (addV_eq h3529), h3531, h3533, (addV_eq h3535), h3537]
    refine run_seq e3538 ?_
    obtain ⟨v3539, h3540, h⟩ := ob1 h
    obtain ⟨v3541, h3542, h⟩ := ob1 h
    have e3543 : (mRv (mPl (mOp gMod (mPl (mOp gDiv (mVar 3) (mPl (mC (.int 131071))))) (mVar 1)))) [.io v3504, .bor d3415, .un, .val v3536] = .ok (.pl (.val v3541)) [.io v3504, .bor d3415, .un, .val v3536] := by simp [h3540, h3542]
    obtain ⟨rfl, rfl⟩ := sinj2 h
    exact run_ret e3543 ⟨by simp [flR], by simp⟩
  · rw [if_pos rfl] at h
    refine run_seq_if_t e3486 ?_
    refine run_seq_assoc ?_
    obtain ⟨v3487, h3488, h⟩ := ob1 h
    obtain ⟨v3489, h3490, h⟩ := ob1 h
    have e3491 : (mSet 2 (mRv (mPl (mOp gMod (mPl (mOp gIx (mVar 0) (mPl (mC (.int 0))))) (mVar 1))))) [.io d3414, .bor d3415, .un, .un] = .ok .nx [.io d3414, .bor d3415, .val v3489, .un] := by simp [h3488, h3490]
    refine run_seq e3491 ?_
    refine run_seq_assoc ?_
    obtain ⟨v3492, h3493, h⟩ := ob1 h
    obtain ⟨v3494, h3495, h⟩ := ob1 h
    obtain ⟨v3496, h3497, h⟩ := ob1 h
    have e3498 : (mSetIx 0 (mOp gDiv (mPl (mOp gIx (mVar 0) (mPl (mC (.int 0))))) (mVar 1)) (mC (.int 0))) [.io d3414, .bor d3415, .val v3489, .un] = .ok .nx [.io v3496, .bor d3415, .val v3489, .un] := by simp [h3493, h3495, h3497]
    refine run_seq e3498 ?_
    have e3499 : (mRv (mVar 2)) [.io v3496, .bor d3415, .val v3489, .un] = .ok (.pl (.val v3489)) [.io v3496, .bor d3415, .val v3489, .un] := by simp []
    obtain ⟨rfl, rfl⟩ := sinj2 h
    exact run_seq_ret e3499 ⟨by simp [flR], by simp⟩
theorem tr_l_number (d3545 : D) (d3546 : D) (r : D) (v3585 : D) (h : p_l_number d3545 d3546 = some (r, v3585)) : evalD [.io, .b] 0 m_l_number [.io d3545, .bor d3546] = some ((.pl (.val r)), [.io v3585, .bor d3546]) := by
  unfold p_l_number at h
  refine run_evalD (m := m_l_number) ?_
  show PL.Run m_l_number [.io d3545, .bor d3546] _
  unfold m_l_number
  obtain ⟨v3566, v3567, h3568, h⟩ := ob2 h
  have e3569 := tr_l_pour d3545 (.int 3) _ _ h3568
  obtain ⟨v3570, v3571, h3572, h⟩ := ob2 h
  have e3573 := tr_l_pour v3567 (.int 9) _ _ h3572
  obtain ⟨v3574, v3575, h3576, h⟩ := ob2 h
  have e3577 := tr_l_pour v3571 d3546 _ _ h3576
  obtain ⟨v3578, v3579, h3580, h⟩ := ob2 h
  have e3581 := tr_l_pour v3575 (.int 3) _ _ h3580
  obtain ⟨v3582, h3583, h⟩ := ob1 h
  have e3584 : (mRv (mPl (mOp gIx (mPl (mFz (mLst (mCons (mFz (mCall [.io, .b] 2 m_l_pour (mCons (mVar 0) (mCons (mPl (mC (.int 3))) mNil)))) (mCons (mFz (mCall [.io, .b] 2 m_l_pour (mCons (mVar 0) (mCons (mPl (mC (.int 9))) mNil)))) (mCons (mFz (mCall [.io, .b] 2 m_l_pour (mCons (mVar 0) (mCons (mVar 1) mNil)))) mNil)))))) (mPl (mFz (mCall [.io, .b] 2 m_l_pour (mCons (mVar 0) (mCons (mPl (mC (.int 3))) mNil)))))))) [.io d3545, .bor d3546] = .ok (.pl (.val v3582)) [.io v3579, .bor d3546] := by simp [e3569, e3573, e3577, e3581, h3583]
  obtain ⟨rfl, rfl⟩ := sinj2 h
  exact run_ret e3584 ⟨by simp [flR], by simp⟩
theorem tr_l_saying (d3586 : D) (d3587 : D) (r : D) (v3626 : D) (h : p_l_saying d3586 d3587 = some (r, v3626)) : evalD [.io, .b] 2 m_l_saying [.io d3586, .bor d3587] = some ((.pl (.val r)), [.io v3626, .bor d3587]) := by
  unfold p_l_saying at h
  refine run_evalD (m := m_l_saying) ?_
  show PL.Run m_l_saying [.io d3586, .bor d3587, .un, .un] _
  unfold m_l_saying
  obtain ⟨v3607, v3608, h3609, h⟩ := ob2 h
  have e3610 := tr_l_number d3586 d3587 _ _ h3609
  have e3611 : (mSet 2 (mCall [.io, .b] 0 m_l_number (mCons (mVar 0) (mCons (mVar 1) mNil)))) [.io d3586, .bor d3587, .un, .un] = .ok .nx [.io v3608, .bor d3587, .val v3607, .un] := by simp [e3610]
  refine run_seq e3611 ?_
  obtain ⟨v3612, v3613, h3614, h⟩ := ob2 h
  have e3615 := tr_l_number v3608 d3587 _ _ h3614
  obtain ⟨v3616, h3617, h⟩ := ob1 h
  have e3618 : (mSet 3 (mOpX gAdd (mVar 2) (mPl (mFz (mCall [.io, .b] 0 m_l_number (mCons (mVar 0) (mCons (mVar 1) mNil))))))) [.io v3608, .bor d3587, .val v3607, .un] = .ok .nx [.io v3613, .bor d3587, .val v3607, .val v3616] := by simp [e3615, (addV_eq h3617)]
  refine run_seq e3618 ?_
  obtain ⟨v3619, v3620, h3621, h⟩ := ob2 h
  have e3622 := tr_l_pour v3613 (.int 5) _ _ h3621
  obtain ⟨v3623, h3624, h⟩ := ob1 h
  have e3625 : (mRv (mPl (mTup (mCons (mFz (mRv (mVar 2))) (mCons (mOp gIx (mPl (mFz (mLst (mCons (mFz (mRv (mVar 3))) (mCons (mFz (mRv (mVar 3))) (mCons (mFz (mRv (mVar 3))) (mCons (mFz (mRv (mVar 3))) (mCons (mC .none) mNil)))))))) (mPl (mFz (mCall [.io, .b] 2 m_l_pour (mCons (mVar 0) (mCons (mPl (mC (.int 5))) mNil)))))) mNil))))) [.io v3613, .bor d3587, .val v3607, .val v3616] = .ok (.pl (.val (.tuple [v3607, v3623]))) [.io v3620, .bor d3587, .val v3607, .val v3616] := by simp [e3622, h3624]
  obtain ⟨rfl, rfl⟩ := sinj2 h
  exact run_ret e3625 ⟨by simp [flR], by simp⟩
theorem tc_l_row_1 (d3628 : D) (d3629 : D) (x3682 : D) (v3675 : D) (o : Option D) (s' : D) (h : p_l_row_c1 d3629 x3682 v3675 = some (o, s')) : ∃ ρ1 ρ2, (tName 3) x3682 [.io v3675, .bor d3628, .bor d3629, .un] = .ok () ρ1 ∧ lcQ mYes (mFz (mCall [.io, .b] 2 m_l_saying (mCons (mVar 0) (mCons (mVar 2) mNil)))) [3] ((fun (s : D) (ρ : PL.Env) => ρ = [.io s, .bor d3628, .bor d3629, .un]) s') ρ1 ρ2 o := by
  unfold p_l_row_c1 at h
  obtain ⟨v3683, v3684, h3685, h⟩ := ob2 h
  have e3686 := tr_l_saying v3675 d3629 _ _ h3685
  obtain ⟨rfl, rfl⟩ := sinj2 h
  exact ⟨[.io v3675, .bor d3628, .bor d3629, .val x3682], [.io v3675, .bor d3628, .bor d3629, .val x3682], by simp [e3686], [.io v3684, .bor d3628, .bor d3629, .val x3682], by simp [e3686], by simp [e3686], by simp⟩
theorem tr_l_row (d3627 : D) (d3628 : D) (d3629 : D) (r : D) (v3694 : D) (h : p_l_row d3627 d3628 d3629 = some (r, v3694)) : evalD [.io, .b, .b] 1 m_l_row [.io d3627, .bor d3628, .bor d3629] = some ((.fr r), [.io v3694, .bor d3628, .bor d3629]) := by
  unfold p_l_row at h
  refine run_evalD (m := m_l_row) ?_
  show PL.Run m_l_row [.io d3627, .bor d3628, .bor d3629, .un] _
  unfold m_l_row
  obtain ⟨v3662, h3663, h⟩ := ob1 h
  obtain ⟨v3664, v3665, h3666, h⟩ := ob2 h
  have e3667 := tr_l_pour d3627 v3662 _ _ h3666
  obtain ⟨x3668, h3669, h⟩ := ob1 h
  obtain ⟨x3687, v3690, h3688, h⟩ := ob2 h
  obtain ⟨r3691, e3689, r3692⟩ := lcT_run (fun (s : D) (ρ : PL.Env) => ρ = [.io s, .bor d3628, .bor d3629, .un]) (fi := (mRng1 (mFz (mCall [.io, .b] 2 m_l_pour (mCons (mVar 0) (mCons (mPl (mFz (mOpX gAdd (mVar 1) (mPl (mC (.int 1)))))) mNil)))))) (t := (tName 3)) (vs := [3]) (c := mYes) (fe := (mFz (mCall [.io, .b] 2 m_l_saying (mCons (mVar 0) (mCons (mVar 2) mNil))))) (ρ0 := [.io d3627, .bor d3628, .bor d3629, .un]) (ρ1 := [.io v3665, .bor d3628, .bor d3629, .un]) (s := v3665) (by simp [(addV_eq h3663), e3667, h3669]) (by simp) h3688 (fun x s ρ o s' hi hf => by subst hi; exact tc_l_row_1 d3628 d3629 x s o s' hf)
  subst r3692
  have e3693 : (mLc (mRng1 (mFz (mCall [.io, .b] 2 m_l_pour (mCons (mVar 0) (mCons (mPl (mFz (mOpX gAdd (mVar 1) (mPl (mC (.int 1)))))) mNil))))) (tName 3) [3] mYes (mFz (mCall [.io, .b] 2 m_l_saying (mCons (mVar 0) (mCons (mVar 2) mNil))))) [.io d3627, .bor d3628, .bor d3629, .un] = .ok (.fr (.list x3687)) [.io v3690, .bor d3628, .bor d3629, .un] := by simp [(addV_eq h3663), e3667, h3669, e3689]
  obtain ⟨rfl, rfl⟩ := sinj2 h
  exact run_ret e3693 ⟨by simp [flR], by simp⟩
theorem tb_l_some_twice_1 (d3696 : D) (x3852 : D) (v3825 : D) (v3826 : D) (j3827 : Sl) (s0 : D × D) (h : p_l_some_twice_b1 d3696 x3852 v3825 v3826 = some s0) : ∃ ρ1, (tName 3) x3852 [.io v3825, .bor d3696, .own v3826, j3827] = .ok () ρ1 ∧ PL.Run mb_l_some_twice_1 ρ1 (fun fl ρ' => (fl = .nx ∨ fl = .ct) ∧ (fun (s : D × D) (ρ : PL.Env) => ∃ (j3827 : Sl), ρ = [.io s.1, .bor d3696, .own s.2, j3827]) s0 ρ') := by
  unfold p_l_some_twice_b1 at h
  refine ⟨[.io v3825, .bor d3696, .own v3826, .val x3852], by simp [], ?_⟩
  unfold mb_l_some_twice_1
  obtain ⟨v3853, h3854, h⟩ := ob1 h
  obtain ⟨v3855, h3856, h⟩ := ob1 h
  obtain ⟨v3857, v3858, h3859, h⟩ := ob2 h
  have e3860 := tr_l_pour v3825 v3855 _ _ h3859
  obtain ⟨v3861, h3862, h⟩ := ob1 h
  obtain ⟨v3863, v3864, h3865, h⟩ := ob2 h
  have e3866 := tr_l_pour v3858 v3861 _ _ h3865
  obtain ⟨v3867, h3868, h⟩ := ob1 h
  obtain ⟨v3869, v3870, h3871, h⟩ := ob2 h
  have e3872 : (mDrop (mMut 2 gInsert (mCons (mFz (mCall [.io, .b] 2 m_l_pour (mCons (mVar 0) (mCons (mPl (mFz (mOpX gAdd (mPl (mN gLen (mCons (mVar 2) mNil))) (mPl (mC (.int 1)))))) mNil)))) (mCons (mOp gIx (mVar 1) (mPl (mFz (mCall [.io, .b] 2 m_l_pour (mCons (mVar 0) (mCons (mPl (mN gLen (mCons (mVar 1) mNil))) mNil)))))) mNil)))) [.io v3825, .bor d3696, .own v3826, .val x3852] = .ok .nx [.io v3864, .bor d3696, .own v3869, .val x3852] := by simp [h3854, (addV_eq h3856), e3860, h3862, e3866, h3868, h3871, (mutP_lst h3871)]
  obtain rfl := Option.some.inj h
  exact run_end e3872 ⟨.inl rfl, .val x3852, rfl⟩
theorem tr_l_some_twice (d3695 : D) (d3696 : D) (r : D) (v3879 : D) (h : p_l_some_twice d3695 d3696 = some (r, v3879)) : evalD [.io, .b] 2 m_l_some_twice [.io d3695, .bor d3696] = some ((.fr r), [.io v3879, .bor d3696]) := by
  unfold p_l_some_twice at h
  refine run_evalD (m := m_l_some_twice) ?_
  show PL.Run m_l_some_twice [.io d3695, .bor d3696, .un, .un] _
  unfold m_l_some_twice
  obtain ⟨v3788, h3789, h⟩ := ob1 h
  have e3790 : (mSet 2 (mFr (mN gList (mCons (mVar 1) mNil)))) [.io d3695, .bor d3696, .un, .un] = .ok .nx [.io d3695, .bor d3696, .own v3788, .un] := by simp [h3789]
  refine run_seq e3790 ?_
  obtain ⟨v3791, v3792, h3793, h⟩ := ob2 h
  have e3794 := tr_l_pour d3695 (.int 4) _ _ h3793
  obtain ⟨v3795, h3796, h⟩ := ob1 h
  obtain ⟨v3797, h3798, h⟩ := ob1 h
  obtain ⟨v3799, h3800, h⟩ := ob1 h
  obtain ⟨x3801, h3802, h⟩ := ob1 h
  have e3803 : (mRng1 (mFz (mOpX gMul (mPl (mFz (mCall [.io, .b] 2 m_l_pour (mCons (mVar 0) (mCons (mPl (mC (.int 4))) mNil))))) (mPl (mN gInt1 (mCons (mPl (mOp gNe (mVar 1) (mPl (mFz (mLst mNil))))) mNil)))))) [.io d3695, .bor d3696, .own v3788, .un] = .ok x3801 [.io v3792, .bor d3696, .own v3788, .un] := by simp [e3794, h3796, h3798, (mulV_eq h3800), h3802]
  obtain ⟨v3873, v3874, h3876, h⟩ := ob2 h
  obtain ⟨_, e3877, j3875, rfl⟩ := run_for_nx e3803 (foldP_run (fun (s : D × D) (ρ : PL.Env) => ∃ (j3827 : Sl), ρ = [.io s.1, .bor d3696, .own s.2, j3827]) (t := (tName 3)) (b := mb_l_some_twice_1) (fun x s ρ s0 hi hf => by obtain ⟨j3827, rfl⟩ := hi; exact tb_l_some_twice_1 d3696 x s.1 s.2 j3827 s0 hf) x3801 (v3792, v3788) _ (v3873, v3874) ⟨.un, rfl⟩ h3876)
  refine run_seq e3877 ?_
  have e3878 : (mRv (mVar 2)) [.io v3873, .bor d3696, .own v3874, j3875] = .ok (.pl (.slot 2)) [.io v3873, .bor d3696, .own v3874, j3875] := by simp []
  obtain ⟨rfl, rfl⟩ := sinj2 h
  exact run_ret e3878 ⟨by simp [flR], by simp⟩
theorem tb_l_spots_1 (d3881 : D) (x4237 : D) (v4166 : D) (v4167 : D) (j4168 : Sl) (j4169 : Sl) (j4170 : Sl) (j4171 : Sl) (j4172 : Sl) (s0 : D × D) (h : p_l_spots_b1 d3881 x4237 v4166 v4167 = some s0) : ∃ ρ1, (tName 3) x4237 [.io v4166, .bor d3881, .own v4167, j4168, j4169, j4170, j4171, j4172] = .ok () ρ1 ∧ PL.Run mb_l_spots_1 ρ1 (fun fl ρ' => (fl = .nx ∨ fl = .ct) ∧ (fun (s : D × D) (ρ : PL.Env) => ∃ (j4168 : Sl) (j4169 : Sl) (j4170 : Sl) (j4171 : Sl) (j4172 : Sl), ρ = [.io s.1, .bor d3881, .own s.2, j4168, j4169, j4170, j4171, j4172]) s0 ρ') := by
  unfold p_l_spots_b1 at h
  refine ⟨[.io v4166, .bor d3881, .own v4167, .val x4237, j4169, j4170, j4171, j4172], by simp [], ?_⟩
  unfold mb_l_spots_1
  obtain ⟨v4238, h4239, h⟩ := ob1 h
  obtain ⟨v4240, v4241, h4242, h⟩ := ob2 h
  have e4243 := tr_l_pour v4166 v4238 _ _ h4242
  have e4244 : (mSet 4 (mCall [.io, .b] 2 m_l_pour (mCons (mVar 0) (mCons (mPl (mN gLen (mCons (mVar 1) mNil))) mNil)))) [.io v4166, .bor d3881, .own v4167, .val x4237, j4169, j4170, j4171, j4172] = .ok .nx [.io v4241, .bor d3881, .own v4167, .val x4237, .val v4240, j4170, j4171, j4172] := by simp [h4239, e4243]
  refine run_seq e4244 ?_
  obtain ⟨v4245, h4246, h⟩ := ob1 h
  obtain ⟨v4247, v4248, h4249, h⟩ := ob2 h
  have e4250 : (mAsg (tTupl (tsCons (tName 5) (tsCons (tName 6) tsNil))) (mOp gIx (mVar 1) (mVar 4))) [.io v4241, .bor d3881, .own v4167, .val x4237, .val v4240, j4170, j4171, j4172] = .ok .nx [.io v4241, .bor d3881, .own v4167, .val x4237, .val v4240, .val v4247, .val v4248, j4172] := by simp [h4246, (tT2 h4249)]
  refine run_seq e4250 ?_
  obtain ⟨v4271, v4272, h4274, h⟩ := ob2 h
  have e4273 : (mSet 7 (mRv (mPl (mOp gIx (mPl (mFz (mLst (mCons (mFz (mRv (mVar 5))) (mCons (mFz (mOpX gAdd (mVar 5) (mPl (mC (.int 1))))) (mCons (mIf (mB (mOp gIs (mVar 6) (mPl (mC .none)))) (mFz (mRv (mVar 5))) (mFz (mOpX gAdd (mVar 6) (mPl (mC (.int 1)))))) mNil)))))) (mPl (mFz (mCall [.io, .b] 2 m_l_pour (mCons (mVar 0) (mCons (mPl (mC (.int 3))) mNil))))))))) [.io v4241, .bor d3881, .own v4167, .val x4237, .val v4240, .val v4247, .val v4248, j4172] = .ok .nx [.io v4271, .bor d3881, .own v4167, .val x4237, .val v4240, .val v4247, .val v4248, .val v4272] := by
    obtain ⟨v4251, h4252, h4274⟩ := ob1 h4274
    obtain ⟨v4253, h4254, h4274⟩ := ob1 h4274
    obtain ⟨b4255, h4256, h4274⟩ := ob1 h4274
    rcases b4255 with _ | _
    · rw [if_neg Bool.false_ne_true] at h4274
      obtain ⟨v4263, h4264, h4274⟩ := ob1 h4274
      obtain ⟨v4265, v4266, h4267, h4274⟩ := ob2 h4274
      have e4268 := tr_l_pour v4241 (.int 3) _ _ h4267
      obtain ⟨v4269, h4270, h4274⟩ := ob1 h4274
      obtain ⟨rfl, rfl⟩ := sinj2 h4274
      simp [(addV_eq h4252), h4254, h4256, (addV_eq h4264), e4268, h4270]
    · rw [if_pos rfl] at h4274
      obtain ⟨v4257, v4258, h4259, h4274⟩ := ob2 h4274
      have e4260 := tr_l_pour v4241 (.int 3) _ _ h4259
      obtain ⟨v4261, h4262, h4274⟩ := ob1 h4274
      obtain ⟨rfl, rfl⟩ := sinj2 h4274
      simp [(addV_eq h4252), h4254, h4256, e4260, h4262]
  refine run_seq e4273 ?_
  obtain ⟨v4275, h4276, h⟩ := ob1 h
  obtain ⟨v4277, h4278, h⟩ := ob1 h
  have e4279 := tr_least_from d3881 v4275 v4272 _ h4278
  obtain ⟨v4280, v4281, h4282, h⟩ := ob2 h
  have e4283 := tr_l_pour v4271 (.int 3) _ _ h4282
  obtain ⟨v4284, h4285, h⟩ := ob1 h
  obtain ⟨v4286, h4287, h⟩ := ob1 h
  obtain ⟨v4288, h4289, h⟩ := ob1 h
  obtain ⟨v4290, v4291, h4292, h⟩ := ob2 h
  have e4293 : (mDrop (mMut 2 gAppend (mCons (mN gMax2 (mCons (mPl (mC (.int 0))) (mCons (mPl (mOp gSub' (mPl (mFz (mOpX gAdd (mPl (mFz (mCall [.b, .b, .v] 0 m_least_from (mCons (mVar 1) (mCons (mPl (mFz (mOpX gAdd (mVar 4) (mPl (mC (.int 1)))))) (mCons (mPl (mFz (mRv (mVar 7)))) mNil)))))) (mPl (mFz (mCall [.io, .b] 2 m_l_pour (mCons (mVar 0) (mCons (mPl (mC (.int 3))) mNil)))))))) (mPl (mC (.int 1))))) mNil))) mNil))) [.io v4271, .bor d3881, .own v4167, .val x4237, .val v4240, .val v4247, .val v4248, .val v4272] = .ok .nx [.io v4281, .bor d3881, .own v4290, .val x4237, .val v4240, .val v4247, .val v4248, .val v4272] := by simp [(addV_eq h4276), e4279, e4283, (addV_eq h4285), h4287, h4289, h4292, (mutP_lst h4292)]
  obtain rfl := Option.some.inj h
  exact run_end e4293 ⟨.inl rfl, .val x4237, .val v4240, .val v4247, .val v4248, .val v4272, rfl⟩
theorem tr_l_spots (d3880 : D) (d3881 : D) (r : D) (v4304 : D) (h : p_l_spots d3880 d3881 = some (r, v4304)) : evalD [.io, .b] 6 m_l_spots [.io d3880, .bor d3881] = some ((.fr r), [.io v4304, .bor d3881]) := by
  unfold p_l_spots at h
  refine run_evalD (m := m_l_spots) ?_
  show PL.Run m_l_spots [.io d3880, .bor d3881, .un, .un, .un, .un, .un, .un] _
  unfold m_l_spots
  obtain ⟨v4093, h4094, h⟩ := ob1 h
  obtain ⟨v4095, v4096, h4097, h⟩ := ob2 h
  have e4098 := tr_l_number d3880 v4093 _ _ h4097
  have e4099 : (mSet 2 (mLst (mCons (mC (.int 0)) (mCons (mFz (mCall [.io, .b] 0 m_l_number (mCons (mVar 0) (mCons (mPl (mOp gPow (mPl (mC (.int 10))) (mPl (mC (.int 29))))) mNil)))) mNil)))) [.io d3880, .bor d3881, .un, .un, .un, .un, .un, .un] = .ok .nx [.io v4096, .bor d3881, .own (.list [(.int 0), v4095]), .un, .un, .un, .un, .un] := by simp [h4094, e4098]
  refine run_seq e4099 ?_
  obtain ⟨v4100, h4101, h⟩ := ob1 h
  obtain ⟨v4102, h4103, h⟩ := ob1 h
  obtain ⟨v4104, h4105, h⟩ := ob1 h
  obtain ⟨x4106, h4107, h⟩ := ob1 h
  have e4108 : (mRng1 (mFz (mOpX gMul (mPl (mC (.int 6))) (mPl (mN gInt1 (mCons (mPl (mOp gNe (mVar 1) (mPl (mFz (mLst mNil))))) mNil)))))) [.io v4096, .bor d3881, .own (.list [(.int 0), v4095]), .un, .un, .un, .un, .un] = .ok x4106 [.io v4096, .bor d3881, .own (.list [(.int 0), v4095]), .un, .un, .un, .un, .un] := by simp [h4101, h4103, (mulV_eq h4105), h4107]
  obtain ⟨v4294, v4295, h4301, h⟩ := ob2 h
  obtain ⟨_, e4302, j4296, j4297, j4298, j4299, j4300, rfl⟩ := run_for_nx e4108 (foldP_run (fun (s : D × D) (ρ : PL.Env) => ∃ (j4168 : Sl) (j4169 : Sl) (j4170 : Sl) (j4171 : Sl) (j4172 : Sl), ρ = [.io s.1, .bor d3881, .own s.2, j4168, j4169, j4170, j4171, j4172]) (t := (tName 3)) (b := mb_l_spots_1) (fun x s ρ s0 hi hf => by obtain ⟨j4168, j4169, j4170, j4171, j4172, rfl⟩ := hi; exact tb_l_spots_1 d3881 x s.1 s.2 j4168 j4169 j4170 j4171 j4172 s0 hf) x4106 (v4096, (PyData.list [(.int 0), v4095])) _ (v4294, v4295) ⟨.un, .un, .un, .un, .un, rfl⟩ h4301)
  refine run_seq e4302 ?_
  have e4303 : (mRv (mVar 2)) [.io v4294, .bor d3881, .own v4295, j4296, j4297, j4298, j4299, j4300] = .ok (.pl (.slot 2)) [.io v4294, .bor d3881, .own v4295, j4296, j4297, j4298, j4299, j4300] := by simp []
  obtain ⟨rfl, rfl⟩ := sinj2 h
  exact run_ret e4303 ⟨by simp [flR], by simp⟩
theorem tb_l_undone_1 (d4305 : D) (d4306 : D) (v4459 : D) (x4513 : D) (j4493 : Sl) (o : Ct (Unit) (D)) (h : p_l_undone_b1 d4305 d4306 v4459 x4513 = some o) : ∃ ρ1, (tName 3) x4513 [.bor d4305, .val d4306, .val v4459, j4493, .un, .un] = .ok () ρ1 ∧ PL.Run mb_l_undone_1 ρ1 ((ctQ (fun (s : Unit) (ρ : PL.Env) => ∃ (j4493 : Sl), ρ = [.bor d4305, .val d4306, .val v4459, j4493, .un, .un]) (fun (r : D) fl ρ' => flR fl ρ' = some (.pl (.val r)) ∧ ρ'.take 2 = [.bor d4305, .val d4306]) o)) := by
  unfold p_l_undone_b1 at h
  refine ⟨[.bor d4305, .val d4306, .val v4459, .val x4513, .un, .un], by simp [], ?_⟩
  unfold mb_l_undone_1
  obtain ⟨v4514, h4515, h⟩ := ob1 h
  have e4516 := tr_wishes d4305 x4513 _ h4515
  obtain ⟨v4517, h4518, h⟩ := ob1 h
  obtain ⟨v4519, h4520, h⟩ := ob1 h
  obtain ⟨v4521, h4522, h⟩ := ob1 h
  obtain ⟨v4523, h4524, h⟩ := ob1 h
  obtain ⟨v4525, h4526, h⟩ := ob1 h
  obtain ⟨b4527, h4528, h⟩ := ob1 h
  have e4529 : (mB (mOp gNe (mPl (mOp gLe (mPl (mOp gIx (mPl (mFz (mCall [.b, .v] 2 m_wishes (mCons (mVar 0) (mCons (mPl (mFz (mRv (mVar 3)))) mNil))))) (mPl (mNegU (mC (.int 1)))))) (mVar 1))) (mPl (mOp gLe (mVar 3) (mVar 2))))) [.bor d4305, .val d4306, .val v4459, .val x4513, .un, .un] = .ok b4527 [.bor d4305, .val d4306, .val v4459, .val x4513, .un, .un] := by simp [e4516, h4518, h4520, h4522, h4524, h4526, h4528]
  rcases b4527 with _ | _
  · rw [if_neg Bool.false_ne_true] at h
    refine run_if_f e4529 ?_
    obtain rfl := Option.some.inj h
    exact run_end (m := mSkip) (fl := .nx) rfl ⟨.inl rfl, .val x4513, rfl⟩
  · rw [if_pos rfl] at h
    refine run_if_t e4529 ?_
    have e4530 : (mRv (mPl (mC (.bool false)))) [.bor d4305, .val d4306, .val v4459, .val x4513, .un, .un] = .ok (.pl (.val (.bool false))) [.bor d4305, .val d4306, .val v4459, .val x4513, .un, .un] := by simp []
    obtain rfl := Option.some.inj h
    exact run_ret e4530 ⟨trivial, ⟨by simp [flR], by simp⟩⟩
theorem tr_l_undone (d4305 : D) (d4306 : D) (r : D) (h : p_l_undone d4305 d4306 = some r) : evalD [.b, .v] 4 m_l_undone [.bor d4305, .val d4306] = some ((.pl (.val r)), [.bor d4305, .val d4306]) := by
  unfold p_l_undone at h
  refine run_evalD (m := m_l_undone) ?_
  show PL.Run m_l_undone [.bor d4305, .val d4306, .un, .un, .un, .un] _
  unfold m_l_undone
  obtain ⟨v4459, h4460, h⟩ := ob1 h
  have e4461 := tr_total d4305 d4306 _ h4460
  have e4462 : (mSet 2 (mCall [.b, .v] 0 m_total (mCons (mVar 0) (mCons (mPl (mFz (mRv (mVar 1)))) mNil)))) [.bor d4305, .val d4306, .un, .un, .un, .un] = .ok .nx [.bor d4305, .val d4306, .val v4459, .un, .un, .un] := by simp [e4461]
  refine run_seq e4462 ?_
  obtain ⟨v4463, h4464, h⟩ := ob1 h
  obtain ⟨v4465, h4466, h⟩ := ob1 h
  obtain ⟨v4467, h4468, h⟩ := ob1 h
  obtain ⟨v4469, h4470, h⟩ := ob1 h
  obtain ⟨q4471, x4472, h4473, h⟩ := ob2 h
  have e4474 : (mIter (mPl (mFz (mLst (mCons (mFz (mRv (mVar 2))) (mCons (mFz (mOpX gAdd (mVar 2) (mPl (mC (.int 1))))) (mCons (mN gMax2 (mCons (mPl (mC (.int 0))) (mCons (mPl (mOp gSub' (mVar 2) (mPl (mC (.int 1))))) mNil))) (mCons (mFz (mOpX gAdd (mVar 2) (mPl (mC (.int 7))))) mNil)))))))) [.bor d4305, .val d4306, .val v4459, .un, .un, .un] = .ok x4472 [.bor d4305, .val d4306, .val v4459, .un, .un, .un] := by simp [(addV_eq h4464), h4466, h4468, (addV_eq h4470), h4473]
  obtain ⟨o4611, h4532, h⟩ := obct0 h
  have e4533 := forP_run (fun (s : Unit) (ρ : PL.Env) => ∃ (j4493 : Sl), ρ = [.bor d4305, .val d4306, .val v4459, j4493, .un, .un]) (fun (r : D) fl ρ' => flR fl ρ' = some (.pl (.val r)) ∧ ρ'.take 2 = [.bor d4305, .val d4306]) (t := (tName 3)) (b := mb_l_undone_1) (fun x s ρ o hi hf => by obtain ⟨j4493, rfl⟩ := hi; exact tb_l_undone_1 d4305 d4306 v4459 x j4493 o hf) x4472 () _ o4611 ⟨.un, rfl⟩ h4532
  rcases h with ⟨r, rfl, h⟩ | ⟨rfl, h⟩
  · refine run_seq_ct (run_for e4474 e4533) (fun t fl ρ' ho hf hq => ?_) (fun s ρ' ho hi => nomatch ho)
    cases ho
    cases h
    exact hq
  · refine run_seq_ct (run_for e4474 e4533) (fun t fl ρ' ho hf hq => nomatch ho) (fun s ρ' ho hi => ?_)
    cases ho
    obtain ⟨j4531, rfl⟩ := hi
    obtain ⟨v4534, h4535, h⟩ := ob1 h
    have e4536 := tr_companies d4305 v4459 _ h4535
    obtain ⟨v4537, v4538, h4539, h⟩ := ob2 h
    have e4540 : (mAsg (tTupl (tsCons (tName 4) (tsCons (tName 5) tsNil))) (mFz (mCall [.b, .v] 0 m_companies (mCons (mVar 0) (mCons (mPl (mFz (mRv (mVar 2)))) mNil))))) [.bor d4305, .val d4306, .val v4459, j4531, .un, .un] = .ok .nx [.bor d4305, .val d4306, .val v4459, j4531, .val v4537, .val v4538] := by simp [e4536, (tT2 h4539)]
    refine run_seq e4540 ?_
    obtain ⟨b4553, h4555, h⟩ := ob1 h
    have e4554 : (mOr (mB (mOp gGt (mVar 4) (mVar 1))) (mAnd (mB (mOp gNot (mVar 5) (mPl (mC .none)))) (mB (mOp gLt (mVar 5) (mVar 1))))) [.bor d4305, .val d4306, .val v4459, j4531, .val v4537, .val v4538] = .ok b4553 [.bor d4305, .val d4306, .val v4459, j4531, .val v4537, .val v4538] := by
      obtain ⟨v4541, h4542, h4555⟩ := ob1 h4555
      obtain ⟨b4543, h4544, h4555⟩ := ob1 h4555
      rcases b4543 with _ | _
      · rw [if_neg Bool.false_ne_true] at h4555
        obtain ⟨v4545, h4546, h4555⟩ := ob1 h4555
        obtain ⟨b4547, h4548, h4555⟩ := ob1 h4555
        rcases b4547 with _ | _
        · rw [if_neg Bool.false_ne_true] at h4555
          obtain rfl := Option.some.inj h4555
          simp [h4542, h4544, h4546, h4548]
        · rw [if_pos rfl] at h4555
          obtain ⟨v4549, h4550, h4555⟩ := ob1 h4555
          obtain ⟨b4551, h4552, h4555⟩ := ob1 h4555
          obtain rfl := Option.some.inj h4555
          simp [h4542, h4544, h4546, h4548, h4550, h4552]
      · rw [if_pos rfl] at h4555
        obtain rfl := Option.some.inj h4555
        simp [h4542, h4544]
    rcases b4553 with _ | _
    · rw [if_neg Bool.false_ne_true] at h
      refine run_seq_if_f e4554 ?_
      refine run_seq_skip ?_
      obtain ⟨b4588, h4590, h⟩ := ob1 h
      have e4589 : (mOr (mAnd (mB (mOp gGt (mVar 4) (mPl (mC (.int 0))))) (mB (mOp gGe (mPl (mFz (mCall [.b, .v] 0 m_total (mCons (mVar 0) (mCons (mPl (mOp gSub' (mVar 4) (mPl (mC (.int 1))))) mNil))))) (mVar 2)))) (mB (mOp gLe (mPl (mFz (mCall [.b, .v] 0 m_total (mCons (mVar 0) (mCons (mPl (mFz (mOpX gAdd (mVar 5) (mPl (mC (.int 1)))))) mNil))))) (mVar 2)))) [.bor d4305, .val d4306, .val v4459, j4531, .val v4537, .val v4538] = .ok b4588 [.bor d4305, .val d4306, .val v4459, j4531, .val v4537, .val v4538] := by
        obtain ⟨v4557, h4558, h4590⟩ := ob1 h4590
        obtain ⟨b4559, h4560, h4590⟩ := ob1 h4590
        rcases b4559 with _ | _
        · rw [if_neg Bool.false_ne_true] at h4590
          obtain ⟨v4579, h4580, h4590⟩ := ob1 h4590
          obtain ⟨v4581, h4582, h4590⟩ := ob1 h4590
          have e4583 := tr_total d4305 v4579 _ h4582
          obtain ⟨v4584, h4585, h4590⟩ := ob1 h4590
          obtain ⟨b4586, h4587, h4590⟩ := ob1 h4590
          obtain rfl := Option.some.inj h4590
          simp [h4558, h4560, (addV_eq h4580), e4583, h4585, h4587]
        · rw [if_pos rfl] at h4590
          obtain ⟨v4561, h4562, h4590⟩ := ob1 h4590
          obtain ⟨v4563, h4564, h4590⟩ := ob1 h4590
          have e4565 := tr_total d4305 v4561 _ h4564
          obtain ⟨v4566, h4567, h4590⟩ := ob1 h4590
          obtain ⟨b4568, h4569, h4590⟩ := ob1 h4590
          rcases b4568 with _ | _
          · rw [if_neg Bool.false_ne_true] at h4590
            obtain ⟨v4570, h4571, h4590⟩ := ob1 h4590
            obtain ⟨v4572, h4573, h4590⟩ := ob1 h4590
            have e4574 := tr_total d4305 v4570 _ h4573
            obtain ⟨v4575, h4576, h4590⟩ := ob1 h4590
            obtain ⟨b4577, h4578, h4590⟩ := ob1 h4590
            obtain rfl := Option.some.inj h4590
            simp [h4558, h4560, h4562, e4565, h4567, h4569, (addV_eq h4571), e4574, h4576, h4578]
          · rw [if_pos rfl] at h4590
            obtain rfl := Option.some.inj h4590
            simp [h4558, h4560, h4562, e4565, h4567, h4569]
      rcases b4588 with _ | _
      · rw [if_neg Bool.false_ne_true] at h
        refine run_seq_if_f e4589 ?_
        refine run_seq_skip ?_
        obtain ⟨v4608, h4610, h⟩ := ob1 h
        have e4609 : (mRv (mPl (mAndV (mOp gEq (mPl (mFz (mCall [.b, .v, .v] 0 m_companies_between (mCons (mVar 0) (mCons (mPl (mFz (mRv (mVar 2)))) (mCons (mPl (mFz (mRv (mVar 2)))) mNil)))))) (mPl (mTup (mCons (mFz (mRv (mVar 4))) (mCons (mFz (mRv (mVar 5))) mNil))))) (mOp gEq (mPl (mOp gIx (mPl (mFz (mCall [.b, .v] 2 m_wishes (mCons (mVar 0) (mCons (mPl (mFz (mRv (mVar 2)))) mNil))))) (mPl (mNegU (mC (.int 1)))))) (mVar 4))))) [.bor d4305, .val d4306, .val v4459, j4531, .val v4537, .val v4538] = .ok (.pl (.val v4608)) [.bor d4305, .val d4306, .val v4459, j4531, .val v4537, .val v4538] := by
          obtain ⟨v4592, h4593, h4610⟩ := ob1 h4610
          have e4594 := tr_companies_between d4305 v4459 v4459 _ h4593
          obtain ⟨v4595, h4596, h4610⟩ := ob1 h4610
          obtain ⟨b4597, h4598, h4610⟩ := ob1 h4610
          rcases b4597 with _ | _
          · rw [if_neg Bool.false_ne_true] at h4610
            obtain rfl := Option.some.inj h4610
            simp [e4594, h4596, h4598]
          · rw [if_pos rfl] at h4610
            obtain ⟨v4599, h4600, h4610⟩ := ob1 h4610
            have e4601 := tr_wishes d4305 v4459 _ h4600
            obtain ⟨v4602, h4603, h4610⟩ := ob1 h4610
            obtain ⟨v4604, h4605, h4610⟩ := ob1 h4610
            obtain ⟨v4606, h4607, h4610⟩ := ob1 h4610
            obtain rfl := Option.some.inj h4610
            simp [e4594, h4596, h4598, e4601, h4603, h4605, h4607]
        obtain rfl := Option.some.inj h
        exact run_ret e4609 ⟨by simp [flR], by simp⟩
      · rw [if_pos rfl] at h
        refine run_seq_if_t e4589 ?_
        have e4591 : (mRv (mPl (mC (.bool false)))) [.bor d4305, .val d4306, .val v4459, j4531, .val v4537, .val v4538] = .ok (.pl (.val (.bool false))) [.bor d4305, .val d4306, .val v4459, j4531, .val v4537, .val v4538] := by simp []
        obtain rfl := Option.some.inj h
        exact run_seq_ret e4591 ⟨by simp [flR], by simp⟩
    · rw [if_pos rfl] at h
      refine run_seq_if_t e4554 ?_
      have e4556 : (mRv (mPl (mC (.bool false)))) [.bor d4305, .val d4306, .val v4459, j4531, .val v4537, .val v4538] = .ok (.pl (.val (.bool false))) [.bor d4305, .val d4306, .val v4459, j4531, .val v4537, .val v4538] := by simp []
      obtain rfl := Option.some.inj h
      exact run_seq_ret e4556 ⟨by simp [flR], by simp⟩
theorem tr_l_behind (d4612 : D) (d4613 : D) (d4614 : D) (r : D) (h : p_l_behind d4612 d4613 d4614 = some r) : evalD [.b, .b, .v] 1 m_l_behind [.bor d4612, .bor d4613, .val d4614] = some ((.pl (.val r)), [.bor d4612, .bor d4613, .val d4614]) := by
  unfold p_l_behind at h
  refine run_evalD (m := m_l_behind) ?_
  show PL.Run m_l_behind [.bor d4612, .bor d4613, .val d4614, .un] _
  unfold m_l_behind
  obtain ⟨v4640, h4641, h⟩ := ob1 h
  have e4642 := tr_wishes d4612 d4614 _ h4641
  have e4643 : (mSet 3 (mCall [.b, .v] 2 m_wishes (mCons (mVar 0) (mCons (mPl (mFz (mRv (mVar 2)))) mNil)))) [.bor d4612, .bor d4613, .val d4614, .un] = .ok .nx [.bor d4612, .bor d4613, .val d4614, .own v4640] := by simp [e4642]
  refine run_seq e4643 ?_
  obtain ⟨v4644, h4645, h⟩ := ob1 h
  obtain ⟨v4646, h4647, h⟩ := ob1 h
  have e4648 := tr_wishes v4644 d4614 _ h4647
  obtain ⟨v4649, h4650, h⟩ := ob1 h
  obtain ⟨v4651, h4652, h⟩ := ob1 h
  obtain ⟨v4653, h4654, h⟩ := ob1 h
  have e4655 := tr_wishes d4613 v4651 _ h4654
  obtain ⟨i4656, h4657, h⟩ := ob1 h
  obtain ⟨v4658, h4659, h⟩ := ob1 h
  obtain ⟨v4660, h4661, h⟩ := ob1 h
  obtain ⟨v4662, h4663, h⟩ := ob1 h
  have e4664 : (mRv (mPl (mOp gEq (mPl (mFz (mCall [.b, .v] 2 m_wishes (mCons (mPl (mFz (mOpX gAdd (mVar 0) (mVar 1)))) (mCons (mPl (mFz (mRv (mVar 2)))) mNil))))) (mPl (mFz (mOpX gAdd (mVar 3) (mSliceP (mPl (mFz (mCall [.b, .v] 2 m_wishes (mCons (mVar 1) (mCons (mPl (mOp gIx (mVar 3) (mPl (mNegU (mC (.int 1)))))) mNil))))) (some (mC (.int 1))) none))))))) [.bor d4612, .bor d4613, .val d4614, .own v4640] = .ok (.pl (.val v4662)) [.bor d4612, .bor d4613, .val d4614, .own v4640] := by simp [(addF_eq h4645), e4648, h4650, h4652, e4655, h4657, (slW_eq h4659), (addF_eq h4661), h4663]
  obtain rfl := Option.some.inj h
  exact run_ret e4664 ⟨by simp [flR], by simp⟩
theorem tr_l_shelf_right (d4665 : D) (d4666 : D) (d4667 : D) (r : D) (h : p_l_shelf_right d4665 d4666 d4667 = some r) : evalD [.b, .b, .v] 2 m_l_shelf_right [.bor d4665, .bor d4666, .val d4667] = some ((.pl (.val r)), [.bor d4665, .bor d4666, .val d4667]) := by
  unfold p_l_shelf_right at h
  refine run_evalD (m := m_l_shelf_right) ?_
  show PL.Run m_l_shelf_right [.bor d4665, .bor d4666, .val d4667, .un, .un] _
  unfold m_l_shelf_right
  obtain ⟨v4707, h4708, h⟩ := ob1 h
  obtain ⟨v4709, h4710, h⟩ := ob1 h
  have e4711 := tr_shelf_of v4707 _ h4710
  have e4712 : (mSet 3 (mCall [.b] 0 m_shelf_of (mCons (mPl (mFz (mOpX gAdd (mVar 0) (mVar 1)))) mNil))) [.bor d4665, .bor d4666, .val d4667, .un, .un] = .ok .nx [.bor d4665, .bor d4666, .val d4667, .own v4709, .un] := by simp [(addF_eq h4708), e4711]
  refine run_seq e4712 ?_
  obtain ⟨v4713, h4714, h⟩ := ob1 h
  have e4715 := tr_wishes d4665 d4667 _ h4714
  obtain ⟨v4716, h4717, h⟩ := ob1 h
  obtain ⟨v4718, h4719, h⟩ := ob1 h
  have e4720 : (mSet 4 (mRv (mPl (mOp gIx (mPl (mFz (mCall [.b, .v] 2 m_wishes (mCons (mVar 0) (mCons (mPl (mFz (mRv (mVar 2)))) mNil))))) (mPl (mNegU (mC (.int 1)))))))) [.bor d4665, .bor d4666, .val d4667, .own v4709, .un] = .ok .nx [.bor d4665, .bor d4666, .val d4667, .own v4709, .val v4718] := by simp [e4715, h4717, h4719]
  refine run_seq e4720 ?_
  obtain ⟨v4743, h4745, h⟩ := ob1 h
  have e4744 : (mRv (mPl (mAndV (mOp gEq (mPl (mFz (mCall [.b, .b] 0 m_book (mCons (mVar 3) (mCons (mVar 2) mNil))))) (mPl (mFz (mCall [.b, .b] 0 m_book (mCons (mPl (mFz (mCall [.b] 0 m_shelf_of (mCons (mVar 1) mNil)))) (mCons (mVar 4) mNil)))))) (mAndV (mOp gLe (mVar 4) (mVar 2)) (mOp gGe (mPl (mFz (mCall [.b, .b] 0 m_books_to (mCons (mVar 3) (mCons (mVar 2) mNil))))) (mVar 2)))))) [.bor d4665, .bor d4666, .val d4667, .own v4709, .val v4718] = .ok (.pl (.val v4743)) [.bor d4665, .bor d4666, .val d4667, .own v4709, .val v4718] := by
    obtain ⟨v4721, h4722, h4745⟩ := ob1 h4745
    have e4723 := tr_book v4709 d4667 _ h4722
    obtain ⟨v4724, h4725, h4745⟩ := ob1 h4745
    have e4726 := tr_shelf_of d4666 _ h4725
    obtain ⟨v4727, h4728, h4745⟩ := ob1 h4745
    have e4729 := tr_book v4724 v4718 _ h4728
    obtain ⟨v4730, h4731, h4745⟩ := ob1 h4745
    obtain ⟨b4732, h4733, h4745⟩ := ob1 h4745
    rcases b4732 with _ | _
    · rw [if_neg Bool.false_ne_true] at h4745
      obtain rfl := Option.some.inj h4745
      simp [e4723, e4726, e4729, h4731, h4733]
    · rw [if_pos rfl] at h4745
      obtain ⟨v4734, h4735, h4745⟩ := ob1 h4745
      obtain ⟨b4736, h4737, h4745⟩ := ob1 h4745
      rcases b4736 with _ | _
      · rw [if_neg Bool.false_ne_true] at h4745
        obtain rfl := Option.some.inj h4745
        simp [e4723, e4726, e4729, h4731, h4733, h4735, h4737]
      · rw [if_pos rfl] at h4745
        obtain ⟨v4738, h4739, h4745⟩ := ob1 h4745
        have e4740 := tr_books_to v4709 d4667 _ h4739
        obtain ⟨v4741, h4742, h4745⟩ := ob1 h4745
        obtain rfl := Option.some.inj h4745
        simp [e4723, e4726, e4729, h4731, h4733, h4735, h4737, e4740, h4742]
  obtain rfl := Option.some.inj h
  exact run_ret e4744 ⟨by simp [flR], by simp⟩
theorem tc_law_1 (d4746 : List Int) (x6454 : D) (v6467 : D) (v6474 : D) (j6111 : Sl) (j6112 : Sl) (j6113 : Sl) (j6115 : Sl) (x6499 : D) (v6488 : D) (o : Option D) (s' : D) (h : p_law_c1 v6474 v6467 x6499 v6488 = some (o, s')) : ∃ ρ1 ρ2, (tName 8) x6499 [.scr d4746, .val x6454, .own v6488, .val v6467, .val v6474, j6111, j6112, j6113, .un, j6115] = .ok () ρ1 ∧ lcQ mYes (mFz (mCall [.io, .b] 2 m_l_some_twice (mCons (mVar 2) (mCons (mPl (mFz (mCall [.io, .b, .b] 1 m_l_row (mCons (mVar 2) (mCons (mVar 4) (mCons (mVar 3) mNil)))))) mNil)))) [8] ((fun (s : D) (ρ : PL.Env) => ρ = [.scr d4746, .val x6454, .own s, .val v6467, .val v6474, j6111, j6112, j6113, .un, j6115]) s') ρ1 ρ2 o := by
  unfold p_law_c1 at h
  obtain ⟨v6500, v6501, h6502, h⟩ := ob2 h
  have e6503 := tr_l_row v6488 v6474 v6467 _ _ h6502
  obtain ⟨v6504, v6505, h6506, h⟩ := ob2 h
  have e6507 := tr_l_some_twice v6501 v6500 _ _ h6506
  obtain ⟨rfl, rfl⟩ := sinj2 h
  exact ⟨[.scr d4746, .val x6454, .own v6488, .val v6467, .val v6474, j6111, j6112, j6113, .val x6499, j6115], [.scr d4746, .val x6454, .own v6488, .val v6467, .val v6474, j6111, j6112, j6113, .val x6499, j6115], by simp [e6503, e6507], [.scr d4746, .val x6454, .own v6505, .val v6467, .val v6474, j6111, j6112, j6113, .val x6499, j6115], by simp [e6503, e6507], by simp [e6503, e6507], by simp⟩
theorem tb_law_1 (d4746 : List Int) (x6454 : D) (v6523 : D) (v6467 : D) (v6474 : D) (x6508 : List D) (v6519 : D) (j6114 : Sl) (j6115 : Sl) (x6548 : D) (j6538 : Sl) (o : Ct (Unit) (D)) (h : p_law_b1 v6519 x6548 = some o) : ∃ ρ1, (tName 7) x6548 [.scr d4746, .val x6454, .own v6523, .val v6467, .val v6474, .own (.list x6508), .own v6519, j6538, (keepS j6114), j6115] = .ok () ρ1 ∧ PL.Run mb_law_2 ρ1 ((ctQ (fun (s : Unit) (ρ : PL.Env) => ∃ (j6538 : Sl), ρ = [.scr d4746, .val x6454, .own v6523, .val v6467, .val v6474, .own (.list x6508), .own v6519, j6538, (keepS j6114), j6115]) (fun (r : D) (fl : Fl) (_ : PL.Env) => fl = .rt (.pl (.val r))) o)) := by
  unfold p_law_b1 at h
  refine ⟨[.scr d4746, .val x6454, .own v6523, .val v6467, .val v6474, .own (.list x6508), .own v6519, .val x6548, (keepS j6114), j6115], by simp [], ?_⟩
  unfold mb_law_2
  obtain ⟨v6549, h6550, h⟩ := ob1 h
  have e6551 := tr_l_undone v6519 x6548 _ h6550
  obtain ⟨b6552, h6553, h⟩ := ob1 h
  have e6554 : (mNot (mTr (mPl (mFz (mCall [.b, .v] 4 m_l_undone (mCons (mVar 6) (mCons (mPl (mFz (mRv (mVar 7)))) mNil))))))) [.scr d4746, .val x6454, .own v6523, .val v6467, .val v6474, .own (.list x6508), .own v6519, .val x6548, (keepS j6114), j6115] = .ok (!b6552) [.scr d4746, .val x6454, .own v6523, .val v6467, .val v6474, .own (.list x6508), .own v6519, .val x6548, (keepS j6114), j6115] := by simp [e6551, h6553]
  rcases b6552 with _ | _
  · rw [if_neg Bool.false_ne_true] at h
    refine run_if_t e6554 ?_
    have e6555 : (mRv (mPl (mC (.bool false)))) [.scr d4746, .val x6454, .own v6523, .val v6467, .val v6474, .own (.list x6508), .own v6519, .val x6548, (keepS j6114), j6115] = .ok (.pl (.val (.bool false))) [.scr d4746, .val x6454, .own v6523, .val v6467, .val v6474, .own (.list x6508), .own v6519, .val x6548, (keepS j6114), j6115] := by simp []
    obtain rfl := Option.some.inj h
    exact run_ret e6555 ⟨trivial, rfl⟩
  · rw [if_pos rfl] at h
    refine run_if_f e6554 ?_
    obtain rfl := Option.some.inj h
    exact run_end (m := mSkip) (fl := .nx) rfl ⟨.inl rfl, .val x6548, rfl⟩
theorem tb_law_2 (d4746 : List Int) (x6454 : D) (v6467 : D) (v6474 : D) (x6508 : List D) (v6519 : D) (j6556 : Sl) (x6708 : D) (v6632 : D) (j6633 : Sl) (j6634 : Sl) (o : Ct (D) (D)) (h : p_law_b2 x6508 v6519 x6708 v6632 = some o) : ∃ ρ1, (tName 8) x6708 [.scr d4746, .val x6454, .own v6632, .val v6467, .val v6474, .own (.list x6508), .own v6519, j6556, j6633, j6634] = .ok () ρ1 ∧ PL.Run mb_law_1 ρ1 ((ctQ (fun (s : D) (ρ : PL.Env) => ∃ (j6633 : Sl) (j6634 : Sl), ρ = [.scr d4746, .val x6454, .own s, .val v6467, .val v6474, .own (.list x6508), .own v6519, j6556, j6633, j6634]) (fun (r : D) (fl : Fl) (_ : PL.Env) => fl = .rt (.pl (.val r))) o)) := by
  unfold p_law_b2 at h
  refine ⟨[.scr d4746, .val x6454, .own v6632, .val v6467, .val v6474, .own (.list x6508), .own v6519, j6556, .val x6708, j6634], by simp [], ?_⟩
  unfold mb_law_1
  obtain ⟨v6709, h6710, h⟩ := ob1 h
  obtain ⟨v6711, h6712, h⟩ := ob1 h
  obtain ⟨v6713, v6714, h6715, h⟩ := ob2 h
  have e6716 := tr_l_pour v6632 (.int 2) _ _ h6715
  obtain ⟨v6717, h6718, h⟩ := ob1 h
  obtain ⟨v6719, v6720, h6721, h⟩ := ob2 h
  have e6722 := tr_l_number v6714 v6717 _ _ h6721
  have e6723 : (mSet 9 (mCall [.io, .b] 0 m_l_number (mCons (mVar 2) (mCons (mPl (mOp gIx (mPl (mFz (mLst (mCons (mC (.int 60)) (mCons (mOp gSub' (mPl (mOp gPow (mPl (mC (.int 10))) (mPl (mC (.int 30))))) (mPl (mC (.int 1)))) mNil))))) (mPl (mFz (mCall [.io, .b] 2 m_l_pour (mCons (mVar 2) (mCons (mPl (mC (.int 2))) mNil))))))) mNil)))) [.scr d4746, .val x6454, .own v6632, .val v6467, .val v6474, .own (.list x6508), .own v6519, j6556, .val x6708, j6634] = .ok .nx [.scr d4746, .val x6454, .own v6720, .val v6467, .val v6474, .own (.list x6508), .own v6519, j6556, .val x6708, .val v6719] := by simp [h6710, h6712, e6716, h6718, e6722]
  refine run_seq e6723 ?_
  obtain ⟨b6738, h6740, h⟩ := ob1 h
  have e6739 : (mOr (mNot (mTr (mPl (mFz (mCall [.b, .b, .v] 1 m_l_behind (mCons (mPl (mOp gIx (mVar 5) (mPl (mC (.int 0))))) (mCons (mPl (mOp gIx (mVar 5) (mPl (mC (.int 1))))) (mCons (mPl (mFz (mRv (mVar 9)))) mNil)))))))) (mNot (mTr (mPl (mFz (mCall [.b, .b, .v] 2 m_l_shelf_right (mCons (mPl (mOp gIx (mVar 5) (mPl (mC (.int 0))))) (mCons (mPl (mOp gIx (mVar 5) (mPl (mC (.int 1))))) (mCons (mPl (mFz (mRv (mVar 9)))) mNil))))))))) [.scr d4746, .val x6454, .own v6720, .val v6467, .val v6474, .own (.list x6508), .own v6519, j6556, .val x6708, .val v6719] = .ok b6738 [.scr d4746, .val x6454, .own v6720, .val v6467, .val v6474, .own (.list x6508), .own v6519, j6556, .val x6708, .val v6719] := by
    obtain ⟨v6724, h6725, h6740⟩ := ob1 h6740
    obtain ⟨v6726, h6727, h6740⟩ := ob1 h6740
    obtain ⟨v6728, h6729, h6740⟩ := ob1 h6740
    have e6730 := tr_l_behind v6724 v6726 v6719 _ h6729
    obtain ⟨b6731, h6732, h6740⟩ := ob1 h6740
    rcases b6731 with _ | _
    · rw [if_neg Bool.false_ne_true] at h6740
      obtain rfl := Option.some.inj h6740
      simp [h6725, h6727, e6730, h6732]
    · rw [if_pos rfl] at h6740
      obtain ⟨v6733, h6734, h6740⟩ := ob1 h6740
      have e6735 := tr_l_shelf_right v6724 v6726 v6719 _ h6734
      obtain ⟨b6736, h6737, h6740⟩ := ob1 h6740
      obtain rfl := Option.some.inj h6740
      simp [h6725, h6727, e6730, h6732, e6735, h6737]
  rcases b6738 with _ | _
  · rw [if_neg Bool.false_ne_true] at h
    refine run_seq_if_f e6739 ?_
    refine run_seq_skip ?_
    obtain ⟨v6742, h6743, h⟩ := ob1 h
    have e6744 := tr_least_from v6519 (.int 0) v6719 _ h6743
    obtain ⟨v6745, h6746, h⟩ := ob1 h
    obtain ⟨v6747, h6748, h⟩ := ob1 h
    have e6749 := tr_least_from v6519 (.int 0) v6745 _ h6748
    obtain ⟨v6750, h6751, h⟩ := ob1 h
    obtain ⟨b6752, h6753, h⟩ := ob1 h
    have e6754 : (mB (mOp gGt (mPl (mFz (mCall [.b, .b, .v] 0 m_least_from (mCons (mVar 6) (mCons (mPl (mC (.int 0))) (mCons (mPl (mFz (mRv (mVar 9)))) mNil)))))) (mPl (mFz (mCall [.b, .b, .v] 0 m_least_from (mCons (mVar 6) (mCons (mPl (mC (.int 0))) (mCons (mPl (mFz (mOpX gAdd (mVar 9) (mPl (mC (.int 1)))))) mNil)))))))) [.scr d4746, .val x6454, .own v6720, .val v6467, .val v6474, .own (.list x6508), .own v6519, j6556, .val x6708, .val v6719] = .ok b6752 [.scr d4746, .val x6454, .own v6720, .val v6467, .val v6474, .own (.list x6508), .own v6519, j6556, .val x6708, .val v6719] := by simp [e6744, (addV_eq h6746), e6749, h6751, h6753]
    rcases b6752 with _ | _
    · rw [if_neg Bool.false_ne_true] at h
      refine run_seq_if_f e6754 ?_
      refine run_seq_skip ?_
      obtain ⟨v6756, h6757, h⟩ := ob1 h
      obtain ⟨v6758, h6759, h⟩ := ob1 h
      obtain ⟨v6760, h6761, h⟩ := ob1 h
      have e6762 := tr_least_from v6519 v6758 v6719 _ h6761
      obtain ⟨v6763, h6764, h⟩ := ob1 h
      obtain ⟨v6765, h6766, h⟩ := ob1 h
      have e6767 := tr_wishes v6763 v6719 _ h6766
      obtain ⟨v6768, h6769, h⟩ := ob1 h
      obtain ⟨v6770, h6771, h⟩ := ob1 h
      obtain ⟨v6772, h6773, h⟩ := ob1 h
      obtain ⟨b6774, h6775, h⟩ := ob1 h
      have e6776 : (mB (mOp gNe (mPl (mFz (mCall [.b, .b, .v] 0 m_least_from (mCons (mVar 6) (mCons (mPl (mN gLen (mCons (mPl (mOp gIx (mVar 5) (mPl (mC (.int 0))))) mNil))) (mCons (mPl (mFz (mRv (mVar 9)))) mNil)))))) (mPl (mOp gIx (mPl (mFz (mCall [.b, .v] 2 m_wishes (mCons (mPl (mOp gIx (mVar 5) (mPl (mC (.int 1))))) (mCons (mPl (mFz (mRv (mVar 9)))) mNil))))) (mPl (mNegU (mC (.int 1)))))))) [.scr d4746, .val x6454, .own v6720, .val v6467, .val v6474, .own (.list x6508), .own v6519, j6556, .val x6708, .val v6719] = .ok b6774 [.scr d4746, .val x6454, .own v6720, .val v6467, .val v6474, .own (.list x6508), .own v6519, j6556, .val x6708, .val v6719] := by simp [h6757, h6759, e6762, h6764, e6767, h6769, h6771, h6773, h6775]
      rcases b6774 with _ | _
      · rw [if_neg Bool.false_ne_true] at h
        refine run_if_f e6776 ?_
        obtain rfl := Option.some.inj h
        exact run_end (m := mSkip) (fl := .nx) rfl ⟨.inl rfl, .val x6708, .val v6719, rfl⟩
      · rw [if_pos rfl] at h
        refine run_if_t e6776 ?_
        have e6777 : (mRv (mPl (mC (.bool false)))) [.scr d4746, .val x6454, .own v6720, .val v6467, .val v6474, .own (.list x6508), .own v6519, j6556, .val x6708, .val v6719] = .ok (.pl (.val (.bool false))) [.scr d4746, .val x6454, .own v6720, .val v6467, .val v6474, .own (.list x6508), .own v6519, j6556, .val x6708, .val v6719] := by simp []
        obtain rfl := Option.some.inj h
        exact run_ret e6777 ⟨trivial, rfl⟩
    · rw [if_pos rfl] at h
      refine run_seq_if_t e6754 ?_
      have e6755 : (mRv (mPl (mC (.bool false)))) [.scr d4746, .val x6454, .own v6720, .val v6467, .val v6474, .own (.list x6508), .own v6519, j6556, .val x6708, .val v6719] = .ok (.pl (.val (.bool false))) [.scr d4746, .val x6454, .own v6720, .val v6467, .val v6474, .own (.list x6508), .own v6519, j6556, .val x6708, .val v6719] := by simp []
      obtain rfl := Option.some.inj h
      exact run_seq_ret e6755 ⟨trivial, rfl⟩
  · rw [if_pos rfl] at h
    refine run_seq_if_t e6739 ?_
    have e6741 : (mRv (mPl (mC (.bool false)))) [.scr d4746, .val x6454, .own v6720, .val v6467, .val v6474, .own (.list x6508), .own v6519, j6556, .val x6708, .val v6719] = .ok (.pl (.val (.bool false))) [.scr d4746, .val x6454, .own v6720, .val v6467, .val v6474, .own (.list x6508), .own v6519, j6556, .val x6708, .val v6719] := by simp []
    obtain rfl := Option.some.inj h
    exact run_seq_ret e6741 ⟨trivial, rfl⟩
theorem tb_law_3 (d4746 : List Int) (x6454 : D) (j6107 : Sl) (j6108 : Sl) (j6109 : Sl) (j6110 : Sl) (j6111 : Sl) (j6112 : Sl) (j6113 : Sl) (j6114 : Sl) (j6115 : Sl) (o : Ct (Unit) (D)) (h : p_law_b3 d4746 x6454 = some o) : ∃ ρ1, (tName 1) x6454 [.scr d4746, j6107, j6108, j6109, j6110, j6111, j6112, j6113, j6114, j6115] = .ok () ρ1 ∧ PL.Run mb_law_3 ρ1 ((ctQ (fun (s : Unit) (ρ : PL.Env) => ∃ (j6107 : Sl) (j6108 : Sl) (j6109 : Sl) (j6110 : Sl) (j6111 : Sl) (j6112 : Sl) (j6113 : Sl) (j6114 : Sl) (j6115 : Sl), ρ = [.scr d4746, j6107, j6108, j6109, j6110, j6111, j6112, j6113, j6114, j6115]) (fun (r : D) (fl : Fl) (_ : PL.Env) => fl = .rt (.pl (.val r))) o)) := by
  unfold p_law_b3 at h
  refine ⟨[.scr d4746, .val x6454, j6108, j6109, j6110, j6111, j6112, j6113, j6114, j6115], by simp [], ?_⟩
  unfold mb_law_3
  obtain ⟨v6455, h6456, h⟩ := ob1 h
  have e6457 := tr_l_jar d4746 x6454 _ h6456
  have e6458 : (mSet 2 (mCall [.s, .b] 1 m_l_jar (mCons (mVar 0) (mCons (mVar 1) mNil)))) [.scr d4746, .val x6454, j6108, j6109, j6110, j6111, j6112, j6113, j6114, j6115] = .ok .nx [.scr d4746, .val x6454, .own v6455, j6109, j6110, j6111, j6112, j6113, j6114, j6115] := by simp [e6457]
  refine run_seq e6458 ?_
  obtain ⟨v6459, h6460, h⟩ := ob1 h
  obtain ⟨v6461, h6462, h⟩ := ob1 h
  obtain ⟨v6463, v6464, h6465, h⟩ := ob2 h
  have e6466 := tr_l_pour v6455 (.int 3) _ _ h6465
  obtain ⟨v6467, h6468, h⟩ := ob1 h
  have e6469 : (mSet 3 (mRv (mPl (mOp gIx (mPl (mFz (mLst (mCons (mC (.int 9)) (mCons (mC (.int 30)) (mCons (mFz (mOpX gMul (mPl (mC (.int 4))) (mPl (mOp gPow (mPl (mC (.int 10))) (mPl (mC (.int 29))))))) mNil)))))) (mPl (mFz (mCall [.io, .b] 2 m_l_pour (mCons (mVar 2) (mCons (mPl (mC (.int 3))) mNil))))))))) [.scr d4746, .val x6454, .own v6455, j6109, j6110, j6111, j6112, j6113, j6114, j6115] = .ok .nx [.scr d4746, .val x6454, .own v6464, .val v6467, j6110, j6111, j6112, j6113, j6114, j6115] := by simp [h6460, (mulV_eq h6462), e6466, h6468]
  refine run_seq e6469 ?_
  obtain ⟨v6470, v6471, h6472, h⟩ := ob2 h
  have e6473 := tr_l_pour v6464 (.int 4) _ _ h6472
  obtain ⟨v6474, h6475, h⟩ := ob1 h
  have e6476 : (mSet 4 (mRv (mPl (mOp gIx (mPl (mFz (mLst (mCons (mC (.int 37)) (mCons (mC (.int 37)) (mCons (mC (.int 37)) (mCons (mC (.int 97)) mNil))))))) (mPl (mFz (mCall [.io, .b] 2 m_l_pour (mCons (mVar 2) (mCons (mPl (mC (.int 4))) mNil))))))))) [.scr d4746, .val x6454, .own v6464, .val v6467, j6110, j6111, j6112, j6113, j6114, j6115] = .ok .nx [.scr d4746, .val x6454, .own v6471, .val v6467, .val v6474, j6111, j6112, j6113, j6114, j6115] := by simp [e6473, h6475]
  refine run_seq e6476 ?_
  obtain ⟨x6477, h6478, h⟩ := ob1 h
  obtain ⟨x6508, v6511, h6509, h⟩ := ob2 h
  obtain ⟨r6512, e6510, r6513⟩ := lcT_run (fun (s : D) (ρ : PL.Env) => ρ = [.scr d4746, .val x6454, .own s, .val v6467, .val v6474, j6111, j6112, j6113, .un, j6115]) (fi := (mRng1 (mC (.int 2)))) (t := (tName 8)) (vs := [8]) (c := mYes) (fe := (mFz (mCall [.io, .b] 2 m_l_some_twice (mCons (mVar 2) (mCons (mPl (mFz (mCall [.io, .b, .b] 1 m_l_row (mCons (mVar 2) (mCons (mVar 4) (mCons (mVar 3) mNil)))))) mNil))))) (ρ0 := [.scr d4746, .val x6454, .own v6471, .val v6467, .val v6474, j6111, j6112, j6113, j6114, j6115]) (ρ1 := [.scr d4746, .val x6454, .own v6471, .val v6467, .val v6474, j6111, j6112, j6113, j6114, j6115]) (s := v6471) (by simp [h6478]) (by simp) h6509 (fun x s ρ o s' hi hf => by subst hi; exact tc_law_1 d4746 x6454 v6467 v6474 j6111 j6112 j6113 j6115 x s o s' hf)
  subst r6513
  have e6514 : (mSet 5 (mLc (mRng1 (mC (.int 2))) (tName 8) [8] mYes (mFz (mCall [.io, .b] 2 m_l_some_twice (mCons (mVar 2) (mCons (mPl (mFz (mCall [.io, .b, .b] 1 m_l_row (mCons (mVar 2) (mCons (mVar 4) (mCons (mVar 3) mNil)))))) mNil)))))) [.scr d4746, .val x6454, .own v6471, .val v6467, .val v6474, j6111, j6112, j6113, j6114, j6115] = .ok .nx [.scr d4746, .val x6454, .own v6511, .val v6467, .val v6474, .own (.list x6508), j6112, j6113, (keepS j6114), j6115] := by simp [h6478, e6510]
  refine run_seq e6514 ?_
  obtain ⟨v6515, h6516, h⟩ := ob1 h
  obtain ⟨v6517, h6518, h⟩ := ob1 h
  obtain ⟨v6519, h6520, h⟩ := ob1 h
  have e6521 : (mSet 6 (mOpX gAdd (mPl (mOp gIx (mVar 5) (mPl (mC (.int 0))))) (mPl (mOp gIx (mVar 5) (mPl (mC (.int 1))))))) [.scr d4746, .val x6454, .own v6511, .val v6467, .val v6474, .own (.list x6508), j6112, j6113, (keepS j6114), j6115] = .ok .nx [.scr d4746, .val x6454, .own v6511, .val v6467, .val v6474, .own (.list x6508), .own v6519, j6113, (keepS j6114), j6115] := by simp [h6516, h6518, (addF_eq h6520)]
  refine run_seq e6521 ?_
  obtain ⟨v6522, v6523, h6524, h⟩ := ob2 h
  have e6525 := tr_l_spots v6511 v6519 _ _ h6524
  obtain ⟨q6526, x6527, h6528, h⟩ := ob2 h
  have e6529 : (mIter (mPl (mFz (mCall [.io, .b] 6 m_l_spots (mCons (mVar 2) (mCons (mVar 6) mNil)))))) [.scr d4746, .val x6454, .own v6511, .val v6467, .val v6474, .own (.list x6508), .own v6519, j6113, (keepS j6114), j6115] = .ok x6527 [.scr d4746, .val x6454, .own v6523, .val v6467, .val v6474, .own (.list x6508), .own v6519, j6113, (keepS j6114), j6115] := by simp [e6525, h6528]
  obtain ⟨o6783, h6557, h⟩ := obct0 h
  have e6558 := forP_run (fun (s : Unit) (ρ : PL.Env) => ∃ (j6538 : Sl), ρ = [.scr d4746, .val x6454, .own v6523, .val v6467, .val v6474, .own (.list x6508), .own v6519, j6538, (keepS j6114), j6115]) (fun (r : D) (fl : Fl) (_ : PL.Env) => fl = .rt (.pl (.val r))) (t := (tName 7)) (b := mb_law_2) (fun x s ρ o hi hf => by obtain ⟨j6538, rfl⟩ := hi; exact tb_law_1 d4746 x6454 v6523 v6467 v6474 x6508 v6519 j6114 j6115 x j6538 o hf) x6527 () _ o6783 ⟨j6113, rfl⟩ h6557
  rcases h with ⟨r, rfl, h⟩ | ⟨rfl, h⟩
  · refine run_seq_ct (run_for e6529 e6558) (fun t fl ρ' ho hf hq => ?_) (fun s ρ' ho hi => nomatch ho)
    cases ho
    cases h
    exact ⟨hf, hq⟩
  · refine run_seq_ct (run_for e6529 e6558) (fun t fl ρ' ho hf hq => nomatch ho) (fun s ρ' ho hi => ?_)
    cases ho
    obtain ⟨j6556, rfl⟩ := hi
    obtain ⟨x6559, h6560, h⟩ := ob1 h
    have e6561 : (mRng1 (mC (.int 6))) [.scr d4746, .val x6454, .own v6523, .val v6467, .val v6474, .own (.list x6508), .own v6519, j6556, (keepS j6114), j6115] = .ok x6559 [.scr d4746, .val x6454, .own v6523, .val v6467, .val v6474, .own (.list x6508), .own v6519, j6556, (keepS j6114), j6115] := by simp [h6560]
    obtain ⟨o6784, h6781, h⟩ := obct1 h
    have e6782 := forP_run (fun (s : D) (ρ : PL.Env) => ∃ (j6633 : Sl) (j6634 : Sl), ρ = [.scr d4746, .val x6454, .own s, .val v6467, .val v6474, .own (.list x6508), .own v6519, j6556, j6633, j6634]) (fun (r : D) (fl : Fl) (_ : PL.Env) => fl = .rt (.pl (.val r))) (t := (tName 8)) (b := mb_law_1) (fun x s ρ o hi hf => by obtain ⟨j6633, j6634, rfl⟩ := hi; exact tb_law_2 d4746 x6454 v6467 v6474 x6508 v6519 j6556 x s j6633 j6634 o hf) x6559 v6523 _ o6784 ⟨(keepS j6114), j6115, rfl⟩ h6781
    rcases h with ⟨r, rfl, h⟩ | ⟨v6778, rfl, h⟩
    · refine run_ct (run_for e6561 e6782) (fun t fl ρ' ho hf hq => ?_) (fun s ρ' ho hi => nomatch ho)
      cases ho
      cases h
      exact ⟨hf, hq⟩
    · refine run_ct (run_for e6561 e6782) (fun t fl ρ' ho hf hq => nomatch ho) (fun s ρ' ho hi => ?_)
      cases ho
      obtain ⟨j6779, j6780, rfl⟩ := hi
      obtain rfl := Option.some.inj h
      exact ⟨.inl rfl, .val x6454, .own v6778, .val v6467, .val v6474, .own (.list x6508), .own v6519, j6556, j6779, j6780, rfl⟩
theorem tr_law (d4746 : List Int) (r : D) (h : p_law d4746 = some r) : ∃ ρ, m_law [.scr d4746, .un, .un, .un, .un, .un, .un, .un, .un, .un] = .ok (.rt (.pl (.val r))) ρ := by
  unfold p_law at h
  have e0 : PL.Run m_law [.scr d4746, .un, .un, .un, .un, .un, .un, .un, .un, .un] (fun fl _ => fl = .rt (.pl (.val r))) := by
    unfold m_law
    obtain ⟨v5771, h5772, h⟩ := ob1 h
    obtain ⟨v5773, h5774, h⟩ := ob1 h
    obtain ⟨x5775, h5776, h⟩ := ob1 h
    have e5777 : (mRng1 (mN gMax2 (mCons (mPl (mC (.int 1))) (mCons (mPl (mN gMin2 (mCons (mPl (mC (.int 6))) (mCons (mPl (mLenS 0)) mNil)))) mNil)))) [.scr d4746, .un, .un, .un, .un, .un, .un, .un, .un, .un] = .ok x5775 [.scr d4746, .un, .un, .un, .un, .un, .un, .un, .un, .un] := by simp [h5772, h5774, h5776]
    obtain ⟨o6797, h6794, h⟩ := obct0 h
    have e6795 := forP_run (fun (s : Unit) (ρ : PL.Env) => ∃ (j6107 : Sl) (j6108 : Sl) (j6109 : Sl) (j6110 : Sl) (j6111 : Sl) (j6112 : Sl) (j6113 : Sl) (j6114 : Sl) (j6115 : Sl), ρ = [.scr d4746, j6107, j6108, j6109, j6110, j6111, j6112, j6113, j6114, j6115]) (fun (r : D) (fl : Fl) (_ : PL.Env) => fl = .rt (.pl (.val r))) (t := (tName 1)) (b := mb_law_3) (fun x s ρ o hi hf => by obtain ⟨j6107, j6108, j6109, j6110, j6111, j6112, j6113, j6114, j6115, rfl⟩ := hi; exact tb_law_3 d4746 x j6107 j6108 j6109 j6110 j6111 j6112 j6113 j6114 j6115 o hf) x5775 () _ o6797 ⟨.un, .un, .un, .un, .un, .un, .un, .un, .un, rfl⟩ h6794
    rcases h with ⟨r, rfl, h⟩ | ⟨rfl, h⟩
    · refine run_seq_ct (run_for e5777 e6795) (fun t fl ρ' ho hf hq => ?_) (fun s ρ' ho hi => nomatch ho)
      cases ho
      cases h
      exact hq
    · refine run_seq_ct (run_for e5777 e6795) (fun t fl ρ' ho hf hq => nomatch ho) (fun s ρ' ho hi => ?_)
      cases ho
      obtain ⟨j6785, j6786, j6787, j6788, j6789, j6790, j6791, j6792, j6793, rfl⟩ := hi
      have e6796 : (mRv (mPl (mC (.bool true)))) [.scr d4746, j6785, j6786, j6787, j6788, j6789, j6790, j6791, j6792, j6793] = .ok (.pl (.val (.bool true))) [.scr d4746, j6785, j6786, j6787, j6788, j6789, j6790, j6791, j6792, j6793] := by simp []
      obtain rfl := Option.some.inj h
      exact run_ret e6796 rfl
  obtain ⟨fl, ρ', e0, e1⟩ := e0
  exact ⟨ρ', by rw [e0, e1]⟩
end Y
namespace PL
open PySem PySem.Spec L2 RT RZ
section
variable {α β : Type} (ρ ρ' : PL.Env) (i j : Nat) (d e : D) (ds es : List D) (x y : Int) (b : Bool)
@[simp] theorem q_tru_b : truD (.bool b) = some b := Eq.trans rfl rfl
@[simp] theorem q_tru_l : truD (.list ds) = some (!ds.isEmpty) := Eq.trans rfl rfl
@[simp] theorem q_tru_i : truD (.int x) = some (x != 0) := Eq.trans rfl rfl
@[simp] theorem q_tru_n : truD .none = some false := Eq.trans rfl rfl
@[simp] theorem q_add_i : gAdd (.int x) (.int y) = some (false, .int (x + y)) := Eq.trans rfl rfl
@[simp] theorem q_add_l : gAdd (.list ds) (.list es) = if ds.length + es.length ≤ 100000 then some (true, .list (ds ++ es)) else none := Eq.trans rfl rfl
@[simp] theorem q_mul_i : gMul (.int x) (.int y) = if cMulW x y = true then some (false, .int (x * y)) else none := Eq.trans rfl rfl
@[simp] theorem q_on0 (f : Int → Int → D) : onInts0 f (.int x) (.int y) = some (f x y) := Eq.trans rfl rfl
@[simp] theorem q_onIB (f : Int → Int → Bool) : onIB f (.int x) (.int y) = some (.bool (f x y)) := Eq.trans rfl rfl
@[simp] theorem q_onIBb (f : Int → Int → Bool) : onIB f (.bool b) (.int y) = some (.bool (f (if b then 1 else 0) y)) := Eq.trans rfl rfl
@[simp] theorem q_on (c : Int → Int → Bool) (f : Int → Int → D) : onInts c f (.int x) (.int y) = if c x y = true then some (f x y) else none := Eq.trans rfl rfl
@[simp] theorem q_ix_l : gIx (.list ds) (.int x) = atI ds x := Eq.trans rfl rfl
@[simp] theorem q_ix_t : gIx (.tuple ds) (.int x) = atI ds x := Eq.trans rfl rfl
@[simp] theorem q_is_n : gIs d .none = some (.bool (isNone d)) := Eq.trans rfl rfl
@[simp] theorem q_not_n : gNot d .none = some (.bool (!isNone d)) := Eq.trans rfl rfl
@[simp] theorem q_is_b : gIs (.bool b) (.bool c) = some (.bool (decide (b = c))) := Eq.trans rfl rfl
@[simp] theorem q_not_b : gNot (.bool b) (.bool c) = some (.bool (!decide (b = c))) := Eq.trans rfl rfl
@[simp] theorem q_isNone_n : isNone .none = true := Eq.trans rfl rfl
@[simp] theorem q_isNone_i : isNone (.int x) = false := Eq.trans rfl rfl
@[simp] theorem q_isNone_b : isNone (.bool b) = false := Eq.trans rfl rfl
@[simp] theorem q_isNone_l : isNone (.list ds) = false := Eq.trans rfl rfl
@[simp] theorem q_isNone_t : isNone (.tuple ds) = false := Eq.trans rfl rfl
@[simp] theorem q_isNone_s (s : Str) : isNone (.str s) = false := Eq.trans rfl rfl
@[simp] theorem q_isNone_d (kv : List (D × D)) : isNone (.dict kv) = false := Eq.trans rfl rfl
@[simp] theorem q_eq_ii : gEq (.int x) (.int y) = some (.bool (x == y)) := Eq.trans rfl rfl
@[simp] theorem q_ne_ii : gNe (.int x) (.int y) = some (.bool (!(x == y))) := Eq.trans rfl rfl
@[simp] theorem q_eq_bb (c : Bool) : gEq (.bool b) (.bool c) = some (.bool (b == c)) := Eq.trans rfl rfl
@[simp] theorem q_ne_bb (c : Bool) : gNe (.bool b) (.bool c) = some (.bool (!(b == c))) := Eq.trans rfl rfl
@[simp] theorem q_len_l : gLen [.list ds] = some (.int ds.length) := Eq.trans rfl rfl
@[simp] theorem q_len_t : gLen [.tuple ds] = some (.int ds.length) := Eq.trans rfl rfl
@[simp] theorem q_abs : gAbs [.int x] = some (.int (if x < 0 then -x else x)) := Eq.trans rfl rfl
@[simp] theorem q_max2 : gMax2 [.int x, .int y] = some (.int (if y > x then y else x)) := Eq.trans rfl rfl
@[simp] theorem q_min2 : gMin2 [.int x, .int y] = some (.int (if y < x then y else x)) := Eq.trans rfl rfl
@[simp] theorem q_int1_i : gInt1 [.int x] = some (.int x) := Eq.trans rfl rfl
@[simp] theorem q_int1_b : gInt1 [.bool b] = some (.int (if b then 1 else 0)) := Eq.trans rfl rfl
@[simp] theorem q_list_l : gList [.list ds] = some (.list ds) := Eq.trans rfl rfl
@[simp] theorem q_list_t : gList [.tuple ds] = some (.list ds) := Eq.trans rfl rfl
@[simp] theorem q_tuple_l : gTuple [.list ds] = some (.tuple ds) := Eq.trans rfl rfl
@[simp] theorem q_all : gAll [.list ds] = (bools ds).map fun bs => .bool (bs.all id) := Eq.trans rfl rfl
@[simp] theorem q_revs : gRevs (.list ds) = some (.list ds.reverse) := Eq.trans rfl rfl
@[simp] theorem q_append : gAppend ds [d] = if ds.length < 100000 then some (ds ++ [d], .none) else none := Eq.trans rfl rfl
@[simp] theorem q_isi (Ts : List String) : gIsi Ts d = some (.bool (Ts.any fun T => isTy (tyD d) T)) := Eq.trans rfl rfl
@[simp] theorem q_tyD_n : tyD .none = "NoneType" := Eq.trans rfl rfl
@[simp] theorem q_tyD_b : tyD (.bool b) = "bool" := Eq.trans rfl rfl
@[simp] theorem q_tyD_i : tyD (.int x) = "int" := Eq.trans rfl rfl
@[simp] theorem q_tyD_s (s : Str) : tyD (.str s) = "str" := Eq.trans rfl rfl
@[simp] theorem q_tyD_l : tyD (.list ds) = "list" := Eq.trans rfl rfl
@[simp] theorem q_tyD_t : tyD (.tuple ds) = "tuple" := Eq.trans rfl rfl
@[simp] theorem q_tyD_d (kv : List (D × D)) : tyD (.dict kv) = "dict" := Eq.trans rfl rfl
@[simp] theorem q_isTy (t T : String) : isTy t T = if T = "int" then (t == "int" || t == "bool") else t == T := by
  unfold isTy
  split
  · rfl
  · rename_i h; rw [if_neg (fun z => h z)]
@[simp] theorem q_items_l : itemsD (.list ds) = some (false, ds) := Eq.trans rfl rfl
@[simp] theorem q_items_t : itemsD (.tuple ds) = some (true, ds) := Eq.trans rfl rfl
@[simp] theorem q_atom_i : atom (.int x) = true := Eq.trans rfl rfl
@[simp] theorem q_atom_b : atom (.bool b) = true := Eq.trans rfl rfl
@[simp] theorem q_atom_n : atom .none = true := Eq.trans rfl rfl
@[simp] theorem q_isL : isL (.list ds) = some (.list ds) := Eq.trans rfl rfl
@[simp] theorem v_isbI (c : Bool) : gIs (.int x) (.bool c) = some (.bool false) := Eq.trans rfl rfl
@[simp] theorem v_isbN (c : Bool) : gIs .none (.bool c) = some (.bool false) := Eq.trans rfl rfl
@[simp] theorem v_isbS (s : Str) (c : Bool) : gIs (.str s) (.bool c) = some (.bool false) := Eq.trans rfl rfl
@[simp] theorem v_isbL (c : Bool) : gIs (.list ds) (.bool c) = some (.bool false) := Eq.trans rfl rfl
@[simp] theorem v_isbT (c : Bool) : gIs (.tuple ds) (.bool c) = some (.bool false) := Eq.trans rfl rfl
@[simp] theorem v_isbD (k : List (D × D)) (c : Bool) : gIs (.dict k) (.bool c) = some (.bool false) := Eq.trans rfl rfl
@[simp] theorem v_notbI (c : Bool) : gNot (.int x) (.bool c) = some (.bool true) := Eq.trans rfl rfl
@[simp] theorem v_tup2 : tup2 (.tuple [d, e]) = some (d, e) := Eq.trans rfl rfl
@[simp] theorem v_tup3 (f : D) : tup3 (.tuple [d, e, f]) = some (d, e, f) := Eq.trans rfl rfl
@[simp] theorem v_ixP : ixP (.int x) = some x := Eq.trans rfl rfl
@[simp] theorem v_atP_i : atP (.int x) = some () := Eq.trans rfl rfl
@[simp] theorem v_atP_b : atP (.bool b) = some () := Eq.trans rfl rfl
@[simp] theorem v_atP_n : atP .none = some () := Eq.trans rfl rfl
@[simp] theorem v_negP : negP (.int x) = some (.int (-x)) := Eq.trans rfl rfl
@[simp] theorem v_rng1P : rng1P (.int x) = if small62 x = true then some (rngD 0 x) else none := Eq.trans rfl rfl
@[simp] theorem v_rng2P : rng2P (.int x) (.int y) = if (small62 x && small62 y) = true then some (rngD x y) else none := Eq.trans rfl rfl
@[simp] theorem v_lrgP : lrgP (.int x) = if (decide (-100000 ≤ x) && decide (x ≤ 100000)) = true then some (.list (rngD 0 x)) else none := Eq.trans rfl rfl
@[simp] theorem v_dict1P : dict1P (.int x) d = some (.dict [(.int x, d)]) := Eq.trans rfl rfl
@[simp] theorem v_rngdP : rngdP (.int x) (.int y) = if (small62 x && small62 y) = true then some (rngdD x y) else none := Eq.trans rfl rfl
@[simp] theorem v_addV : addV (.int x) (.int y) = some (.int (x + y)) := Eq.trans rfl rfl
@[simp] theorem v_addF : addF (.list ds) (.list es) = if ds.length + es.length ≤ 100000 then some (.list (ds ++ es)) else none := by
  unfold addF; rw [q_add_l]; by_cases h : ds.length + es.length ≤ 100000 <;> simp only [h, if_true, if_false]
@[simp] theorem v_mulV : mulV (.int x) (.int y) = if cMulW x y = true then some (.int (x * y)) else none := by
  unfold mulV; rw [q_mul_i]; by_cases h : cMulW x y = true
  · rw [if_pos h, if_pos h]
  · rw [if_neg h, if_neg h]
@[simp] theorem v_slF (l h : Option Int) : slF (.list ds) l h = some (.list (cutD ds l h)) := Eq.trans rfl rfl
@[simp] theorem v_sl (l h : Option Int) : sliceD (.list ds) l h = some (true, .list (cutD ds l h)) := Eq.trans rfl rfl
@[simp] theorem v_slW (l h : Option Int) : slW (.list ds) l h = some (.list (cutD ds l h)) := Eq.trans rfl rfl
@[simp] theorem v_sliceW (l h : Option Int) : sliceW (.list ds) l h = some (false, .list (cutD ds l h)) := Eq.trans rfl rfl
@[simp] theorem v_mutP (g : List D → List D → Option (List D × D)) (as : List D) : mutP g (.list ds) as = (g ds as).map fun nr => (.list nr.1, nr.2) := Eq.trans rfl rfl
@[simp] theorem v_setP : setP (.list ds) (.int x) e = (ixN ds.length x).map fun i => .list (ds.set i e) := Eq.trans rfl rfl
@[simp] theorem v_ixSP (ns : List Int) : ixSP ns (.int x) = (atI ns x).map .int := Eq.trans rfl rfl
@[simp] theorem v_gAddI : gAddI (.int x) (.int y) = some (.int (x + y)) := Eq.trans rfl rfl
@[simp] theorem v_sorted : gSorted [.list ds] = (nums ds).map fun ns => .list ((sortI ns).map .int) := Eq.trans rfl rfl
@[simp] theorem v_neg_c : negP (.int x) = some (.int (-x)) := Eq.trans rfl rfl
@[simp] theorem v_bind1 {α γ : Type} (f : α → Option γ) (x : α) : bind1 (some x) f = f x := Eq.trans rfl rfl
@[simp] theorem v_bind1n {α γ : Type} (f : α → Option γ) : bind1 none f = none := Eq.trans rfl rfl
@[simp] theorem v_bind2 {α1 α2 γ : Type} (f : α1 → α2 → Option γ) (x1 : α1) (x2 : α2) : bind2 (some (x1, x2)) f = f x1 x2 := Eq.trans rfl rfl
@[simp] theorem v_bind2n {α1 α2 γ : Type} (f : α1 → α2 → Option γ) : bind2 none f = none := Eq.trans rfl rfl
@[simp] theorem v_bind3 {α1 α2 α3 γ : Type} (f : α1 → α2 → α3 → Option γ) (x1 : α1) (x2 : α2) (x3 : α3) : bind3 (some (x1, x2, x3)) f = f x1 x2 x3 := Eq.trans rfl rfl
@[simp] theorem v_bind3n {α1 α2 α3 γ : Type} (f : α1 → α2 → α3 → Option γ) : bind3 none f = none := Eq.trans rfl rfl
@[simp] theorem v_bind4 {α1 α2 α3 α4 γ : Type} (f : α1 → α2 → α3 → α4 → Option γ) (x1 : α1) (x2 : α2) (x3 : α3) (x4 : α4) : bind4 (some (x1, x2, x3, x4)) f = f x1 x2 x3 x4 := Eq.trans rfl rfl
@[simp] theorem v_bind4n {α1 α2 α3 α4 γ : Type} (f : α1 → α2 → α3 → α4 → Option γ) : bind4 none f = none := Eq.trans rfl rfl
@[simp] theorem v_bind5 {α1 α2 α3 α4 α5 γ : Type} (f : α1 → α2 → α3 → α4 → α5 → Option γ) (x1 : α1) (x2 : α2) (x3 : α3) (x4 : α4) (x5 : α5) : bind5 (some (x1, x2, x3, x4, x5)) f = f x1 x2 x3 x4 x5 := Eq.trans rfl rfl
@[simp] theorem v_bind5n {α1 α2 α3 α4 α5 γ : Type} (f : α1 → α2 → α3 → α4 → α5 → Option γ) : bind5 none f = none := Eq.trans rfl rfl
@[simp] theorem v_bind6 {α1 α2 α3 α4 α5 α6 γ : Type} (f : α1 → α2 → α3 → α4 → α5 → α6 → Option γ) (x1 : α1) (x2 : α2) (x3 : α3) (x4 : α4) (x5 : α5) (x6 : α6) : bind6 (some (x1, x2, x3, x4, x5, x6)) f = f x1 x2 x3 x4 x5 x6 := Eq.trans rfl rfl
@[simp] theorem v_bind6n {α1 α2 α3 α4 α5 α6 γ : Type} (f : α1 → α2 → α3 → α4 → α5 → α6 → Option γ) : bind6 none f = none := Eq.trans rfl rfl
@[simp] theorem v_bind7 {α1 α2 α3 α4 α5 α6 α7 γ : Type} (f : α1 → α2 → α3 → α4 → α5 → α6 → α7 → Option γ) (x1 : α1) (x2 : α2) (x3 : α3) (x4 : α4) (x5 : α5) (x6 : α6) (x7 : α7) : bind7 (some (x1, x2, x3, x4, x5, x6, x7)) f = f x1 x2 x3 x4 x5 x6 x7 := Eq.trans rfl rfl
@[simp] theorem v_bind7n {α1 α2 α3 α4 α5 α6 α7 γ : Type} (f : α1 → α2 → α3 → α4 → α5 → α6 → α7 → Option γ) : bind7 none f = none := Eq.trans rfl rfl
@[simp] theorem v_bind8 {α1 α2 α3 α4 α5 α6 α7 α8 γ : Type} (f : α1 → α2 → α3 → α4 → α5 → α6 → α7 → α8 → Option γ) (x1 : α1) (x2 : α2) (x3 : α3) (x4 : α4) (x5 : α5) (x6 : α6) (x7 : α7) (x8 : α8) : bind8 (some (x1, x2, x3, x4, x5, x6, x7, x8)) f = f x1 x2 x3 x4 x5 x6 x7 x8 := Eq.trans rfl rfl
@[simp] theorem v_bind8n {α1 α2 α3 α4 α5 α6 α7 α8 γ : Type} (f : α1 → α2 → α3 → α4 → α5 → α6 → α7 → α8 → Option γ) : bind8 none f = none := Eq.trans rfl rfl
@[simp] theorem v_bind9 {α1 α2 α3 α4 α5 α6 α7 α8 α9 γ : Type} (f : α1 → α2 → α3 → α4 → α5 → α6 → α7 → α8 → α9 → Option γ) (x1 : α1) (x2 : α2) (x3 : α3) (x4 : α4) (x5 : α5) (x6 : α6) (x7 : α7) (x8 : α8) (x9 : α9) : bind9 (some (x1, x2, x3, x4, x5, x6, x7, x8, x9)) f = f x1 x2 x3 x4 x5 x6 x7 x8 x9 := Eq.trans rfl rfl
@[simp] theorem v_bind9n {α1 α2 α3 α4 α5 α6 α7 α8 α9 γ : Type} (f : α1 → α2 → α3 → α4 → α5 → α6 → α7 → α8 → α9 → Option γ) : bind9 none f = none := Eq.trans rfl rfl
@[simp] theorem v_bind10 {α1 α2 α3 α4 α5 α6 α7 α8 α9 α10 γ : Type} (f : α1 → α2 → α3 → α4 → α5 → α6 → α7 → α8 → α9 → α10 → Option γ) (x1 : α1) (x2 : α2) (x3 : α3) (x4 : α4) (x5 : α5) (x6 : α6) (x7 : α7) (x8 : α8) (x9 : α9) (x10 : α10) : bind10 (some (x1, x2, x3, x4, x5, x6, x7, x8, x9, x10)) f = f x1 x2 x3 x4 x5 x6 x7 x8 x9 x10 := Eq.trans rfl rfl
@[simp] theorem v_bind10n {α1 α2 α3 α4 α5 α6 α7 α8 α9 α10 γ : Type} (f : α1 → α2 → α3 → α4 → α5 → α6 → α7 → α8 → α9 → α10 → Option γ) : bind10 none f = none := Eq.trans rfl rfl
@[simp] theorem v_ctB0 { T γ : Type} (g : T → Option γ) (f : Unit → Option γ) : ctB0 (some (.nx ())) g f = f () := Eq.trans rfl rfl
@[simp] theorem v_ctB0r { T γ : Type} (g : T → Option γ) (f : Unit → Option γ) (t : T) : ctB0 (some (.rt t)) g f = g t := Eq.trans rfl rfl
@[simp] theorem v_ctB1 {α1 T γ : Type} (g : T → Option γ) (f : α1 → Option γ) (x1 : α1) : ctB1 (some (.nx x1)) g f = f x1 := Eq.trans rfl rfl
@[simp] theorem v_ctB1r {α1 T γ : Type} (g : T → Option γ) (f : α1 → Option γ) (t : T) : ctB1 (some (.rt t)) g f = g t := Eq.trans rfl rfl
@[simp] theorem v_ctB2 {α1 α2 T γ : Type} (g : T → Option γ) (f : α1 → α2 → Option γ) (x1 : α1) (x2 : α2) : ctB2 (some (.nx (x1, x2))) g f = f x1 x2 := Eq.trans rfl rfl
@[simp] theorem v_ctB2r {α1 α2 T γ : Type} (g : T → Option γ) (f : α1 → α2 → Option γ) (t : T) : ctB2 (some (.rt t)) g f = g t := Eq.trans rfl rfl
@[simp] theorem v_ctB3 {α1 α2 α3 T γ : Type} (g : T → Option γ) (f : α1 → α2 → α3 → Option γ) (x1 : α1) (x2 : α2) (x3 : α3) : ctB3 (some (.nx (x1, x2, x3))) g f = f x1 x2 x3 := Eq.trans rfl rfl
@[simp] theorem v_ctB3r {α1 α2 α3 T γ : Type} (g : T → Option γ) (f : α1 → α2 → α3 → Option γ) (t : T) : ctB3 (some (.rt t)) g f = g t := Eq.trans rfl rfl
@[simp] theorem v_ctB4 {α1 α2 α3 α4 T γ : Type} (g : T → Option γ) (f : α1 → α2 → α3 → α4 → Option γ) (x1 : α1) (x2 : α2) (x3 : α3) (x4 : α4) : ctB4 (some (.nx (x1, x2, x3, x4))) g f = f x1 x2 x3 x4 := Eq.trans rfl rfl
@[simp] theorem v_ctB4r {α1 α2 α3 α4 T γ : Type} (g : T → Option γ) (f : α1 → α2 → α3 → α4 → Option γ) (t : T) : ctB4 (some (.rt t)) g f = g t := Eq.trans rfl rfl
@[simp] theorem v_ctB5 {α1 α2 α3 α4 α5 T γ : Type} (g : T → Option γ) (f : α1 → α2 → α3 → α4 → α5 → Option γ) (x1 : α1) (x2 : α2) (x3 : α3) (x4 : α4) (x5 : α5) : ctB5 (some (.nx (x1, x2, x3, x4, x5))) g f = f x1 x2 x3 x4 x5 := Eq.trans rfl rfl
@[simp] theorem v_ctB5r {α1 α2 α3 α4 α5 T γ : Type} (g : T → Option γ) (f : α1 → α2 → α3 → α4 → α5 → Option γ) (t : T) : ctB5 (some (.rt t)) g f = g t := Eq.trans rfl rfl
@[simp] theorem v_ctB6 {α1 α2 α3 α4 α5 α6 T γ : Type} (g : T → Option γ) (f : α1 → α2 → α3 → α4 → α5 → α6 → Option γ) (x1 : α1) (x2 : α2) (x3 : α3) (x4 : α4) (x5 : α5) (x6 : α6) : ctB6 (some (.nx (x1, x2, x3, x4, x5, x6))) g f = f x1 x2 x3 x4 x5 x6 := Eq.trans rfl rfl
@[simp] theorem v_ctB6r {α1 α2 α3 α4 α5 α6 T γ : Type} (g : T → Option γ) (f : α1 → α2 → α3 → α4 → α5 → α6 → Option γ) (t : T) : ctB6 (some (.rt t)) g f = g t := Eq.trans rfl rfl
@[simp] theorem v_ctB7 {α1 α2 α3 α4 α5 α6 α7 T γ : Type} (g : T → Option γ) (f : α1 → α2 → α3 → α4 → α5 → α6 → α7 → Option γ) (x1 : α1) (x2 : α2) (x3 : α3) (x4 : α4) (x5 : α5) (x6 : α6) (x7 : α7) : ctB7 (some (.nx (x1, x2, x3, x4, x5, x6, x7))) g f = f x1 x2 x3 x4 x5 x6 x7 := Eq.trans rfl rfl
@[simp] theorem v_ctB7r {α1 α2 α3 α4 α5 α6 α7 T γ : Type} (g : T → Option γ) (f : α1 → α2 → α3 → α4 → α5 → α6 → α7 → Option γ) (t : T) : ctB7 (some (.rt t)) g f = g t := Eq.trans rfl rfl
@[simp] theorem v_ctB8 {α1 α2 α3 α4 α5 α6 α7 α8 T γ : Type} (g : T → Option γ) (f : α1 → α2 → α3 → α4 → α5 → α6 → α7 → α8 → Option γ) (x1 : α1) (x2 : α2) (x3 : α3) (x4 : α4) (x5 : α5) (x6 : α6) (x7 : α7) (x8 : α8) : ctB8 (some (.nx (x1, x2, x3, x4, x5, x6, x7, x8))) g f = f x1 x2 x3 x4 x5 x6 x7 x8 := Eq.trans rfl rfl
@[simp] theorem v_ctB8r {α1 α2 α3 α4 α5 α6 α7 α8 T γ : Type} (g : T → Option γ) (f : α1 → α2 → α3 → α4 → α5 → α6 → α7 → α8 → Option γ) (t : T) : ctB8 (some (.rt t)) g f = g t := Eq.trans rfl rfl
@[simp] theorem v_ctB9 {α1 α2 α3 α4 α5 α6 α7 α8 α9 T γ : Type} (g : T → Option γ) (f : α1 → α2 → α3 → α4 → α5 → α6 → α7 → α8 → α9 → Option γ) (x1 : α1) (x2 : α2) (x3 : α3) (x4 : α4) (x5 : α5) (x6 : α6) (x7 : α7) (x8 : α8) (x9 : α9) : ctB9 (some (.nx (x1, x2, x3, x4, x5, x6, x7, x8, x9))) g f = f x1 x2 x3 x4 x5 x6 x7 x8 x9 := Eq.trans rfl rfl
@[simp] theorem v_ctB9r {α1 α2 α3 α4 α5 α6 α7 α8 α9 T γ : Type} (g : T → Option γ) (f : α1 → α2 → α3 → α4 → α5 → α6 → α7 → α8 → α9 → Option γ) (t : T) : ctB9 (some (.rt t)) g f = g t := Eq.trans rfl rfl
end
theorem bools_map (f : D → Bool) : ∀ ds : List D, bools (ds.map fun d => .bool (f d)) = some (ds.map f)
  | [] => rfl
  | d :: ds => by
    show (bools (ds.map fun d => .bool (f d))).map (f d :: ·) = _
    rw [bools_map f ds]; rfl
theorem nums_ints : ∀ ns : List Int, nums (ns.map PyData.int) = some ns
  | [] => rfl
  | n :: ns => by
    show (nums (ns.map PyData.int)).map (n :: ·) = _
    rw [nums_ints ns]; rfl
/-! ### loops by what holds -/
theorem foldP_inv {S : Type} {f : D → S → Option S} (I : List D → S → Prop) : ∀ (xs done : List D) (s : S), I done s →
    (∀ pre x s, x ∈ xs → pre.length < done.length + xs.length → I pre s → ∃ s', f x s = some s' ∧ I (pre ++ [x]) s') → ∃ s', foldP f xs s = some s' ∧ I (done ++ xs) s'
  | [], done, s, h0, _ => ⟨s, rfl, by rw [List.append_nil]; exact h0⟩
  | x :: xs, done, s, h0, hs => by
    obtain ⟨s1, e1, h1⟩ := hs done x s List.mem_cons_self (by rw [List.length_cons]; omega) h0
    obtain ⟨s', e2, h2⟩ := foldP_inv I xs (done ++ [x]) s1 h1 fun pre y s hy hl => hs pre y s (List.mem_cons_of_mem _ hy) (by rw [List.length_append, List.length_cons, List.length_nil] at hl; rw [List.length_cons]; omega)
    refine ⟨s', ?_, by rw [List.append_assoc] at h2; exact h2⟩
    show (f x s).bind _ = _
    rw [e1]; exact e2
/-- a fold by its invariant over what is done -/
theorem foldP_by {S : Type} {f : D → S → Option S} (I : List D → S → Prop) {xs : List D} {s : S} (h0 : I [] s)
    (hs : ∀ pre x s, x ∈ xs → pre.length < xs.length → I pre s → ∃ s', f x s = some s' ∧ I (pre ++ [x]) s') : ∃ s', foldP f xs s = some s' ∧ I xs s' := by
  have := foldP_inv I xs [] s h0 (fun pre x s hx hl => hs pre x s hx (by simpa using hl))
  simpa using this
theorem forP_inv {S T : Type} {f : D → S → Option (Ct S T)} (I : List D → S → Prop) : ∀ (xs done : List D) (s : S), I done s →
    (∀ pre x s, x ∈ xs → pre.length < done.length + xs.length → I pre s → ∃ s', f x s = some (.nx s') ∧ I (pre ++ [x]) s') → ∃ s', forP f xs s = some (.nx s') ∧ I (done ++ xs) s'
  | [], done, s, h0, _ => ⟨s, rfl, by rw [List.append_nil]; exact h0⟩
  | x :: xs, done, s, h0, hs => by
    obtain ⟨s1, e1, h1⟩ := hs done x s List.mem_cons_self (by rw [List.length_cons]; omega) h0
    obtain ⟨s', e2, h2⟩ := forP_inv I xs (done ++ [x]) s1 h1 fun pre y s hy hl => hs pre y s (List.mem_cons_of_mem _ hy) (by rw [List.length_append, List.length_cons, List.length_nil] at hl; rw [List.length_cons]; omega)
    refine ⟨s', ?_, by rw [List.append_assoc] at h2; exact h2⟩
    show (f x s).bind _ = _
    rw [e1]; exact e2
/-- a loop that is never left, by its invariant -/
theorem forP_by {S T : Type} {f : D → S → Option (Ct S T)} (I : List D → S → Prop) {xs : List D} {s : S} (h0 : I [] s)
    (hs : ∀ pre x s, x ∈ xs → pre.length < xs.length → I pre s → ∃ s', f x s = some (.nx s') ∧ I (pre ++ [x]) s') : ∃ s', forP f xs s = some (.nx s') ∧ I xs s' := by
  have := forP_inv I xs [] s h0 (fun pre x s hx hl => hs pre x s hx (by simpa using hl))
  simpa using this
theorem mapP_of {f : D → Option D} {φ : D → D} : ∀ {xs : List D}, (∀ x ∈ xs, f x = some (φ x)) → mapP f xs = some (xs.map φ)
  | [], _ => rfl
  | x :: xs, h => by
    show (f x).bind _ = _
    rw [h x List.mem_cons_self, Option.bind_some, mapP_of fun y hy => h y (List.mem_cons_of_mem _ hy)]; rfl
theorem mapT_of {f : D → Option D} {φ : D → D} {xs : List D} (hl : xs.length ≤ 100000) (h : ∀ x ∈ xs, f x = some (φ x)) : mapT f xs = some (xs.map φ) := by
  unfold mapT
  rw [mapP_of h, Option.bind_some, if_pos (by rw [List.length_map]; exact hl)]
theorem filP_of {f : D → Option (Option D)} {φ : D → Option D} : ∀ {xs : List D}, (∀ x ∈ xs, f x = some (φ x)) → filP f xs = some (xs.filterMap φ)
  | [], _ => rfl
  | x :: xs, h => by
    show (f x).bind _ = _
    rw [h x List.mem_cons_self, Option.bind_some, filP_of fun y hy => h y (List.mem_cons_of_mem _ hy), Option.bind_some, List.filterMap_cons]
    cases φ x <;> rfl
theorem filT_of {f : D → Option (Option D)} {φ : D → Option D} {xs : List D} (hl : xs.length ≤ 100000) (h : ∀ x ∈ xs, f x = some (φ x)) : filT f xs = some (xs.filterMap φ) := by
  unfold filT
  rw [filP_of h, Option.bind_some, if_pos (Nat.le_trans (List.length_filterMap_le _ _) hl)]
/-- the same, typed: the things gone through are written -/
theorem mapT_enc {α : Type} {f : D → Option D} {e : α → D} {φ : α → D} {xs : List α} (hl : xs.length ≤ 100000) (h : ∀ x ∈ xs, f (e x) = some (φ x)) : mapT f (xs.map e) = some (xs.map φ) := by
  have key : ∀ ys : List α, (∀ x ∈ ys, f (e x) = some (φ x)) → mapP f (ys.map e) = some (ys.map φ) := by
    intro ys
    induction ys with
    | nil => intro _; rfl
    | cons y ys ih =>
      intro h
      show (f (e y)).bind _ = _
      rw [h y List.mem_cons_self, Option.bind_some, ih fun z hz => h z (List.mem_cons_of_mem _ hz)]; rfl
  unfold mapT
  rw [key xs h, Option.bind_some, if_pos (by rw [List.length_map]; exact hl)]
theorem foldP_enc {α S : Type} {f : D → S → Option S} {e : α → D} (I : List α → S → Prop) {xs : List α} {s : S} (h0 : I [] s)
    (hs : ∀ pre x post s, xs = pre ++ x :: post → I pre s → ∃ s', f (e x) s = some s' ∧ I (pre ++ [x]) s') : ∃ s', foldP f (xs.map e) s = some s' ∧ I xs s' := by
  have key : ∀ (ys done : List α) (s : S), xs = done ++ ys → I done s → ∃ s', foldP f (ys.map e) s = some s' ∧ I xs s' := by
    intro ys
    induction ys with
    | nil => intro done s hx hi; rw [List.append_nil] at hx; subst hx; exact ⟨s, rfl, hi⟩
    | cons y ys ih =>
      intro done s hx hi
      obtain ⟨s1, e1, h1⟩ := hs done y ys s hx hi
      obtain ⟨s', e2, h2⟩ := ih (done ++ [y]) s1 (by rw [hx, List.append_assoc]; rfl) h1
      refine ⟨s', ?_, h2⟩
      show (f (e y) s).bind _ = _
      rw [e1]; exact e2
  exact key xs [] s rfl h0
theorem forP_enc {α S T : Type} {f : D → S → Option (Ct S T)} {e : α → D} (I : List α → S → Prop) {xs : List α} {s : S} (h0 : I [] s)
    (hs : ∀ pre x post s, xs = pre ++ x :: post → I pre s → ∃ s', f (e x) s = some (.nx s') ∧ I (pre ++ [x]) s') : ∃ s', forP f (xs.map e) s = some (.nx s') ∧ I xs s' := by
  have key : ∀ (ys done : List α) (s : S), xs = done ++ ys → I done s → ∃ s', forP f (ys.map e) s = some (.nx s') ∧ I xs s' := by
    intro ys
    induction ys with
    | nil => intro done s hx hi; rw [List.append_nil] at hx; subst hx; exact ⟨s, rfl, hi⟩
    | cons y ys ih =>
      intro done s hx hi
      obtain ⟨s1, e1, h1⟩ := hs done y ys s hx hi
      obtain ⟨s', e2, h2⟩ := ih (done ++ [y]) s1 (by rw [hx, List.append_assoc]; rfl) h1
      refine ⟨s', ?_, h2⟩
      show (f (e y) s).bind _ = _
      rw [e1]; exact e2
  exact key xs [] s rfl h0
end PL
namespace PL
open PySem PySem.Spec L2 RT RZ
section
variable (d e x : D) (ds es fs : List D) (ks : List (D × D)) (i j : Int)
@[simp] theorem v_ixA_d : gIxA (.dict ks) (.int i) = lookD ks i := Eq.trans rfl rfl
@[simp] theorem v_ixA_l : gIxA (.list ds) (.int i) = atI ds i := Eq.trans rfl rfl
@[simp] theorem v_isDct : isDct (.dict ks) = some () := Eq.trans rfl rfl
@[simp] theorem v_get2 : get2D (.dict ks) (.int i) x = some ((lookD ks i).getD x) := Eq.trans rfl rfl
@[simp] theorem v_dputP : dputP (.dict ks) (.int i) x = if ks.length < 100000 then some (.dict (putD ks i x)) else none := Eq.trans rfl rfl
@[simp] theorem v_sortedA_d : gSortedA [.dict ks] = (keyInts ks).map fun ns => .list ((sortI ns).map .int) := Eq.trans rfl rfl
@[simp] theorem v_sortedA_l : gSortedA [.list ds] = (nums ds).map fun ns => .list ((sortI ns).map .int) := Eq.trans rfl rfl
@[simp] theorem v_sortSet : gSortSet (.list ds) = if ds.length ≤ 4000 then (nums ds).map fun ns => .list ((uniqI ns).map .int) else none := Eq.trans rfl rfl
@[simp] theorem v_zip3P : zip3P (.list ds) (.list es) (.list fs) = some (z3 ds es fs) := Eq.trans rfl rfl
end
end PL
namespace Y
open PySem PL L2
/-! ### tables as what holds at each company -/
abbrev Tab := List (Int × Int)
def lvF : Int → Tab → Int → Int
  | m, [], _ => m
  | m, p :: r, c => if p.1 ≤ c then lvF p.2 r c else m
def lv (t : Tab) (c : Int) : Int := lvF 0 t c
/-- rising beyond a -/
def Rise : Int → Tab → Prop
  | _, [] => True
  | a, p :: r => a < p.1 ∧ Rise p.1 r
theorem Rise.mono {a b : Int} : ∀ {t : Tab}, Rise a t → b ≤ a → Rise b t
  | [], _, _ => trivial
  | p :: r, h, hb => ⟨by have := h.1; omega, h.2⟩
theorem Rise.all {a : Int} : ∀ {t : Tab}, Rise a t → ∀ p ∈ t, a < p.1
  | [], _, _, hp => by cases hp
  | q :: r, h, p, hp => by
    rcases List.mem_cons.mp hp with rfl | hp
    · exact h.1
    · have := h.2.all p hp
      have := h.1
      omega
theorem lvF_low {a : Int} : ∀ {t : Tab} {m c : Int}, Rise a t → c ≤ a → lvF m t c = m
  | [], _, _, _, _ => rfl
  | p :: r, m, c, h, hc => by
    have h1 := h.1
    unfold lvF
    rw [if_neg (by omega)]
/-- rising beyond a, each many from nought on and unlike the one ahead -/
def Can : Int → Int → Tab → Prop
  | _, _, [] => True
  | a, l, p :: r => a < p.1 ∧ l ≠ p.2 ∧ 0 ≤ p.2 ∧ Can p.1 p.2 r
theorem Can.rise : ∀ {t : Tab} {a l : Int}, Can a l t → Rise a t
  | [], _, _, _ => trivial
  | _ :: _, _, _, h => ⟨h.1, Can.rise h.2.2.2⟩
theorem can_one : ∀ {r r' : Tab} {a m : Int}, Can a m r → Can a m r' → (∀ c, a ≤ c → lvF m r c = lvF m r' c) → r = r'
  | [], [], _, _, _, _, _ => rfl
  | [], q :: s, a, m, _, h', e => by
    have e1 := e q.1 (by have := h'.1; omega)
    unfold lvF at e1
    rw [if_pos (Int.le_refl _), lvF_low h'.2.2.2.rise (Int.le_refl _)] at e1
    exact absurd e1 h'.2.1
  | p :: r, [], a, m, h, _, e => by
    have e1 := e p.1 (by have := h.1; omega)
    unfold lvF at e1
    rw [if_pos (Int.le_refl _), lvF_low h.2.2.2.rise (Int.le_refl _)] at e1
    exact absurd e1.symm h.2.1
  | p :: r, q :: s, a, m, h, h', e => by
    have hp := h.1
    have hq := h'.1
    have ep := e p.1 (by omega)
    have eq := e q.1 (by omega)
    simp only [lvF] at ep eq
    rw [if_pos (Int.le_refl _), lvF_low h.2.2.2.rise (Int.le_refl _)] at ep
    rw [if_pos (Int.le_refl (q.1)), lvF_low h'.2.2.2.rise (Int.le_refl _)] at eq
    rcases Int.lt_trichotomy p.1 q.1 with hl | hl | hl
    · rw [if_neg (by omega)] at ep
      exact absurd ep.symm h.2.1
    · rw [if_pos (by omega), lvF_low h'.2.2.2.rise (by omega)] at ep
      have : p = q := Prod.ext hl ep
      subst this
      refine congrArg _ (can_one h.2.2.2 h'.2.2.2 fun c hc => ?_)
      have := e c (by omega)
      simp only [lvF] at this
      rwa [if_pos hc, if_pos hc] at this
    · rw [if_neg (by omega)] at eq
      exact absurd eq h'.2.1
/-- a table -/
def IsTab (t : Tab) : Prop := ∃ m r, t = (0, m) :: r ∧ 0 ≤ m ∧ Can 0 m r
theorem lv_head (m : Int) (r : Tab) {c : Int} (hc : 0 ≤ c) : lv ((0, m) :: r) c = lvF m r c := by
  show (if (0 : Int) ≤ c then lvF m r c else 0) = _
  rw [if_pos hc]
theorem tab_one {t t' : Tab} (h : IsTab t) (h' : IsTab t') (e : ∀ c, 0 ≤ c → lv t c = lv t' c) : t = t' := by
  obtain ⟨m, r, rfl, _, k⟩ := h
  obtain ⟨m', r', rfl, _, k'⟩ := h'
  have e0 := e 0 (Int.le_refl _)
  rw [lv_head _ _ (Int.le_refl _), lv_head _ _ (Int.le_refl _), lvF_low k.rise (Int.le_refl _), lvF_low k'.rise (Int.le_refl _)] at e0
  subst e0
  rw [can_one k k' fun c hc => by rw [← lv_head m r hc, ← lv_head m r' hc]; exact e c hc]
structure TabOf (t : Tab) (f : Int → Int) : Prop where
  tab : IsTab t
  at_ : ∀ c, 0 ≤ c → lv t c = f c
theorem TabOf.one {t t' : Tab} {f : Int → Int} (h : TabOf t f) (h' : TabOf t' f) : t = t' := tab_one h.tab h'.tab fun c hc => by rw [h.at_ c hc, h'.at_ c hc]
theorem TabOf.congr {t : Tab} {f g : Int → Int} (h : TabOf t f) (e : ∀ c, 0 ≤ c → f c = g c) : TabOf t g := ⟨h.tab, fun c hc => by rw [h.at_ c hc, e c hc]⟩
theorem lvF_nn : ∀ {t : Tab} {m a l : Int}, Can a l t → 0 ≤ m → ∀ c, 0 ≤ lvF m t c
  | [], _, _, _, _, hm, _ => hm
  | p :: r, m, a, l, h, hm, c => by
    unfold lvF
    split
    · exact lvF_nn h.2.2.2 h.2.2.1 c
    · exact hm
theorem IsTab.nn {t : Tab} (h : IsTab t) (c : Int) : 0 ≤ lv t c := by
  obtain ⟨m, r, rfl, hm, k⟩ := h
  show 0 ≤ (if (0 : Int) ≤ c then lvF m r c else 0)
  split
  · exact lvF_nn k hm c
  · omega
theorem TabOf.nn {t : Tab} {f : Int → Int} (h : TabOf t f) {c : Int} (hc : 0 ≤ c) : 0 ≤ f c := by rw [← h.at_ c hc]; exact h.tab.nn c
/-- at an index -/
theorem lvF_ix : ∀ {t : Tab} {a m c : Int} (i : Nat) (hi : i < t.length), Rise a t → t[i].1 ≤ c → (∀ h : i + 1 < t.length, c < t[i + 1].1) → lvF m t c = t[i].2
  | [], _, _, _, _, hi, _, _, _ => by simp at hi
  | p :: r, a, m, c, 0, _, h, h1, h2 => by
    have h1' : p.1 ≤ c := h1
    show (if p.1 ≤ c then lvF p.2 r c else m) = p.2
    rw [if_pos h1']
    cases r with
    | nil => rfl
    | cons q s =>
      have : c < q.1 := h2 (by simp)
      show (if q.1 ≤ c then _ else _) = _
      rw [if_neg (by omega)]
  | p :: r, a, m, c, i + 1, hi, h, h1, h2 => by
    have hi' : i < r.length := by simpa using hi
    have hr : p.1 < r[i].1 := h.2.all _ (List.getElem_mem hi')
    have h1' : r[i].1 ≤ c := h1
    show (if p.1 ≤ c then lvF p.2 r c else m) = r[i].2
    rw [if_pos (by omega)]
    exact lvF_ix i hi' h.2 h1' fun hx => h2 (by simpa using hx)
theorem lv_ix {t : Tab} {a c : Int} (i : Nat) (hi : i < t.length) (h : Rise a t) (h1 : t[i].1 ≤ c) (h2 : ∀ h : i + 1 < t.length, c < t[i + 1].1) : lv t c = t[i].2 := lvF_ix i hi h h1 h2
theorem IsTab.rise {t : Tab} (h : IsTab t) : Rise (-1) t := by
  obtain ⟨m, r, rfl, _, k⟩ := h
  exact ⟨by show (-1 : Int) < 0; omega, k.rise⟩
theorem IsTab.ne {t : Tab} (h : IsTab t) : 0 < t.length := by
  obtain ⟨m, r, rfl, _, _⟩ := h
  simp
theorem IsTab.head {t : Tab} (h : IsTab t) : (t[0]'h.ne).1 = 0 := by
  obtain ⟨m, r, rfl, _, _⟩ := h
  rfl
theorem Rise.lt {a : Int} : ∀ {t : Tab} {i j : Nat} (hj : j < t.length) (hij : i < j), Rise a t → (t[i]'(by omega)).1 < t[j].1
  | [], _, _, hj, _, _ => by simp at hj
  | p :: r, 0, j + 1, hj, _, h => by
    have hj' : j < r.length := by simpa using hj
    exact h.2.all r[j] (List.getElem_mem hj')
  | p :: r, i + 1, j + 1, hj, hij, h => Rise.lt (t := r) (by simpa using hj) (by omega) h.2
  | p :: r, i, 0, _, hij, _ => by omega
theorem Rise.le {a : Int} {t : Tab} {i j : Nat} (hj : j < t.length) (hij : i ≤ j) (h : Rise a t) : (t[i]'(by omega)).1 ≤ t[j].1 := by
  rcases Nat.lt_or_eq_of_le hij with h1 | h1
  · exact Int.le_of_lt (h.lt hj h1)
  · subst h1; exact Int.le_refl _
/-- steps at which nothing changes left out -/
def lvl : Option Int → Tab → Tab
  | _, [] => []
  | l, p :: r => if l = some p.2 then lvl l r else p :: lvl (some p.2) r
theorem lvl_can : ∀ {t : Tab} {a l : Int}, Rise a t → (∀ p ∈ t, 0 ≤ p.2) → Can a l (lvl (some l) t)
  | [], _, _, _, _ => trivial
  | p :: r, a, l, h, hn => by
    have hn' : ∀ q ∈ r, 0 ≤ q.2 := fun q hq => hn q (List.mem_cons_of_mem _ hq)
    have hp := h.1
    unfold lvl
    split
    · exact lvl_can (h.2.mono (by omega)) hn'
    · rename_i hne
      exact ⟨hp, fun e => hne (by rw [e]), hn p List.mem_cons_self, lvl_can h.2 hn'⟩
theorem lvl_lv : ∀ {t : Tab} {a m c : Int}, Rise a t → lvF m (lvl (some m) t) c = lvF m t c
  | [], _, _, _, _ => rfl
  | p :: r, a, m, c, h => by
    unfold lvl
    split
    · rename_i e
      have e : m = p.2 := Option.some.inj e
      rw [lvl_lv h.2]
      show _ = (if p.1 ≤ c then lvF p.2 r c else m)
      split
      · rw [e]
      · rename_i hc
        exact lvF_low h.2 (by omega)
    · show (if p.1 ≤ c then lvF p.2 (lvl (some p.2) r) c else m) = (if p.1 ≤ c then lvF p.2 r c else m)
      rw [lvl_lv h.2]
theorem lvl_tab {m : Int} {r : Tab} (hm : 0 ≤ m) (h : Rise 0 r) (hn : ∀ p ∈ r, 0 ≤ p.2) : TabOf (lvl none ((0, m) :: r)) (lv ((0, m) :: r)) := by
  have e : lvl none ((0, m) :: r) = (0, m) :: lvl (some m) r := by
    show (if (none : Option Int) = some m then lvl none r else (0, m) :: lvl (some m) r) = _
    rw [if_neg (fun z => nomatch z)]
  rw [e]
  refine ⟨⟨m, _, rfl, hm, lvl_can h hn⟩, fun c hc => ?_⟩
  rw [lv_head _ _ hc, lv_head _ _ hc, lvl_lv h]
/-- what holds at points, nothing changing between them -/
def ptsT (f : Int → Int) (ps : List Int) : Tab := ps.map fun c => (c, f c)
theorem ptsT_rise {f : Int → Int} : ∀ {ps : List Int} {a : Int}, (a :: ps).Pairwise (· < ·) → Rise a (ptsT f ps)
  | [], _, _ => trivial
  | p :: ps, a, h => by
    obtain ⟨h1, h2⟩ := List.pairwise_cons.mp h
    exact ⟨h1 p List.mem_cons_self, ptsT_rise h2⟩
theorem ptsT_lv {f : Int → Int} : ∀ {ps : List Int} {a c : Int}, (a :: ps).Pairwise (· < ·) → a ≤ c → (∀ p ∈ a :: ps, p ≤ c → (∀ q ∈ a :: ps, p < q → c < q) → f c = f p) → lvF (f a) (ptsT f ps) c = f c
  | [], a, c, _, hc, h => (h a List.mem_cons_self hc (by simp)).symm
  | p :: ps, a, c, hs, hc, h => by
    obtain ⟨h1, h2⟩ := List.pairwise_cons.mp hs
    show (if p ≤ c then lvF (f p) (ptsT f ps) c else f a) = f c
    split
    · rename_i hp
      refine ptsT_lv h2 hp fun q hq hqc hn => h q (List.mem_cons_of_mem _ hq) hqc fun z hz hzq => ?_
      rcases List.mem_cons.mp hz with rfl | hz
      · have := h1 q hq
        omega
      · exact hn z hz hzq
    · rename_i hp
      refine (h a List.mem_cons_self hc fun q hq hqa => ?_).symm
      rcases List.mem_cons.mp hq with rfl | hq
      · omega
      · have : p ≤ q := by
          rcases List.mem_cons.mp hq with rfl | hq
          · omega
          · have := (List.pairwise_cons.mp h2).1 q hq
            omega
        omega
theorem pts_tab {f : Int → Int} {ps : List Int} (hs : (0 :: ps).Pairwise (· < ·)) (hn : ∀ p ∈ 0 :: ps, 0 ≤ f p) (h : ∀ c, 0 ≤ c → ∀ p ∈ 0 :: ps, p ≤ c → (∀ q ∈ 0 :: ps, p < q → c < q) → f c = f p) :
    TabOf (lvl none (ptsT f (0 :: ps))) f := by
  have e : ptsT f (0 :: ps) = (0, f 0) :: ptsT f ps := rfl
  rw [e]
  refine (lvl_tab (hn 0 List.mem_cons_self) (ptsT_rise hs) fun p hp => ?_).congr fun c hc => ?_
  · obtain ⟨q, hq, rfl⟩ := List.mem_map.mp hp
    exact hn q (List.mem_cons_of_mem _ hq)
  · rw [lv_head _ _ hc]
    exact ptsT_lv hs hc fun p hp hpc hq => h c hc p hp hpc hq
/-- a while loop by its invariant -/
theorem whP_by {S T : Type} {c : S → Option Bool} {f : S → Option (Ct S T)} (I : S → Prop) (m : S → Nat) (Q : S → Prop)
    (hs : ∀ s, I s → (c s = some false ∧ Q s) ∨ (c s = some true ∧ ∃ s', f s = some (.nx s') ∧ I s' ∧ m s' < m s)) : ∀ (n : Nat) (s : S), I s → m s < n → ∃ s', whP c f n s = some (.nx s') ∧ Q s'
  | 0, s, _, h => by omega
  | n + 1, s, hi, h => by
    rcases hs s hi with ⟨h1, h2⟩ | ⟨h1, s', h2, h3, h4⟩
    · exact ⟨s, by simp [whP, h1], h2⟩
    · obtain ⟨s2, e, q⟩ := whP_by I m Q hs n s' h3 (by omega)
      exact ⟨s2, by simp [whP, h1, h2, e], q⟩
end Y
namespace Y
open PySem PL L2
/-! ### dicts of numbers, typed -/
abbrev Dct := List (Int × Int)
def dcL (kv : Dct) : List (D × D) := kv.map fun p => (.int p.1, .int p.2)
def dcD (kv : Dct) : D := .dict (dcL kv)
@[simp] theorem dcL_len (kv : Dct) : (dcL kv).length = kv.length := by simp [dcL]
def lookI : Dct → Int → Option Int
  | [], _ => none
  | p :: r, i => if p.1 = i then some p.2 else lookI r i
def keysI (kv : Dct) : List Int := kv.map (·.1)
def sumI (kv : Dct) (c : Int) : Int := (kv.map fun p => if p.1 ≤ c then p.2 else 0).sum
def updI (kv : Dct) (k : Int) (f : Int → Int) : Dct := match kv with
  | [] => [(k, f 0)]
  | p :: r => if p.1 = k then (p.1, f p.2) :: r else p :: updI r k f
theorem look_dc : ∀ (kv : Dct) (i : Int), lookD (dcL kv) i = (lookI kv i).map PyData.int
  | [], _ => rfl
  | p :: r, i => by
    show (if decide (p.1 = i) = true then some (PyData.int p.2) else lookD (dcL r) i) = (if p.1 = i then some p.2 else lookI r i).map PyData.int
    rw [look_dc r i]
    by_cases h : p.1 = i <;> simp [h]
theorem getD_dc (kv : Dct) (i : Int) : (lookD (dcL kv) i).getD (.int 0) = .int ((lookI kv i).getD 0) := by
  rw [look_dc]
  cases lookI kv i <;> rfl
theorem any_dc : ∀ (kv : Dct) (k : Int), ((dcL kv).any fun p => isKI p.1 k) = decide (k ∈ keysI kv)
  | [], _ => rfl
  | p :: r, k => by
    show (decide (p.1 = k) || (dcL r).any fun p => isKI p.1 k) = decide (k ∈ p.1 :: keysI r)
    rw [any_dc r k]
    by_cases h : p.1 = k
    · simp [h]
    · have h' : ¬ k = p.1 := fun z => h z.symm
      simp [h, h']
theorem map_dc (k v : Int) : ∀ (kv : Dct), k ∉ keysI kv → (dcL kv).map (fun p => if isKI p.1 k = true then (p.1, PyData.int v) else p) = dcL kv
  | [], _ => rfl
  | p :: r, h => by
    have h1 : ¬ p.1 = k := fun z => h (by rw [← z]; exact List.mem_cons_self)
    have h2 : k ∉ keysI r := fun z => h (List.mem_cons_of_mem _ z)
    have ih := map_dc k v r h2
    show (if decide (p.1 = k) = true then (PyData.int p.1, PyData.int v) else (.int p.1, .int p.2)) :: (dcL r).map _ = _
    rw [ih]
    simp [h1]
    rfl
theorem put_dc (f : Int → Int) : ∀ (kv : Dct) (k : Int), (keysI kv).Nodup → putD (dcL kv) k (.int (f ((lookI kv k).getD 0))) = dcL (updI kv k f)
  | [], k, _ => rfl
  | p :: r, k, hn => by
    obtain ⟨h1, h2⟩ := List.nodup_cons.mp hn
    unfold putD
    rw [any_dc]
    by_cases h : p.1 = k
    · have hm : k ∈ keysI (p :: r) := by rw [← h]; exact List.mem_cons_self
      rw [decide_eq_true hm, if_pos rfl]
      have e : lookI (p :: r) k = some p.2 := by show (if p.1 = k then some p.2 else _) = _; rw [if_pos h]
      rw [e]
      show (if decide (p.1 = k) = true then (PyData.int p.1, PyData.int (f p.2)) else (.int p.1, .int p.2)) :: (dcL r).map _ = dcL (if p.1 = k then (p.1, f p.2) :: r else p :: updI r k f)
      rw [if_pos (decide_eq_true h), if_pos h, map_dc k _ r (by rw [← h]; exact h1)]
      rfl
    · have e : lookI (p :: r) k = lookI r k := by show (if p.1 = k then some p.2 else _) = _; rw [if_neg h]
      have e2 : updI (p :: r) k f = p :: updI r k f := by show (if p.1 = k then _ else _) = _; rw [if_neg h]
      have ih := put_dc f r k h2
      unfold putD at ih
      rw [any_dc] at ih
      rw [e, e2]
      have hk : ¬ k = p.1 := fun z => h z.symm
      by_cases hm : k ∈ keysI r
      · rw [decide_eq_true hm, if_pos rfl] at ih
        have hm' : k ∈ keysI (p :: r) := List.mem_cons_of_mem _ hm
        rw [decide_eq_true hm', if_pos rfl]
        show (if decide (p.1 = k) = true then (PyData.int p.1, _) else (PyData.int p.1, PyData.int p.2)) :: (dcL r).map _ = (PyData.int p.1, PyData.int p.2) :: dcL (updI r k f)
        rw [ih]
        simp [h]
      · rw [decide_eq_false hm, if_neg Bool.false_ne_true] at ih
        have hm' : k ∉ keysI (p :: r) := fun z => by
          rcases List.mem_cons.mp z with z | z
          · exact hk z
          · exact hm z
        rw [decide_eq_false hm', if_neg Bool.false_ne_true]
        show (PyData.int p.1, PyData.int p.2) :: (dcL r ++ _) = (PyData.int p.1, PyData.int p.2) :: dcL (updI r k f)
        rw [ih]
theorem sum_upd (d : Int) (c : Int) : ∀ (kv : Dct) (k : Int), sumI (updI kv k (· + d)) c = sumI kv c + if k ≤ c then d else 0
  | [], k => by
    show (if k ≤ c then 0 + d else 0) + 0 = 0 + _
    split <;> omega
  | p :: r, k => by
    have ih := sum_upd d c r k
    show sumI (if p.1 = k then (p.1, p.2 + d) :: r else p :: updI r k (· + d)) c = (if p.1 ≤ c then p.2 else 0) + sumI r c + _
    by_cases h : p.1 = k
    · rw [if_pos h]
      show (if p.1 ≤ c then p.2 + d else 0) + sumI r c = _
      rw [h]
      split <;> omega
    · rw [if_neg h]
      show (if p.1 ≤ c then p.2 else 0) + sumI (updI r k (· + d)) c = _
      rw [ih]
      omega
theorem upd_mem (f : Int → Int) (k j : Int) : ∀ (kv : Dct), j ∈ keysI (updI kv k f) ↔ j = k ∨ j ∈ keysI kv
  | [] => by show j ∈ [k] ↔ j = k ∨ j ∈ []; simp
  | p :: r => by
    have ih := upd_mem f k j r
    show j ∈ keysI (if p.1 = k then (p.1, f p.2) :: r else p :: updI r k f) ↔ j = k ∨ j ∈ p.1 :: keysI r
    by_cases h : p.1 = k
    · rw [if_pos h]
      show j ∈ p.1 :: keysI r ↔ _
      rw [List.mem_cons, h]
      constructor
      · rintro (z | z)
        · exact .inl z
        · exact .inr (.inr z)
      · rintro (z | z | z)
        · exact .inl z
        · exact .inl z
        · exact .inr z
    · rw [if_neg h]
      show j ∈ p.1 :: keysI (updI r k f) ↔ _
      rw [List.mem_cons, List.mem_cons, ih]
      constructor
      · rintro (z | z | z)
        · exact .inr (.inl z)
        · exact .inl z
        · exact .inr (.inr z)
      · rintro (z | z | z)
        · exact .inr (.inl z)
        · exact .inl z
        · exact .inr (.inr z)
theorem upd_nodup (f : Int → Int) (k : Int) : ∀ (kv : Dct), (keysI kv).Nodup → (keysI (updI kv k f)).Nodup
  | [], _ => by show [k].Nodup; simp
  | p :: r, h => by
    obtain ⟨h1, h2⟩ := List.nodup_cons.mp h
    show (keysI (if p.1 = k then (p.1, f p.2) :: r else p :: updI r k f)).Nodup
    by_cases he : p.1 = k
    · rw [if_pos he]; exact h
    · rw [if_neg he]
      refine List.nodup_cons.mpr ⟨fun z => ?_, upd_nodup f k r h2⟩
      rcases (upd_mem f k p.1 r).mp z with z | z
      · exact he z
      · exact h1 z
theorem upd_len (f : Int → Int) (k : Int) : ∀ (kv : Dct), (updI kv k f).length ≤ kv.length + 1
  | [] => Nat.le_refl _
  | p :: r => by
    have := upd_len f k r
    show (if p.1 = k then (p.1, f p.2) :: r else p :: updI r k f).length ≤ _
    split
    · simp
    · simp; omega
/-- between keys nothing changes -/
theorem sum_const {a x : Int} (hax : a ≤ x) : ∀ (kv : Dct), (∀ k ∈ keysI kv, k ≤ a ∨ x < k) → sumI kv x = sumI kv a
  | [], _ => rfl
  | p :: r, h => by
    have ih := sum_const hax r fun k hk => h k (List.mem_cons_of_mem _ hk)
    have hp := h p.1 List.mem_cons_self
    show (if p.1 ≤ x then p.2 else 0) + sumI r x = (if p.1 ≤ a then p.2 else 0) + sumI r a
    rw [ih]
    rcases hp with hp | hp
    · rw [if_pos (by omega), if_pos hp]
    · rw [if_neg (by omega), if_neg (by omega)]
theorem sum_step {a x : Int} (hax : a < x) : ∀ (kv : Dct), (keysI kv).Nodup → (∀ k ∈ keysI kv, k ≤ a ∨ x ≤ k) → sumI kv x = sumI kv a + (lookI kv x).getD 0
  | [], _, _ => by show (0 : Int) = 0 + 0; omega
  | p :: r, hn, h => by
    obtain ⟨h1, h2⟩ := List.nodup_cons.mp hn
    have hp := h p.1 List.mem_cons_self
    have hr : ∀ k ∈ keysI r, k ≤ a ∨ x ≤ k := fun k hk => h k (List.mem_cons_of_mem _ hk)
    show (if p.1 ≤ x then p.2 else 0) + sumI r x = (if p.1 ≤ a then p.2 else 0) + sumI r a + (if p.1 = x then some p.2 else lookI r x).getD 0
    by_cases he : p.1 = x
    · have : sumI r x = sumI r a := sum_const (by omega) r fun k hk => by
        rcases hr k hk with z | z
        · exact .inl z
        · refine .inr (Int.lt_iff_le_and_ne.mpr ⟨z, fun e => h1 (show p.1 ∈ keysI r by rw [he, e]; exact hk)⟩)
      rw [if_pos he, this, if_pos (by omega), if_neg (by omega)]
      show p.2 + sumI r a = 0 + sumI r a + p.2
      omega
    · rw [if_neg he, sum_step hax r h2 hr]
      rcases hp with hp | hp
      · rw [if_pos (by omega), if_pos hp]; omega
      · rw [if_neg (by omega), if_neg (by omega)]; omega
theorem sum_low {c : Int} : ∀ (kv : Dct), (∀ k ∈ keysI kv, c < k) → sumI kv c = 0
  | [], _ => rfl
  | p :: r, h => by
    have ih := sum_low r fun k hk => h k (List.mem_cons_of_mem _ hk)
    show (if p.1 ≤ c then p.2 else 0) + sumI r c = 0
    rw [ih, if_neg (by have := h p.1 List.mem_cons_self; omega)]
    omega
theorem keys_dc : ∀ (kv : Dct), keyInts (dcL kv) = some (keysI kv)
  | [] => rfl
  | p :: r => by
    show (keyInts (dcL r)).map (p.1 :: ·) = _
    rw [keys_dc r]; rfl
theorem sorted_lt {ns : List Int} (h : ns.Nodup) : (sortI ns).Pairwise (· < ·) := by
  have h1 := sortI_le ns
  have h2 : (sortI ns).Nodup := (sortI_perm ns).nodup_iff.mpr h
  exact (List.pairwise_and_iff.mpr ⟨h1, h2⟩).imp fun ⟨x, y⟩ => by omega
/-- the points of a dict's changes -/
def ptsOf (kv : Dct) : List Int := (sortI (keysI kv)).filter fun k => decide (0 < k)
theorem dct_tab {kv : Dct} (hn : (keysI kv).Nodup) (h0 : ∀ c, 0 ≤ c → 0 ≤ sumI kv c) : TabOf (lvl none (ptsT (sumI kv) (0 :: ptsOf kv))) (sumI kv) := by
  refine pts_tab ?_ (fun p hp => h0 p ?_) fun c hc p hp hpc hq => ?_
  · refine List.pairwise_cons.mpr ⟨fun q hq => ?_, ((sorted_lt hn).sublist List.filter_sublist)⟩
    have := (List.mem_filter.mp hq).2
    simpa using this
  · rcases List.mem_cons.mp hp with rfl | hp
    · omega
    · have := (List.mem_filter.mp hp).2
      simp at this
      omega
  · refine sum_const hpc kv fun k hk => ?_
    by_cases hkp : k ≤ p
    · exact .inl hkp
    · refine .inr (hq k (List.mem_cons_of_mem _ (List.mem_filter.mpr ⟨(sortI_perm _).mem_iff.mpr hk, ?_⟩)) (by omega))
      have : 0 ≤ p := by
        rcases List.mem_cons.mp hp with rfl | hp
        · omega
        · have := (List.mem_filter.mp hp).2
          simp at this
          omega
      simp; omega
end Y
namespace Y
open PySem PL L2
abbrev Say := Int × Option Int
def mostD : Option Int → D
  | none => .none
  | some m => .int m
@[simp] theorem mostD_none : mostD none = .none := rfl
@[simp] theorem mostD_some (m : Int) : mostD (some m) = .int m := rfl
def sayD (s : Say) : D := .tuple [.int s.1, mostD s.2]
def okSay (s : Say) : Prop := 0 ≤ s.1 ∧ ∀ m, s.2 = some m → s.1 ≤ m
def rowD (r : List Say) : List D := r.map sayD
@[simp] theorem rowD_len (r : List Say) : (rowD r).length = r.length := by simp [rowD]
theorem rowD_rev (r : List Say) : (rowD r).reverse = rowD r.reverse := by simp [rowD]
theorem rowD_drop (r : List Say) (i : Nat) : (rowD r).drop i = rowD (r.drop i) := by simp [rowD]
theorem pe_is_number (i : Int) : p_is_number (.int i) = some (.bool (decide (0 ≤ i))) := by
  unfold p_is_number
  simp
theorem row_item (s : Say) (h : okSay s) : p_is_row_b1 (sayD s) = some (.nx ()) := by
  obtain ⟨l, m⟩ := s
  obtain ⟨h1, h2⟩ := h
  simp only at h1
  have h3 : ¬ l < 0 := by omega
  unfold p_is_row_b1
  cases m with
  | none => simp [sayD, h3]
  | some m =>
    have := h2 m rfl
    simp only at this
    have h4 : ¬ m < l := by omega
    simp [sayD, h3, h4]
theorem pe_is_row {d : D} {k : Bool} {r : List Say} (hd : itemsD d = some (k, rowD r)) (h : ∀ s ∈ r, okSay s) : p_is_row d = some (.bool true) := by
  have loop := forP_enc (f := fun x _ => p_is_row_b1 x) (T := D) (e := sayD) (xs := r) (s := ()) (fun _ _ => True) trivial (by
    rintro pre s post ⟨⟩ rfl -
    exact ⟨(), row_item s (h s (by simp)), trivial⟩)
  obtain ⟨⟨⟩, e, -⟩ := loop
  have e' : forP (T := D) (fun x _ => p_is_row_b1 x) (rowD r) () = some (.nx ()) := e
  unfold p_is_row
  cases d <;> simp [itemsD] at hd <;> simp [hd.2, e']
theorem pe_need_row {d : D} {k : Bool} {r : List Say} (hd : itemsD d = some (k, rowD r)) (h : ∀ s ∈ r, okSay s) : p_need_row d = some .none := by
  unfold p_need_row
  simp [pe_is_row hd h]
theorem pe_need_number {i : Int} (h : 0 ≤ i) : p_need_number (.int i) = some .none := by
  unfold p_need_number
  simp [pe_is_number, h]
theorem len_row {d : D} {k : Bool} {r : List Say} (hd : itemsD d = some (k, rowD r)) : gLen [d] = some (.int r.length) := by
  cases d <;> simp [itemsD] at hd <;> simp [hd.2]
theorem pe_need_place {i n : Int} (h : 0 ≤ i) (h2 : i < n) : p_need_place (.int i) (.int n) = some .none := by
  unfold p_need_place
  have h3 : ¬ n ≤ i := by omega
  simp [pe_is_number, h, h3]
def intsD (is : List Int) : List D := is.map PyData.int
def boolsD (bs : List Bool) : List D := bs.map PyData.bool
@[simp] theorem intsD_len (is : List Int) : (intsD is).length = is.length := by simp [intsD]
@[simp] theorem boolsD_len (is : List Bool) : (boolsD is).length = is.length := by simp [boolsD]
theorem cut_from (ds : List D) (i : Nat) (h : i ≤ ds.length) : cutD ds (some (i : Int)) none = ds.drop i := by
  unfold cutD
  rw [HT.sIx_nat, HT.sIx_none, Nat.min_eq_left h]
  exact List.take_of_length_le (by simp)
theorem ix_nat {ds : List D} {i : Nat} {d : D} (h : ds[i]? = some d) : atI ds (i : Int) = some d := atI_nat h
theorem rng_mem {lo hi : Int} {d : D} (h : d ∈ rngD lo hi) : ∃ i : Int, d = .int i ∧ lo ≤ i ∧ i < hi := by
  unfold rngD at h
  obtain ⟨k, hk, rfl⟩ := List.mem_map.mp h
  rw [List.mem_range] at hk
  exact ⟨_, rfl, by omega, by omega⟩
theorem rng_len (lo hi : Int) : (rngD lo hi).length = (hi - lo).toNat := by simp [rngD]
/-- range of a length -/
theorem rng_nat (n : Nat) : rngD 0 (n : Int) = (List.range n).map fun (i : Nat) => .int (i : Int) := by
  unfold rngD
  simp
theorem map_range_get {α : Type} {f : Nat → α} {xs : List α} (n : Nat) (hl : xs.length = n) (h : ∀ i, i < n → xs[i]? = some (f i)) : (List.range n).map f = xs := by
  apply List.ext_getElem?
  intro i
  by_cases hi : i < n
  · rw [List.getElem?_map, List.getElem?_range hi, h i hi]; rfl
  · rw [List.getElem?_eq_none (by simp; omega), List.getElem?_eq_none (by omega)]
theorem small_nat {n : Nat} (h : n ≤ 100000) : small62 (n : Int) = true := by simp [small62]; omega
def trueS (s : Say) (c : Int) : Bool := decide (s.1 ≤ c) && (match s.2 with
  | none => true
  | some m => decide (c ≤ m))
def b2i (b : Bool) : Int := if b then 1 else 0
def tot : List Say → Int → Int
  | [], c => c
  | s :: r, c => tot r c + b2i (trueS s (tot r c))
theorem tot_ge : ∀ (r : List Say) (c : Int), c ≤ tot r c
  | [], c => Int.le_refl c
  | s :: r, c => by
    have := tot_ge r c
    show c ≤ tot r c + b2i (trueS s (tot r c))
    have : 0 ≤ b2i (trueS s (tot r c)) := by unfold b2i; split <;> omega
    omega
/-- one step of the walk -/
theorem comes_step (s : Say) (c : Int) : p_what_comes_b1 (sayD s) (.int c) = some (.int (c + b2i (trueS s c))) := by
  obtain ⟨l, m⟩ := s
  unfold p_what_comes_b1
  by_cases h : l ≤ c
  · cases m with
    | none => simp [sayD, trueS, h, b2i]
    | some m => by_cases h2 : c ≤ m <;> simp [sayD, trueS, h, h2, b2i]
  · simp [sayD, trueS, h, b2i]
theorem comes_fold (r : List Say) (c : Int) : foldP (fun x s => p_what_comes_b1 x s) (rowD r).reverse (.int c) = some (.int (tot r c)) := by
  obtain ⟨s', e, h⟩ := foldP_enc (f := fun x s => p_what_comes_b1 x s) (e := sayD) (xs := r.reverse) (s := .int c) (fun done s => s = .int (tot done.reverse c)) rfl (by
    rintro pre s post _ - rfl
    refine ⟨_, comes_step s _, ?_⟩
    rw [List.reverse_append]; rfl)
  rw [List.reverse_reverse] at h
  rw [rowD_rev, ← h]; exact e
theorem pe_what_comes {d : D} {k : Bool} {r : List Say} (c : Int) (hd : itemsD d = some (k, rowD r)) : p_what_comes d (.int c) = some (.int (tot r c)) := by
  unfold p_what_comes
  simp [hd, comes_fold]
theorem pe_total {d : D} {k : Bool} {r : List Say} {c : Int} (hd : itemsD d = some (k, rowD r)) (ho : ∀ s ∈ r, okSay s) (hc : 0 ≤ c) : p_total d (.int c) = some (.int (tot r c)) := by
  unfold p_total
  simp [pe_need_row hd ho, pe_need_number hc, pe_what_comes c hd]
theorem tot_mono : ∀ (r : List Say) (c d : Int), c ≤ d → tot r c ≤ tot r d
  | [], c, d, h => h
  | s :: r, c, d, h => by
    have := tot_mono r c d h
    show tot r c + b2i (trueS s (tot r c)) ≤ tot r d + b2i (trueS s (tot r d))
    rcases Int.lt_or_eq_of_le this with h1 | h1
    · unfold b2i
      split <;> split <;> omega
    · rw [h1]; omega
def TinOk (t : D) (n : Nat) : Prop := ∃ a b c : Int, t = .list [.int a, .int b, .int c] ∧ 0 ≤ a ∧ b.natAbs < 2 ^ 200 ∧ 0 ≤ c ∧ c ≤ n
theorem TinOk.mono {t : D} {n m : Nat} (h : TinOk t n) (hm : n ≤ m) : TinOk t m := by
  obtain ⟨a, b, c, e, h1, h2, h3, h4⟩ := h
  exact ⟨a, b, c, e, h1, h2, h3, by omega⟩
theorem log_lt {x : Nat} {k : Nat} (h : x < 2 ^ k) (hk : 0 < k) : x.log2 < k := PySem.Flt.log2_lt_of hk h
theorem natAbs_mul_lt {i j : Int} {a b : Nat} (ha : i.natAbs < 2 ^ a) (hb : j.natAbs < 2 ^ b) : (i * j).natAbs < 2 ^ (a + b) := wide_lt ha hb
theorem natAbs_add_lt {i j : Int} {a : Nat} (ha : i.natAbs < 2 ^ a) (hb : j.natAbs < 2 ^ a) : (i + j).natAbs < 2 ^ (a + 1) := by
  have : (i + j).natAbs ≤ i.natAbs + j.natAbs := Int.natAbs_add_le i j
  rw [Nat.pow_succ]; omega
theorem pow_ok {i j : Int} (h0 : 0 ≤ j) (h1 : j ≤ 64) (h : i.natAbs < 2 ^ 250) : cPowW i j = true := by
  simp only [cPowW, Bool.and_eq_true, decide_eq_true_eq]
  exact ⟨⟨h0, h1⟩, Nat.lt_trans (log_lt h (by decide)) (by decide)⟩
theorem mulW_ok {i j : Int} {a b : Nat} (ha : i.natAbs < 2 ^ a) (hb : j.natAbs < 2 ^ b) (h0 : 0 < a) (h1 : 0 < b) (h : a + b ≤ 1000000) : cMulW i j = true := by
  simp only [cMulW, decide_eq_true_eq]
  exact wide_mul ha hb h0 h1 h
theorem divW_ok {i j : Int} {b : Nat} (h : 0 < j) (hb : j.natAbs < 2 ^ b) (h0 : 0 < b) (h9 : b ≤ 9000) : cDivW i j = true := by
  simp only [cDivW, Bool.and_eq_true, decide_eq_true_eq]
  exact wide_div (i := i) h hb h0 h9
theorem mod_ok {i j : Int} (h : 0 < j) : cMod i j = true := by simp [cMod, h]
theorem mod_rng (x : Int) {w : Int} (h : 0 < w) : 0 ≤ x % w ∧ x % w < w := ⟨Int.emod_nonneg _ (by omega), Int.emod_lt_of_pos _ h⟩
def okB (B : Int) (s : Say) : Prop := okSay s ∧ s.1 < B ∧ ∀ m, s.2 = some m → m < B
theorem okB.mono {B C : Int} {s : Say} (h : okB B s) (hc : B ≤ C) : okB C s := ⟨h.1, by have := h.2.1; omega, fun m hm => by have := h.2.2 m hm; omega⟩
/-- an item of a written list at a drawn place -/
theorem at_mem {ds : List D} {i : Int} (h0 : 0 ≤ i) (h1 : i < ds.length) : ∃ d, atI ds i = some d ∧ d ∈ ds := by
  obtain ⟨k, rfl⟩ := Int.eq_ofNat_of_zero_le h0
  have h : k < ds.length := by omega
  exact ⟨ds[k], ix_nat (List.getElem?_eq_getElem h), List.getElem_mem h⟩
theorem atI_scr {ns : List Int} {k : Nat} (h : k < ns.length) : atI ns (k : Int) = some (ns[k]'h) := atI_nat (List.getElem?_eq_getElem h)
def mixP (b c : Int) : Int := ((b + 32452843 * c) ^ 3 % 10000000000000000000000000000000000043 + 49979687 * c) ^ 5 % 1000000000000000000000000000000000000003
theorem pe_pour (t : D) (n : Nat) (w : Int) (ht : TinOk t n) (hn : n < 2 ^ 40) (hw : 0 < w) (hw2 : w < 2 ^ 200) :
    ∃ r t', p_l_pour t (.int w) = some (.int r, t') ∧ 0 ≤ r ∧ r < w ∧ TinOk t' (n + 1) := by
  obtain ⟨a, b, c, rfl, ha, hb, hc, hcn⟩ := ht
  have hw3 : w.natAbs < 2 ^ 200 := by omega
  have e0 : ∀ x y z : D, atI [x, y, z] 0 = some x := fun _ _ _ => rfl
  have e1 : ∀ x y z : D, atI [x, y, z] 1 = some y := fun _ _ _ => rfl
  have e2 : ∀ x y z : D, atI [x, y, z] 2 = some z := fun _ _ _ => rfl
  have i0 : ixN 3 0 = some 0 := rfl
  have i2 : ixN 3 2 = some 2 := rfl
  by_cases h : 0 < a
  · refine ⟨a % w, .list [.int (a / w), .int b, .int c], ?_, (mod_rng a hw).1, (mod_rng a hw).2, _, b, c, rfl, Int.ediv_nonneg ha (by omega), hb, hc, by omega⟩
    unfold p_l_pour
    simp [e0, i0, h, mod_ok hw, divW_ok (i := a) hw hw3 (by omega) (by omega)]
  · have hc' : (c + 1).natAbs < 2 ^ 41 := by omega
    have k1 : (32452843 * (c + 1)).natAbs < 2 ^ (34 + 41) := natAbs_mul_lt (by decide) hc'
    have k2 : (b + 32452843 * (c + 1)).natAbs < 2 ^ (200 + 1) := natAbs_add_lt hb (Nat.lt_trans k1 (by decide))
    have m1 : (0 : Int) < 10000000000000000000000000000000000043 := by decide
    have r1 := mod_rng ((b + 32452843 * (c + 1)) ^ 3) m1
    have k3 : (((b + 32452843 * (c + 1)) ^ 3) % 10000000000000000000000000000000000043).natAbs < 2 ^ 200 := by
      have : (10000000000000000000000000000000000043 : Int) < 2 ^ 200 := by decide
      omega
    have k4 : (49979687 * (c + 1)).natAbs < 2 ^ (26 + 41) := natAbs_mul_lt (by decide) hc'
    have k5 := natAbs_add_lt k3 (Nat.lt_trans k4 (by decide))
    have e5 : ((49979687 : Int)).natAbs < 2 ^ 26 := by decide
    have e9 : ((32452843 : Int)).natAbs < 2 ^ 25 := by decide
    have q1 : cMulW 32452843 (c + 1) = true := mulW_ok e9 hc' (by omega) (by omega) (by omega)
    have q2 : cPowW (b + 32452843 * (c + 1)) 3 = true := pow_ok (by omega) (by omega) (Nat.lt_of_lt_of_le k2 (Nat.pow_le_pow_right (by omega) (by omega)))
    have q3 : cMulW 49979687 (c + 1) = true := mulW_ok e5 hc' (by omega) (by omega) (by omega)
    have q4 : cPowW ((b + 32452843 * (c + 1)) ^ 3 % 10000000000000000000000000000000000043 + 49979687 * (c + 1)) 5 = true := pow_ok (by omega) (by omega) (Nat.lt_of_lt_of_le k5 (Nat.pow_le_pow_right (by omega) (by omega)))
    have q5 : cPowW 10 37 = true := pow_ok (by omega) (by omega) (by decide)
    have q6 : cPowW 10 39 = true := pow_ok (by omega) (by omega) (by decide)
    have q7 : ∀ i : Int, cDivW i 131071 = true := fun i => divW_ok (b := 17) (by omega) (by decide) (by omega) (by omega)
    refine ⟨mixP b (c + 1) / 131071 % w, .list [.int a, .int b, .int (c + 1)], ?_, (mod_rng _ hw).1, (mod_rng _ hw).2, a, b, c + 1, rfl, ha, hb, by omega, by omega⟩
    unfold p_l_pour
    simp [e0, e1, e2, i0, i2, h, q1, q2, q3, q4, q5, q6, q7, mod_ok hw, mod_ok m1, mod_ok (show (0 : Int) < 1000000000000000000000000000000000000003 by decide), mixP]
theorem pe_jar (ns : List Int) (k : Nat) (hk : k ≤ 63) : ∃ t, p_l_jar ns (.int k) = some t ∧ TinOk t 0 := by
  have q5 : cPowW 10 18 = true := pow_ok (by omega) (by omega) (by decide)
  have q6 : cPowW 10 35 = true := pow_ok (by omega) (by omega) (by decide)
  have m0 : (0 : Int) < 100000000000000000000000000000000069 := by decide
  have core : ∀ cell : Int, TinOk (.list [.int (if cell - 1000000000000000000 > 0 then cell - 1000000000000000000 else 0), .int (cell % 100000000000000000000000000000000069 * 128 + k), .int 0]) 0 := by
    intro cell
    have m := mod_rng cell m0
    refine ⟨_, _, _, rfl, ?_, ?_, by omega, by omega⟩
    · split <;> omega
    · have : (100000000000000000000000000000000069 : Int) * 128 + 128 < 2 ^ 200 := by decide
      omega
  have q7 : ∀ cell : Int, cMulW (cell % 100000000000000000000000000000000069) 128 = true := by
    intro cell
    have m := mod_rng cell m0
    exact mulW_ok (a := 200) (b := 8) (by
      have : (100000000000000000000000000000000069 : Int) < 2 ^ 200 := by decide
      omega) (by decide) (by omega) (by omega) (by omega)
  by_cases h : k < ns.length
  · refine ⟨_, ?_, core ns[k]⟩
    unfold p_l_jar
    simp [h, atI_scr h, q5, q6, q7 ns[k], mod_ok m0]
  · refine ⟨_, ?_, core 0⟩
    unfold p_l_jar
    have := q7 0
    simp at this
    simp [h, q5, q6, this, mod_ok m0]
theorem pick3 (a b c : D) (i : Int) (h0 : 0 ≤ i) (h1 : i < 3) : atI [a, b, c] i = some a ∨ atI [a, b, c] i = some b ∨ atI [a, b, c] i = some c := by
  have : i = 0 ∨ i = 1 ∨ i = 2 := by omega
  rcases this with rfl | rfl | rfl
  · exact .inl rfl
  · exact .inr (.inl rfl)
  · exact .inr (.inr rfl)
theorem pe_number (t : D) (n : Nat) (w B : Int) (ht : TinOk t n) (hn : n + 4 < 2 ^ 40) (hw : 0 < w) (hw2 : w < 2 ^ 200) (hB : w ≤ B) (hB9 : 9 ≤ B) :
    ∃ r t', p_l_number t (.int w) = some (.int r, t') ∧ 0 ≤ r ∧ r < B ∧ TinOk t' (n + 4) := by
  obtain ⟨a, t1, e1, a0, a1, k1⟩ := pe_pour t n 3 ht (by omega) (by omega) (by decide)
  obtain ⟨b, t2, e2, b0, b1, k2⟩ := pe_pour t1 _ 9 k1 (by omega) (by omega) (by decide)
  obtain ⟨c, t3, e3, c0, c1, k3⟩ := pe_pour t2 _ w k2 (by omega) hw hw2
  obtain ⟨i, t4, e4, i0, i1, k4⟩ := pe_pour t3 _ 3 k3 (by omega) (by omega) (by decide)
  have fin : ∀ z : Int, (z = a ∨ z = b ∨ z = c) → 0 ≤ z ∧ z < B := by
    rintro z (rfl | rfl | rfl) <;> omega
  unfold p_l_number
  simp only [e1, v_bind2, e2, e3, e4, q_ix_l]
  rcases pick3 (.int a) (.int b) (.int c) i i0 i1 with h | h | h
  · exact ⟨a, t4, by rw [h]; rfl, (fin a (.inl rfl)).1, (fin a (.inl rfl)).2, k4⟩
  · exact ⟨b, t4, by rw [h]; rfl, (fin b (.inr (.inl rfl))).1, (fin b (.inr (.inl rfl))).2, k4⟩
  · exact ⟨c, t4, by rw [h]; rfl, (fin c (.inr (.inr rfl))).1, (fin c (.inr (.inr rfl))).2, k4⟩
theorem lcP_all {α S : Type} {f : D → S → Option (Option D × S)} {e : α → D} (I : Nat → S → Prop) (G : α → Prop) (M : Nat) (hs : ∀ x s n, n < M → I n s → ∃ a s', f x s = some (some (e a), s') ∧ G a ∧ I (n + 1) s') :
    ∀ (xs : List D) (s : S) (n : Nat), I n s → n + xs.length ≤ M → ∃ (as : List α) (s' : S), lcP f xs s = some (as.map e, s') ∧ as.length = xs.length ∧ (∀ a ∈ as, G a) ∧ I (n + xs.length) s'
  | [], s, n, h, _ => ⟨[], s, rfl, rfl, (fun a ha => by cases ha), h⟩
  | x :: xs, s, n, h, hl => by
    have hl' : n + (xs.length + 1) ≤ M := hl
    obtain ⟨a, s1, e1, g1, i1⟩ := hs x s n (by omega) h
    obtain ⟨as, s2, e2, l2, g2, i2⟩ := lcP_all I G M hs xs s1 (n + 1) i1 (by omega)
    refine ⟨a :: as, s2, ?_, by simp [l2], fun b hb => ?_, ?_⟩
    · show (f x s).bind _ = _
      rw [e1, Option.bind_some]
      show (lcP f xs s1).bind _ = _
      rw [e2]; rfl
    · rcases List.mem_cons.mp hb with rfl | hb
      · exact g1
      · exact g2 b hb
    · have : n + 1 + xs.length = n + (x :: xs).length := by simp; omega
      rw [this] at i2; exact i2
theorem lcT_all {α S : Type} {f : D → S → Option (Option D × S)} {e : α → D} (I : Nat → S → Prop) (G : α → Prop) (M : Nat) (hs : ∀ x s n, n < M → I n s → ∃ a s', f x s = some (some (e a), s') ∧ G a ∧ I (n + 1) s')
    (xs : List D) (s : S) (h : I 0 s) (hl : xs.length ≤ M) (hM : M ≤ 100000) : ∃ (as : List α) (s' : S), lcT f xs s = some (as.map e, s') ∧ as.length = xs.length ∧ (∀ a ∈ as, G a) ∧ I xs.length s' := by
  obtain ⟨as, s', e1, l1, g1, i1⟩ := lcP_all I G M hs xs s 0 h (by omega)
  refine ⟨as, s', ?_, l1, g1, by simpa using i1⟩
  unfold lcT
  rw [e1, Option.bind_some, if_pos (by simp; omega)]
theorem pe_l_saying (t : D) (n : Nat) (w B : Int) (ht : TinOk t n) (hn : n + 9 < 2 ^ 40) (hw : 0 < w) (hw2 : w < 2 ^ 200) (hB : w ≤ B) (hB9 : 9 ≤ B) :
    ∃ s t', p_l_saying t (.int w) = some (sayD s, t') ∧ okB (B + B) s ∧ TinOk t' (n + 9) := by
  obtain ⟨a, t1, e1, a0, a1, k1⟩ := pe_number t n w B ht (by omega) hw hw2 hB hB9
  obtain ⟨b, t2, e2, b0, b1, k2⟩ := pe_number t1 _ w B k1 (by omega) hw hw2 hB hB9
  obtain ⟨i, t3, e3, i0, i1, k3⟩ := pe_pour t2 _ 5 k2 (by omega) (by omega) (by decide)
  obtain ⟨d, ed, hd⟩ := at_mem (ds := [PyData.int (a + b), .int (a + b), .int (a + b), .int (a + b), .none]) (i := i) i0 (by simpa using i1)
  have key : ∃ m : Option Int, d = mostD m ∧ okB (B + B) (a, m) := by
    simp only [List.mem_cons, List.not_mem_nil, or_false] at hd
    rcases hd with rfl | rfl | rfl | rfl | rfl
    · exact ⟨some (a + b), rfl, ⟨a0, by intro m hm; cases hm; show a ≤ a + b; omega⟩, by show a < B + B; omega, by intro m hm; cases hm; omega⟩
    · exact ⟨some (a + b), rfl, ⟨a0, by intro m hm; cases hm; show a ≤ a + b; omega⟩, by show a < B + B; omega, by intro m hm; cases hm; omega⟩
    · exact ⟨some (a + b), rfl, ⟨a0, by intro m hm; cases hm; show a ≤ a + b; omega⟩, by show a < B + B; omega, by intro m hm; cases hm; omega⟩
    · exact ⟨some (a + b), rfl, ⟨a0, by intro m hm; cases hm; show a ≤ a + b; omega⟩, by show a < B + B; omega, by intro m hm; cases hm; omega⟩
    · exact ⟨none, rfl, ⟨a0, by intro m hm; cases hm⟩, by show a < B + B; omega, by intro m hm; cases hm⟩
  obtain ⟨m, rfl, hm⟩ := key
  refine ⟨(a, m), t3, ?_, hm, k3⟩
  unfold p_l_saying
  simp only [e1, v_bind2, e2, v_addV, v_bind1, e3, q_ix_l, ed]
  rfl
theorem pe_l_row (t : D) (n : Nat) (p w B : Int) (ht : TinOk t n) (hn : n + 3000 < 2 ^ 40) (hp : 0 ≤ p) (hp2 : p ≤ 300) (hw : 0 < w) (hw2 : w < 2 ^ 200) (hB : w ≤ B) (hB9 : 9 ≤ B) :
    ∃ r t', p_l_row t (.int p) (.int w) = some (.list (rowD r), t') ∧ (∀ s ∈ r, okB (B + B) s) ∧ (r.length : Int) ≤ p ∧ TinOk t' (n + 2720) := by
  obtain ⟨k, t1, e1, k0, k1, h1⟩ := pe_pour t n (p + 1) ht (by omega) (by omega) (by omega)
  obtain ⟨as, t2, e2, l2, g2, i2⟩ := lcT_all (f := fun x s => p_l_row_c1 (.int w) x s) (e := sayD) (fun m s => TinOk s (n + 1 + 9 * m)) (okB (B + B)) 300 (by
    intro x s m hm hs
    obtain ⟨a, s', e, g, i⟩ := pe_l_saying s _ w B hs (by omega) hw hw2 hB hB9
    refine ⟨a, s', ?_, g, i.mono (by omega)⟩
    unfold p_l_row_c1
    simp only [e, v_bind2]) (rngD 0 k) t1 (by simpa using h1) (by rw [rng_len]; omega) (by omega)
  rw [rng_len] at l2 i2
  have sm : small62 k = true := by simp [small62]; omega
  refine ⟨as, t2, ?_, g2, by omega, i2.mono (by omega)⟩
  unfold p_l_row
  simp only [v_addV, v_bind1, e1, v_bind2, v_rng1P, sm, if_true, e2]
  rfl
def stepD (p : Int × Int) : D := .tuple [.int p.1, .int p.2]
/-- a thing that may be a step -/
def stepOk : D → Option (Int × Int)
  | .tuple [.int c, .int m] => if 0 ≤ c ∧ 0 ≤ m then some (c, m) else none
  | _ => none
theorem stepOk_some {x : D} {p : Int × Int} (h : stepOk x = some p) : x = stepD p ∧ 0 ≤ p.1 ∧ 0 ≤ p.2 := by
  unfold stepOk at h
  split at h
  · split at h
    · cases h
      rename_i hh
      exact ⟨rfl, hh.1, hh.2⟩
    · cases h
  · cases h
theorem stepOk_D {p : Int × Int} (h1 : 0 ≤ p.1) (h2 : 0 ≤ p.2) : stepOk (stepD p) = some p := by
  show (if 0 ≤ p.1 ∧ 0 ≤ p.2 then some (p.1, p.2) else none) = _
  rw [if_pos ⟨h1, h2⟩]
def lvD : Option Int → D
  | none => .none
  | some l => .int l
/-- one turn of is_table -/
def goOk (a : Int) (l : Option Int) (p : Int × Int) : Bool := decide (a < p.1) && !(l == some p.2)
theorem eq_lv_i (m : Int) (l : Option Int) : gEq (.int m) (lvD l) = some (.bool (l == some m)) := by
  cases l with
  | none => rfl
  | some l =>
    show some (PyData.bool (m == l)) = _
    have : (some l == some m) = (l == m) := rfl
    rw [this, BEq.comm]
theorem eq_lv_b (b : Bool) (l : Option Int) : ∃ z, gEq (.bool b) (lvD l) = some (.bool z) := by
  cases l with
  | none => exact ⟨_, rfl⟩
  | some l => exact ⟨_, rfl⟩
theorem table_turn (x : D) (a : Int) (l : Option Int) (ha : -1 ≤ a) : p_is_table_b1 x (.int a) (lvD l) = some (match stepOk x with
    | some p => if goOk a l p = true then .nx (.int p.1, .int p.2) else .rt (.bool false)
    | none => .rt (.bool false)) := by
  cases x with
  | tuple ds =>
    match ds with
    | [] => rfl
    | [_] =>
      unfold p_is_table_b1
      simp [stepOk]
    | _ :: _ :: _ :: r =>
      unfold p_is_table_b1
      have hl : ¬ ((r.length : Int) + 1 + 1 + 1 = 2) := by omega
      simp [stepOk, hl]
    | [c, m] =>
      cases c with
      | int c =>
        cases m with
        | int m =>
          unfold p_is_table_b1
          simp only [stepOk]
          by_cases h1 : c ≤ a
          · have h2 : ¬ a < c := by omega
            by_cases h3 : 0 ≤ c ∧ 0 ≤ m
            · simp [h1, h3, goOk, h2]
            · simp [h1, h3]
          · have h2 : a < c := by omega
            have h0 : 0 ≤ c := by omega
            by_cases h3 : m < 0
            · have h4 : ¬ (0 ≤ m) := by omega
              simp [h1, h3, h4]
            · have h4 : 0 ≤ m := by omega
              cases h5 : (l == some m) with
              | true => simp [h1, h3, h0, h4, eq_lv_i, h5, goOk]
              | false => simp [h1, h3, h0, h4, eq_lv_i, h5, goOk, h2]
        | bool b =>
          unfold p_is_table_b1
          obtain ⟨z, hz⟩ := eq_lv_b b l
          by_cases h1 : c ≤ a
          · simp [stepOk, h1]
          · cases z <;> cases b <;> simp [stepOk, h1, hz]
        | _ =>
          unfold p_is_table_b1
          by_cases h1 : c ≤ a <;> simp [stepOk, h1]
      | bool b =>
        unfold p_is_table_b1
        by_cases h1 : (if b = true then (1 : Int) else 0) ≤ a
        · simp [stepOk, h1]
        · cases b <;> simp [stepOk, h1]
      | _ =>
        unfold p_is_table_b1
        simp [stepOk]
  | _ => rfl
/-- a whole list: all steps, rising, changing -/
def goT : List D → Int → Option Int → Bool
  | [], _, _ => true
  | x :: xs, a, l => match stepOk x with
    | some p => goOk a l p && goT xs p.1 (some p.2)
    | none => false
theorem forP_nx {S T : Type} {f : D → S → Option (Ct S T)} {x : D} {xs : List D} {s s' : S} (h : f x s = some (.nx s')) : forP f (x :: xs) s = forP f xs s' := by
  show (f x s).bind _ = _
  rw [h]; rfl
theorem forP_rt {S T : Type} {f : D → S → Option (Ct S T)} {x : D} {xs : List D} {s : S} {t : T} (h : f x s = some (.rt t)) : forP f (x :: xs) s = some (.rt t) := by
  show (f x s).bind _ = _
  rw [h]; rfl
theorem table_loop : ∀ (xs : List D) (a : Int) (l : Option Int), -1 ≤ a → (goT xs a l = true → ∃ s, forP (fun x (s : D × D) => p_is_table_b1 x s.1 s.2) xs (.int a, lvD l) = some (.nx s)) ∧
    (goT xs a l = false → forP (fun x (s : D × D) => p_is_table_b1 x s.1 s.2) xs (.int a, lvD l) = some (.rt (.bool false)))
  | [], a, l, _ => ⟨fun _ => ⟨_, rfl⟩, fun h => by cases h⟩
  | x :: xs, a, l, ha => by
    have tt := table_turn x a l ha
    unfold goT
    cases hs : stepOk x with
    | none =>
      rw [hs] at tt
      exact ⟨fun h => (by cases h), fun _ => forP_rt (f := fun x (s : D × D) => p_is_table_b1 x s.1 s.2) tt⟩
    | some p =>
      obtain ⟨_, h1, h2⟩ := stepOk_some hs
      rw [hs] at tt
      cases hg : goOk a l p with
      | false =>
        simp only [hg] at tt
        exact ⟨fun h => (by simp [hg] at h), fun _ => forP_rt (f := fun x (s : D × D) => p_is_table_b1 x s.1 s.2) tt⟩
      | true =>
        simp only [hg] at tt
        have := table_loop xs p.1 (some p.2) (by omega)
        rw [forP_nx (f := fun x (s : D × D) => p_is_table_b1 x s.1 s.2) (s' := (.int p.1, .int p.2)) tt]
        simp only [hg, Bool.true_and]
        exact this
def head0 : List D → Bool
  | x :: _ => match stepOk x with
    | some p => p.1 == 0
    | none => false
  | [] => false
/-- is_table -/
def tblB : D → Bool
  | .list (x :: xs) => goT (x :: xs) (-1) none && head0 (x :: xs)
  | _ => false
theorem pe_is_table (d : D) : p_is_table d = some (.bool (tblB d)) := by
  cases d with
  | list ds =>
    cases ds with
    | nil => rfl
    | cons x xs =>
      obtain ⟨k1, k2⟩ := table_loop (x :: xs) (-1) none (by omega)
      have e0 : lvD none = .none := rfl
      rw [e0] at k1 k2
      unfold p_is_table
      cases h : goT (x :: xs) (-1) none with
      | false =>
        have k := k2 h
        simp [k, tblB, h]
      | true =>
        obtain ⟨s, k⟩ := k1 h
        obtain ⟨s1, s2⟩ := s
        have hs : ∃ p, stepOk x = some p := by
          unfold goT at h
          cases hs : stepOk x with
          | none => rw [hs] at h; cases h
          | some p => exact ⟨p, rfl⟩
        obtain ⟨p, hs⟩ := hs
        obtain ⟨rfl, h1, h2⟩ := stepOk_some hs
        have a0 : ∀ (y : D) (ys : List D), atI (y :: ys) 0 = some y := fun _ _ => ix_nat (i := 0) rfl
        simp only [stepD] at k h hs
        simp [k, tblB, h, head0, hs, a0, stepD]
  | _ => rfl
def fallOk : Int → List (Int × Int) → Bool
  | _, [] => true
  | m, p :: r => !(decide (p.2 < m - 1)) && fallOk p.2 r
theorem rows_loop : ∀ (ps : List (Int × Int)) (m : Int), (fallOk m ps = true → ∃ s, forP (fun x s => p_is_rows_b1 x s) (ps.map stepD) (.int m) = some (.nx s)) ∧ (fallOk m ps = false → forP (fun x s => p_is_rows_b1 x s) (ps.map stepD) (.int m) = some (.rt (.bool false)))
  | [], m => ⟨fun _ => ⟨_, rfl⟩, fun h => by cases h⟩
  | p :: r, m => by
    have b : p_is_rows_b1 (stepD p) (.int m) = some (if p.2 < m - 1 then .rt (.bool false) else .nx (.int p.2)) := by
      unfold p_is_rows_b1
      by_cases h : p.2 < m - 1 <;> simp [stepD, h]
    unfold fallOk
    by_cases h : p.2 < m - 1
    · rw [if_pos h] at b
      exact ⟨fun z => (by simp [h] at z), fun _ => forP_rt (f := fun x s => p_is_rows_b1 x s) b⟩
    · rw [if_neg h] at b
      have := rows_loop r p.2
      have e := forP_nx (f := fun x s => p_is_rows_b1 x s) (xs := r.map stepD) b
      rw [List.map_cons, e]
      simp only [h, decide_false, Bool.not_false, Bool.true_and]
      exact this
def tabL (t : Tab) : List D := t.map stepD
def tabD (t : Tab) : D := .list (tabL t)
@[simp] theorem tabL_len (t : Tab) : (tabL t).length = t.length := by simp [tabL]
/-- levelled -/
theorem levelled_turn (p : Int × Int) (done : Tab) (hl : done.length < 100000) : p_levelled_b1 (stepD p) (tabD done) = some (tabD (if done.getLast?.map (·.2) = some p.2 then done else done ++ [p])) := by
  unfold p_levelled_b1
  rcases List.eq_nil_or_concat done with rfl | ⟨q, l, rfl⟩
  · simp [stepD, tabD, tabL]
  · have la : atI (tabL (q ++ [l])) (-1) = some (stepD l) := by
      unfold tabL
      rw [List.map_append]
      exact atI_last _ _
    have ne : (tabL (q ++ [l])).isEmpty = false := by simp [tabL]
    have gl : (q ++ [l]).getLast?.map (·.2) = some l.2 := by simp
    simp only [List.concat_eq_append] at *
    rw [gl]
    by_cases he : l.2 = p.2
    · rw [if_pos (by rw [he])]
      unfold tabD
      simp only [stepD] at la
      simp only [stepD, v_tup2, v_bind2, q_tru_l, ne, Bool.not_false, v_bind1, if_true, v_negP, q_ix_l, la, q_ix_t, show atI [PyData.int l.1, .int l.2] 1 = some (.int l.2) from rfl, q_ne_ii, asBool]
      simp [he]
    · rw [if_neg (by intro z; exact he (Option.some.inj z))]
      unfold tabD
      simp only [stepD] at la
      have hl' : (tabL (q ++ [l])).length < 100000 := by simpa using hl
      simp only [stepD, v_tup2, v_bind2, q_tru_l, ne, Bool.not_false, v_bind1, if_true, v_negP, q_ix_l, la, q_ix_t, show atI [PyData.int l.1, .int l.2] 1 = some (.int l.2) from rfl, q_ne_ii, asBool, v_mutP, q_append, hl']
      simp [he, tabL, stepD]
theorem lvl_snoc (p : Int × Int) : ∀ (t : Tab) (l : Option Int), lvl l (t ++ [p]) = if ((lvl l t).getLast?.map (·.2)).or l = some p.2 then lvl l t else lvl l t ++ [p]
  | [], l => by
    show (if l = some p.2 then lvl l [] else p :: lvl (some p.2) []) = if ((lvl l []).getLast?.map (·.2)).or l = some p.2 then lvl l [] else lvl l [] ++ [p]
    have e : lvl l [] = [] := rfl
    have e2 : lvl (some p.2) [] = [] := rfl
    rw [e, e2]
    have e3 : ((([] : Tab).getLast?.map (·.2)).or l) = l := by simp
    rw [e3]
    rfl
  | q :: t, l => by
    show (if l = some q.2 then lvl l (t ++ [p]) else q :: lvl (some q.2) (t ++ [p])) = if ((if l = some q.2 then lvl l t else q :: lvl (some q.2) t).getLast?.map (·.2)).or l = some p.2 then (if l = some q.2 then lvl l t else q :: lvl (some q.2) t) else (if l = some q.2 then lvl l t else q :: lvl (some q.2) t) ++ [p]
    split
    · rename_i h
      exact lvl_snoc p t l
    · rename_i h
      rw [lvl_snoc p t (some q.2)]
      have : ((q :: lvl (some q.2) t).getLast?.map (·.2)).or l = ((lvl (some q.2) t).getLast?.map (·.2)).or (some q.2) := by
        cases hh : lvl (some q.2) t with
        | nil => simp
        | cons a r => simp [List.getLast?_cons_cons, List.getLast?_cons]
      rw [this]
      split
      · rfl
      · rfl
theorem lvl_len : ∀ (t : Tab) (l : Option Int), (lvl l t).length ≤ t.length
  | [], _ => Nat.le_refl _
  | p :: t, l => by
    show (if l = some p.2 then lvl l t else p :: lvl (some p.2) t).length ≤ _
    split
    · have := lvl_len t l
      simp; omega
    · have := lvl_len t (some p.2)
      simp; omega
theorem pe_levelled (t : Tab) (hl : t.length ≤ 90000) : p_levelled (tabD t) = some (tabD (lvl none t)) := by
  obtain ⟨s', e, q⟩ := foldP_enc (f := fun x s => p_levelled_b1 x s) (e := stepD) (xs := t) (s := .list []) (fun done s => s = tabD (lvl none done)) rfl (by
    rintro pre x post s hx rfl
    have hlen : pre.length < t.length := by rw [hx]; simp
    have := lvl_len pre none
    refine ⟨_, levelled_turn x _ (by omega), ?_⟩
    rw [lvl_snoc, Option.or_none])
  subst q
  have e' : foldP (fun x s => p_levelled_b1 x s) (tabL t) (.list []) = some (tabD (lvl none t)) := e
  unfold p_levelled tabD
  simp only [q_items_l, v_bind2, e', v_bind1]
  rfl
def wb : List Say → Int → Int
  | [], w => w
  | s :: r, w => wb r (if s.1 < w ∧ (∀ m, s.2 = some m → w ≤ m + 1) then w - 1 else w)
theorem wb_iff : ∀ (r : List Say) (w c : Int), wb r w ≤ c ↔ w ≤ tot r c
  | [], _, _ => Iff.rfl
  | s :: r, w, c => by
    show wb r _ ≤ c ↔ w ≤ tot r c + b2i (trueS s (tot r c))
    rw [wb_iff r]
    obtain ⟨l, m⟩ := s
    cases m with
    | none =>
      have e : (∀ x : Int, (none : Option Int) = some x → w ≤ x + 1) ↔ True := ⟨fun _ => trivial, fun _ x h => by cases h⟩
      simp only [e, and_true]
      by_cases h : l < w
      · rw [if_pos h]
        by_cases h2 : l ≤ tot r c <;> simp [trueS, b2i, h2] <;> omega
      · rw [if_neg h]
        by_cases h2 : l ≤ tot r c <;> simp [trueS, b2i, h2] <;> omega
    | some m =>
      have e : (∀ x : Int, some m = some x → w ≤ x + 1) ↔ w ≤ m + 1 := ⟨fun h => h m rfl, fun h x hx => by cases hx; exact h⟩
      simp only [e]
      by_cases h : l < w ∧ w ≤ m + 1
      · rw [if_pos h]
        by_cases h2 : l ≤ tot r c <;> by_cases h3 : tot r c ≤ m <;> simp [trueS, b2i, h2, h3] <;> omega
      · rw [if_neg h]
        by_cases h2 : l ≤ tot r c <;> by_cases h3 : tot r c ≤ m <;> simp [trueS, b2i, h2, h3] <;> omega
theorem wb_nn : ∀ (r : List Say) (w : Int), (∀ s ∈ r, okSay s) → 0 ≤ w → 0 ≤ wb r w
  | [], _, _, h => h
  | s :: r, w, ho, h => by
    refine wb_nn r _ (fun t ht => ho t (List.mem_cons_of_mem _ ht)) ?_
    have := (ho s List.mem_cons_self).1
    split
    · rename_i hh; have := hh.1; omega
    · exact h
theorem wb_near : ∀ (r : List Say) (w : Int), ∃ k : Nat, k ≤ r.length ∧ wb r w = w - k
  | [], w => ⟨0, Nat.le_refl _, by show w = _; omega⟩
  | s :: r, w => by
    show ∃ k : Nat, k ≤ r.length + 1 ∧ wb r _ = w - k
    split
    · obtain ⟨k, hk, e⟩ := wb_near r (w - 1)
      exact ⟨k + 1, by omega, by rw [e]; omega⟩
    · obtain ⟨k, hk, e⟩ := wb_near r w
      exact ⟨k, by omega, e⟩
theorem wb_turn (s : Say) (w : Int) : p_wish_behind_b1 (sayD s) (.int w) = some (.int (if s.1 < w ∧ (∀ m, s.2 = some m → w ≤ m + 1) then w - 1 else w)) := by
  obtain ⟨l, m⟩ := s
  unfold p_wish_behind_b1
  cases m with
  | none => by_cases h : l < w <;> simp [sayD, h]
  | some m => by_cases h : l < w <;> by_cases h2 : w ≤ m + 1 <;> simp [sayD, h, h2]
theorem pe_wish_behind {d : D} {k : Bool} {r : List Say} (w : Int) (hd : itemsD d = some (k, rowD r)) : p_wish_behind d (.int w) = some (.int (wb r w)) := by
  have key : ∀ (r : List Say) (w : Int), foldP (fun x s => p_wish_behind_b1 x s) (rowD r) (.int w) = some (.int (wb r w)) := by
    intro r
    induction r with
    | nil => intro w; rfl
    | cons s r ih =>
      intro w
      show (p_wish_behind_b1 (sayD s) (.int w)).bind _ = _
      rw [wb_turn, Option.bind_some]
      exact ih _
  unfold p_wish_behind
  rw [hd, v_bind2, key, v_bind1]
/-- the stretch of companies by which s is true in front of r -/
def cw (r : List Say) (s : Say) : Option Say := match s.2 with
  | none => some (wb r s.1, none)
  | some m => if wb r (m + 1) ≤ wb r s.1 then none else some (wb r s.1, some (wb r (m + 1) - 1))
def optD : Option Say → D
  | none => .none
  | some s => sayD s
theorem pe_companies_within {d : D} {k : Bool} {r : List Say} (s : Say) (hd : itemsD d = some (k, rowD r)) : p_companies_within d (sayD s) = some (optD (cw r s)) := by
  obtain ⟨l, m⟩ := s
  cases m with
  | none =>
    unfold p_companies_within
    simp [sayD, pe_wish_behind _ hd, cw, optD, p_stretch_to]
  | some m =>
    unfold p_companies_within
    by_cases h : wb r (m + 1) ≤ wb r l <;> simp [sayD, pe_wish_behind _ hd, cw, optD, p_stretch_to, h]
theorem cw_true (r : List Say) (s : Say) (c : Int) : (match cw r s with | none => 0 | some t => b2i (trueS t c)) = b2i (trueS s (tot r c)) := by
  obtain ⟨l, m⟩ := s
  have h1 := wb_iff r l c
  cases m with
  | none =>
    show b2i (trueS (wb r l, none) c) = _
    by_cases h : wb r l ≤ c
    · simp [trueS, b2i, h, h1.mp h]
    · have : ¬ l ≤ tot r c := fun z => h (h1.mpr z)
      simp [trueS, b2i, h, this]
  | some m =>
    have h2 := wb_iff r (m + 1) c
    have e2 : (wb r (m + 1) ≤ c) ↔ ¬ tot r c ≤ m := by rw [h2]; omega
    show (match (if wb r (m + 1) ≤ wb r l then none else some (wb r l, some (wb r (m + 1) - 1))) with | none => 0 | some t => b2i (trueS t c)) = _
    by_cases h : wb r (m + 1) ≤ wb r l
    · rw [if_pos h]
      by_cases ha : l ≤ tot r c
      · have := h1.mpr ha
        have : ¬ tot r c ≤ m := e2.mp (by omega)
        simp [trueS, b2i, this]
      · simp [trueS, b2i, ha]
    · rw [if_neg h]
      by_cases ha : l ≤ tot r c
      · have hx := h1.mpr ha
        by_cases hb : tot r c ≤ m
        · have : ¬ wb r (m + 1) ≤ c := fun z => (e2.mp z) hb
          have : c ≤ wb r (m + 1) - 1 := by omega
          simp [trueS, b2i, ha, hb, hx, this]
        · have := e2.mpr hb
          have : ¬ c ≤ wb r (m + 1) - 1 := by omega
          simp [trueS, b2i, hb, this]
      · have hx : ¬ wb r l ≤ c := fun z => ha (h1.mp z)
        simp [trueS, b2i, ha, hx]
/-- of each person, front first -/
def soc : List Say → List (Option Say)
  | [] => []
  | s :: r => cw r s :: soc r
theorem soc_len : ∀ r : List Say, (soc r).length = r.length
  | [] => rfl
  | s :: r => by show (soc r).length + 1 = _; rw [soc_len r]; rfl
theorem soc_get : ∀ (r : List Say) (i : Nat) (h : i < r.length), (soc r)[i]? = some (cw (r.drop (i + 1)) r[i])
  | [], _, h => by simp at h
  | s :: r, 0, _ => rfl
  | s :: r, i + 1, h => by
    show (soc r)[i]? = _
    rw [soc_get r i (by simpa using h)]; rfl
theorem sliceW_row {d : D} {k : Bool} {ds : List D} (hd : itemsD d = some (k, ds)) (lo hi : Option Int) : ∃ b e, sliceW d lo hi = some (b, e) ∧ itemsD e = some (k, cutD ds lo hi) := by
  cases d with
  | list xs => cases hd; exact ⟨_, _, rfl, rfl⟩
  | tuple xs =>
    cases hd
    by_cases h : HT.sIx ds.length 0 lo = 0 ∧ HT.sIx ds.length ds.length hi = ds.length
    · refine ⟨true, .tuple ds, if_pos h, ?_⟩
      have : cutD ds lo hi = ds := by
        unfold cutD
        rw [h.1, h.2]
        simp
      rw [this]; rfl
    · exact ⟨false, .tuple (cutD ds lo hi), if_neg h, rfl⟩
  | _ => cases hd
theorem ix_row {d : D} {k : Bool} {ds : List D} (hd : itemsD d = some (k, ds)) (i : Int) : gIx d (.int i) = atI ds i := by
  cases d <;> cases hd <;> rfl
theorem pe_said_of_company {d : D} {k : Bool} {r : List Say} (hd : itemsD d = some (k, rowD r)) (hr : r.length ≤ 90000) : p_said_of_company d = some (.list ((soc r).map optD)) := by
  have mp : mapT (p_said_of_company_c1 d) ((List.range r.length).map fun (i : Nat) => PyData.int (i : Int)) = some ((List.range r.length).map fun i => optD (cw (r.drop (i + 1)) (r.getD i (0, none)))) :=
    mapT_enc (by simp; omega) fun i hi => by
      rw [List.mem_range] at hi
      obtain ⟨b, e, h1, h2⟩ := sliceW_row hd (some ((i + 1 : Nat) : Int)) none
      rw [cut_from _ (i + 1) (by simp; omega), rowD_drop] at h2
      have ha : atI (rowD r) (i : Int) = some (sayD r[i]) := ix_nat (by unfold rowD; rw [List.getElem?_map, List.getElem?_eq_getElem hi]; rfl)
      unfold p_said_of_company_c1
      simp only [v_addV, v_bind1, v_ixP, show ((i : Int) + 1) = ((i + 1 : Nat) : Int) by omega, h1, v_bind2, ix_row hd, ha, pe_companies_within r[i] h2]
      rw [List.getD_eq_getElem?_getD, List.getElem?_eq_getElem hi]; rfl
  have e2 : ((List.range r.length).map fun i => optD (cw (r.drop (i + 1)) (r.getD i (0, none)))) = (soc r).map optD :=
    map_range_get r.length (by rw [List.length_map, soc_len]) fun i hi => by
      rw [List.getElem?_map, soc_get r i hi, List.getD_eq_getElem?_getD, List.getElem?_eq_getElem hi]; rfl
  have sm : small62 (r.length : Int) = true := small_nat (by omega)
  unfold p_said_of_company
  simp only [len_row hd, v_bind1, v_rng1P, sm, if_true, rng_nat, mp, e2]
def cntS (ss : List Say) (c : Int) : Int := (ss.map fun s => b2i (trueS s c)).sum
def socS (r : List Say) : List Say := (soc r).filterMap id
theorem tot_cnt : ∀ (r : List Say) (c : Int), tot r c = c + cntS (socS r) c
  | [], c => by show c = c + 0; omega
  | s :: r, c => by
    have ih := tot_cnt r c
    have h := cw_true r s c
    show tot r c + b2i (trueS s (tot r c)) = c + cntS ((cw r s :: soc r).filterMap id) c
    rw [← h, List.filterMap_cons]
    cases hh : cw r s with
    | none => show tot r c + 0 = c + cntS (socS r) c; omega
    | some t =>
      show tot r c + b2i (trueS t c) = c + (b2i (trueS t c) + cntS (socS r) c)
      omega
/-- changes_by -/
def chg (kv : Dct) (s : Say) : Dct := match s.2 with
  | none => updI kv s.1 (· + 1)
  | some l => updI (updI kv s.1 (· + 1)) (l + 1) (· + (-1))
theorem chg_nodup {kv : Dct} (s : Say) (h : (keysI kv).Nodup) : (keysI (chg kv s)).Nodup := by
  obtain ⟨f, l⟩ := s
  cases l with
  | none => exact upd_nodup _ _ _ h
  | some l => exact upd_nodup _ _ _ (upd_nodup _ _ _ h)
theorem chg_len (kv : Dct) (s : Say) : (chg kv s).length ≤ kv.length + 2 := by
  obtain ⟨f, l⟩ := s
  cases l with
  | none => have := upd_len (· + 1) f kv; show (updI kv f (· + 1)).length ≤ _; omega
  | some l =>
    have h1 := upd_len (· + 1) f kv
    have h2 := upd_len (· + (-1)) (l + 1) (updI kv f (· + 1))
    show (updI (updI kv f (· + 1)) (l + 1) (· + (-1))).length ≤ _
    omega
theorem chg_mem (kv : Dct) (s : Say) (j : Int) : j ∈ keysI (chg kv s) ↔ (j = s.1 ∨ ∃ l, s.2 = some l ∧ j = l + 1) ∨ j ∈ keysI kv := by
  obtain ⟨f, l⟩ := s
  cases l with
  | none =>
    show j ∈ keysI (updI _ _ _) ↔ _
    rw [upd_mem]
    simp
  | some l =>
    show j ∈ keysI (updI _ _ _) ↔ _
    rw [upd_mem, upd_mem]
    simp only [Option.some.injEq, exists_eq_left']
    constructor
    · rintro (z | z | z)
      · exact .inl (.inr z)
      · exact .inl (.inl z)
      · exact .inr z
    · rintro ((z | z) | z)
      · exact .inr (.inl z)
      · exact .inl z
      · exact .inr (.inr z)
theorem chg_sum (kv : Dct) (s : Say) (c : Int) (h : ∀ l, s.2 = some l → s.1 ≤ l + 1) : sumI (chg kv s) c = sumI kv c + b2i (trueS s c) := by
  obtain ⟨f, l⟩ := s
  cases l with
  | none =>
    show sumI (updI _ _ _) c = _
    rw [sum_upd]
    by_cases h1 : f ≤ c <;> simp [h1, trueS, b2i]
  | some l =>
    have := h l rfl
    simp only at this
    show sumI (updI _ _ _) c = _
    rw [sum_upd, sum_upd]
    by_cases h1 : f ≤ c <;> by_cases h2 : c ≤ l <;> simp [h1, h2, trueS, b2i] <;> omega
theorem chg_turn (kv : Dct) (s : Say) (hn : (keysI kv).Nodup) (hl : kv.length < 90000) : p_changes_by_b1 (sayD s) (dcD kv) = some (dcD (chg kv s)) := by
  obtain ⟨f, l⟩ := s
  have l1 := upd_len (· + 1) f kv
  have p1 := put_dc (· + 1) kv f hn
  have n1 := upd_nodup (· + 1) f kv hn
  have k0 : kv.length < 100000 := by omega
  have k1 : (updI kv f (· + 1)).length < 100000 := by omega
  cases l with
  | none =>
    unfold p_changes_by_b1 dcD
    simp only [sayD, mostD_none, v_tup2, v_bind2, v_isDct, v_bind1, v_get2, getD_dc, v_addV, v_dputP, dcL_len, k0, if_true, p1, q_not_n, q_isNone_n, Bool.not_true, asBool, Bool.false_eq_true, if_false]
    rfl
  | some l =>
    have p2 := put_dc (· + (-1)) (updI kv f (· + 1)) (l + 1) n1
    unfold p_changes_by_b1 dcD
    simp only [sayD, mostD_some, v_tup2, v_bind2, v_isDct, v_bind1, v_get2, getD_dc, v_addV, v_dputP, dcL_len, k0, k1, if_true, p1, q_not_n, q_isNone_i, Bool.not_false, asBool]
    simp only [q_on0, v_bind1, v_dputP, dcL_len, k1, if_true, Int.sub_eq_add_neg, p2]
    rfl
theorem pe_changes_by (ss : List Say) (hl : ss.length ≤ 40000) (h : ∀ s ∈ ss, ∀ l, s.2 = some l → s.1 ≤ l + 1) : ∃ kv : Dct, p_changes_by (.list (rowD ss)) = some (dcD kv) ∧ (keysI kv).Nodup ∧ kv.length ≤ 2 * ss.length ∧ (∀ c, sumI kv c = cntS ss c) ∧
    ∀ j, j ∈ keysI kv ↔ ∃ s ∈ ss, j = s.1 ∨ ∃ l, s.2 = some l ∧ j = l + 1 := by
  obtain ⟨s', e, kv, rfl, q1, q2, q3, q4⟩ := foldP_enc (f := fun x s => p_changes_by_b1 x s) (e := sayD) (xs := ss) (s := .dict [])
    (fun done s => ∃ kv : Dct, s = dcD kv ∧ (keysI kv).Nodup ∧ kv.length ≤ 2 * done.length ∧ (∀ c, sumI kv c = cntS done c) ∧ ∀ j, j ∈ keysI kv ↔ ∃ s ∈ done, j = s.1 ∨ ∃ l, s.2 = some l ∧ j = l + 1)
    ⟨[], rfl, List.nodup_nil, by simp, fun _ => rfl, by simp [keysI]⟩ (by
      rintro pre x post s hx ⟨kv, rfl, q1, q2, q3, q4⟩
      have hlen : pre.length < ss.length := by rw [hx]; simp
      have hxm : x ∈ ss := by rw [hx]; simp
      have l2 := chg_len kv x
      refine ⟨_, chg_turn kv x q1 (by omega), chg kv x, rfl, chg_nodup x q1, by simp; omega, fun c => ?_, fun j => ?_⟩
      · rw [chg_sum kv x c (h x hxm), q3 c]
        unfold cntS
        rw [List.map_append, List.sum_append]
        simp
      · rw [chg_mem, q4 j]
        simp only [List.mem_append, List.mem_singleton]
        constructor
        · rintro (z | ⟨s, hs, z⟩)
          · exact ⟨x, .inr rfl, z⟩
          · exact ⟨s, .inl hs, z⟩
        · rintro ⟨s, hs | rfl, z⟩
          · exact .inr ⟨s, hs, z⟩
          · exact .inl z)
  have e' : foldP (fun x s => p_changes_by_b1 x s) (rowD ss) (.dict []) = some (dcD kv) := e
  refine ⟨kv, ?_, q1, q2, q3, q4⟩
  unfold p_changes_by
  simp only [q_items_l, v_bind2, e', v_bind1]
/-- added_up -/
theorem ptsT_snoc (f : Int → Int) (ps : List Int) (x : Int) : tabL (ptsT f ps) ++ [stepD (x, f x)] = tabL (ptsT f (ps ++ [x])) := by simp [tabL, ptsT]
theorem pe_added_up {kv : Dct} (hn : (keysI kv).Nodup) (hk : ∀ k ∈ keysI kv, 0 ≤ k) (hl : kv.length ≤ 80000) (h0 : ∀ c, 0 ≤ c → 0 ≤ sumI kv c) :
    ∃ t, p_added_up (dcD kv) = some (tabD t) ∧ TabOf t (sumI kv) ∧ t.length ≤ kv.length + 1 := by
  have s0 : sumI kv 0 = (lookI kv 0).getD 0 := by
    rw [sum_step (a := -1) (x := 0) (by omega) kv hn fun k hk' => .inr (hk k hk'), sum_low kv fun k hk' => by have := hk k hk'; omega]
    omega
  have slt := sorted_lt hn
  have sperm := sortI_perm (keysI kv)
  have slen : (sortI (keysI kv)).length = kv.length := by rw [sperm.length_eq]; simp [keysI]
  obtain ⟨s', e, a, rfl, -, -, -⟩ := foldP_enc (f := fun x (s : D × D) => p_added_up_b1 (dcD kv) x s.1 s.2) (e := PyData.int) (xs := sortI (keysI kv)) (s := (.int (sumI kv 0), .list [stepD (0, sumI kv 0)]))
    (fun done s => ∃ a : Int, s = (.int (sumI kv a), .list (tabL (ptsT (sumI kv) (0 :: done.filter fun k => decide (0 < k))))) ∧ 0 ≤ a ∧ (∀ d ∈ done, d ≤ a) ∧ (a = 0 ∨ a ∈ done))
    ⟨0, rfl, Int.le_refl _, by simp, .inl rfl⟩ (by
      rintro pre x post s hx ⟨a, rfl, ha, hd, hor⟩
      have hxm : x ∈ keysI kv := sperm.mem_iff.mp (by rw [hx]; simp)
      have hx0 := hk x hxm
      rw [hx] at slt
      obtain ⟨_, slt2, slt3⟩ := List.pairwise_append.mp slt
      have hlx : ∀ d ∈ pre, d < x := fun d hd => slt3 d hd x List.mem_cons_self
      have hlen : pre.length < kv.length := by
        have := congrArg List.length hx
        rw [slen] at this; simp at this; omega
      by_cases hpos : 0 < x
      · have hax : a < x := by
          rcases hor with z | z
          · omega
          · exact hlx a z
        have hs := sum_step hax kv hn fun k hk' => by
          have hk2 : k ∈ pre ++ x :: post := by rw [← hx]; exact sperm.mem_iff.mpr hk'
          rcases List.mem_append.mp hk2 with z | z
          · exact .inl (hd k z)
          · rcases List.mem_cons.mp z with rfl | z
            · exact .inr (Int.le_refl _)
            · exact .inr (Int.le_of_lt ((List.pairwise_cons.mp slt2).1 k z))
        have hlk : ∃ v, lookI kv x = some v := by
          have : ∀ kv : Dct, x ∈ keysI kv → ∃ v, lookI kv x = some v := by
            intro kv
            induction kv with
            | nil => intro h; cases h
            | cons p r ih =>
              intro h
              show ∃ v, (if p.1 = x then some p.2 else lookI r x) = some v
              by_cases hp : p.1 = x
              · rw [if_pos hp]; exact ⟨_, rfl⟩
              · rw [if_neg hp]
                rcases List.mem_cons.mp h with z | z
                · exact absurd z.symm hp
                · exact ih z
          exact this kv hxm
        obtain ⟨v, hv⟩ := hlk
        rw [hv] at hs
        have hs : sumI kv x = sumI kv a + v := hs
        have ll : (tabL (ptsT (sumI kv) (0 :: pre.filter fun k => decide (0 < k)))).length < 100000 := by
          have := List.length_filter_le (fun k => decide (0 < k)) pre
          simp [ptsT]; omega
        refine ⟨(.int (sumI kv x), .list (tabL (ptsT (sumI kv) (0 :: (pre ++ [x]).filter fun k => decide (0 < k))))), ?_, x, rfl, by omega, ?_, .inr (by simp)⟩
        · have fx : (0 :: (pre ++ [x]).filter fun k => decide (0 < k)) = (0 :: pre.filter fun k => decide (0 < k)) ++ [x] := by
            simp [List.filter_append, hpos]
          rw [fx, ← ptsT_snoc]
          show p_added_up_b1 (dcD kv) (.int x) (.int (sumI kv a)) (.list _) = _
          have gg : gGt (.int x) (.int 0) = some (.bool (decide (x > 0))) := by simp
          unfold p_added_up_b1 dcD
          simp only [gg, v_bind1, asBool, decide_eq_true (show x > 0 from hpos), if_true, v_ixA_d, look_dc, hv, Option.map_some, v_gAddI, v_mutP, q_append, ll, v_bind2, ← hs]
          rfl
        · intro d hd'
          rcases List.mem_append.mp hd' with z | z
          · have := hlx d z; omega
          · simp at z; omega
      · have hx' : x = 0 := by omega
        refine ⟨(.int (sumI kv a), .list (tabL (ptsT (sumI kv) (0 :: (pre ++ [x]).filter fun k => decide (0 < k))))), ?_, a, rfl, ha, ?_, ?_⟩
        · have fx : ((pre ++ [x]).filter fun k => decide (0 < k)) = pre.filter fun k => decide (0 < k) := by
            simp [List.filter_append, hpos]
          rw [fx]
          show p_added_up_b1 (dcD kv) (.int x) (.int (sumI kv a)) (.list _) = _
          have gg : gGt (.int x) (.int 0) = some (.bool (decide (x > 0))) := by simp
          unfold p_added_up_b1
          simp only [gg, v_bind1, asBool, decide_eq_false (show ¬ x > 0 from hpos), Bool.false_eq_true, if_false]
        · intro d hd'
          rcases List.mem_append.mp hd' with z | z
          · exact hd d z
          · simp at z; omega
        · rcases hor with z | z
          · exact .inl z
          · exact .inr (List.mem_append_left _ z))
  have e' : foldP (fun x (s : D × D) => p_added_up_b1 (dcD kv) x s.1 s.2) ((sortI (keysI kv)).map PyData.int) (.int (sumI kv 0), .list [stepD (0, sumI kv 0)]) = some (.int (sumI kv a), .list (tabL (ptsT (sumI kv) (0 :: ptsOf kv)))) := e
  have pl : (ptsOf kv).length ≤ kv.length := by
    have := List.length_filter_le (fun k => decide (0 < k)) (sortI (keysI kv))
    unfold ptsOf; omega
  have lev := pe_levelled (ptsT (sumI kv) (0 :: ptsOf kv)) (by simp [ptsT]; omega)
  unfold tabD at lev
  refine ⟨_, ?_, dct_tab hn h0, ?_⟩
  · unfold p_added_up dcD
    simp only [v_isDct, v_bind1, v_get2, getD_dc, ← s0, v_sortedA_d, keys_dc, Option.map_some, q_items_l, v_bind2]
    have e'' : foldP (fun x (s : D × D) => p_added_up_b1 (.dict (dcL kv)) x s.1 s.2) ((sortI (keysI kv)).map PyData.int) (.int (sumI kv 0), .list [.tuple [.int 0, .int (sumI kv 0)]]) = some (.int (sumI kv a), .list (tabL (ptsT (sumI kv) (0 :: ptsOf kv)))) := e'
    rw [e'']
    simp only [v_bind2, lev, v_bind1]
    rfl
  · have h1 := lvl_len (ptsT (sumI kv) (0 :: ptsOf kv)) none
    have h2 : (ptsT (sumI kv) (0 :: ptsOf kv)).length = (ptsOf kv).length + 1 := by simp [ptsT]
    omega
/-- the table of a row -/
def manyF (r : List Say) (c : Int) : Int := tot r c - c
theorem socS_ok : ∀ {r : List Say}, (∀ s ∈ r, okSay s) → ∀ s ∈ socS r, 0 ≤ s.1 ∧ ∀ l, s.2 = some l → s.1 ≤ l
  | [], _, s, hs => by cases hs
  | q :: r, ho, s, hs => by
    have hor : ∀ s ∈ r, okSay s := fun t ht => ho t (List.mem_cons_of_mem _ ht)
    have hs : s ∈ (cw r q :: soc r).filterMap id := hs
    rw [List.filterMap_cons] at hs
    have key : ∀ t, cw r q = some t → 0 ≤ t.1 ∧ ∀ l, t.2 = some l → t.1 ≤ l := by
      intro t ht
      have h0 := wb_nn r q.1 hor (ho q List.mem_cons_self).1
      unfold cw at ht
      split at ht
      · cases ht; exact ⟨h0, fun l hl => by cases hl⟩
      · split at ht
        · cases ht
        · cases ht
          refine ⟨h0, fun l hl => ?_⟩
          cases hl
          rename_i hh
          show wb r q.1 ≤ wb r _ - 1
          omega
    cases hh : cw r q with
    | none =>
      rw [hh] at hs
      exact socS_ok hor s hs
    | some t =>
      rw [hh] at hs
      rcases List.mem_cons.mp hs with rfl | hs
      · exact key _ hh
      · exact socS_ok hor s hs
theorem socS_len (r : List Say) : (socS r).length ≤ r.length := by
  have := List.length_filterMap_le id (soc r)
  rw [soc_len] at this
  exact this
theorem filt_soc : ∀ r : List Say, ((soc r).map optD).filterMap (fun d => if isNone d = true then none else some d) = rowD (socS r)
  | [] => rfl
  | s :: r => by
    have ih := filt_soc r
    show ((optD (cw r s) :: (soc r).map optD).filterMap _) = rowD ((cw r s :: soc r).filterMap id)
    rw [List.filterMap_cons, List.filterMap_cons]
    cases cw r s with
    | none => exact ih
    | some t =>
      show sayD t :: _ = sayD t :: rowD (socS r)
      rw [ih]
theorem pe_table_of {d : D} {k : Bool} {r : List Say} (hd : itemsD d = some (k, rowD r)) (ho : ∀ s ∈ r, okSay s) (hr : r.length ≤ 30000) :
    ∃ t, p_table_of d = some (tabD t) ∧ TabOf t (manyF r) ∧ t.length ≤ 2 * r.length + 1 := by
  have ok := socS_ok ho
  have sl := socS_len r
  obtain ⟨kv, e1, n1, l1, c1, m1⟩ := pe_changes_by (socS r) (by omega) fun s hs l hl => by have := (ok s hs).2 l hl; omega
  have mf : ∀ c, sumI kv c = manyF r c := fun c => by
    rw [c1 c]
    have := tot_cnt r c
    unfold manyF
    omega
  obtain ⟨t, e2, tt, tl⟩ := pe_added_up n1 (fun j hj => by
    obtain ⟨s, hs, z⟩ := (m1 j).mp hj
    have h1 := (ok s hs).1
    rcases z with z | ⟨l, hl, z⟩
    · omega
    · have := (ok s hs).2 l hl; omega) (by omega) (fun c hc => by
    rw [mf c]
    have := tot_ge r c
    unfold manyF
    omega)
  have ft : filT p_table_of_c1 ((soc r).map optD) = some (rowD (socS r)) := by
    rw [← filt_soc]
    refine filT_of (by rw [List.length_map, soc_len]; omega) fun x hx => ?_
    unfold p_table_of_c1
    simp only [q_not_n, v_bind1, asBool]
    cases isNone x <;> rfl
  refine ⟨t, ?_, tt.congr fun c _ => mf c, by omega⟩
  unfold p_table_of
  simp only [pe_need_row hd ho, v_bind1, pe_said_of_company hd (by omega), q_items_l, v_bind2, ft, e1, e2]
def RowsF (f : Int → Int) : Prop := ∀ c, 0 ≤ c → f c ≤ f (c + 1) + 1
theorem RowsF.mono {f : Int → Int} (h : RowsF f) {c d : Int} (hc : 0 ≤ c) (hd : c ≤ d) : c + f c ≤ d + f d := by
  obtain ⟨n, rfl⟩ : ∃ n : Nat, d = c + n := ⟨(d - c).toNat, by omega⟩
  clear hd
  induction n with
  | zero => simp
  | succ n ih =>
    have := h (c + n) (by omega)
    have e : c + ((n + 1 : Nat) : Int) = c + n + 1 := by omega
    rw [e]
    omega
theorem many_rows (r : List Say) : RowsF (manyF r) := fun c _ => by
  have := tot_mono r c (c + 1) (by omega)
  unfold manyF
  omega
theorem TabOf.rows {t : Tab} {f : Int → Int} (h : TabOf t f) (hf : RowsF f) : RowsF (lv t) := fun c hc => by
  rw [h.at_ c hc, h.at_ (c + 1) (by omega)]
  exact hf c hc
theorem goT_can : ∀ {r : Tab} {a l : Int}, Can a l r → 0 ≤ a → goT (tabL r) a (some l) = true
  | [], _, _, _, _ => rfl
  | p :: r, a, l, h, ha => by
    obtain ⟨h1, h2, h3, h4⟩ := h
    show (match stepOk (stepD p) with | some q => goOk a (some l) q && goT (tabL r) q.1 (some q.2) | none => false) = true
    rw [stepOk_D (by omega) h3]
    have h2' : ¬ l = p.2 := h2
    simp [goOk, h1, h2', goT_can h4 (by omega)]
theorem tab_tblB {t : Tab} (h : IsTab t) : tblB (tabD t) = true := by
  obtain ⟨m, r, rfl, hm, k⟩ := h
  show (goT (stepD (0, m) :: tabL r) (-1) none && head0 (stepD (0, m) :: tabL r)) = true
  have s0 : stepOk (stepD (0, m)) = some (0, m) := stepOk_D (Int.le_refl _) hm
  have e1 : goT (stepD (0, m) :: tabL r) (-1) none = true := by
    show (match stepOk (stepD (0, m)) with | some q => goOk (-1) none q && goT (tabL r) q.1 (some q.2) | none => false) = true
    rw [s0]
    simp [goOk, goT_can k (Int.le_refl _)]
  have e2 : head0 (stepD (0, m) :: tabL r) = true := by
    show (match stepOk (stepD (0, m)) with | some p => p.1 == 0 | none => false) = true
    rw [s0]; rfl
  rw [e1, e2]; rfl
theorem pe_is_table_t {t : Tab} (h : IsTab t) : p_is_table (tabD t) = some (.bool true) := by rw [pe_is_table, tab_tblB h]
def plc (n : Int) : Int := if n = 0 then 0 else 1
def markF (p : Int × Int) : Prop := 0 ≤ p.1 ∧ 0 ≤ p.2 ∧ p.2 ≠ plc p.1
def IsShf (s : Tab) : Prop := Rise (-1) s ∧ ∀ p ∈ s, markF p
theorem pe_plain (n : Int) : p_plain_copies (.int n) = some (.int (plc n)) := by
  unfold p_plain_copies plc
  by_cases h : n = 0 <;> simp [h]
theorem pe_is_mark (p : Int × Int) (h : markF p) : p_is_mark (stepD p) = some (.bool true) := by
  obtain ⟨h1, h2, h3⟩ := h
  have j0 : ∀ x y : D, atI [x, y] 0 = some x := fun _ _ => rfl
  have j1 : ∀ x y : D, atI [x, y] 1 = some y := fun _ _ => rfl
  unfold p_is_mark
  simp [stepD, j0, j1, pe_is_number, h1, h2, pe_plain, h3]
/-- what zip(xs, xs[1:]) tells of -/
theorem zip_tail (s : Tab) : zipP (.list (tabL s)) (.list ((tabL s).drop 1)) = some ((s.zip (s.drop 1)).map fun z => PyData.tuple [stepD z.1, stepD z.2]) := by
  unfold zipP
  simp only [q_items_l, beq_self_eq_true, if_true]
  congr 1
  unfold tabL
  rw [← List.map_drop, List.zip_map, List.map_map]
  rfl
theorem shelf_c2 (z : (Int × Int) × (Int × Int)) : p_is_shelf_c2 (.tuple [stepD z.1, stepD z.2]) = some (.bool (decide (z.1.1 < z.2.1))) := by
  have j0 : ∀ x y : D, atI [x, y] 0 = some x := fun _ _ => rfl
  unfold p_is_shelf_c2
  simp [stepD, j0]
theorem rise_zip : ∀ {s : Tab} {a : Int}, Rise a s → ((s.zip (s.drop 1)).all fun z => decide (z.1.1 < z.2.1)) = true
  | [], _, _ => rfl
  | [p], _, _ => rfl
  | p :: q :: r, a, h => by
    have ih := rise_zip (s := q :: r) h.2
    show (decide (p.1 < q.1) && ((q :: r).zip r).all _) = true
    rw [decide_eq_true h.2.1, Bool.true_and]
    exact ih
theorem bools_of : ∀ bs : List Bool, bools (bs.map PyData.bool) = some bs
  | [] => rfl
  | b :: bs => by
    show (bools (bs.map PyData.bool)).map _ = _
    rw [bools_of bs]; rfl
theorem all_bools (bs : List Bool) : gAll [.list (bs.map PyData.bool)] = some (.bool (bs.all id)) := by
  rw [q_all, bools_of]; rfl
/-- is_shelf of a list of marks -/
theorem pe_is_shelfM (s : Tab) (hm : ∀ p ∈ s, markF p) (hl : s.length ≤ 90000) : p_is_shelf (tabD s) = some (.bool ((s.zip (s.drop 1)).all fun z => decide (z.1.1 < z.2.1))) := by
  have m1 : mapT p_is_shelf_c1 (tabL s) = some (s.map fun _ => PyData.bool true) := mapT_enc (by omega) fun p hp => by
    unfold p_is_shelf_c1
    rw [pe_is_mark p (hm p hp)]; rfl
  have m2 : mapT p_is_shelf_c2 ((s.zip (s.drop 1)).map fun z => PyData.tuple [stepD z.1, stepD z.2]) = some ((s.zip (s.drop 1)).map fun z => PyData.bool (decide (z.1.1 < z.2.1))) := mapT_enc (by simp; omega) fun z _ => shelf_c2 z
  have a1 : gAll [.list (s.map fun _ => PyData.bool true)] = some (.bool true) := by
    have := all_bools (s.map fun _ => true)
    rw [List.map_map] at this
    rw [show (s.map fun _ => PyData.bool true) = s.map (PyData.bool ∘ fun _ => true) from rfl, this]
    simp
  have a2 : gAll [.list ((s.zip (s.drop 1)).map fun z => PyData.bool (decide (z.1.1 < z.2.1)))] = some (.bool ((s.zip (s.drop 1)).all fun z => decide (z.1.1 < z.2.1))) := by
    have := all_bools ((s.zip (s.drop 1)).map fun z => decide (z.1.1 < z.2.1))
    rw [List.map_map] at this
    rw [show ((s.zip (s.drop 1)).map fun z => PyData.bool (decide (z.1.1 < z.2.1))) = (s.zip (s.drop 1)).map (PyData.bool ∘ fun z => decide (z.1.1 < z.2.1)) from rfl, this]
    simp [Function.comp_def]
  have ct : cutD (tabL s) (some 1) none = (tabL s).drop 1 := by
    by_cases h : 1 ≤ (tabL s).length
    · exact cut_from (tabL s) 1 h
    · have : tabL s = [] := List.eq_nil_of_length_eq_zero (by omega)
      rw [this]; rfl
  unfold p_is_shelf tabD
  simp only [q_isi, q_tyD_l, v_bind1, q_tru_b, q_items_l, v_bind2, m1, a1, m2, a2, v_ixP, v_sl, v_slF, ct, zip_tail, List.any_cons, List.any_nil]
  simp only [show (isTy "list" "list") = true from by decide, Bool.or_false, if_true, v_bind1, Bool.not_true, Bool.false_eq_true, if_false]
theorem pe_is_shelf {s : Tab} (h : IsShf s) (hl : s.length ≤ 90000) : p_is_shelf (tabD s) = some (.bool true) := by
  rw [pe_is_shelfM s h.2 hl, rise_zip h.1]
theorem pe_need_shelf {s : Tab} (h : IsShf s) (hl : s.length ≤ 90000) : p_need_shelf (tabD s) = some .none := by
  unfold p_need_shelf
  simp [pe_is_shelf h hl]
def more (s : Tab) : Dct := s.map fun p => (p.1, p.2 - plc p.1)
def upTo (s : Tab) (c : Int) : Int := c + sumI (more s) c
theorem keys_more (s : Tab) : keysI (more s) = s.map (·.1) := by unfold keysI more; rw [List.map_map]; rfl
theorem Rise.keys {a : Int} : ∀ {s : Tab}, Rise a s → (s.map (·.1)).Pairwise (· < ·)
  | [], _ => .nil
  | p :: r, h => List.pairwise_cons.mpr ⟨fun k hk => by
      obtain ⟨q, hq, rfl⟩ := List.mem_map.mp hk
      exact h.2.all q hq, Rise.keys h.2⟩
theorem Rise.nodup {a : Int} {s : Tab} (h : Rise a s) : (s.map (·.1)).Nodup := h.keys.imp fun hlt e => by omega
theorem look_more : ∀ (s : Tab) (j : Int), lookI (more s) j = (lookI s j).map (· - plc j)
  | [], _ => rfl
  | p :: r, j => by
    show (if p.1 = j then some (p.2 - plc p.1) else lookI (more r) j) = (if p.1 = j then some p.2 else lookI r j).map _
    rw [look_more r j]
    by_cases h : p.1 = j
    · rw [if_pos h, if_pos h, h]; rfl
    · rw [if_neg h, if_neg h]
/-- copies of a number -/
def cps (s : Tab) (j : Int) : Int := (lookI s j).getD (plc j)
theorem look_mem : ∀ {s : Tab} {j v : Int}, lookI s j = some v → (j, v) ∈ s
  | p :: r, j, v, h => by
    have h' : (if p.1 = j then some p.2 else lookI r j) = some v := h
    by_cases hp : p.1 = j
    · rw [if_pos hp] at h'
      cases h'
      rw [← hp]
      exact List.mem_cons_self
    · rw [if_neg hp] at h'
      exact List.mem_cons_of_mem _ (look_mem h')
theorem cps_nn {s : Tab} (h : IsShf s) (j : Int) : 0 ≤ cps s j := by
  unfold cps
  cases e : lookI s j with
  | none => show 0 ≤ plc j; unfold plc; split <;> omega
  | some v => exact (h.2 _ (look_mem e)).2.1
theorem upTo_step {s : Tab} (h : IsShf s) (c : Int) (hc : -1 ≤ c) : upTo s (c + 1) = upTo s c + cps s (c + 1) + (if c + 1 = 0 then 1 else 0) := by
  have st := sum_step (a := c) (x := c + 1) (by omega) (more s) (by rw [keys_more]; exact h.1.nodup) fun k _ => by omega
  unfold upTo cps
  rw [st, look_more]
  cases lookI s (c + 1) with
  | none =>
    show c + 1 + (sumI (more s) c + 0) = c + sumI (more s) c + plc (c + 1) + _
    unfold plc
    split <;> omega
  | some v =>
    show c + 1 + (sumI (more s) c + (v - plc (c + 1))) = c + sumI (more s) c + v + _
    unfold plc
    split <;> omega
theorem upTo_low {s : Tab} (h : IsShf s) {c : Int} (hc : c < 0) : upTo s c = c := by
  unfold upTo
  rw [sum_low (more s) fun k hk => by
    rw [keys_more] at hk
    obtain ⟨p, hp, rfl⟩ := List.mem_map.mp hk
    have := (h.2 p hp).1
    omega]
  omega
theorem upTo_mono {s : Tab} (h : IsShf s) {c : Int} (hc : -1 ≤ c) : ∀ n : Nat, upTo s c ≤ upTo s (c + n)
  | 0 => by rw [show c + ((0 : Nat) : Int) = c by omega]; exact Int.le_refl _
  | n + 1 => by
    have ih := upTo_mono h hc n
    have := upTo_step h (c + n) (by omega)
    have := cps_nn h (c + n + 1)
    rw [show c + ((n + 1 : Nat) : Int) = c + n + 1 by omega]
    split at * <;> omega
theorem upTo_le {s : Tab} (h : IsShf s) {c d : Int} (hc : -1 ≤ c) (hd : c ≤ d) : upTo s c ≤ upTo s d := by
  have := upTo_mono h hc (d - c).toNat
  rwa [show c + ((d - c).toNat : Int) = d by omega] at this
/-- x is the number of book m -/
def IsBk (s : Tab) (m x : Int) : Prop := 0 ≤ x ∧ m ≤ upTo s x ∧ (m = 0 → x = 0) ∧ (0 < m → upTo s (x - 1) < m)
theorem bk_one {s : Tab} (h : IsShf s) {m x y : Int} (hm : 0 ≤ m) (hx : IsBk s m x) (hy : IsBk s m y) : x = y := by
  obtain ⟨x0, x1, x2, x3⟩ := hx
  obtain ⟨y0, y1, y2, y3⟩ := hy
  by_cases hm0 : m = 0
  · rw [x2 hm0, y2 hm0]
  · have x3 := x3 (by omega)
    have y3 := y3 (by omega)
    rcases Int.lt_trichotomy x y with hl | hl | hl
    · have := upTo_le h (c := x) (d := y - 1) (by omega) (by omega)
      omega
    · exact hl
    · have := upTo_le h (c := y) (d := x - 1) (by omega) (by omega)
      omega
def fb (m : Int) : Tab → Int → Int
  | [], k => m - k
  | p :: r, k => if m ≤ p.1 - 1 + k then m - k else if m ≤ p.1 + (k + (p.2 - plc p.1)) then p.1 else fb m r (k + (p.2 - plc p.1))
theorem find_turn (m : Int) (p : Int × Int) (k : Int) : p_find_book_b1 (.int m) (stepD p) (.int k) = some (if m ≤ p.1 - 1 + k then .rt (.int (m - k)) else if m ≤ p.1 + (k + (p.2 - plc p.1)) then .rt (.int p.1) else .nx (.int (k + (p.2 - plc p.1)))) := by
  unfold p_find_book_b1
  simp only [stepD, v_tup2, v_bind2, pe_plain, v_bind1]
  by_cases h1 : m ≤ p.1 - 1 + k
  · simp [h1]
  · by_cases h2 : m ≤ p.1 + (k + (p.2 - plc p.1)) <;> simp [h1, h2]
theorem find_go (m : Int) : ∀ (t : Tab) (k : Int), ctB1 (forP (fun x s => p_find_book_b1 (.int m) x s) (tabL t) (.int k)) (fun r => some r) (fun v => bind1 (gSub' (.int m) v) fun z => some z) = some (.int (fb m t k))
  | [], k => by
    show ctB1 (some (.nx (PyData.int k))) _ _ = _
    simp [fb]
  | p :: r, k => by
    have ih := find_go m r (k + (p.2 - plc p.1))
    show ctB1 ((p_find_book_b1 (.int m) (stepD p) (.int k)).bind _) _ _ = _
    rw [find_turn]
    by_cases h1 : m ≤ p.1 - 1 + k
    · simp only [fb, if_pos h1]
      exact v_ctB1r _ _ _
    · by_cases h2 : m ≤ p.1 + (k + (p.2 - plc p.1))
      · simp only [fb, if_neg h1, if_pos h2]
        exact v_ctB1r _ _ _
      · simp only [fb, if_neg h1, if_neg h2]
        exact ih
theorem pe_find_book (s : Tab) (m : Int) : p_find_book (tabD s) (.int m) = some (.int (fb m s 0)) := by
  have := find_go m s 0
  unfold p_find_book tabD
  simp only [q_items_l, v_bind2]
  exact this
theorem fb_ok (m : Int) : ∀ (t : Tab) (a k : Int), Rise a t → -1 ≤ a → a + k < m → (∀ p ∈ t, 0 ≤ p.2) →
    a < fb m t k ∧ m ≤ fb m t k + k + sumI (more t) (fb m t k) ∧ fb m t k - 1 + k + sumI (more t) (fb m t k - 1) < m
  | [], a, k, _, _, h, _ => by
    show a < m - k ∧ m ≤ m - k + k + 0 ∧ m - k - 1 + k + 0 < m
    omega
  | p :: r, a, k, hr, ha, h, hp => by
    have h0 := hr.1
    have hp0 := hp p List.mem_cons_self
    have hl : ∀ c, c < p.1 → sumI (more (p :: r)) c = 0 := fun c hc => sum_low _ fun q hq => by
      rw [keys_more] at hq
      rcases List.mem_cons.mp hq with rfl | hq
      · exact hc
      · obtain ⟨z, hz, rfl⟩ := List.mem_map.mp hq
        have := hr.2.all z hz
        omega
    have hat : ∀ c, p.1 ≤ c → sumI (more (p :: r)) c = (p.2 - plc p.1) + sumI (more r) c := fun c hc => by
      show (if p.1 ≤ c then p.2 - plc p.1 else 0) + sumI (more r) c = _
      rw [if_pos hc]
    have hr0 : sumI (more r) p.1 = 0 := sum_low _ fun q hq => by
      rw [keys_more] at hq
      obtain ⟨z, hz, rfl⟩ := List.mem_map.mp hq
      exact hr.2.all z hz
    unfold fb
    split
    · rename_i h1
      rw [hl (m - k) (by omega), hl (m - k - 1) (by omega)]
      omega
    · rename_i h1
      split
      · rename_i h2
        rw [hat p.1 (Int.le_refl _), hr0, hl (p.1 - 1) (by omega)]
        omega
      · rename_i h2
        obtain ⟨q1, q2, q3⟩ := fb_ok m r p.1 (k + (p.2 - plc p.1)) hr.2 (by omega) (by omega) fun q hq => hp q (List.mem_cons_of_mem _ hq)
        rw [hat _ (by omega), hat _ (by omega)]
        omega
theorem fb_bk {s : Tab} (h : IsShf s) {m : Int} (hm : 0 ≤ m) : IsBk s m (fb m s 0) := by
  obtain ⟨q1, q2, q3⟩ := fb_ok m s (-1) 0 h.1 (by omega) (by omega) fun p hp => (h.2 p hp).2.1
  have e : ∀ c, upTo s c = c + 0 + sumI (more s) c := fun c => by unfold upTo; omega
  refine ⟨by omega, by rw [e]; exact q2, fun h0 => ?_, fun _ => by rw [e]; exact q3⟩
  subst h0
  cases s with
  | nil => rfl
  | cons p r =>
    have := h.1.1
    have := (h.2 p List.mem_cons_self).2.1
    unfold fb
    split
    · rfl
    · rename_i h1
      have hp : p.1 = 0 := by omega
      rw [if_pos]
      · exact hp
      · rw [hp]; show (0 : Int) ≤ 0 + (0 + (p.2 - plc 0)); unfold plc; simp; omega
theorem pe_book {s : Tab} (h : IsShf s) (hl : s.length ≤ 90000) {m : Int} (hm : 0 ≤ m) : p_book (tabD s) (.int m) = some (.int (fb m s 0)) := by
  have h0 : ¬ m < 0 := by omega
  unfold p_book p_need_book
  simp [pe_need_shelf h hl, pe_is_number, hm, pe_find_book, h0]
theorem sum_filt (c : Int) : ∀ s : Tab, ((s.filter fun p => decide (p.1 ≤ c)).map fun p => p.2 - plc p.1).sum = sumI (more s) c
  | [] => rfl
  | p :: r => by
    have ih := sum_filt c r
    show _ = (if p.1 ≤ c then p.2 - plc p.1 else 0) + sumI (more r) c
    by_cases h : p.1 ≤ c
    · simp [h, ih]
    · simp [h, ih]
theorem filT_le {f : D → Option (Option D)} {s : Tab} {c : Int} (hl : s.length ≤ 90000) (h : ∀ p ∈ s, f (stepD p) = some (if p.1 ≤ c then some (.int (p.2 - plc p.1)) else none)) :
    filT f (tabL s) = some (((s.filter fun p => decide (p.1 ≤ c)).map fun p => p.2 - plc p.1).map PyData.int) := by
  have key : ∀ t : Tab, (∀ p ∈ t, f (stepD p) = some (if p.1 ≤ c then some (.int (p.2 - plc p.1)) else none)) → filP f (tabL t) = some (((t.filter fun p => decide (p.1 ≤ c)).map fun p => p.2 - plc p.1).map PyData.int) := by
    intro t
    induction t with
    | nil => intro _; rfl
    | cons p r ih =>
      intro h
      have ih := ih fun q hq => h q (List.mem_cons_of_mem _ hq)
      show (f (stepD p)).bind _ = _
      rw [h p List.mem_cons_self]
      show (filP f (tabL r)).bind _ = _
      rw [ih]
      by_cases hp : p.1 ≤ c <;> simp [hp]
  unfold filT
  rw [key s h, Option.bind_some, if_pos]
  have := List.length_filter_le (fun p => decide (p.1 ≤ c)) s
  simp only [List.length_map]
  omega
theorem sum_ints (ns : List Int) : gSum [.list (ns.map PyData.int)] = some (.int ns.sum) := by
  show (nums (ns.map PyData.int)).map _ = _
  rw [nums_ints]; rfl
theorem pe_count_to (s : Tab) (hl : s.length ≤ 90000) (c : Int) : p_count_to (tabD s) (.int c) = some (.int (upTo s c)) := by
  have f := filT_le (f := p_count_to_c1 (.int c)) (c := c) hl fun p _ => by
    unfold p_count_to_c1
    by_cases h : p.1 ≤ c <;> simp [stepD, h, pe_plain]
  unfold p_count_to tabD
  simp only [q_items_l, v_bind2, f, v_bind1, sum_ints, sum_filt, v_addV]
  rfl
theorem pe_books_to {s : Tab} (h : IsShf s) (hl : s.length ≤ 90000) {c : Int} (hc : 0 ≤ c) : p_books_to (tabD s) (.int c) = some (.int (upTo s c)) := by
  unfold p_books_to
  simp [pe_need_shelf h hl, pe_need_number hc, pe_count_to s hl]
theorem fall_can : ∀ {r : Tab} {a m : Int}, Can a m r → (∀ c, a ≤ c → lvF m r c ≤ lvF m r (c + 1) + 1) → fallOk m r = true
  | [], _, _, _, _ => rfl
  | p :: r, a, m, h, k => by
    obtain ⟨h1, h2, h3, h4⟩ := h
    have k1 := k (p.1 - 1) (by omega)
    have e1 : lvF m (p :: r) (p.1 - 1) = m := by
      show (if p.1 ≤ p.1 - 1 then _ else m) = m
      rw [if_neg (by omega)]
    have e2 : lvF m (p :: r) (p.1 - 1 + 1) = p.2 := by
      show (if p.1 ≤ p.1 - 1 + 1 then lvF p.2 r (p.1 - 1 + 1) else m) = p.2
      rw [if_pos (by omega)]
      exact lvF_low h4.rise (by omega)
    rw [e1, e2] at k1
    have ih := fall_can h4 fun c hc => by
      have := k c (by omega)
      simp only [lvF] at this
      rwa [if_pos hc, if_pos (by omega)] at this
    show (!(decide (p.2 < m - 1)) && fallOk p.2 r) = true
    rw [ih, decide_eq_false (by omega)]
    rfl
theorem pe_is_rows_t {t : Tab} (h : IsTab t) (hr : RowsF (lv t)) : p_is_rows (tabD t) = some (.bool true) := by
  have f0 : fallOk 0 t = true := by
    obtain ⟨m, r, rfl, hm, k⟩ := h
    have := fall_can k fun c hc => by
      have := hr c hc
      rwa [lv_head _ _ hc, lv_head _ _ (by omega)] at this
    show (!(decide (m < 0 - 1)) && fallOk m r) = true
    rw [this, decide_eq_false (by omega)]
    rfl
  obtain ⟨s, k⟩ := (rows_loop t 0).1 f0
  have k' : forP (fun x s => p_is_rows_b1 x s) (tabL t) (.int 0) = some (.nx s) := k
  have e := pe_is_table_t h
  unfold tabD at e
  unfold p_is_rows tabD
  rw [e]
  simp only [v_bind1, q_tru_b, if_true, q_items_l, v_bind2, k', v_ctB1]
theorem pe_need_rows_table {t : Tab} (h : IsTab t) (hr : RowsF (lv t)) : p_need_rows_table (tabD t) = some .none := by
  unfold p_need_rows_table
  simp [pe_is_rows_t h hr]
def shp : Int → Tab → Tab
  | _, [] => []
  | a, p :: r => (if p.2 = a then [] else [(p.1, plc p.1 + p.2 - a)]) ++ shp p.2 r
theorem shp_len : ∀ (t : Tab) (a : Int), (shp a t).length ≤ t.length
  | [], _ => Nat.le_refl _
  | p :: r, a => by
    have := shp_len r p.2
    unfold shp
    split <;> simp <;> omega
theorem shp_rise : ∀ {t : Tab} {a m : Int}, Rise a t → Rise a (shp m t)
  | [], _, _, _ => trivial
  | p :: r, a, m, h => by
    have ih := shp_rise (m := p.2) h.2
    unfold shp
    split
    · exact Rise.mono ih (by have := h.1; omega)
    · exact ⟨h.1, ih⟩
theorem shp_mem : ∀ {t : Tab} {a m : Int} (p : Int × Int), Rise a t → (p ∈ shp m t ↔ a < p.1 ∧ lvF m t p.1 ≠ lvF m t (p.1 - 1) ∧ p.2 = plc p.1 + lvF m t p.1 - lvF m t (p.1 - 1))
  | [], a, m, p, _ => by simp [shp, lvF]
  | q :: r, a, m, p, h => by
    have h1 := h.1
    have ih := shp_mem (m := q.2) p h.2
    have e0 : ∀ c, c < q.1 → lvF m (q :: r) c = m := fun c hc => by
      show (if q.1 ≤ c then _ else m) = m
      rw [if_neg (by omega)]
    have e1 : ∀ c, q.1 ≤ c → lvF m (q :: r) c = lvF q.2 r c := fun c hc => by
      show (if q.1 ≤ c then lvF q.2 r c else m) = _
      rw [if_pos hc]
    have eq1 : lvF q.2 r q.1 = q.2 := lvF_low h.2 (Int.le_refl _)
    have hx : p ∈ shp m (q :: r) ↔ (q.2 ≠ m ∧ p = (q.1, plc q.1 + q.2 - m)) ∨ p ∈ shp q.2 r := by
      show p ∈ (if q.2 = m then [] else [(q.1, plc q.1 + q.2 - m)]) ++ shp q.2 r ↔ _
      rw [List.mem_append]
      by_cases hq : q.2 = m
      · simp [hq]
      · simp [hq]
    rw [hx, ih]
    rcases Int.lt_trichotomy p.1 q.1 with hl | hl | hl
    · rw [e0 _ hl, e0 _ (by omega)]
      constructor
      · rintro (⟨_, z⟩ | ⟨z, _⟩)
        · rw [z] at hl; exact absurd hl (Int.lt_irrefl _)
        · omega
      · rintro ⟨_, z, _⟩; exact absurd rfl z
    · rw [e1 _ (by omega), e0 _ (by omega), hl, eq1]
      constructor
      · rintro (⟨z1, z2⟩ | ⟨z, _⟩)
        · exact ⟨h1, z1, by rw [z2]⟩
        · omega
      · rintro ⟨_, z1, z2⟩
        exact .inl ⟨z1, Prod.ext hl z2⟩
    · rw [e1 _ (by omega), e1 _ (by omega)]
      constructor
      · rintro (⟨_, z⟩ | ⟨_, z⟩)
        · rw [z] at hl; exact absurd hl (Int.lt_irrefl _)
        · exact ⟨by omega, z⟩
      · rintro ⟨_, z⟩; exact .inr ⟨hl, z⟩
theorem shp_sum : ∀ {t : Tab} {a m : Int} (c : Int), Rise a t → sumI (more (shp m t)) c = lvF m t c - m
  | [], _, m, _, _ => by show (0 : Int) = m - m; omega
  | q :: r, a, m, c, h => by
    have ih := shp_sum (m := q.2) c h.2
    have key : sumI (more (shp m (q :: r))) c = (if q.1 ≤ c then q.2 - m else 0) + sumI (more (shp q.2 r)) c := by
      show sumI (more ((if q.2 = m then [] else [(q.1, plc q.1 + q.2 - m)]) ++ shp q.2 r)) c = _
      by_cases hq : q.2 = m
      · rw [if_pos hq]
        have : (if q.1 ≤ c then q.2 - m else 0) = 0 := by split <;> omega
        rw [this, Int.zero_add]; rfl
      · rw [if_neg hq]
        show (if q.1 ≤ c then plc q.1 + q.2 - m - plc q.1 else 0) + sumI (more (shp q.2 r)) c = _
        congr 1
        split <;> omega
    rw [key, ih]
    show _ = (if q.1 ≤ c then lvF q.2 r c else m) - m
    by_cases hq : q.1 ≤ c
    · rw [if_pos hq, if_pos hq]; omega
    · rw [if_neg hq, if_neg hq, lvF_low h.2 (by omega)]; omega
theorem shp_shf {t : Tab} (h : IsTab t) (hr : RowsF (lv t)) : IsShf (shp 0 t) := by
  refine ⟨shp_rise h.rise, fun p hp => ?_⟩
  obtain ⟨h1, h2, h3⟩ := (shp_mem p h.rise).mp hp
  have h2 : lv t p.1 ≠ lv t (p.1 - 1) := h2
  have h3 : p.2 = plc p.1 + lv t p.1 - lv t (p.1 - 1) := h3
  refine ⟨by omega, ?_, by omega⟩
  by_cases h0 : p.1 = 0
  · have e : lv t (p.1 - 1) = 0 := lvF_low h.rise (by omega)
    have := h.nn p.1
    unfold plc at h3
    rw [if_pos h0] at h3
    omega
  · have := hr (p.1 - 1) (by omega)
    rw [show p.1 - 1 + 1 = p.1 by omega] at this
    unfold plc at h3
    rw [if_neg h0] at h3
    omega
theorem shp_upTo {t : Tab} (h : IsTab t) (c : Int) : upTo (shp 0 t) c = c + lv t c := by
  unfold upTo
  rw [shp_sum c h.rise]
  show c + (lv t c - 0) = _
  omega
theorem shelf_by_turn (p : Int × Int) (out : Tab) (a : Int) (hl : out.length < 100000) : p_shelf_by_b1 (stepD p) (tabD out) (.int a) = some (tabD (out ++ if p.2 = a then [] else [(p.1, plc p.1 + p.2 - a)]), .int p.2) := by
  unfold p_shelf_by_b1
  simp only [stepD, v_tup2, v_bind2, q_ne_ii, v_bind1, asBool]
  by_cases h : p.2 = a
  · simp [h]
  · have h' : (p.2 == a) = false := by simp [h]
    simp only [h', Bool.not_false, if_true, pe_plain, v_bind1, v_addV, show gSub' (.int (plc p.1 + p.2)) (.int a) = some (.int (plc p.1 + p.2 - a)) from rfl, if_neg h]
    unfold tabD
    simp [hl, tabL, stepD]
theorem shelf_by_fold : ∀ (t out : Tab) (a : Int), out.length + t.length ≤ 100000 → ∃ z, foldP (fun x s => p_shelf_by_b1 x s.1 s.2) (tabL t) (tabD out, PyData.int a) = some (tabD (out ++ shp a t), z)
  | [], out, a, _ => ⟨.int a, by simp [shp]; rfl⟩
  | p :: r, out, a, hl => by
    have hl' : out.length + (r.length + 1) ≤ 100000 := hl
    obtain ⟨z, e⟩ := shelf_by_fold r (out ++ if p.2 = a then [] else [(p.1, plc p.1 + p.2 - a)]) p.2 (by split <;> simp <;> omega)
    refine ⟨z, ?_⟩
    show (p_shelf_by_b1 (stepD p) (tabD out) (.int a)).bind _ = _
    rw [shelf_by_turn p out a (by omega), Option.bind_some]
    show foldP (fun x s => p_shelf_by_b1 x s.1 s.2) (tabL r) _ = _
    rw [e]
    simp [shp]
theorem pe_shelf_by {t : Tab} (h : IsTab t) (hr : RowsF (lv t)) (hl : t.length ≤ 90000) : p_shelf_by (tabD t) = some (tabD (shp 0 t)) := by
  obtain ⟨z, e⟩ := shelf_by_fold t [] 0 (by simp; omega)
  have it : itemsD (tabD t) = some (false, tabL t) := rfl
  have e' : foldP (fun x s => p_shelf_by_b1 x s.1 s.2) (tabL t) ((PyData.list []), (PyData.int 0)) = some (tabD (shp 0 t), z) := e
  unfold p_shelf_by
  simp only [pe_need_rows_table h hr, v_bind1, it, v_bind2, e']
theorem pe_shelf_of {d : D} {k : Bool} {r : List Say} (hd : itemsD d = some (k, rowD r)) (ho : ∀ s ∈ r, okSay s) (hr : r.length ≤ 30000) :
    ∃ t, p_table_of d = some (tabD t) ∧ TabOf t (manyF r) ∧ t.length ≤ 2 * r.length + 1 ∧ p_shelf_of d = some (tabD (shp 0 t)) := by
  obtain ⟨t, e, T, l⟩ := pe_table_of hd ho hr
  refine ⟨t, e, T, l, ?_⟩
  unfold p_shelf_of
  simp only [e, v_bind1, pe_shelf_by T.tab (T.rows (many_rows r)) (show t.length ≤ 90000 by omega)]
def wsL : List Say → Int → List Int
  | [], w => [w]
  | s :: r, w => w :: wsL r (wb [s] w)
theorem wb_cons (s : Say) (r : List Say) (w : Int) : wb (s :: r) w = wb r (wb [s] w) := rfl
theorem wb_app : ∀ (q r : List Say) (w : Int), wb (q ++ r) w = wb r (wb q w)
  | [], _, _ => rfl
  | s :: q, r, w => by
    rw [List.cons_append, wb_cons, wb_cons s q]
    exact wb_app q r _
theorem wsL_last : ∀ (r : List Say) (w : Int), ∃ q, wsL r w = q ++ [wb r w]
  | [], w => ⟨[], rfl⟩
  | s :: r, w => by
    obtain ⟨q, e⟩ := wsL_last r (wb [s] w)
    exact ⟨w :: q, by show w :: wsL r (wb [s] w) = _; rw [e]; rfl⟩
theorem wsL_head (r : List Say) (w : Int) : wsL r w = w :: (wsL r w).drop 1 := by
  cases r <;> rfl
theorem wsL_len : ∀ (r : List Say) (w : Int), (wsL r w).length = r.length + 1
  | [], _ => rfl
  | s :: r, w => by show (wsL r (wb [s] w)).length + 1 = _; rw [wsL_len r]; rfl
theorem wsL_app : ∀ (f b : List Say) (w : Int), wsL (f ++ b) w = wsL f w ++ (wsL b (wb f w)).drop 1
  | [], b, w => wsL_head b w
  | s :: f, b, w => by
    show w :: wsL (f ++ b) (wb [s] w) = w :: wsL f (wb [s] w) ++ _
    rw [wsL_app f b]; rfl
theorem pe_handed (s : Say) (w : Int) : p_handed_on (sayD s) (.int w) = some (.int (wb [s] w)) := by
  unfold p_handed_on
  rw [pe_wish_behind (d := .list [sayD s]) (k := false) (r := [s]) w rfl]; rfl
theorem wishes_fold : ∀ (r : List Say) (q : List Int) (w : Int), q.length + r.length ≤ 90000 → foldP (fun x s => p_wishes_b1 x s) (rowD r) (.list (intsD (q ++ [w]))) = some (.list (intsD (q ++ wsL r w)))
  | [], q, w, _ => rfl
  | s :: r, q, w, hl => by
    have hl' : q.length + (r.length + 1) ≤ 90000 := hl
    have hl2 : q.length + 1 < 100000 := by omega
    have e : p_wishes_b1 (sayD s) (.list (intsD (q ++ [w]))) = some (.list (intsD (q ++ [w] ++ [wb [s] w]))) := by
      have la : gIx (.list (intsD (q ++ [w]))) (.int (-1)) = some (.int w) := by
        have : intsD (q ++ [w]) = intsD q ++ [.int w] := by simp [intsD]
        rw [this]
        exact atI_last _ _
      have ap : mutP gAppend (.list (intsD (q ++ [w]))) [.int (wb [s] w)] = some (.list (intsD (q ++ [w] ++ [wb [s] w])), .none) := by
        simp [intsD, hl2]
      unfold p_wishes_b1
      simp only [v_negP, v_bind1, la, pe_handed, ap, v_bind2]
    show (p_wishes_b1 (sayD s) _).bind _ = _
    rw [e, Option.bind_some]
    show foldP (fun x s => p_wishes_b1 x s) (rowD r) _ = _
    rw [wishes_fold r (q ++ [w]) (wb [s] w) (by simp; omega)]
    simp [wsL]
theorem pe_wishes {d : D} {k : Bool} {r : List Say} {w : Int} (hd : itemsD d = some (k, rowD r)) (ho : ∀ s ∈ r, okSay s) (hr : r.length ≤ 80000) (hw : 0 ≤ w) : p_wishes d (.int w) = some (.list (intsD (wsL r w))) := by
  have f := wishes_fold r [] w (by simp; omega)
  have f' : foldP (fun x s => p_wishes_b1 x s) (rowD r) (.list [.int w]) = some (.list (intsD (wsL r w))) := f
  unfold p_wishes
  simp only [pe_need_row hd ho, v_bind1, pe_need_number hw, hd, v_bind2, f']
theorem last_wish (r : List Say) (w : Int) : gIx (.list (intsD (wsL r w))) (.int (-1)) = some (.int (wb r w)) := by
  obtain ⟨q, e⟩ := wsL_last r w
  rw [e]
  have : intsD (q ++ [wb r w]) = intsD q ++ [.int (wb r w)] := by simp [intsD]
  rw [this]
  exact atI_last _ _
theorem pe_least_from {r : List Say} {w : Int} (i : Nat) (ho : ∀ s ∈ r, okSay s) (hi : i ≤ r.length) (hw : 0 ≤ w) : p_least_from (.list (rowD r)) (.int (i : Int)) (.int w) = some (.int (wb (r.drop i) w)) := by
  have hd : itemsD (.list (rowD r)) = some (false, rowD r) := rfl
  have ct := cut_from (rowD r) i (by simpa using hi)
  have h2 : itemsD (.list (rowD (r.drop i))) = some (false, rowD (r.drop i)) := rfl
  unfold p_least_from
  simp only [pe_need_row hd ho, v_bind1, len_row hd, v_addV, pe_need_place (show (0 : Int) ≤ (i : Int) by omega) (show (i : Int) < (r.length : Int) + 1 by omega), pe_need_number hw, v_atP_i, v_ixP, v_slW, v_sliceW, v_bind2, ct, rowD_drop, pe_wish_behind w h2]
theorem wb_up {r : List Say} {w c : Int} (h : wb r w ≤ c) : w ≤ tot r c := (wb_iff r w c).mp h
theorem wb_dn {r : List Say} {w c : Int} (h : c < wb r w) : tot r c < w := by
  rcases Int.lt_or_le (tot r c) w with z | z
  · exact z
  · have := (wb_iff r w c).mpr z; omega
theorem wb_mono (r : List Say) {v w : Int} (h : v ≤ w) : wb r v ≤ wb r w := by
  rw [wb_iff]
  have := wb_up (r := r) (w := w) (Int.le_refl _)
  omega
theorem lay_ints : ∀ bs : List Int, PyData.canLayAll0 (intsD bs) = true
  | [] => by simp [intsD, PyData.canLayAll0]
  | b :: bs => by
    have := lay_ints bs
    show PyData.canLayAll0 (.int b :: intsD bs) = true
    simp [PyData.canLayAll0, PyData.canLay0, this]
theorem dep_ints : ∀ bs : List Int, PyData.depthAll (intsD bs) = 0
  | [] => by simp [intsD, PyData.depthAll]
  | b :: bs => by
    have := dep_ints bs
    show PyData.depthAll (.int b :: intsD bs) = 0
    simp [PyData.depthAll, PyData.depth, this]
theorem shaped_ints (bs : List Int) : SeqAt.shaped (.list (intsD bs)) = true := by
  simp [SeqAt.shaped, PyData.canLay0, PyData.depth, lay_ints, dep_ints]
theorem eqv_ints : ∀ bs : List Int, PyData.eqvAll (intsD bs) (intsD bs) = true
  | [] => by simp [intsD, PyData.eqvAll]
  | b :: bs => by
    have := eqv_ints bs
    show PyData.eqvAll (.int b :: intsD bs) (.int b :: intsD bs) = true
    simp [PyData.eqvAll, PyData.eqv, this]
theorem eq_ints (bs : List Int) : gEq (.list (intsD bs)) (.list (intsD bs)) = some (.bool true) := by
  simp [gEq, shaped_ints, PyData.eqv, eqv_ints]
structure Sm (w dep : Nat) (d : D) : Prop where
  lay : d.canLay0 = true
  ls : d.leavesShort 60 = true
  sh : PyData.showable d = true
  dp : d.depth ≤ dep
  wt : d.weight ≤ w
theorem Sm.mono {w dep w' dep' : Nat} {d : D} (h : Sm w dep d) (hw : w ≤ w') (hd : dep ≤ dep') : Sm w' dep' d := ⟨h.lay, h.ls, h.sh, Nat.le_trans h.dp hd, Nat.le_trans h.wt hw⟩
theorem Sm.shaped {w dep : Nat} {d : D} (h : Sm w dep d) (hd : dep ≤ 64) : SeqAt.shaped d = true := by
  have := h.dp
  simp [SeqAt.shaped, h.lay]; omega
theorem lay_row : ∀ r : List Say, PyData.canLayAll0 (rowD r) = true
  | [] => by simp [rowD, PyData.canLayAll0]
  | s :: r => by
    have := lay_row r
    obtain ⟨l, m⟩ := s
    show PyData.canLayAll0 (sayD (l, m) :: rowD r) = true
    cases m <;> simp [PyData.canLayAll0, PyData.canLay0, this, sayD]
theorem dep_row : ∀ r : List Say, PyData.depthAll (rowD r) ≤ 1
  | [] => by simp [rowD, PyData.depthAll]
  | s :: r => by
    have := dep_row r
    obtain ⟨l, m⟩ := s
    show PyData.depthAll (sayD (l, m) :: rowD r) ≤ 1
    cases m <;> simp [PyData.depthAll, PyData.depth, sayD] <;> omega
theorem shaped_row (r : List Say) : SeqAt.shaped (.list (rowD r)) = true := by
  have := dep_row r
  simp [SeqAt.shaped, PyData.canLay0, PyData.depth, lay_row]
  omega
theorem ne_nil_r (r : List Say) : gNe (.list (rowD r)) (.list []) = some (.bool (!r.isEmpty)) := by
  have h := shaped_row r
  have h0 : SeqAt.shaped (.list []) = true := shaped_ints []
  show (if (SeqAt.shaped (.list (rowD r)) && SeqAt.shaped (.list [])) = true then some (PyData.bool (!PyData.eqv (.list (rowD r)) (.list []))) else none) = _
  rw [h, h0]
  cases r <;> simp [rowD, PyData.eqv, PyData.eqvAll]
theorem ins_row (r : List Say) (i : Int) (s : Say) (hr : r.length ≤ 900) (h0 : 0 ≤ i) (h1 : i ≤ r.length) : mutP gInsert (.list (rowD r)) [.int i, sayD s] = some (.list (rowD (r.take i.toNat ++ [s] ++ r.drop i.toNat)), .none) := by
  rw [v_mutP]
  have : gInsert (rowD r) [.int i, sayD s] = some ((rowD r).take i.toNat ++ [sayD s] ++ (rowD r).drop i.toNat, .none) := if_pos ⟨by simp; omega, h0, by omega⟩
  rw [this]
  simp [rowD]
theorem row_at {r : List Say} {i : Int} (h0 : 0 ≤ i) (h1 : i < r.length) : ∃ s, gIx (.list (rowD r)) (.int i) = some (sayD s) ∧ s ∈ r := by
  obtain ⟨k, rfl⟩ := Int.eq_ofNat_of_zero_le h0
  have h : k < r.length := by omega
  exact ⟨r[k], ix_nat (by unfold rowD; rw [List.getElem?_map, List.getElem?_eq_getElem h]; rfl), List.getElem_mem h⟩
theorem pe_twice (t : D) (n : Nat) (r : List Say) (B : Int) (ht : TinOk t n) (hn : n + 20 < 2 ^ 40) (ho : ∀ s ∈ r, okB B s) (hr : r.length ≤ 500) :
    ∃ t' r', p_l_some_twice t (.list (rowD r)) = some (.list (rowD r'), t') ∧ (∀ s ∈ r', okB B s) ∧ r'.length ≤ r.length + 3 ∧ TinOk t' (n + 7) := by
  obtain ⟨a, t1, e1, a0, a1, k1⟩ := pe_pour t n 4 ht (by omega) (by omega) (by decide)
  have en := ne_nil_r r
  obtain ⟨m, em, m0, m1, mz⟩ : ∃ m : Int, mulV (.int a) (.int (if (!r.isEmpty) = true then 1 else 0)) = some (.int m) ∧ 0 ≤ m ∧ m ≤ 3 ∧ (r = [] → m = 0) := by
    have q : ∀ b : Bool, cMulW a (if b = true then 1 else 0) = true := fun b => mulW_ok (a := 3) (b := 1) (by omega) (by cases b <;> decide) (by omega) (by omega) (by omega)
    rw [v_mulV, if_pos (q _)]
    cases r with
    | nil => exact ⟨_, rfl, by simp, by simp, fun _ => by simp⟩
    | cons s r => exact ⟨a, by simp, a0, by omega, fun h => by cases h⟩
  have sm : small62 m = true := by simp [small62]; omega
  obtain ⟨⟨t2, l2⟩, e2, r', q, rfl, h', hl', km, hm⟩ := foldP_by (f := fun x s => p_l_some_twice_b1 (.list (rowD r)) x s.1 s.2) (xs := rngD 0 m) (s := (t1, PyData.list (rowD r)))
    (fun done z => ∃ (r' : List Say) (q : Nat), z.2 = .list (rowD r') ∧ (∀ s ∈ r', okB B s) ∧ r'.length ≤ r.length + done.length ∧ TinOk z.1 q ∧ q ≤ n + 1 + 2 * done.length) ⟨r, _, rfl, ho, by simp, k1, by simp⟩ (by
      rintro pre x ⟨z1, z2⟩ hx hlen ⟨r', q, rfl, h', hl', km, hm⟩
      rw [rng_len] at hlen
      have rne : r ≠ [] := fun h => by have := mz h; omega
      have rl : 0 < r.length := List.length_pos_iff.mpr rne
      obtain ⟨i, u1, f1, i0, i1, g1⟩ := pe_pour z1 q ((r'.length : Int) + 1) km (by omega) (by omega) (by omega)
      obtain ⟨j, u2, f2, j0, j1, g2⟩ := pe_pour u1 _ (r.length : Int) g1 (by omega) (by omega) (by omega)
      obtain ⟨s, es, hs⟩ := row_at j0 j1
      have ins := ins_row r' i s (by omega) i0 (by omega)
      refine ⟨(u2, .list (rowD (r'.take i.toNat ++ [s] ++ r'.drop i.toNat))), ?_, _, q + 1 + 1, rfl, fun u hu => ?_, by simp; omega, g2, by simp; omega⟩
      · unfold p_l_some_twice_b1
        simp only [q_len_l, rowD_len, v_bind1, v_addV, f1, v_bind2, f2, es, ins]
      · rcases List.mem_append.mp hu with h | h
        · rcases List.mem_append.mp h with h | h
          · exact h' u (List.mem_of_mem_take h)
          · have : u = s := by simpa using h
            subst this; exact ho u hs
        · exact h' u (List.mem_of_mem_drop h))
  rw [rng_len] at hl' hm
  have g2 : ∀ b : Bool, gInt1 [.bool b] = some (.int (if b = true then 1 else 0)) := fun b => q_int1_b b
  refine ⟨t2, r', ?_, h', by omega, km.mono (by omega)⟩
  unfold p_l_some_twice
  simp only [q_list_l, v_bind1, e1, v_bind2, en, g2, em, v_rng1P, sm, if_true]
  rw [e2]
  rfl
theorem spot_turn (t : D) (n : Nat) (r : List Say) (xs : List Int) (x : D) (ht : TinOk t n) (hn : n + 20 < 2 ^ 40) (ho : ∀ s ∈ r, okSay s) (hr : r.length ≤ 5000) (hne : r ≠ []) (hx : xs.length ≤ 9000) :
    ∃ t' c, p_l_spots_b1 (.list (rowD r)) x t (.list (intsD xs)) = some (t', .list (intsD (xs ++ [c]))) ∧ 0 ≤ c ∧ TinOk t' (n + 3) := by
  have rl : 0 < r.length := List.length_pos_iff.mpr hne
  obtain ⟨j, t1, e1, j0, j1, k1⟩ := pe_pour t n (r.length : Int) ht (by omega) (by omega) (by omega)
  obtain ⟨s, es, hs⟩ := row_at j0 j1
  obtain ⟨i, t2, e2, i0, i1, k2⟩ := pe_pour t1 _ 3 k1 (by omega) (by omega) (by decide)
  obtain ⟨a, t3, e3, a0, a1, k3⟩ := pe_pour t2 _ 3 k2 (by omega) (by omega) (by decide)
  obtain ⟨jn, rfl⟩ := Int.eq_ofNat_of_zero_le j0
  have os := ho s hs
  have fin : ∀ w : Int, 0 ≤ w → ∃ c, (bind1 (addV (.int (jn : Int)) (.int 1)) fun v4277 => bind1 (p_least_from (.list (rowD r)) v4277 (.int w)) fun v4279 => bind2 (p_l_pour t2 (.int 3)) fun v4282 v4283 => bind1 (addV v4279 v4282) fun v4286 => bind1 (gSub' v4286 (.int 1)) fun v4288 => bind1 (gMax2 [(.int 0), v4288]) fun v4290 => bind2 (mutP gAppend (.list (intsD xs)) [v4290]) fun v4292 v4293 => some (v4283, v4292)) = some (t3, .list (intsD (xs ++ [c]))) ∧ 0 ≤ c := fun w hw => by
    have lf := pe_least_from (r := r) (w := w) (jn + 1) ho (by omega) hw
    rw [show ((jn + 1 : Nat) : Int) = (jn : Int) + 1 by omega] at lf
    have hx' : xs.length < 100000 := by omega
    refine ⟨if wb (r.drop (jn + 1)) w + a - 1 > 0 then wb (r.drop (jn + 1)) w + a - 1 else 0, ?_, by split <;> omega⟩
    simp only [v_addV, v_bind1, lf, e3, v_bind2, show gSub' (.int (wb (r.drop (jn + 1)) w + a)) (.int 1) = some (.int (wb (r.drop (jn + 1)) w + a - 1)) from rfl, q_max2]
    simp [hx', intsD]
  obtain ⟨l, m⟩ := s
  have o1 : 0 ≤ l := os.1
  cases m with
  | none =>
    obtain ⟨w, ew, hw⟩ : ∃ w : Int, atI [PyData.int l, .int (l + 1), .int l] i = some (.int w) ∧ 0 ≤ w := by
      rcases pick3 (.int l) (.int (l + 1)) (.int l) i i0 i1 with q | q | q
      · exact ⟨l, q, o1⟩
      · exact ⟨l + 1, q, by omega⟩
      · exact ⟨l, q, o1⟩
    obtain ⟨c, ec, hc⟩ := fin w hw
    refine ⟨t3, c, ?_, hc, k3⟩
    unfold p_l_spots_b1
    simp only [q_len_l, rowD_len, v_bind1, e1, v_bind2, es, sayD, mostD_none, v_tup2, v_addV, q_is_n, q_isNone_n, asBool, if_true, e2, q_ix_l, ew]
    simpa only [v_addV, v_bind1] using ec
  | some m =>
    have o2 : l ≤ m := os.2 m rfl
    obtain ⟨w, ew, hw⟩ : ∃ w : Int, atI [PyData.int l, .int (l + 1), .int (m + 1)] i = some (.int w) ∧ 0 ≤ w := by
      rcases pick3 (.int l) (.int (l + 1)) (.int (m + 1)) i i0 i1 with q | q | q
      · exact ⟨l, q, o1⟩
      · exact ⟨l + 1, q, by omega⟩
      · exact ⟨m + 1, q, by omega⟩
    obtain ⟨c, ec, hc⟩ := fin w hw
    refine ⟨t3, c, ?_, hc, k3⟩
    unfold p_l_spots_b1
    simp only [q_len_l, rowD_len, v_bind1, e1, v_bind2, es, sayD, mostD_some, v_tup2, v_addV, q_is_n, q_isNone_i, asBool, Bool.false_eq_true, if_false, e2, q_ix_l, ew]
    simpa only [v_addV, v_bind1] using ec
theorem pe_spots (t : D) (n : Nat) (r : List Say) (ht : TinOk t n) (hn : n + 60 < 2 ^ 40) (ho : ∀ s ∈ r, okSay s) (hr : r.length ≤ 5000) :
    ∃ t' xs, p_l_spots t (.list (rowD r)) = some (.list (intsD xs), t') ∧ (∀ x ∈ xs, 0 ≤ x) ∧ xs.length ≤ 8 ∧ TinOk t' (n + 30) := by
  have q6 : cPowW 10 29 = true := pow_ok (by omega) (by omega) (by decide)
  have pw : gPow (.int 10) (.int 29) = some (.int 100000000000000000000000000000) := by simp [q6]
  obtain ⟨a, t1, e1, a0, a1, k1⟩ := pe_number t n 100000000000000000000000000000 100000000000000000000000000000 ht (by omega) (by omega) (by decide) (by omega) (by omega)
  have en := ne_nil_r r
  obtain ⟨m, em, m0, m1, mz⟩ : ∃ m : Int, mulV (.int 6) (.int (if (!r.isEmpty) = true then 1 else 0)) = some (.int m) ∧ 0 ≤ m ∧ m ≤ 6 ∧ (r = [] → m = 0) := by
    have q : ∀ b : Bool, cMulW 6 (if b = true then 1 else 0) = true := fun b => mulW_ok (a := 3) (b := 1) (by decide) (by cases b <;> decide) (by omega) (by omega) (by omega)
    rw [v_mulV, if_pos (q _)]
    cases r with
    | nil => exact ⟨_, rfl, by simp, by simp, fun _ => by simp⟩
    | cons s r => exact ⟨6, by simp, by omega, by omega, fun h => by cases h⟩
  have sm : small62 m = true := by simp [small62]; omega
  obtain ⟨⟨t2, l2⟩, e2, xs, q, rfl, h', hl', km, hm⟩ := foldP_by (f := fun x s => p_l_spots_b1 (.list (rowD r)) x s.1 s.2) (xs := rngD 0 m) (s := (t1, PyData.list [.int 0, .int a]))
    (fun done z => ∃ (xs : List Int) (q : Nat), z.2 = .list (intsD xs) ∧ (∀ x ∈ xs, 0 ≤ x) ∧ xs.length = 2 + done.length ∧ TinOk z.1 q ∧ q ≤ n + 4 + 3 * done.length) ⟨[0, a], _, rfl, (by simpa using a0), rfl, k1, by simp⟩ (by
      rintro pre x ⟨z1, z2⟩ hx hlen ⟨xs, q, rfl, h', hl', km, hm⟩
      rw [rng_len] at hlen
      have rne : r ≠ [] := fun h => by have := mz h; omega
      obtain ⟨t', c, e, hc, k⟩ := spot_turn z1 q r xs x km (by omega) ho hr rne (by omega)
      refine ⟨_, e, _, q + 3, rfl, fun y hy => ?_, by simp [hl']; omega, k, by simp; omega⟩
      rcases List.mem_append.mp hy with h | h
      · exact h' y h
      · have : y = c := by simpa using h
        subst this; exact hc)
  rw [rng_len] at hl' hm
  have g2 : ∀ b : Bool, gInt1 [.bool b] = some (.int (if b = true then 1 else 0)) := fun b => q_int1_b b
  refine ⟨t2, xs, ?_, h', by omega, km.mono (by omega)⟩
  unfold p_l_spots
  simp only [pw, v_bind1, e1, v_bind2, en, g2, em, v_rng1P, sm, if_true]
  rw [e2]
  rfl
theorem undone_turn {r : List Say} {c : Int} (ho : ∀ s ∈ r, okSay s) (hr : r.length ≤ 5000) (w : Int) (hw : 0 ≤ w) : p_l_undone_b1 (.list (rowD r)) (.int c) (.int (tot r c)) (.int w) = some (.nx ()) := by
  have i := wb_iff r w c
  have e : gNe (.bool (decide (wb r w ≤ c))) (.bool (decide (w ≤ tot r c))) = some (.bool false) := by
    rw [show decide (wb r w ≤ c) = decide (w ≤ tot r c) from decide_eq_decide.mpr i]
    cases decide (w ≤ tot r c) <;> rfl
  unfold p_l_undone_b1
  simp only [pe_wishes (d := .list (rowD r)) (k := false) rfl ho (by omega) hw, v_bind1, v_negP, last_wish, show gLe (.int (wb r w)) (.int c) = some (.bool (decide (wb r w ≤ c))) from rfl, show gLe (.int w) (.int (tot r c)) = some (.bool (decide (w ≤ tot r c))) from rfl, e, asBool, Bool.false_eq_true, if_false]
theorem pair_eq (a b : Int) : gEq (.tuple [.int a, .int b]) (.tuple [.int a, .int b]) = some (.bool true) := by
  have h : SeqAt.shaped (.tuple [.int a, .int b]) = true := by
    simp [SeqAt.shaped, PyData.canLay0, PyData.canLayAll0, PyData.depth, PyData.depthAll]
  show (if (SeqAt.shaped (.tuple [.int a, .int b]) && SeqAt.shaped (.tuple [.int a, .int b])) = true then some (PyData.bool (PyData.eqv (.tuple [.int a, .int b]) (.tuple [.int a, .int b]))) else none) = _
  rw [h]
  simp [PyData.eqv, PyData.eqvAll]
theorem pe_undone {r : List Say} {c : Int} (ho : ∀ s ∈ r, okSay s) (hr : r.length ≤ 5000) (hc : 0 ≤ c) : p_l_undone (.list (rowD r)) (.int c) = some (.bool true) := by
  have tg := tot_ge r c
  have hh : 0 ≤ tot r c := by omega
  have w1 : wb r (tot r c) ≤ c := (wb_iff r _ c).mpr (Int.le_refl _)
  have w2 : c < wb r (tot r c + 1) := by
    rcases Int.lt_or_le c (wb r (tot r c + 1)) with z | z
    · exact z
    · have := wb_up z; omega
  have w0 := wb_nn r (tot r c) ho hh
  have cwE : cw r (tot r c, some (tot r c)) = some (wb r (tot r c), some (wb r (tot r c + 1) - 1)) := by
    show (if wb r (tot r c + 1) ≤ wb r (tot r c) then none else some (wb r (tot r c), some (wb r (tot r c + 1) - 1))) = _
    rw [if_neg (by omega)]
  have pc := pe_companies_within (d := .list (rowD r)) (k := false) (r := r) (tot r c, some (tot r c)) rfl
  rw [cwE] at pc
  have pc' : p_companies_within (.list (rowD r)) (.tuple [.int (tot r c), .int (tot r c)]) = some (.tuple [.int (wb r (tot r c)), .int (wb r (tot r c + 1) - 1)]) := pc
  have nr := pe_need_row (d := .list (rowD r)) (k := false) (r := r) rfl ho
  have ec : p_companies (.list (rowD r)) (.int (tot r c)) = some (.tuple [.int (wb r (tot r c)), .int (wb r (tot r c + 1) - 1)]) := by
    unfold p_companies
    simp only [nr, v_bind1, pe_need_number hh, pc']
  have isy : p_is_saying (.tuple [.int (tot r c), .int (tot r c)]) = some (.bool true) := by
    unfold p_is_saying
    have := pe_is_row (d := .list [sayD (tot r c, some (tot r c))]) (k := false) (r := [(tot r c, some (tot r c))]) rfl (by
      intro s hs
      have : s = (tot r c, some (tot r c)) := by simpa using hs
      subst this
      exact ⟨hh, fun m hm => by cases hm; exact Int.le_refl _⟩)
    rw [show (PyData.tuple [.int (tot r c), .int (tot r c)]) = sayD (tot r c, some (tot r c)) from rfl, this]; rfl
  have eb : p_companies_between (.list (rowD r)) (.int (tot r c)) (.int (tot r c)) = some (.tuple [.int (wb r (tot r c)), .int (wb r (tot r c + 1) - 1)]) := by
    unfold p_companies_between
    simp only [nr, v_bind1, isy, q_tru_b, if_true, pc']
  have tt : ∀ z : Int, 0 ≤ z → p_total (.list (rowD r)) (.int z) = some (.int (tot r z)) := fun z hz => pe_total (k := false) rfl ho hz
  have ws := pe_wishes (d := .list (rowD r)) (k := false) (w := tot r c) rfl ho (show r.length ≤ 80000 by omega) hh
  obtain ⟨⟨⟩, lp, -⟩ := forP_by (T := D) (f := fun x (_ : Unit) => p_l_undone_b1 (.list (rowD r)) (.int c) (.int (tot r c)) x) (xs := [.int (tot r c), .int (tot r c + 1), .int (if tot r c - 1 > 0 then tot r c - 1 else 0), .int (tot r c + 7)]) (s := ()) (fun _ _ => True) trivial (by
    rintro pre d ⟨⟩ hd - -
    simp only [List.mem_cons, List.not_mem_nil, or_false] at hd
    rcases hd with rfl | rfl | rfl | rfl
    · exact ⟨(), undone_turn ho hr _ hh, trivial⟩
    · exact ⟨(), undone_turn ho hr _ (by omega), trivial⟩
    · exact ⟨(), undone_turn ho hr _ (by split <;> omega), trivial⟩
    · exact ⟨(), undone_turn ho hr _ (by omega), trivial⟩)
  have n1 : ¬ wb r (tot r c) > c := by omega
  have n2 : ¬ wb r (tot r c + 1) - 1 < c := by omega
  have up : ¬ tot r (wb r (tot r c + 1) - 1 + 1) ≤ tot r c := by
    have := wb_up (r := r) (w := tot r c + 1) (c := wb r (tot r c + 1) - 1 + 1) (by omega)
    omega
  have pe := pair_eq (wb r (tot r c)) (wb r (tot r c + 1) - 1)
  have last : (bind1 (p_companies_between (.list (rowD r)) (.int (tot r c)) (.int (tot r c))) fun v4594 =>
        bind1 (gEq v4594 (.tuple [.int (wb r (tot r c)), .int (wb r (tot r c + 1) - 1)])) fun v4597 =>
        bind1 (asBool v4597) fun b4599 =>
        if b4599 = true then
          bind1 (p_wishes (.list (rowD r)) (.int (tot r c))) fun v4601 =>
          bind1 (negP (.int 1)) fun v4604 =>
          bind1 (gIx v4601 v4604) fun v4606 =>
          bind1 (gEq v4606 (.int (wb r (tot r c)))) fun v4608 =>
          some v4608
        else
          some (.bool false)) = some (.bool true) := by
    simp only [eb, v_bind1, pe, asBool, if_true, ws, v_negP, last_wish, q_eq_ii, beq_self_eq_true]
  unfold p_l_undone
  simp only [tt c hc, v_bind1, v_addV, show gSub' (.int (tot r c)) (.int 1) = some (.int (tot r c - 1)) from rfl, q_max2, q_items_l, v_bind2, lp, v_ctB0, ec, v_tup2]
  rw [last]
  simp only [show gGt (.int (wb r (tot r c))) (.int c) = some (.bool (decide (wb r (tot r c) > c))) from rfl, n1, decide_false, v_bind1, asBool, Bool.false_eq_true, if_false, q_not_n, q_isNone_i, Bool.not_false, if_true, show gLt (.int (wb r (tot r c + 1) - 1)) (.int c) = some (.bool (decide (wb r (tot r c + 1) - 1 < c))) from rfl, n2]
  by_cases h0 : 0 < wb r (tot r c)
  · have dn := wb_dn (r := r) (w := tot r c) (c := wb r (tot r c) - 1) (by omega)
    have n3 : ¬ tot r (wb r (tot r c) - 1) ≥ tot r c := by omega
    simp only [show gGt (.int (wb r (tot r c))) (.int 0) = some (.bool (decide (0 < wb r (tot r c)))) from rfl, h0, decide_true, v_bind1, asBool, if_true, show gSub' (.int (wb r (tot r c))) (.int 1) = some (.int (wb r (tot r c) - 1)) from rfl, tt (wb r (tot r c) - 1) (by omega), show gGe (.int (tot r (wb r (tot r c) - 1))) (.int (tot r c)) = some (.bool (decide (tot r (wb r (tot r c) - 1) ≥ tot r c))) from rfl, n3, decide_false, Bool.false_eq_true, if_false, v_addV, tt (wb r (tot r c + 1) - 1 + 1) (by omega), show gLe (.int (tot r (wb r (tot r c + 1) - 1 + 1))) (.int (tot r c)) = some (.bool (decide (tot r (wb r (tot r c + 1) - 1 + 1) ≤ tot r c))) from rfl, up]
  · simp only [show gGt (.int (wb r (tot r c))) (.int 0) = some (.bool (decide (0 < wb r (tot r c)))) from rfl, h0, decide_false, v_bind1, asBool, Bool.false_eq_true, if_false, v_addV, tt (wb r (tot r c + 1) - 1 + 1) (by omega), show gLe (.int (tot r (wb r (tot r c + 1) - 1 + 1))) (.int (tot r c)) = some (.bool (decide (tot r (wb r (tot r c + 1) - 1 + 1) ≤ tot r c))) from rfl, up]
theorem add_rows (f b : List Say) (hl : f.length + b.length ≤ 100000) : addF (.list (rowD f)) (.list (rowD b)) = some (.list (rowD (f ++ b))) := by
  rw [v_addF, if_pos (by simpa using hl)]
  simp [rowD]
theorem pe_behind {f b : List Say} {w : Int} (hf : ∀ s ∈ f, okSay s) (hb : ∀ s ∈ b, okSay s) (lf : f.length ≤ 900) (lb : b.length ≤ 900) (hw : 0 ≤ w) : p_l_behind (.list (rowD f)) (.list (rowD b)) (.int w) = some (.bool true) := by
  have e1 := pe_wishes (d := .list (rowD f)) (k := false) (w := w) rfl hf (by omega) hw
  have hfb : ∀ s ∈ f ++ b, okSay s := fun s hs => (List.mem_append.mp hs).elim (hf s) (hb s)
  have e2 := pe_wishes (d := .list (rowD (f ++ b))) (k := false) (w := w) rfl hfb (by simp; omega) hw
  have w0 := wb_nn f w hf hw
  have e3 := pe_wishes (d := .list (rowD b)) (k := false) (w := wb f w) rfl hb (by omega) w0
  have ct : cutD (intsD (wsL b (wb f w))) (some 1) none = (intsD (wsL b (wb f w))).drop 1 := cut_from _ 1 (by simp [wsL_len])
  have l1 := wsL_len f w
  have l2 := wsL_len b (wb f w)
  have ad : addF (.list (intsD (wsL f w))) (.list ((intsD (wsL b (wb f w))).drop 1)) = some (.list (intsD (wsL (f ++ b) w))) := by
    rw [v_addF, if_pos (by simp; omega), wsL_app]
    simp [intsD]
  unfold p_l_behind
  simp only [e1, v_bind1, add_rows f b (by omega), e2, v_negP, last_wish, e3, v_ixP, v_slW, ct, ad, eq_ints]
theorem bk_wb {t : Tab} {r : List Say} (T : TabOf t (manyF r)) (ho : ∀ s ∈ r, okSay s) {m : Int} (hm : 0 ≤ m) : IsBk (shp 0 t) m (wb r m) := by
  have up : ∀ c, 0 ≤ c → upTo (shp 0 t) c = tot r c := fun c hc => by
    rw [shp_upTo T.tab, T.at_ c hc]
    unfold manyF; omega
  have w0 := wb_nn r m ho hm
  refine ⟨w0, by rw [up _ w0]; exact wb_up (Int.le_refl _), fun h => ?_, fun h => ?_⟩
  · obtain ⟨k, _, e⟩ := wb_near r m
    omega
  · by_cases hz : 0 < wb r m
    · rw [up _ (by omega)]
      exact wb_dn (by omega)
    · rw [show wb r m - 1 = -1 by omega, upTo_low (shp_shf T.tab (T.rows (many_rows r))) (by omega)]
      omega
theorem pe_book_row {r : List Say} (ho : ∀ s ∈ r, okSay s) (hr : r.length ≤ 30000) {m : Int} (hm : 0 ≤ m) : ∃ s, p_shelf_of (.list (rowD r)) = some (tabD s) ∧ p_book (tabD s) (.int m) = some (.int (wb r m)) ∧ IsShf s ∧ s.length ≤ 90000 ∧ ∀ c, 0 ≤ c → upTo s c = tot r c := by
  obtain ⟨t, _, T, tl, es⟩ := pe_shelf_of (d := .list (rowD r)) (k := false) rfl ho hr
  have S := shp_shf T.tab (T.rows (many_rows r))
  have sl := shp_len t 0
  refine ⟨_, es, ?_, S, by omega, fun c hc => ?_⟩
  · rw [pe_book S (by omega) hm, bk_one S hm (fb_bk S hm) (bk_wb T ho hm)]
  · rw [shp_upTo T.tab, T.at_ c hc]
    unfold manyF; omega
theorem pe_shelf_right {f b : List Say} {w : Int} (hf : ∀ s ∈ f, okSay s) (hb : ∀ s ∈ b, okSay s) (lf : f.length ≤ 900) (lb : b.length ≤ 900) (hw : 0 ≤ w) : p_l_shelf_right (.list (rowD f)) (.list (rowD b)) (.int w) = some (.bool true) := by
  have e1 := pe_wishes (d := .list (rowD f)) (k := false) (w := w) rfl hf (by omega) hw
  have hfb : ∀ s ∈ f ++ b, okSay s := fun s hs => (List.mem_append.mp hs).elim (hf s) (hb s)
  have w0 := wb_nn f w hf hw
  obtain ⟨s1, g1, g2, g3, g4, g5⟩ := pe_book_row hfb (by simp; omega) hw
  obtain ⟨s2, h1, h2, _, _, _⟩ := pe_book_row hb (by omega) w0
  have near : wb f w ≤ w := by
    obtain ⟨k, _, e⟩ := wb_near f w
    omega
  have tg := tot_ge (f ++ b) w
  have g6 := pe_books_to g3 g4 hw
  rw [g5 w hw] at g6
  rw [wb_app] at g2
  unfold p_l_shelf_right
  simp only [add_rows f b (by omega), v_bind1, g1, e1, v_negP, last_wish, g2, h1, h2, q_eq_ii, beq_self_eq_true, asBool, if_true, show gLe (.int (wb f w)) (.int w) = some (.bool (decide (wb f w ≤ w))) from rfl, near, decide_true, g6, show gGe (.int (tot (f ++ b) w)) (.int w) = some (.bool (decide (tot (f ++ b) w ≥ w))) from rfl, show tot (f ++ b) w ≥ w from tg]
theorem turn2 (t : D) (n : Nat) (f b : List Say) (x : D) (ht : TinOk t n) (hn : n + 20 < 2 ^ 40) (hf : ∀ s ∈ f, okSay s) (hb : ∀ s ∈ b, okSay s) (lf : f.length ≤ 900) (lb : b.length ≤ 900) :
    ∃ t', p_law_b2 [.list (rowD f), .list (rowD b)] (.list (rowD (f ++ b))) x t = some (.nx t') ∧ TinOk t' (n + 5) := by
  have q6 : cPowW 10 30 = true := pow_ok (by omega) (by omega) (by decide)
  have pw : gPow (.int 10) (.int 30) = some (.int 1000000000000000000000000000000) := by simp [q6]
  obtain ⟨i, t1, e1, i0, i1, k1⟩ := pe_pour t n 2 ht (by omega) (by omega) (by decide)
  obtain ⟨tp, et, p0, p1⟩ : ∃ tp : Int, atI [PyData.int 60, .int 999999999999999999999999999999] i = some (.int tp) ∧ 0 < tp ∧ tp ≤ 999999999999999999999999999999 := by
    have : i = 0 ∨ i = 1 := by omega
    rcases this with h | h <;> rw [h]
    · exact ⟨60, rfl, by omega, by omega⟩
    · exact ⟨_, rfl, by omega, by omega⟩
  obtain ⟨w, t2, e2, w0, w1, k2⟩ := pe_number t1 _ tp 999999999999999999999999999999 k1 (by omega) p0 (by omega) p1 (by omega)
  have hfb : ∀ s ∈ f ++ b, okSay s := fun s hs => (List.mem_append.mp hs).elim (hf s) (hb s)
  have b1 := pe_behind hf hb lf lb w0
  have b2 := pe_shelf_right hf hb lf lb w0
  have l1 := pe_least_from (r := f ++ b) (w := w) 0 hfb (by omega) w0
  have l2 := pe_least_from (r := f ++ b) (w := w + 1) 0 hfb (by omega) (by omega)
  have l3 := pe_least_from (r := f ++ b) (w := w) f.length hfb (by simp) w0
  rw [List.drop_left] at l3
  have l1' : p_least_from (.list (rowD (f ++ b))) (.int 0) (.int w) = some (.int (wb (f ++ b) w)) := l1
  have l2' : p_least_from (.list (rowD (f ++ b))) (.int 0) (.int (w + 1)) = some (.int (wb (f ++ b) (w + 1))) := l2
  have mo := wb_mono (f ++ b) (show w ≤ w + 1 by omega)
  have e3 := pe_wishes (d := .list (rowD b)) (k := false) (w := w) rfl hb (by omega) w0
  have j0 : ∀ x y : D, atI [x, y] 0 = some x := fun _ _ => rfl
  have j1 : ∀ x y : D, atI [x, y] 1 = some y := fun _ _ => rfl
  refine ⟨t2, ?_, k2⟩
  unfold p_law_b2
  simp only [pw, v_bind1, show gSub' (.int 1000000000000000000000000000000) (.int 1) = some (.int 999999999999999999999999999999) from rfl, e1, v_bind2, q_ix_l, et, e2, j0, j1, b1, b2, q_tru_b, if_true, Bool.not_true, Bool.false_eq_true, if_false, l1', v_addV, l2', show gGt (.int (wb (f ++ b) w)) (.int (wb (f ++ b) (w + 1))) = some (.bool (decide (wb (f ++ b) w > wb (f ++ b) (w + 1)))) from rfl, show ¬ wb (f ++ b) w > wb (f ++ b) (w + 1) by omega, decide_false, asBool, q_len_l, rowD_len, l3, e3, v_negP]
  have lw := last_wish b w
  rw [q_ix_l] at lw
  simp only [lw, v_bind1, q_ne_ii, beq_self_eq_true, Bool.not_true, asBool, Bool.false_eq_true, if_false]
theorem law_step (ns : List Int) (k : Nat) (hk : k ≤ 63) : p_law_b3 ns (.int k) = some (.nx ()) := by
  obtain ⟨t, e, h⟩ := pe_jar ns k hk
  have q6 : cPowW 10 29 = true := pow_ok (by omega) (by omega) (by decide)
  have pw : gPow (.int 10) (.int 29) = some (.int 100000000000000000000000000000) := by simp [q6]
  have mw : mulV (.int 4) (.int 100000000000000000000000000000) = some (.int 400000000000000000000000000000) := by
    rw [v_mulV, if_pos (mulW_ok (a := 4) (b := 100) (by decide) (by decide) (by omega) (by omega) (by omega))]
    rfl
  obtain ⟨i, t1, e1, i0, i1, k1⟩ := pe_pour t 0 3 h (by omega) (by omega) (by decide)
  obtain ⟨tp, et, p0, p1⟩ : ∃ tp : Int, atI [PyData.int 9, .int 30, .int 400000000000000000000000000000] i = some (.int tp) ∧ 0 < tp ∧ tp ≤ 400000000000000000000000000000 := by
    rcases pick3 (.int 9) (.int 30) (.int 400000000000000000000000000000) i i0 i1 with q | q | q
    · exact ⟨9, q, by omega, by omega⟩
    · exact ⟨30, q, by omega, by omega⟩
    · exact ⟨_, q, by omega, by omega⟩
  obtain ⟨j, t2, e2, j0, j1, k2⟩ := pe_pour t1 _ 4 k1 (by omega) (by omega) (by decide)
  obtain ⟨pp, ep, pp0, pp1⟩ : ∃ pp : Int, atI [PyData.int 37, .int 37, .int 37, .int 97] j = some (.int pp) ∧ 0 ≤ pp ∧ pp ≤ 97 := by
    have : j = 0 ∨ j = 1 ∨ j = 2 ∨ j = 3 := by omega
    rcases this with h | h | h | h <;> rw [h]
    · exact ⟨37, rfl, by omega, by omega⟩
    · exact ⟨37, rfl, by omega, by omega⟩
    · exact ⟨37, rfl, by omega, by omega⟩
    · exact ⟨97, rfl, by omega, by omega⟩
  obtain ⟨as, t3, e3, l3, g3, k3⟩ := lcT_all (f := fun x s => p_law_c1 (.int pp) (.int tp) x s) (e := fun r : List Say => PyData.list (rowD r)) (fun m s => TinOk s (2 + 3000 * m)) (fun r => (∀ s ∈ r, okSay s) ∧ r.length ≤ 300) 2 (by
    intro x s m hm hs
    obtain ⟨r, t', f1, o1, l1, h1⟩ := pe_l_row s _ pp tp 400000000000000000000000000000 hs (by omega) pp0 (by omega) p0 (by omega) p1 (by omega)
    obtain ⟨t'', r', f2, o2, l2, h2⟩ := pe_twice t' _ r _ h1 (by omega) o1 (by omega)
    refine ⟨r', t'', ?_, ⟨fun s hs => (o2 s hs).1, by omega⟩, h2.mono (by omega)⟩
    unfold p_law_c1
    simp only [f1, v_bind2, f2]) (rngD 0 2) t2 (by simpa using k2) (by rw [rng_len]; decide) (by omega)
  rw [rng_len] at l3 k3
  obtain ⟨f, b, rfl⟩ : ∃ f b, as = [f, b] := by
    match as, l3 with
    | [f, b], _ => exact ⟨f, b, rfl⟩
  obtain ⟨hf, lf⟩ := g3 f (by simp)
  obtain ⟨hb, lb⟩ := g3 b (by simp)
  have hfb : ∀ s ∈ f ++ b, okSay s := fun s hs => (List.mem_append.mp hs).elim (hf s) (hb s)
  have ad := add_rows f b (by omega)
  obtain ⟨t4, cs, e4, c0, cl, k4⟩ := pe_spots t3 _ (f ++ b) k3 (by omega) hfb (by simp; omega)
  obtain ⟨⟨⟩, e5, -⟩ := forP_enc (T := D) (f := fun x (_ : Unit) => p_law_b1 (.list (rowD (f ++ b))) x) (e := PyData.int) (xs := cs) (s := ()) (fun _ _ => True) trivial (by
    rintro pre c post ⟨⟩ hc -
    refine ⟨(), ?_, trivial⟩
    unfold p_law_b1
    simp only [pe_undone hfb (show (f ++ b).length ≤ 5000 by simp; omega) (c0 c (by rw [hc]; simp)), v_bind1, q_tru_b, if_true])
  have e5' : forP (T := D) (fun x (_ : Unit) => p_law_b1 (.list (rowD (f ++ b))) x) (intsD cs) () = some (.nx ()) := e5
  obtain ⟨t5, e6, -⟩ := forP_by (T := D) (f := fun x s => p_law_b2 [.list (rowD f), .list (rowD b)] (.list (rowD (f ++ b))) x s) (xs := rngD 0 6) (s := t4) (fun done s => ∃ m, TinOk s m ∧ m ≤ 10000 + 5 * done.length) ⟨_, k4, by decide⟩ (by
    rintro pre x s hx hlen ⟨m, km, hm⟩
    rw [rng_len] at hlen
    obtain ⟨t', e, k⟩ := turn2 s m f b x km (by omega) hf hb (by omega) (by omega)
    exact ⟨t', e, _, k, by simp; omega⟩)
  have sm2 : small62 2 = true := by decide
  have sm6 : small62 6 = true := by decide
  have j0' : ∀ x y : D, atI [x, y] 0 = some x := fun _ _ => rfl
  have j1' : ∀ x y : D, atI [x, y] 1 = some y := fun _ _ => rfl
  unfold p_law_b3
  simp only [e, v_bind1, pw, mw, e1, v_bind2, q_ix_l, et, e2, ep, v_rng1P, sm2, if_true, e3, List.map_cons, List.map_nil, j0', j1', ad, e4, q_items_l, e5', v_ctB0, sm6, e6, v_ctB1]
theorem pe_law (ns : List Int) (hl : ns.length ≤ 63) : p_law ns = some (.bool true) := by
  obtain ⟨m, hm, hm1, hm2⟩ : ∃ m : Int, (if 1 < (if (ns.length : Int) < 6 then (ns.length : Int) else 6) then (if (ns.length : Int) < 6 then (ns.length : Int) else 6) else 1) = m ∧ 0 ≤ m ∧ m ≤ 63 := ⟨_, rfl, by split <;> (try split) <;> omega, by split <;> (try split) <;> omega⟩
  have sm : small62 m = true := by simp [small62]; omega
  obtain ⟨⟨⟩, e, -⟩ := forP_by (T := D) (f := fun x _ => p_law_b3 ns x) (xs := rngD 0 m) (s := ()) (fun _ _ => True) trivial (by
    rintro pre d ⟨⟩ hd - -
    obtain ⟨i, rfl, hi, hi2⟩ := rng_mem hd
    obtain ⟨k, rfl⟩ := Int.eq_ofNat_of_zero_le hi
    exact ⟨(), law_step ns k (by omega), trivial⟩)
  unfold p_law
  simp [hm, sm, e]
end Y
namespace Y
open PySem PL L2
theorem law_runs (ns : List Int) (hl : ns.length ≤ 63) : ∃ ρ, m_law (.scr ns :: List.replicate 9 .un) = .ok (.rt (.pl (.val (.bool true)))) ρ := tr_law ns _ (pe_law ns hl)
end Y
open PySem PySem.W PyProof.Rows
set_option maxHeartbeats 0 in
theorem PySem.Challenge.cw_boastrow_k25_whole_wishes_undo_totals_holds : PySem.Challenge.rw_boastrow_k25_whole_wishes_undo_totals.Holds := by
  w_on; o_law; k_head; (case hw => w_witness2)
  k_fill
  refine PL.walk_ofG (l := PySem.Challenge.rw_boastrow_k25_whole_wishes_undo_totals) (n := 63) (k := 7) (x := "_law_script") (sp := fun w => PL.spD _ 1 9 Y.m_law) rfl (by decide) rfl ⟨rfl, by decide, by decide⟩ (fun w h Y => PySem.W.kIn_of Y) ?F (fun _ H a ns hl _ hS => let ⟨_, h⟩ := Y.law_runs ns hl; PL.law_true hS h)
  case F =>
    intro w mg fa h KX G hmg
    refine' Y.all_mk KX G hmg ?alevelled ?llevelled ?clevelled ?klevelled ?aadded_up ?ladded_up ?cadded_up ?kadded_up ?astretch_to ?lstretch_to ?cstretch_to ?kstretch_to ?awish_behind ?lwish_behind ?cwish_behind ?kwish_behind ?ahanded_on ?lhanded_on ?chanded_on ?khanded_on ?acompanies_within ?lcompanies_within ?ccompanies_within ?kcompanies_within ?asaid_of_company ?lsaid_of_company ?csaid_of_company ?ksaid_of_company ?achanges_by ?lchanges_by ?cchanges_by ?kchanges_by ?ais_number ?lis_number ?cis_number ?kis_number ?ais_row ?lis_row ?cis_row ?kis_row ?ais_saying ?lis_saying ?cis_saying ?kis_saying ?aneed_number ?lneed_number ?cneed_number ?kneed_number ?aneed_row ?lneed_row ?cneed_row ?kneed_row ?aneed_place ?lneed_place ?cneed_place ?kneed_place ?awhat_comes ?lwhat_comes ?cwhat_comes ?kwhat_comes ?atotal ?ltotal ?ctotal ?ktotal ?awishes ?lwishes ?cwishes ?kwishes ?acompanies ?lcompanies ?ccompanies ?kcompanies ?acompanies_between ?lcompanies_between ?ccompanies_between ?kcompanies_between ?aleast_from ?lleast_from ?cleast_from ?kleast_from ?ais_table ?lis_table ?cis_table ?kis_table ?ais_rows ?lis_rows ?cis_rows ?kis_rows ?aneed_rows_table ?lneed_rows_table ?cneed_rows_table ?kneed_rows_table ?atable_of ?ltable_of ?ctable_of ?ktable_of ?aplain_copies ?lplain_copies ?cplain_copies ?kplain_copies ?ais_mark ?lis_mark ?cis_mark ?kis_mark ?ais_shelf ?lis_shelf ?cis_shelf ?kis_shelf ?aneed_shelf ?lneed_shelf ?cneed_shelf ?kneed_shelf ?aneed_book ?lneed_book ?cneed_book ?kneed_book ?afind_book ?lfind_book ?cfind_book ?kfind_book ?acount_to ?lcount_to ?ccount_to ?kcount_to ?abook ?lbook ?cbook ?kbook ?abooks_to ?lbooks_to ?cbooks_to ?kbooks_to ?ashelf_by ?lshelf_by ?cshelf_by ?kshelf_by ?ashelf_of ?lshelf_of ?cshelf_of ?kshelf_of ?al_jar ?ll_jar ?cl_jar ?kl_jar ?al_pour ?ll_pour ?cl_pour ?kl_pour ?al_number ?ll_number ?cl_number ?kl_number ?al_saying ?ll_saying ?cl_saying ?kl_saying ?al_row ?ll_row ?cl_row ?kl_row ?al_some_twice ?ll_some_twice ?cl_some_twice ?kl_some_twice ?al_spots ?ll_spots ?cl_spots ?kl_spots ?al_undone ?ll_undone ?cl_undone ?kl_undone ?al_behind ?ll_behind ?cl_behind ?kl_behind ?al_shelf_right ?ll_shelf_right ?cl_shelf_right ?kl_shelf_right ?alaw ?llaw ?claw ?klaw ?zall ?zbool ?zint ?zisinstance ?zlen ?zlist ?zmax ?zmin ?zrange ?zreversed ?zsorted ?zsum ?ztuple ?zzip
    (case alevelled => k_is); (case llevelled => k_is); (case clevelled => k_is); (case klevelled => k_is); (case aadded_up => k_is); (case ladded_up => k_is); (case cadded_up => k_is); (case kadded_up => k_is); (case astretch_to => k_is); (case lstretch_to => k_is); (case cstretch_to => k_is); (case kstretch_to => k_is); (case awish_behind => k_is); (case lwish_behind => k_is); (case cwish_behind => k_is); (case kwish_behind => k_is); (case ahanded_on => k_is); (case lhanded_on => k_is); (case chanded_on => k_is); (case khanded_on => k_is); (case acompanies_within => k_is); (case lcompanies_within => k_is); (case ccompanies_within => k_is); (case kcompanies_within => k_is); (case asaid_of_company => k_is); (case lsaid_of_company => k_is); (case csaid_of_company => k_is); (case ksaid_of_company => k_is); (case achanges_by => k_is); (case lchanges_by => k_is); (case cchanges_by => k_is); (case kchanges_by => k_is); (case ais_number => k_is); (case lis_number => k_is); (case cis_number => k_is); (case kis_number => k_is); (case ais_row => k_is); (case lis_row => k_is); (case cis_row => k_is); (case kis_row => k_is); (case ais_saying => k_is); (case lis_saying => k_is); (case cis_saying => k_is); (case kis_saying => k_is); (case aneed_number => k_is); (case lneed_number => k_is); (case cneed_number => k_is); (case kneed_number => k_is); (case aneed_row => k_is); (case lneed_row => k_is); (case cneed_row => k_is); (case kneed_row => k_is); (case aneed_place => k_is); (case lneed_place => k_is); (case cneed_place => k_is); (case kneed_place => k_is); (case awhat_comes => k_is); (case lwhat_comes => k_is); (case cwhat_comes => k_is); (case kwhat_comes => k_is); (case atotal => k_is); (case ltotal => k_is); (case ctotal => k_is); (case ktotal => k_is); (case awishes => k_is); (case lwishes => k_is); (case cwishes => k_is); (case kwishes => k_is); (case acompanies => k_is); (case lcompanies => k_is); (case ccompanies => k_is); (case kcompanies => k_is); (case acompanies_between => k_is); (case lcompanies_between => k_is); (case ccompanies_between => k_is); (case kcompanies_between => k_is); (case aleast_from => k_is); (case lleast_from => k_is); (case cleast_from => k_is); (case kleast_from => k_is); (case ais_table => k_is); (case lis_table => k_is); (case cis_table => k_is); (case kis_table => k_is); (case ais_rows => k_is); (case lis_rows => k_is); (case cis_rows => k_is); (case kis_rows => k_is); (case aneed_rows_table => k_is); (case lneed_rows_table => k_is); (case cneed_rows_table => k_is); (case kneed_rows_table => k_is); (case atable_of => k_is); (case ltable_of => k_is); (case ctable_of => k_is); (case ktable_of => k_is); (case aplain_copies => k_is); (case lplain_copies => k_is); (case cplain_copies => k_is); (case kplain_copies => k_is); (case ais_mark => k_is); (case lis_mark => k_is); (case cis_mark => k_is); (case kis_mark => k_is); (case ais_shelf => k_is); (case lis_shelf => k_is); (case cis_shelf => k_is); (case kis_shelf => k_is); (case aneed_shelf => k_is); (case lneed_shelf => k_is); (case cneed_shelf => k_is); (case kneed_shelf => k_is); (case aneed_book => k_is); (case lneed_book => k_is); (case cneed_book => k_is); (case kneed_book => k_is); (case afind_book => k_is); (case lfind_book => k_is); (case cfind_book => k_is); (case kfind_book => k_is); (case acount_to => k_is); (case lcount_to => k_is); (case ccount_to => k_is); (case kcount_to => k_is); (case abook => k_is); (case lbook => k_is); (case cbook => k_is); (case kbook => k_is); (case abooks_to => k_is); (case lbooks_to => k_is); (case cbooks_to => k_is); (case kbooks_to => k_is); (case ashelf_by => k_is); (case lshelf_by => k_is); (case cshelf_by => k_is); (case kshelf_by => k_is); (case ashelf_of => k_is); (case lshelf_of => k_is); (case cshelf_of => k_is); (case kshelf_of => k_is); (case al_jar => k_is); (case ll_jar => k_is); (case cl_jar => k_is); (case kl_jar => k_is); (case al_pour => k_is); (case ll_pour => k_is); (case cl_pour => k_is); (case kl_pour => k_is); (case al_number => k_is); (case ll_number => k_is); (case cl_number => k_is); (case kl_number => k_is); (case al_saying => k_is); (case ll_saying => k_is); (case cl_saying => k_is); (case kl_saying => k_is); (case al_row => k_is); (case ll_row => k_is); (case cl_row => k_is); (case kl_row => k_is); (case al_some_twice => k_is); (case ll_some_twice => k_is); (case cl_some_twice => k_is); (case kl_some_twice => k_is); (case al_spots => k_is); (case ll_spots => k_is); (case cl_spots => k_is); (case kl_spots => k_is); (case al_undone => k_is); (case ll_undone => k_is); (case cl_undone => k_is); (case kl_undone => k_is); (case al_behind => k_is); (case ll_behind => k_is); (case cl_behind => k_is); (case kl_behind => k_is); (case al_shelf_right => k_is); (case ll_shelf_right => k_is); (case cl_shelf_right => k_is); (case kl_shelf_right => k_is); (case alaw => k_is); (case llaw => k_is); (case claw => k_is); (case klaw => k_is); (case zall => k_is); (case zbool => k_is); (case zint => k_is); (case zisinstance => k_is); (case zlen => k_is); (case zlist => k_is); (case zmax => k_is); (case zmin => k_is); (case zrange => k_is); (case zreversed => k_is); (case zsorted => k_is); (case zsum => k_is); (case ztuple => k_is); (case zzip => k_is)
