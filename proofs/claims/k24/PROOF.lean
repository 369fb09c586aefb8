import PyProof.Rows.All
import Wide.All
import OpenK.AllK
import Wide.FinOn
import HandS.ForMost
import HandS.IsInst
import HandS.Wide
import HandS.Style
import HandS.SortInts
import HandS.More
import HandS.Exc
import HandS.ExcOwn
import HandS.ExcIs
import HandS.WordsExc
import HandS.TryMany
import HandS.Rev
import HandS.Zip
import HandS.SetFor
import PyProof.EqAt
import HandS.SetKeys
import HandS.DictComp
import HandS.Iter
import HandS.Conv
import HandS.Defaults
import HandS.Small
import KE.GoesMore
import KE.GoesEnum
import KE.KUnpack
import HandS.Deep
import KE.KDictZip
import KE.KItemsList
import HandS.ListItems
import PySem.Challenge.RW_boastrow_k24_wishes_told
set_option Elab.async false
set_option linter.all false
set_option maxRecDepth 100000
/-! PL: readings over plain data. -/
namespace PL
open PySem PySem.Spec L2
abbrev D := PyData
/-- the addresses of the program's own exception classes, by their names -/
class Kap where
  κ : Str → Addr
/-- an exception object of the class c, at a -/
def ExT (c a : Addr) : HO := .ext fun h => ∃ (oe : Obj) (vs : Array Value), h.get? a = some oe ∧ Zc (.ref c) none oe ∧ oe.data = .fields vs
variable [Kap]
/-! ### data that stand in a heap of frozen objects -/
def keyD : Key → D
  | .inl i => .int i
  | .inr s => .str s
mutual
inductive Rp (G : Hp) : V → D → Prop
  | non : Rp G .non .none
  | bl (b : Bool) : Rp G (.bl b) (.bool b)
  | int (i : Int) : Rp G (.int i) (.int i)
  | str (x : Str) : Rp G (.str x) (.str x)
  | lst {a : Addr} {xs : List V} {ds : List D} : G a = some (.lst xs) → RpA G xs ds → Rp G (.ref a) (.list ds)
  | tup {a : Addr} {xs : List V} {ds : List D} : G a = some (.tup xs) → RpA G xs ds → Rp G (.ref a) (.tuple ds)
  | dct {a : Addr} {es : List (Key × V)} {ks : List (D × D)} : G a = some (.dK es) → RpK G es ks → Rp G (.ref a) (.dict ks)
inductive RpA (G : Hp) : List V → List D → Prop
  | nil : RpA G [] []
  | cons {v : V} {vs : List V} {d : D} {ds : List D} : Rp G v d → RpA G vs ds → RpA G (v :: vs) (d :: ds)
inductive RpK (G : Hp) : List (Key × V) → List (D × D) → Prop
  | nil : RpK G [] []
  | cons {k : Key} {v : V} {es : List (Key × V)} {d : D} {ks : List (D × D)} : Rp G v d → RpK G es ks → RpK G ((k, v) :: es) ((keyD k, d) :: ks)
end
mutual
theorem Rp.mono {G G' : Hp} (e : Same G G') : ∀ {v : V} {d : D}, Rp G v d → Rp G' v d
  | _, _, .non => .non
  | _, _, .bl b => .bl b
  | _, _, .int i => .int i
  | _, _, .str x => .str x
  | _, _, .lst h r => .lst (e _ _ h) (RpA.mono e r)
  | _, _, .tup h r => .tup (e _ _ h) (RpA.mono e r)
  | _, _, .dct h r => .dct (e _ _ h) (RpK.mono e r)
theorem RpA.mono {G G' : Hp} (e : Same G G') : ∀ {vs : List V} {ds : List D}, RpA G vs ds → RpA G' vs ds
  | _, _, .nil => .nil
  | _, _, .cons h r => .cons (Rp.mono e h) (RpA.mono e r)
theorem RpK.mono {G G' : Hp} (e : Same G G') : ∀ {vs : List (Key × V)} {ds : List (D × D)}, RpK G vs ds → RpK G' vs ds
  | _, _, .nil => .nil
  | _, _, .cons h r => .cons (Rp.mono e h) (RpK.mono e r)
end
theorem RpA.length {G : Hp} : ∀ {vs : List V} {ds : List D}, RpA G vs ds → vs.length = ds.length
  | _, _, .nil => rfl
  | _, _, .cons _ r => by simp [RpA.length r]
theorem RpA.get {G : Hp} : ∀ {vs : List V} {ds : List D} {i : Nat} {d : D}, RpA G vs ds → ds[i]? = some d → ∃ v, vs[i]? = some v ∧ Rp G v d
  | _, _, _, _, .nil, h => by simp at h
  | _, _, 0, _, .cons h r, e => by
    simp at e; subst e; exact ⟨_, rfl, h⟩
  | _, _, i + 1, _, .cons h r, e => by
    have := RpA.get (i := i) r (by simpa using e)
    simpa using this
theorem RpA.get' {G : Hp} : ∀ {vs : List V} {ds : List D} {i : Nat} {v : V}, RpA G vs ds → vs[i]? = some v → ∃ d, ds[i]? = some d ∧ Rp G v d
  | _, _, _, _, .nil, h => by simp at h
  | _, _, 0, _, .cons h r, e => by
    simp at e; subst e; exact ⟨_, rfl, h⟩
  | _, _, i + 1, _, .cons h r, e => by
    have := RpA.get' (i := i) r (by simpa using e)
    simpa using this
theorem RpA.append {G : Hp} : ∀ {vs ws : List V} {ds es : List D}, RpA G vs ds → RpA G ws es → RpA G (vs ++ ws) (ds ++ es)
  | _, _, _, _, .nil, s => s
  | _, _, _, _, .cons h r, s => .cons h (RpA.append r s)
theorem RpA.one {G : Hp} {v : V} {d : D} (h : Rp G v d) : RpA G [v] [d] := .cons h .nil
theorem RpA.take {G : Hp} : ∀ {vs : List V} {ds : List D} (n : Nat), RpA G vs ds → RpA G (vs.take n) (ds.take n)
  | _, _, 0, _ => by simpa using RpA.nil
  | _, _, n + 1, .nil => by simpa using RpA.nil
  | _, _, n + 1, .cons h r => .cons h (RpA.take n r)
theorem RpA.drop {G : Hp} : ∀ {vs : List V} {ds : List D} (n : Nat), RpA G vs ds → RpA G (vs.drop n) (ds.drop n)
  | _, _, 0, r => r
  | _, _, n + 1, .nil => by simpa using RpA.nil
  | _, _, n + 1, .cons h r => RpA.drop n r
theorem RpA.set {G : Hp} {v : V} {d : D} (h : Rp G v d) : ∀ {vs : List V} {ds : List D} (n : Nat), RpA G vs ds → RpA G (vs.set n v) (ds.set n d)
  | _, _, _, .nil => .nil
  | _, _, 0, .cons _ r => .cons h r
  | _, _, n + 1, .cons q r => .cons q (RpA.set h n r)
theorem RpA.reverse {G : Hp} : ∀ {vs : List V} {ds : List D}, RpA G vs ds → RpA G vs.reverse ds.reverse
  | _, _, .nil => .nil
  | _, _, .cons h r => by
    rw [List.reverse_cons, List.reverse_cons]
    exact (RpA.reverse r).append (.one h)
theorem RpA.ints {G : Hp} : ∀ (ns : List Int), RpA G (ns.map V.int) (ns.map PyData.int)
  | [] => .nil
  | n :: r => .cons (.int n) (RpA.ints r)
theorem RpA.of_ints {G : Hp} : ∀ (ns : List Int) {vs : List V}, RpA G vs (ns.map PyData.int) → vs = ns.map V.int
  | [], _, .nil => rfl
  | n :: r, _, .cons (.int _) h => by rw [RpA.of_ints r h]; rfl
theorem RpA.of_bools {G : Hp} : ∀ (ns : List Bool) {vs : List V}, RpA G vs (ns.map PyData.bool) → vs = ns.map V.bl
  | [], _, .nil => rfl
  | n :: r, _, .cons (.bl _) h => by rw [RpA.of_bools r h]; rfl
/-- the object itself stands in H, what is in it in G -/
inductive Sh (G H : Hp) : V → D → Prop
  | non : Sh G H .non .none
  | bl (b : Bool) : Sh G H (.bl b) (.bool b)
  | int (i : Int) : Sh G H (.int i) (.int i)
  | str (x : Str) : Sh G H (.str x) (.str x)
  | lst {a : Addr} {xs : List V} {ds : List D} : H a = some (.lst xs) → RpA G xs ds → Sh G H (.ref a) (.list ds)
  | tup {a : Addr} {xs : List V} {ds : List D} : H a = some (.tup xs) → RpA G xs ds → Sh G H (.ref a) (.tuple ds)
  | dct {a : Addr} {es : List (Key × V)} {ks : List (D × D)} : H a = some (.dK es) → RpK G es ks → Sh G H (.ref a) (.dict ks)
theorem Rp.sh {G H : Hp} (e : Same G H) {v : V} {d : D} (h : Rp G v d) : Sh G H v d := by
  cases h with
  | non => exact .non
  | bl b => exact .bl b
  | int i => exact .int i
  | str x => exact .str x
  | lst h r => exact .lst (e _ _ h) r
  | tup h r => exact .tup (e _ _ h) r
  | dct h r => exact .dct (e _ _ h) r
theorem Sh.mono {G G' H H' : Hp} (e : Same G G') (f : Same H H') {v : V} {d : D} (h : Sh G H v d) : Sh G' H' v d := by
  cases h with
  | non => exact .non
  | bl b => exact .bl b
  | int i => exact .int i
  | str x => exact .str x
  | lst h r => exact .lst (f _ _ h) (r.mono e)
  | tup h r => exact .tup (f _ _ h) (r.mono e)
  | dct h r => exact .dct (f _ _ h) (r.mono e)
/-- only the very object is looked at -/
theorem Sh.at {G G' H H' : Hp} (e : Same G G') {v : V} {d : D} (f : ∀ a, v = .ref a → ∀ o, H a = some o → H' a = some o) (h : Sh G H v d) : Sh G' H' v d := by
  cases h with
  | non => exact .non
  | bl b => exact .bl b
  | int i => exact .int i
  | str x => exact .str x
  | lst h r => exact .lst (f _ rfl _ h) (r.mono e)
  | tup h r => exact .tup (f _ rfl _ h) (r.mono e)
  | dct h r => exact .dct (f _ rfl _ h) (r.mono e)
def atom : D → Bool
  | .none => true
  | .bool _ => true
  | .int _ => true
  | .str _ => true
  | _ => false
theorem Sh.atom {G H : Hp} {v : V} {d : D} (h : Sh G H v d) (a : atom d = true) (G' : Hp) : Rp G' v d := by
  cases h with
  | non => exact .non
  | bl b => exact .bl b
  | int i => exact .int i
  | str x => exact .str x
  | lst h r => cases a
  | tup h r => cases a
  | dct h r => cases a
/-- the object is frozen -/
theorem Sh.frozen {G H : Hp} {a : Addr} {d : D} (h : Sh G H (.ref a) d) (hn : G a = none) : ∃ G', Same G G' ∧ (∀ b, G' b ≠ none → G b ≠ none ∨ b = a) ∧ (∀ b o, G' b = some o → G b = some o ∨ H b = some o) ∧ Rp G' (.ref a) d := by
  have key : ∀ (o : HO), H a = some o → Same G (upd G a o) ∧ (∀ b, upd G a o b ≠ none → G b ≠ none ∨ b = a) ∧ (∀ b u, upd G a o b = some u → G b = some u ∨ H b = some u) := by
    intro o ho
    refine ⟨fun b u e => ?_, fun b e => ?_, fun b u e => ?_⟩
    · rw [upd_ne (ne_of_none e hn)]; exact e
    · by_cases hb : b = a
      · exact .inr hb
      · rw [upd_ne hb] at e; exact .inl e
    · by_cases hb : b = a
      · subst hb; rw [upd_same] at e; cases e; exact .inr ho
      · rw [upd_ne hb] at e; exact .inl e
  cases h with
  | lst h r => exact ⟨_, (key _ h).1, (key _ h).2.1, (key _ h).2.2, .lst upd_same (r.mono (key _ h).1)⟩
  | tup h r => exact ⟨_, (key _ h).1, (key _ h).2.1, (key _ h).2.2, .tup upd_same (r.mono (key _ h).1)⟩
  | dct h r => exact ⟨_, (key _ h).1, (key _ h).2.1, (key _ h).2.2, .dct upd_same (r.mono (key _ h).1)⟩
/-! ### the names' state -/
inductive Sl where
  | un | val (d : D) | own (d : D) | io (d : D) | bor (d : D) | scr (ns : List Int) | exc (n : Str)
inductive Pl where
  | val (d : D) | slot (i : Nat)
inductive Rv where
  | pl (p : Pl) | fr (d : D)
abbrev Env := List Sl
inductive R (α : Type) where
  | stuck | ok (a : α) (ρ : Env)
abbrev M (α : Type) := Env → R α
structure Ctx where
  K : PySem.W.Frag
  G0 : Hp
  B : Hp
  A : Addr → Prop
  P : Nat → Option V
  S : Nat → Sl
def BorOk (K : PySem.W.Frag) (G B : Hp) (v : V) : Sl → Prop
  | .bor d => Sh G B v d
  | .scr ns => ∃ a, v = .ref a ∧ SqL K B a (ns.map V.int)
  | _ => True
def SlOk (C : Ctx) (G H : Hp) (i : Nat) (o : Option V) : Sl → Prop
  | .un => True
  | .val d => ∃ v, o = some v ∧ Rp G v d
  | .own d => ∃ a, o = some (.ref a) ∧ Sh G H (.ref a) d ∧ G a = none ∧ C.B a = none ∧ C.A a
  | .io d => ∃ a, o = some (.ref a) ∧ Sh G H (.ref a) d ∧ G a = none ∧ C.B a = none ∧ C.P i = some (.ref a)
  | .bor d => ∃ v, o = some v ∧ C.P i = some v ∧ C.S i = .bor d
  | .scr ns => ∃ v, o = some v ∧ C.P i = some v ∧ C.S i = .scr ns
  | .exc n => ∃ a, o = some (.ref a) ∧ G a = some (ExT (Kap.κ n) a)
def ownK : Sl → Bool
  | .own _ => true
  | .io _ => true
  | _ => false
def Own (σ : St) (ρ : Env) (i : Nat) (a : Addr) : Prop := σ[i]? = some (some (.ref a)) ∧ ∃ s, ρ[i]? = some s ∧ ownK s = true
structure StOk (C : Ctx) (G : Hp) (σ : St) (H : Hp) (ρ : Env) : Prop where
  gh : Same G H
  bh : Same C.B H
  g0 : Same C.G0 G
  fr : ∀ a, H a = none → C.A a
  ga : ∀ a, G a ≠ none → C.G0 a ≠ none ∨ C.A a
  wf : ∀ (i : Nat) (v : V), C.P i = some v → BorOk C.K C.G0 C.B v (C.S i)
  len : σ.length = ρ.length
  sl : ∀ (i : Nat) (s : Sl), ρ[i]? = some s → ∃ o, σ[i]? = some o ∧ SlOk C G H i o s
  ds : ∀ (i j : Nat) (a : Addr), Own σ ρ i a → Own σ ρ j a → i = j
theorem BorOk.mono {K : PySem.W.Frag} {G G' B B' : Hp} {v : V} {s : Sl} (e : Same G G') (f : Same B B') (h : BorOk K G B v s) : BorOk K G' B' v s := by
  cases s with
  | bor d => exact Sh.mono e f h
  | scr ns => obtain ⟨a, e1, q⟩ := h; exact ⟨a, e1, Same.seq f q⟩
  | _ => trivial
/-- what stood stands, what is frozen anew is new -/
structure Grow (G H G' H' : Hp) : Prop where
  g : Same G G'
  h : Same H H'
  gh : Same G' H'
  nw : ∀ a, G' a ≠ none → G a ≠ none ∨ H a = none
theorem Grow.refl {G H : Hp} (e : Same G H) : Grow G H G H := ⟨Same.refl _, Same.refl _, e, fun _ h => .inl h⟩
theorem Grow.new {G H : Hp} {p : Addr} {o : HO} (e : Same G H) (hp : H p = none) : Grow G H (upd G p o) (upd H p o) := by
  have gp : G p = none := e.free hp
  refine ⟨fun b u q => ?_, fun b u q => ?_, fun b u q => ?_, fun b q => ?_⟩
  · rw [upd_ne (ne_of_none q gp)]; exact q
  · rw [upd_ne (ne_of_none q hp)]; exact q
  · by_cases hb : b = p
    · subst hb; rw [upd_same] at q ⊢; exact q
    · rw [upd_ne hb] at q ⊢; exact e b u q
  · by_cases hb : b = p
    · subst hb; exact .inr hp
    · rw [upd_ne hb] at q; exact .inl q
/-- a new object that isn't frozen -/
theorem Grow.newF {G H : Hp} {p : Addr} {o : HO} (e : Same G H) (hp : H p = none) : Grow G H G (upd H p o) := by
  refine ⟨Same.refl _, fun b u q => ?_, fun b u q => ?_, fun b q => .inl q⟩
  · rw [upd_ne (ne_of_none q hp)]; exact q
  · rw [upd_ne (ne_of_none (e b u q) hp)]; exact e b u q
theorem Grow.trans {G H G1 H1 G2 H2 : Hp} (a : Grow G H G1 H1) (b : Grow G1 H1 G2 H2) : Grow G H G2 H2 :=
  ⟨a.g.trans b.g, a.h.trans b.h, b.gh, fun x hx => (b.nw x hx).elim (a.nw x) fun q => .inr (a.h.free q)⟩
theorem ne_none_of {H : Hp} {a : Addr} {o : HO} (h : H a = some o) : H a ≠ none := by rw [h]; intro z; cases z
theorem Sh.tracked {G H : Hp} {a : Addr} {d : D} (h : Sh G H (.ref a) d) : H a ≠ none := by
  cases h with
  | lst h r => exact ne_none_of h
  | tup h r => exact ne_none_of h
  | dct h r => exact ne_none_of h
theorem SlOk.grow {C : Ctx} {G H G' H' : Hp} (w : Grow G H G' H') {i : Nat} {o : Option V} {s : Sl} (h : SlOk C G H i o s) : SlOk C G' H' i o s := by
  have fz : ∀ {a : Addr}, H a ≠ none → G a = none → G' a = none := fun {a} h1 h2 => by
    cases q : G' a with
    | none => rfl
    | some u =>
      rcases w.nw a (ne_none_of q) with z | z
      · exact absurd h2 z
      · exact absurd z h1
  cases s with
  | un => trivial
  | val d => obtain ⟨v, e, r⟩ := h; exact ⟨v, e, r.mono w.g⟩
  | own d => obtain ⟨a, e, r, h1, h2, h3⟩ := h; exact ⟨a, e, r.mono w.g w.h, fz r.tracked h1, h2, h3⟩
  | io d => obtain ⟨a, e, r, h1, h2⟩ := h; exact ⟨a, e, r.mono w.g w.h, fz r.tracked h1, h2⟩
  | bor d => exact h
  | scr ns => exact h
  | exc n => obtain ⟨a, e, r⟩ := h; exact ⟨a, e, w.g _ _ r⟩
theorem StOk.grow {C : Ctx} {G H G' H' : Hp} {σ : St} {ρ : Env} (S : StOk C G σ H ρ) (w : Grow G H G' H') : StOk C G' σ H' ρ where
  gh := w.gh
  bh := S.bh.trans w.h
  g0 := S.g0.trans w.g
  fr := fun a h => S.fr a (w.h.free h)
  ga := fun a h => (w.nw a h).elim (S.ga a) fun q => .inr (S.fr a q)
  wf := S.wf
  len := S.len
  sl := fun i s e => let ⟨o, e1, q⟩ := S.sl i s e; ⟨o, e1, q.grow w⟩
  ds := S.ds
end PL
namespace PL
open PySem PySem.Spec L2
variable [Kap]
abbrev St' := L2.St
def okP (G : Hp) (σ : L2.St) (v : V) : Pl → Prop
  | .val d => Rp G v d
  | .slot i => σ[i]? = some (some v)
def okR (C : Ctx) (G : Hp) (σ : L2.St) (H : Hp) (ρ : Env) (v : V) : Rv → Prop
  | .pl p => okP G σ v p
  | .fr d => ∃ a, v = .ref a ∧ Sh G H (.ref a) d ∧ G a = none ∧ C.B a = none ∧ C.A a ∧ ∀ i, ¬ Own σ ρ i a
inductive okPs (G : Hp) (σ : L2.St) : List V → List Pl → Prop
  | nil : okPs G σ [] []
  | cons {v : V} {vs : List V} {p : Pl} {ps : List Pl} : okP G σ v p → okPs G σ vs ps → okPs G σ (v :: vs) (p :: ps)
theorem okP.mono {G G' : Hp} {σ : L2.St} {v : V} (e : Same G G') : ∀ {p : Pl}, okP G σ v p → okP G' σ v p
  | .val _, h => Rp.mono e h
  | .slot _, h => h
theorem okPs.mono {G G' : Hp} {σ : L2.St} (e : Same G G') : ∀ {vs : List V} {ps : List Pl}, okPs G σ vs ps → okPs G' σ vs ps
  | _, _, .nil => .nil
  | _, _, .cons h r => .cons (h.mono e) (okPs.mono e r)
/-! ### readings -/
def RdV (K : PySem.W.Frag) (t : TE) (f : M D) : Prop := ∀ (C : Ctx) (G : Hp) (σ : L2.St) (H : Hp) (ρ : Env) (Q : VK), C.K = K → StOk C G σ H ρ → ∀ (d : D) (ρ' : Env), f ρ = .ok d ρ' →
  (∀ (v : V) (G' H' : Hp), Same G G' → StOk C G' σ H' ρ' → Rp G' v d → Q v H') → t σ H Q
def RdP (K : PySem.W.Frag) (t : TE) (f : M Pl) : Prop := ∀ (C : Ctx) (G : Hp) (σ : L2.St) (H : Hp) (ρ : Env) (Q : VK), C.K = K → StOk C G σ H ρ → ∀ (d : Pl) (ρ' : Env), f ρ = .ok d ρ' →
  (∀ (v : V) (G' H' : Hp), Same G G' → StOk C G' σ H' ρ' → okP G' σ v d → Q v H') → t σ H Q
def RdF (K : PySem.W.Frag) (t : TE) (f : M Rv) : Prop := ∀ (C : Ctx) (G : Hp) (σ : L2.St) (H : Hp) (ρ : Env) (Q : VK), C.K = K → StOk C G σ H ρ → ∀ (d : Rv) (ρ' : Env), f ρ = .ok d ρ' →
  (∀ (v : V) (G' H' : Hp), Same G G' → StOk C G' σ H' ρ' → okR C G' σ H' ρ' v d → Q v H') → t σ H Q
def RdT (K : PySem.W.Frag) (t : TT) (f : M Bool) : Prop := ∀ (C : Ctx) (G : Hp) (σ : L2.St) (H : Hp) (ρ : Env) (Q : Bool → Hp → Prop), C.K = K → StOk C G σ H ρ → ∀ (b : Bool) (ρ' : Env), f ρ = .ok b ρ' →
  (∀ (G' H' : Hp), Same G G' → StOk C G' σ H' ρ' → Q b H') → t σ H Q
def RdA (K : PySem.W.Frag) (t : TA) (f : M (List D)) : Prop := ∀ (C : Ctx) (G : Hp) (σ : L2.St) (H : Hp) (ρ : Env) (Q : List V → Hp → Prop), C.K = K → StOk C G σ H ρ → ∀ (ds : List D) (ρ' : Env), f ρ = .ok ds ρ' →
  (∀ (vs : List V) (G' H' : Hp), Same G G' → StOk C G' σ H' ρ' → RpA G' vs ds → Q vs H') → t σ H Q
def RdPs (K : PySem.W.Frag) (t : TA) (f : M (List Pl)) : Prop := ∀ (C : Ctx) (G : Hp) (σ : L2.St) (H : Hp) (ρ : Env) (Q : List V → Hp → Prop), C.K = K → StOk C G σ H ρ → ∀ (ds : List Pl) (ρ' : Env), f ρ = .ok ds ρ' →
  (∀ (vs : List V) (G' H' : Hp), Same G G' → StOk C G' σ H' ρ' → okPs G' σ vs ds → Q vs H') → t σ H Q
/-- an expression that gives data | a place or data | also a new object of its own -/
def PV (X : Cx) (e : Expr) (f : M D) : Prop := ∃ t, PE X e t ∧ RdV X.K t f
def PP (X : Cx) (e : Expr) (f : M Pl) : Prop := ∃ t, PE X e t ∧ RdP X.K t f
def PF (X : Cx) (e : Expr) (f : M Rv) : Prop := ∃ t, PE X e t ∧ RdF X.K t f
def PTt (X : Cx) (e : Expr) (f : M Bool) : Prop := ∃ t, PT X e t ∧ RdT X.K t f
def PWt (X : Cx) (e : Expr) (f : M Bool) : Prop := ∃ t, PW X e t ∧ RdT X.K t f
def PVs (X : Cx) (es : List Expr) (f : M (List D)) : Prop := ∃ t, PA X es t ∧ RdA X.K t f
def PPs (X : Cx) (es : List Expr) (f : M (List Pl)) : Prop := ∃ t, PA X es t ∧ RdPs X.K t f
/-! ### the words of the mirror -/
def bnd {α β : Type} (f : M α) (g : α → M β) : M β := fun ρ => match f ρ with
  | .stuck => .stuck
  | .ok a ρ' => g a ρ'
def ret {α : Type} (a : α) : M α := fun ρ => .ok a ρ
def ofO {α : Type} : Option α → M α
  | some a => ret a
  | none => fun _ => .stuck
theorem bnd_ok {α β : Type} {f : M α} {g : α → M β} {ρ ρ' : Env} {b : β} (h : bnd f g ρ = .ok b ρ') : ∃ a ρ1, f ρ = .ok a ρ1 ∧ g a ρ1 = .ok b ρ' := by
  unfold bnd at h
  cases q : f ρ with
  | stuck => rw [q] at h; cases h
  | ok a ρ1 => rw [q] at h; exact ⟨a, ρ1, rfl, h⟩
theorem ofO_ok {α : Type} {o : Option α} {a : α} {ρ ρ' : Env} (h : ofO o ρ = .ok a ρ') : o = some a ∧ ρ' = ρ := by
  cases o with
  | none => cases h
  | some b => cases h; exact ⟨rfl, rfl⟩
def mVar (i : Nat) : M Pl := fun ρ => match ρ[i]? with
  | some .un => .stuck
  | none => .stuck
  | some (.val d) => .ok (.val d) ρ
  | some _ => .ok (.slot i) ρ
def mC (d : D) : M D := ret d
/-- data taken from a place: an object of one's own is frozen -/
def mGet (i : Nat) : M D := fun ρ => match ρ[i]? with
  | some (.val d) => .ok d ρ
  | some (.own d) => .ok d (ρ.set i (.val d))
  | some (.bor d) => if atom d = true then .ok d ρ else .stuck
  | _ => .stuck
def mFz (f : M Rv) : M D := bnd f fun r => match r with
  | .fr d => ret d
  | .pl (.val d) => ret d
  | .pl (.slot i) => mGet i
def mPl (f : M D) : M Pl := bnd f fun d => ret (.val d)
def mRv (f : M Pl) : M Rv := bnd f fun p => ret (.pl p)
/-- what stands at a place -/
def rsv (ρ : Env) : Pl → Option D
  | .val d => some d
  | .slot i => match ρ[i]? with
    | some (.val d) => some d
    | some (.own d) => some d
    | some (.io d) => some d
    | some (.bor d) => some d
    | _ => none
def look (p : Pl) : M D := fun ρ => match rsv ρ p with
  | some d => .ok d ρ
  | none => .stuck
def lookAll : List Pl → M (List D)
  | [] => ret []
  | p :: ps => bnd (look p) fun d => bnd (lookAll ps) fun ds => ret (d :: ds)
def mOp {α : Type} (g : D → D → Option α) (fa fb : M Pl) : M α := bnd fa fun p => bnd fb fun q => bnd (look p) fun d => bnd (look q) fun e => ofO (g d e)
def mUn {α : Type} (g : D → Option α) (fa : M Pl) : M α := bnd fa fun p => bnd (look p) fun d => ofO (g d)
def mNil {α : Type} : M (List α) := ret []
def mCons {α : Type} (fa : M α) (fr : M (List α)) : M (List α) := bnd fa fun p => bnd fr fun q => ret (p :: q)
def mN {α : Type} (g : List D → Option α) (fs : M (List Pl)) : M α := bnd fs fun ps => bnd (lookAll ps) fun ds => ofO (g ds)
def mFr (f : M D) : M Rv := bnd f fun d => ret (.fr d)
def mTup (f : M (List D)) : M D := bnd f fun ds => if ds.length ≤ 100000 then ret (.tuple ds) else fun _ => .stuck
def mLst (f : M (List D)) : M Rv := bnd f fun ds => if ds.length ≤ 100000 then ret (.fr (.list ds)) else fun _ => .stuck
def asBool : D → Option Bool
  | .bool b => some b
  | _ => none
def mB (f : M D) : M Bool := bnd f fun d => ofO (asBool d)
def mIf {α : Type} (c : M Bool) (a b : M α) : M α := bnd c fun k => if k = true then a else b
def mNot (c : M Bool) : M Bool := bnd c fun k => ret (!k)
def mAnd (a b : M Bool) : M Bool := bnd a fun k => if k = true then b else ret false
def mOr (a b : M Bool) : M Bool := bnd a fun k => if k = true then ret true else b
def mBool (c : M Bool) : M D := bnd c fun k => ret (.bool k)
def mAndV (a b : M D) : M D := bnd (mB a) fun k => if k = true then b else ret (.bool false)
def mOrV (a b : M D) : M D := bnd (mB a) fun k => if k = true then ret (.bool true) else b
def mNotV (a : M D) : M D := bnd (mB a) fun k => ret (.bool (!k))
/-! ### places -/
section
variable {C : Ctx} {G H : Hp} {σ : L2.St} {ρ ρ' : Env} {v : V} {p : Pl} {d : D}
theorem StOk.get (S : StOk C G σ H ρ) {i : Nat} {s : Sl} (e : ρ[i]? = some s) (hv : σ[i]? = some (some v)) : SlOk C G H i (some v) s := by
  obtain ⟨o, e1, q⟩ := S.sl i s e
  rw [hv] at e1; cases e1; exact q
theorem StOk.bor (S : StOk C G σ H ρ) {i : Nat} (h1 : C.P i = some v) (h2 : C.S i = .bor d) : Sh G H v d := by
  have := S.wf i v h1
  rw [h2] at this
  exact Sh.mono S.g0 S.bh this
theorem rsv_ok (S : StOk C G σ H ρ) (h : okP G σ v p) (e : rsv ρ p = some d) : Sh G H v d := by
  cases p with
  | val d' =>
    cases e
    exact Rp.sh S.gh h
  | slot i =>
    have hv : σ[i]? = some (some v) := h
    simp only [rsv] at e
    cases q : ρ[i]? with
    | none => rw [q] at e; cases e
    | some s =>
      have k := S.get q hv
      rw [q] at e
      cases s with
      | un => cases e
      | scr ns => cases e
      | exc n => cases e
      | val d' => cases e; obtain ⟨_, z, r⟩ := k; cases z; exact r.sh S.gh
      | own d' => cases e; obtain ⟨a, e2, r, _⟩ := k; cases e2; exact r
      | io d' => cases e; obtain ⟨a, e2, r, _⟩ := k; cases e2; exact r
      | bor d' => cases e; obtain ⟨_, z, p1, p2⟩ := k; cases z; exact S.bor p1 p2
theorem look_ok (S : StOk C G σ H ρ) (h : okP G σ v p) (e : look p ρ = .ok d ρ') : Sh G H v d ∧ ρ' = ρ := by
  unfold look at e
  cases q : rsv ρ p with
  | none => rw [q] at e; cases e
  | some d' => rw [q] at e; cases e; exact ⟨rsv_ok S h q, rfl⟩
/-- one name is given another thing -/
theorem Own.tracked (S : StOk C G σ H ρ) {i : Nat} {a : Addr} (h : Own σ ρ i a) : H a ≠ none ∧ G a = none ∧ C.B a = none := by
  obtain ⟨h1, s, h2, h3⟩ := h
  have k := S.get h2 h1
  cases s with
  | own d => obtain ⟨b, e, r, x, y, _⟩ := k; cases e; exact ⟨r.tracked, x, y⟩
  | io d => obtain ⟨b, e, r, x, y⟩ := k; cases e; exact ⟨r.tracked, x, y.1⟩
  | un => cases h3
  | val d => cases h3
  | bor d => cases h3
  | scr d => cases h3
  | exc n => cases h3
/-- an own object is frozen: the name holds data from now on -/
theorem StOk.freeze (S : StOk C G σ H ρ) {i : Nat} (e : ρ[i]? = some (.own d)) (hv : σ[i]? = some (some v)) :
    ∃ G', Same G G' ∧ StOk C G' σ H (ρ.set i (.val d)) ∧ Rp G' v d := by
  obtain ⟨a, e2, r, gn, bn, aa⟩ := S.get e hv
  cases e2
  obtain ⟨G', g1, g2, g3, g4⟩ := r.frozen gn
  have hi : i < ρ.length := (List.getElem?_eq_some_iff.mp e).1
  have dist : ∀ {j : Nat} {s : Sl} {b : Addr}, j ≠ i → ρ[j]? = some s → ownK s = true → σ[j]? = some (some (.ref b)) → b ≠ a := fun {j s b} hj q k hb z => by
    subst z
    exact hj (S.ds j i b ⟨hb, s, q, k⟩ ⟨hv, _, e, rfl⟩)
  have still : ∀ {b : Addr}, b ≠ a → G b = none → G' b = none := fun {b} hb hg => by
    cases q : G' b with
    | none => rfl
    | some u => exact ((g2 b (ne_none_of q)).elim (fun z => (z hg).elim) fun z => (hb z).elim)
  refine ⟨G', g1, ⟨?_, S.bh, S.g0.trans g1, S.fr, ?_, S.wf, ?_, ?_, ?_⟩, g4⟩
  · intro b u q
    exact (g3 b u q).elim (fun z => S.gh b u z) id
  · intro b q
    rcases g2 b q with z | z
    · exact S.ga b z
    · subst z; exact .inr aa
  · rw [List.length_set]; exact S.len
  · intro j s q
    by_cases hj : j = i
    · subst hj
      rw [List.getElem?_set_self hi] at q
      cases q
      exact ⟨_, hv, _, rfl, g4⟩
    · rw [List.getElem?_set_ne (fun z => hj z.symm)] at q
      obtain ⟨o, e1, k⟩ := S.sl j s q
      refine ⟨o, e1, ?_⟩
      cases s with
      | un => trivial
      | val d' => obtain ⟨w, e, r⟩ := k; exact ⟨w, e, r.mono g1⟩
      | own d' =>
        obtain ⟨b, e3, r, x, y, z⟩ := k
        subst e3
        exact ⟨b, rfl, r.mono g1 (Same.refl _), still (dist hj q rfl e1) x, y, z⟩
      | io d' =>
        obtain ⟨b, e3, r, x, y⟩ := k
        subst e3
        exact ⟨b, rfl, r.mono g1 (Same.refl _), still (dist hj q rfl e1) x, y⟩
      | bor d' => exact k
      | scr ns => exact k
      | exc n => obtain ⟨w, e, r⟩ := k; exact ⟨w, e, (g1 _ _ r)⟩
  · intro j k b hj hk
    have sub : ∀ {m : Nat}, Own σ (ρ.set i (.val d)) m b → Own σ ρ m b := fun {m} ⟨x, s, y, z⟩ => by
      by_cases hm : m = i
      · subst hm
        rw [List.getElem?_set_self hi] at y
        cases y; cases z
      · rw [List.getElem?_set_ne (fun z => hm z.symm)] at y
        exact ⟨x, s, y, z⟩
    exact S.ds j k b (sub hj) (sub hk)
/-- a new object of nobody is frozen -/
theorem StOk.freezeF (S : StOk C G σ H ρ) {a : Addr} (r : Sh G H (.ref a) d) (gn : G a = none) (aa : C.A a) (no : ∀ i, ¬ Own σ ρ i a) :
    ∃ G', Same G G' ∧ StOk C G' σ H ρ ∧ Rp G' (.ref a) d := by
  obtain ⟨G', g1, g2, g3, g4⟩ := r.frozen gn
  have still : ∀ {b : Addr}, b ≠ a → G b = none → G' b = none := fun {b} hb hg => by
    cases q : G' b with
    | none => rfl
    | some u => exact ((g2 b (ne_none_of q)).elim (fun z => (z hg).elim) fun z => (hb z).elim)
  refine ⟨G', g1, ⟨?_, S.bh, S.g0.trans g1, S.fr, ?_, S.wf, S.len, ?_, S.ds⟩, g4⟩
  · intro b u q
    exact (g3 b u q).elim (fun z => S.gh b u z) id
  · intro b q
    rcases g2 b q with z | z
    · exact S.ga b z
    · subst z; exact .inr aa
  · intro j s q
    obtain ⟨o, e1, k⟩ := S.sl j s q
    refine ⟨o, e1, ?_⟩
    have dist : ∀ {b : Addr}, ownK s = true → o = some (.ref b) → b ≠ a := fun {b} hk e z => by
      subst z; subst e
      exact no j ⟨e1, s, q, hk⟩
    cases s with
    | un => trivial
    | val d' => obtain ⟨w, e, r⟩ := k; exact ⟨w, e, r.mono g1⟩
    | own d' =>
      obtain ⟨b, e3, r, x, y, z⟩ := k
      exact ⟨b, e3, r.mono g1 (Same.refl _), still (dist rfl e3) x, y, z⟩
    | io d' =>
      obtain ⟨b, e3, r, x, y⟩ := k
      exact ⟨b, e3, r.mono g1 (Same.refl _), still (dist rfl e3) x, y⟩
    | bor d' => exact k
    | scr ns => exact k
    | exc n => obtain ⟨w, e, r⟩ := k; exact ⟨w, e, (g1 _ _ r)⟩
theorem mGet_ok (S : StOk C G σ H ρ) {i : Nat} (hv : σ[i]? = some (some v)) (e : mGet i ρ = .ok d ρ') : ∃ G', Same G G' ∧ StOk C G' σ H ρ' ∧ Rp G' v d := by
  unfold mGet at e
  cases q : ρ[i]? with
  | none => rw [q] at e; cases e
  | some s =>
    rw [q] at e
    cases s with
    | un => cases e
    | scr ns => cases e
    | exc n => cases e
    | io d' => cases e
    | val d' => cases e; obtain ⟨_, z, r⟩ := S.get q hv; cases z; exact ⟨G, Same.refl _, S, r⟩
    | own d' => cases e; exact S.freeze q hv
    | bor d' =>
      by_cases ha : atom d' = true
      · simp only [ha, if_true] at e
        cases e
        obtain ⟨_, z, p1, p2⟩ := S.get q hv
        cases z
        exact ⟨G, Same.refl _, S, (S.bor p1 p2).atom ha G⟩
      · simp only [ha, if_false] at e
        cases e
end
/-! ### expressions -/
section
variable {X : Cx} {e a b c : Expr} {es : List Expr} {pos : Pos} {f fa fb : M D} {g ga gb : M Pl} {k : M Rv}
theorem pp_name (i : Nat) {x : Str} (hN : X.N[i]? = some x := by rfl) (hv : Vis X.env.scope x := by first | exact Or.inl rfl | exact Or.inr (Or.inl rfl) | exact Or.inr (Or.inr rfl)) (hd : (x == ("__debug__" : Str)) = false := by decide)
    (hcd : (x == ("__classdict__" : Str)) = false := by decide) : PP X (.Name x pos) (mVar i) := by
  refine ⟨_, pe_var hN hv hd hcd, fun C G σ H ρ Q hK S d ρ' hf q => ?_⟩
  unfold mVar at hf
  cases r : ρ[i]? with
  | none => rw [r] at hf; cases hf
  | some s =>
    rw [r] at hf
    obtain ⟨o, e1, k⟩ := S.sl i s r
    cases s with
    | un => cases hf
    | val d' => cases hf; obtain ⟨v, rfl, rr⟩ := k; exact ⟨v, e1, q v G H (Same.refl _) S rr⟩
    | own d' => cases hf; obtain ⟨a, rfl, _⟩ := k; exact ⟨_, e1, q _ G H (Same.refl _) S e1⟩
    | io d' => cases hf; obtain ⟨a, rfl, _⟩ := k; exact ⟨_, e1, q _ G H (Same.refl _) S e1⟩
    | bor d' => cases hf; obtain ⟨v, rfl, _⟩ := k; exact ⟨_, e1, q _ G H (Same.refl _) S e1⟩
    | scr ns => cases hf; obtain ⟨v, rfl, _⟩ := k; exact ⟨_, e1, q _ G H (Same.refl _) S e1⟩
    | exc n => cases hf; obtain ⟨a, rfl, _⟩ := k; exact ⟨_, e1, q _ G H (Same.refl _) S e1⟩
theorem pv_const {v : V} {d : D} (h : PE X e (tC v)) (r : ∀ G, Rp G v d) : PV X e (mC d) := ⟨_, h, fun C G σ H ρ Q hK S d' ρ' hf q => by
  cases hf
  exact q v G H (Same.refl _) S (r G)⟩
theorem pv_int {i : Int} {j : Nat} : PV X (.Constant (.int i) j pos) (mC (.int i)) := pv_const pe_int fun _ => .int i
theorem pv_bl {b : Bool} {j : Nat} : PV X (.Constant (.bool b) j pos) (mC (.bool b)) := pv_const pe_bl fun _ => .bl b
theorem pv_non {j : Nat} : PV X (.Constant .none j pos) (mC .none) := pv_const pe_non fun _ => .non
theorem pv_str {x : String} {j : Nat} : PV X (.Constant (.str x) j pos) (mC (.str x)) := pv_const pe_str fun _ => .str x
theorem pp_of (h : PV X e f) : PP X e (mPl f) := by
  obtain ⟨t, ht, r⟩ := h
  refine ⟨t, ht, fun C G σ H ρ Q hK S d ρ' hf q => ?_⟩
  obtain ⟨d', ρ1, h1, h2⟩ := bnd_ok hf
  cases h2
  exact r C G σ H ρ Q hK S d' _ h1 q
theorem pf_of (h : PP X e g) : PF X e (mRv g) := by
  obtain ⟨t, ht, r⟩ := h
  refine ⟨t, ht, fun C G σ H ρ Q hK S d ρ' hf q => ?_⟩
  obtain ⟨d', ρ1, h1, h2⟩ := bnd_ok hf
  cases h2
  exact r C G σ H ρ Q hK S d' _ h1 q
theorem pv_of (h : PF X e k) : PV X e (mFz k) := by
  obtain ⟨t, ht, r⟩ := h
  refine ⟨t, ht, fun C G σ H ρ Q hK S d ρ' hf q => ?_⟩
  obtain ⟨d', ρ1, h1, h2⟩ := bnd_ok hf
  refine r C G σ H ρ Q hK S d' ρ1 h1 fun v G1 H1 g1 S1 o => ?_
  cases d' with
  | fr d2 =>
    cases h2
    obtain ⟨a, rfl, rr, gn, bn, aa, no⟩ := o
    obtain ⟨G2, g2, S2, r2⟩ := S1.freezeF rr gn aa no
    exact q _ G2 H1 (g1.trans g2) S2 r2
  | pl p =>
    cases p with
    | val d2 => cases h2; exact q v G1 H1 g1 S1 o
    | slot i =>
      obtain ⟨G2, g2, S2, r2⟩ := mGet_ok S1 (show σ[i]? = some (some v) from o) h2
      exact q _ G2 H1 (g1.trans g2) S2 r2
/-- an operation upon two things that are looked at -/
def POpV (r : R2) (g : D → D → Option D) : Prop := ∀ (G H : Hp) (x y : V) (d e z : D) (Q : VK), Same G H → Sh G H x d → Sh G H y e → g d e = some z → (∀ v G' H', Grow G H G' H' → Rp G' v z → Q v H') → r x y H Q
def POpF (r : R2) (g : D → D → Option D) : Prop := ∀ (G H : Hp) (x y : V) (d e z : D) (Q : VK), Same G H → Sh G H x d → Sh G H y e → g d e = some z → (∀ p H', H p = none → Grow G H G H' → Sh G H' (.ref p) z → Q (.ref p) H') → r x y H Q
theorem fresh_ok {C : Ctx} {G H H' : Hp} {σ : L2.St} {ρ : Env} {p : Addr} {z : D} (S : StOk C G σ H ρ) (hp : H p = none) (w : Grow G H G H') (s : Sh G H' (.ref p) z) : okR C G σ H' ρ (.ref p) (.fr z) :=
  ⟨p, rfl, s, S.gh.free hp, S.bh.free hp, S.fr p hp, fun i o => (Own.tracked S o).1 hp⟩
theorem rd_op {r : R2} {g' : D → D → Option D} {ta tb : TE} (hp : POpV r g') (ha : RdP X.K ta ga) (hb : RdP X.K tb gb) : RdV X.K (tOp r ta tb) (mOp g' ga gb) := by
  intro C G σ H ρ Q hK S d ρ' hf q
  obtain ⟨p, ρ1, h1, hf2⟩ := bnd_ok hf
  obtain ⟨p2, ρ2, h2, hf3⟩ := bnd_ok hf2
  refine ha C G σ H ρ _ hK S p ρ1 h1 fun v1 G1 H1 g1 S1 o1 => ?_
  refine hb C G1 σ H1 ρ1 _ hK S1 p2 ρ2 h2 fun v2 G2 H2 g2 S2 o2 => ?_
  obtain ⟨d1, ρ3, h3, hf4⟩ := bnd_ok hf3
  obtain ⟨s1, rfl⟩ := look_ok S2 (o1.mono g2) h3
  obtain ⟨d2, ρ4, h4, hf5⟩ := bnd_ok hf4
  obtain ⟨s2, rfl⟩ := look_ok S2 o2 h4
  obtain ⟨e, rfl⟩ := ofO_ok hf5
  exact hp G2 H2 v1 v2 d1 d2 d Q S2.gh s1 s2 e fun v G' H' w r => q v G' H' ((g1.trans g2).trans w.g) (S2.grow w) r
theorem rd_opF {r : R2} {g' : D → D → Option D} {ta tb : TE} (hp : POpF r g') (ha : RdP X.K ta ga) (hb : RdP X.K tb gb) : RdF X.K (tOp r ta tb) (mFr (mOp g' ga gb)) := by
  intro C G σ H ρ Q hK S d ρ' hf q
  obtain ⟨d', ρ0, hf0, h0⟩ := bnd_ok hf
  cases h0
  obtain ⟨p, ρ1, h1, hf2⟩ := bnd_ok hf0
  obtain ⟨p2, ρ2, h2, hf3⟩ := bnd_ok hf2
  refine ha C G σ H ρ _ hK S p ρ1 h1 fun v1 G1 H1 g1 S1 o1 => ?_
  refine hb C G1 σ H1 ρ1 _ hK S1 p2 ρ2 h2 fun v2 G2 H2 g2 S2 o2 => ?_
  obtain ⟨d1, ρ3, h3, hf4⟩ := bnd_ok hf3
  obtain ⟨s1, rfl⟩ := look_ok S2 (o1.mono g2) h3
  obtain ⟨d2, ρ4, h4, hf5⟩ := bnd_ok hf4
  obtain ⟨s2, rfl⟩ := look_ok S2 o2 h4
  obtain ⟨e, rfl⟩ := ofO_ok hf5
  exact hp G2 H2 v1 v2 d1 d2 d' Q S2.gh s1 s2 e fun p H' hn w s => q _ G2 H' (g1.trans g2) (S2.grow w) (fresh_ok S2 hn w s)
theorem pv_op {op : Operator} {r : R2} {g' : D → D → Option D} (ho : OpR X (binaryOp op) r) (hp : POpV r g') (ha : PP X a ga) (hb : PP X b gb) : PV X (.BinOp a op b pos) (mOp g' ga gb) := by
  obtain ⟨ta, ha, ra⟩ := ha
  obtain ⟨tb, hb, rb⟩ := hb
  exact ⟨_, pe_op ho ha hb, rd_op hp ra rb⟩
theorem pf_op {op : Operator} {r : R2} {g' : D → D → Option D} (ho : OpR X (binaryOp op) r) (hp : POpF r g') (ha : PP X a ga) (hb : PP X b gb) : PF X (.BinOp a op b pos) (mFr (mOp g' ga gb)) := by
  obtain ⟨ta, ha, ra⟩ := ha
  obtain ⟨tb, hb, rb⟩ := hb
  exact ⟨_, pe_op ho ha hb, rd_opF hp ra rb⟩
theorem pv_cmp {op : CmpOp} {r : R2} {g' : D → D → Option D} (ho : OpR X (compareOp op) r) (hp : POpV r g') (ha : PP X a ga) (hb : PP X b gb) (hm : behindInMarks op b = false) : PV X (.Compare a [op] [b] pos) (mOp g' ga gb) := by
  obtain ⟨ta, ha, ra⟩ := ha
  obtain ⟨tb, hb, rb⟩ := hb
  exact ⟨_, pe_cmpR ho ha hb hm, rd_op hp ra rb⟩
theorem rd_test {t : TE} (h : RdV X.K t f) : RdT X.K (tTest t) (mB f) := by
  intro C G σ H ρ Q hK S k ρ' hf q
  obtain ⟨d, ρ1, h1, hf⟩ := bnd_ok hf
  obtain ⟨e, rfl⟩ := ofO_ok hf
  refine h C G σ H ρ _ hK S d _ h1 fun v G' H' g S' r => ?_
  cases d with
  | bool b' => cases e; cases r; exact ⟨_, rfl, q G' H' g S'⟩
  | _ => cases e
theorem pt_cmp' {op : CmpOp} {r : R2} {g' : D → D → Option D} (ho : OpR X (compareOp op) r) (hp : POpV r g') (ha : PP X a ga) (hb : PP X b gb) (hm : behindInMarks op b = false) : PTt X (.Compare a [op] [b] pos) (mB (mOp g' ga gb)) := by
  obtain ⟨ta, ha, ra⟩ := ha
  obtain ⟨tb, hb, rb⟩ := hb
  exact ⟨_, pt_cmpR ho ha hb hm, rd_test (rd_op hp ra rb)⟩
theorem ptt_val (h : PV X e f) (he : ∀ whole, isTrue e X.env whole = (do let v ← whole; standAt e.pos; holding [v] (truthy v)) := by intro _; rfl) : PTt X e (mB f) := by
  obtain ⟨t, ht, r⟩ := h
  exact ⟨_, pt_val ht he, rd_test r⟩
theorem pt_of {gT : M Bool} (h : PWt X e gT) : PTt X e gT := let ⟨t, h, r⟩ := h; ⟨t, h.pt, r⟩
variable {ma mb : M Bool} {rest : List Expr}
theorem pwt_and1 (h : PTt X a ma) : PWt X (.BoolOp .And [a] pos) ma := let ⟨t, h, r⟩ := h; ⟨t, pw_and1 h, r⟩
theorem pwt_or1 (h : PTt X a ma) : PWt X (.BoolOp .Or [a] pos) ma := let ⟨t, h, r⟩ := h; ⟨t, pw_or1 h, r⟩
theorem pwt_and (h : PTt X a ma) (h2 : PWt X (.BoolOp .And (b :: rest) pos) mb) : PWt X (.BoolOp .And (a :: b :: rest) pos) (mAnd ma mb) := by
  obtain ⟨t, h, r⟩ := h
  obtain ⟨u, h2, r2⟩ := h2
  refine ⟨_, pw_and h h2, fun C G σ H ρ Q hK S k ρ' hf q => ?_⟩
  obtain ⟨k1, ρ1, h1, hf⟩ := bnd_ok hf
  refine r C G σ H ρ _ hK S k1 ρ1 h1 fun G1 H1 g1 S1 => ?_
  cases k1 with
  | true => exact r2 C G1 σ H1 ρ1 _ hK S1 k ρ' hf fun G2 H2 g2 S2 => q G2 H2 (g1.trans g2) S2
  | false => cases hf; exact q G1 H1 g1 S1
theorem pwt_or (h : PTt X a ma) (h2 : PWt X (.BoolOp .Or (b :: rest) pos) mb) : PWt X (.BoolOp .Or (a :: b :: rest) pos) (mOr ma mb) := by
  obtain ⟨t, h, r⟩ := h
  obtain ⟨u, h2, r2⟩ := h2
  refine ⟨_, pw_or h h2, fun C G σ H ρ Q hK S k ρ' hf q => ?_⟩
  obtain ⟨k1, ρ1, h1, hf⟩ := bnd_ok hf
  refine r C G σ H ρ _ hK S k1 ρ1 h1 fun G1 H1 g1 S1 => ?_
  cases k1 with
  | false => exact r2 C G1 σ H1 ρ1 _ hK S1 k ρ' hf fun G2 H2 g2 S2 => q G2 H2 (g1.trans g2) S2
  | true => cases hf; exact q G1 H1 g1 S1
theorem ptt_not (h : PTt X a ma) : PTt X (.UnaryOp .Not a pos) (mNot ma) := by
  obtain ⟨t, h, r⟩ := h
  refine ⟨_, pt_not h, fun C G σ H ρ Q hK S k ρ' hf q => ?_⟩
  obtain ⟨k1, ρ1, h1, hf⟩ := bnd_ok hf
  cases hf
  exact r C G σ H ρ _ hK S k1 _ h1 fun G1 H1 g1 S1 => q G1 H1 g1 S1
/-- and, or, not as values: all but the last one truths -/
theorem rdB {t : TE} (r : RdV X.K t f) {C : Ctx} {G : Hp} {σ : L2.St} {H : Hp} {ρ ρ1 : Env} {k : Bool} {Q : VK} (hK : C.K = X.K) (S : StOk C G σ H ρ) (h1 : mB f ρ = .ok k ρ1) (q : ∀ G' H', Same G G' → StOk C G' σ H' ρ1 → Q (.bl k) H') : t σ H Q := by
  obtain ⟨d, ρ2, h2, h3⟩ := bnd_ok h1
  obtain ⟨e, rfl⟩ := ofO_ok h3
  refine r C G σ H ρ _ hK S d _ h2 fun v G' H' g S' rr => ?_
  cases d with
  | bool b' => cases e; cases rr; exact q G' H' g S'
  | _ => cases e
theorem pv_one {op : BoolOp} (h : PV X a fa) : PV X (.BoolOp op [a] pos) fa := let ⟨t, h, r⟩ := h; ⟨t, pe_one h, r⟩
theorem pv_and (h : PV X a fa) (h2 : PV X (.BoolOp .And (b :: rest) pos) fb) : PV X (.BoolOp .And (a :: b :: rest) pos) (mAndV fa fb) := by
  obtain ⟨t, h, r⟩ := h
  obtain ⟨u, h2, r2⟩ := h2
  refine ⟨_, pe_and h h2, fun C G σ H ρ Q hK S d ρ' hf q => ?_⟩
  obtain ⟨k, ρ1, h1, hf⟩ := bnd_ok hf
  refine rdB r hK S h1 fun G1 H1 g1 S1 => ⟨k, rfl, ?_⟩
  cases k with
  | true => rw [if_pos rfl]; exact r2 C G1 σ H1 ρ1 _ hK S1 d ρ' hf fun v G2 H2 g2 S2 => q v G2 H2 (g1.trans g2) S2
  | false => cases hf; rw [if_neg Bool.false_ne_true]; exact q _ G1 H1 g1 S1 (.bl _)
theorem pv_or (h : PV X a fa) (h2 : PV X (.BoolOp .Or (b :: rest) pos) fb) : PV X (.BoolOp .Or (a :: b :: rest) pos) (mOrV fa fb) := by
  obtain ⟨t, h, r⟩ := h
  obtain ⟨u, h2, r2⟩ := h2
  refine ⟨_, pe_or h h2, fun C G σ H ρ Q hK S d ρ' hf q => ?_⟩
  obtain ⟨k, ρ1, h1, hf⟩ := bnd_ok hf
  refine rdB r hK S h1 fun G1 H1 g1 S1 => ⟨k, rfl, ?_⟩
  cases k with
  | false => rw [if_neg Bool.false_ne_true]; exact r2 C G1 σ H1 ρ1 _ hK S1 d ρ' hf fun v G2 H2 g2 S2 => q v G2 H2 (g1.trans g2) S2
  | true => cases hf; rw [if_pos rfl]; exact q _ G1 H1 g1 S1 (.bl _)
theorem pv_not (h : PV X a fa) : PV X (.UnaryOp .Not a pos) (mNotV fa) := by
  obtain ⟨t, h, r⟩ := h
  refine ⟨_, pe_not h, fun C G σ H ρ Q hK S d ρ' hf q => ?_⟩
  obtain ⟨k, ρ1, h1, hf⟩ := bnd_ok hf
  cases hf
  exact rdB r hK S h1 fun G1 H1 g1 S1 => ⟨_, rfl, q _ G1 H1 g1 S1 (.bl _)⟩
theorem pv_if (hc : PTt X c ma) (ha : PV X a fa) (hb : PV X b fb) : PV X (.IfExp c a b pos) (mIf ma fa fb) := by
  obtain ⟨t, hc, rc⟩ := hc
  obtain ⟨u, ha, ra⟩ := ha
  obtain ⟨w, hb, rb⟩ := hb
  refine ⟨_, pe_ifExp hc ha hb, fun C G σ H ρ Q hK S d ρ' hf q => ?_⟩
  obtain ⟨k, ρ1, h1, hf⟩ := bnd_ok hf
  refine rc C G σ H ρ _ hK S k ρ1 h1 fun G1 H1 g1 S1 => ?_
  cases k with
  | true => rw [if_pos rfl]; exact ra C G1 σ H1 ρ1 _ hK S1 d ρ' hf fun v G2 H2 g2 S2 => q v G2 H2 (g1.trans g2) S2
  | false => rw [if_neg Bool.false_ne_true]; exact rb C G1 σ H1 ρ1 _ hK S1 d ρ' hf fun v G2 H2 g2 S2 => q v G2 H2 (g1.trans g2) S2
/-! ### lists of expressions, displays -/
theorem pvs_nil : PVs X [] mNil := ⟨_, pa_nil, fun C G σ H ρ Q hK S d ρ' hf q => by cases hf; exact q [] G H (Same.refl _) S .nil⟩
theorem pvs_cons {fs : M (List D)} (h : PV X e f) (hr : PVs X es fs) (hs : starEach (e :: es) X.env = (false, eval e X.env) :: starEach es X.env := by rfl) : PVs X (e :: es) (mCons f fs) := by
  obtain ⟨t, h, r⟩ := h
  obtain ⟨u, hr, rr⟩ := hr
  refine ⟨_, pa_cons h hr hs, fun C G σ H ρ Q hK S ds ρ' hf q => ?_⟩
  obtain ⟨d, ρ1, h1, hf⟩ := bnd_ok hf
  obtain ⟨ds', ρ2, h2, hf⟩ := bnd_ok hf
  cases hf
  refine r C G σ H ρ _ hK S d ρ1 h1 fun v G1 H1 g1 S1 o1 => ?_
  exact rr C G1 σ H1 ρ1 _ hK S1 ds' _ h2 fun vs G2 H2 g2 S2 o2 => q _ G2 H2 (g1.trans g2) S2 (.cons (o1.mono g2) o2)
theorem pps_nil' : PPs X [] mNil := ⟨_, pa_nil, fun C G σ H ρ Q hK S d ρ' hf q => by cases hf; exact q [] G H (Same.refl _) S .nil⟩
theorem pps_cons' {fs : M (List Pl)} (h : PP X e g) (hr : PPs X es fs) (hs : starEach (e :: es) X.env = (false, eval e X.env) :: starEach es X.env := by rfl) : PPs X (e :: es) (mCons g fs) := by
  obtain ⟨t, h, r⟩ := h
  obtain ⟨u, hr, rr⟩ := hr
  refine ⟨_, pa_cons h hr hs, fun C G σ H ρ Q hK S ds ρ' hf q => ?_⟩
  obtain ⟨d, ρ1, h1, hf⟩ := bnd_ok hf
  obtain ⟨ds', ρ2, h2, hf⟩ := bnd_ok hf
  cases hf
  refine r C G σ H ρ _ hK S d ρ1 h1 fun v G1 H1 g1 S1 o1 => ?_
  exact rr C G1 σ H1 ρ1 _ hK S1 ds' _ h2 fun vs G2 H2 g2 S2 o2 => q _ G2 H2 (g1.trans g2) S2 (.cons (o1.mono g2) o2)
theorem line_of {n : Nat} (h : n ≤ 100000) : n ≤ sizeLine := Nat.le_trans h (by decide)
theorem pv_tup {x1} {fs : M (List D)} (h : PVs X es fs) : PV X (.Tuple es x1 pos) (mTup fs) := by
  obtain ⟨t, h, r⟩ := h
  refine ⟨_, pe_tup h, fun C G σ H ρ Q hK S d ρ' hf q => ?_⟩
  obtain ⟨ds, ρ1, h1, hf⟩ := bnd_ok hf
  by_cases hl : ds.length ≤ 100000
  · rw [if_pos hl] at hf
    cases hf
    refine r C G σ H ρ _ hK S ds _ h1 fun vs G1 H1 g1 S1 o1 => ⟨by rw [o1.length]; exact line_of hl, fun p hp => ?_⟩
    have w : Grow G1 H1 (upd G1 p (.tup vs)) (upd H1 p (.tup vs)) := Grow.new S1.gh hp
    exact q _ _ _ (g1.trans w.g) (S1.grow w) (.tup upd_same (o1.mono w.g))
  · rw [if_neg hl] at hf
    cases hf
theorem pf_lst {fs : M (List D)} (h : PVs X es fs) : PF X (.List es pos) (mLst fs) := by
  obtain ⟨t, h, r⟩ := h
  refine ⟨_, pe_lst h, fun C G σ H ρ Q hK S d ρ' hf q => ?_⟩
  obtain ⟨ds, ρ1, h1, hf⟩ := bnd_ok hf
  by_cases hl : ds.length ≤ 100000
  · rw [if_pos hl] at hf
    cases hf
    refine r C G σ H ρ _ hK S ds _ h1 fun vs G1 H1 g1 S1 o1 => ⟨by rw [o1.length]; exact line_of hl, fun p hp => ?_⟩
    have w : Grow G1 H1 G1 (upd H1 p (.lst vs)) := Grow.newF S1.gh hp
    exact q _ _ _ g1 (S1.grow w) (fresh_ok S1 hp w (.lst upd_same o1))
  · rw [if_neg hl] at hf
    cases hf
/-! ### built-ins by values -/
inductive ShA (G H : Hp) : List V → List D → Prop
  | nil : ShA G H [] []
  | cons {v : V} {vs : List V} {d : D} {ds : List D} : Sh G H v d → ShA G H vs ds → ShA G H (v :: vs) (d :: ds)
theorem lookAll_ok {C : Ctx} {G H : Hp} {σ : L2.St} {ρ : Env} (S : StOk C G σ H ρ) : ∀ {vs : List V} {ps : List Pl} {ds : List D} {ρ' : Env}, okPs G σ vs ps → lookAll ps ρ = .ok ds ρ' → ShA G H vs ds ∧ ρ' = ρ
  | _, _, _, _, .nil, e => by cases e; exact ⟨.nil, rfl⟩
  | _, _, _, _, .cons h r, e => by
    obtain ⟨d, ρ1, h1, e⟩ := bnd_ok e
    obtain ⟨ds', ρ2, h2, e⟩ := bnd_ok e
    cases e
    obtain ⟨s1, rfl⟩ := look_ok S h h1
    obtain ⟨s2, rfl⟩ := lookAll_ok S r h2
    exact ⟨.cons s1 s2, rfl⟩
def PClV (r : List V → Hp → VK → Prop) (g : List D → Option D) : Prop := ∀ (G H : Hp) (vs : List V) (ds : List D) (z : D) (Q : VK), Same G H → ShA G H vs ds → g ds = some z → (∀ v G' H', Grow G H G' H' → Rp G' v z → Q v H') → r vs H Q
def PClF (r : List V → Hp → VK → Prop) (g : List D → Option D) : Prop := ∀ (G H : Hp) (vs : List V) (ds : List D) (z : D) (Q : VK), Same G H → ShA G H vs ds → g ds = some z → (∀ p H', H p = none → Grow G H G H' → Sh G H' (.ref p) z → Q (.ref p) H') → r vs H Q
theorem rd_cl {r : List V → Hp → VK → Prop} {g' : List D → Option D} {t : TA} {fs : M (List Pl)} (hp : PClV r g') (ha : RdPs X.K t fs) : RdV X.K (tCB r t) (mN g' fs) := by
  intro C G σ H ρ Q hK S d ρ' hf q
  obtain ⟨ps, ρ1, h1, hf2⟩ := bnd_ok hf
  refine ha C G σ H ρ _ hK S ps ρ1 h1 fun vs G1 H1 g1 S1 o1 => ?_
  obtain ⟨ds, ρ2, h2, hf3⟩ := bnd_ok hf2
  obtain ⟨s, rfl⟩ := lookAll_ok S1 o1 h2
  obtain ⟨e, rfl⟩ := ofO_ok hf3
  exact hp G1 H1 vs ds d Q S1.gh s e fun v G' H' w rr => q v G' H' (g1.trans w.g) (S1.grow w) rr
theorem rd_clF {r : List V → Hp → VK → Prop} {g' : List D → Option D} {t : TA} {fs : M (List Pl)} (hp : PClF r g') (ha : RdPs X.K t fs) : RdF X.K (tCB r t) (mFr (mN g' fs)) := by
  intro C G σ H ρ Q hK S d ρ' hf q
  obtain ⟨d', ρ0, hf0, h0⟩ := bnd_ok hf
  cases h0
  obtain ⟨ps, ρ1, h1, hf2⟩ := bnd_ok hf0
  refine ha C G σ H ρ _ hK S ps ρ1 h1 fun vs G1 H1 g1 S1 o1 => ?_
  obtain ⟨ds, ρ2, h2, hf3⟩ := bnd_ok hf2
  obtain ⟨s, rfl⟩ := lookAll_ok S1 o1 h2
  obtain ⟨e, rfl⟩ := ofO_ok hf3
  exact hp G1 H1 vs ds d' Q S1.gh s e fun p H' hn w rr => q _ G1 H' g1 (S1.grow w) (fresh_ok S1 hn w rr)
end
end PL
namespace PL
open PySem PySem.Spec L2
variable [Kap]
inductive Fl where
  | nx | rt (r : Rv) | bk | ct
def endAt (D : Ends) (C : Ctx) (G : Hp) (σ : L2.St) (H : Hp) (ρ : Env) : Fl → Prop
  | .nx => D.nx σ H
  | .bk => D.bk σ H
  | .ct => D.ct σ H
  | .rt r => ∀ v, okR C G σ H ρ v r → D.rt v H
def RdS (K : PySem.W.Frag) (t : TS) (f : M Fl) : Prop := ∀ (C : Ctx) (G : Hp) (σ : L2.St) (H : Hp) (ρ : Env) (D : Ends), C.K = K → StOk C G σ H ρ → ∀ (fl : Fl) (ρ' : Env), f ρ = .ok fl ρ' →
  (∀ (σ' : L2.St) (G' H' : Hp), Same G G' → StOk C G' σ' H' ρ' → endAt D C G' σ' H' ρ' fl) → t D σ H
def RdG (K : PySem.W.Frag) (g : TG) (ts : List Nat) (m : D → M Unit) : Prop := ∀ (C : Ctx) (G : Hp) (σ : L2.St) (H : Hp) (ρ : Env) (v : V) (d : D) (Q : L2.St → Hp → Prop), C.K = K → StOk C G σ H ρ → Rp G v d → ∀ (ρ' : Env), m d ρ = .ok () ρ' →
  (∀ (σ' : L2.St), StOk C G σ' H ρ' → (∀ vs, (∀ i ∈ ts, i ∈ vs) → wipe σ' vs = wipe σ vs) → Q σ' H) → g v σ H Q
def RdGs (K : PySem.W.Frag) (g : TGs) (ts : List Nat) (m : List D → M Unit) : Prop := ∀ (C : Ctx) (G : Hp) (σ : L2.St) (H : Hp) (ρ : Env) (vs : List V) (ds : List D) (Q : L2.St → Hp → Prop), C.K = K → StOk C G σ H ρ → RpA G vs ds → ∀ (ρ' : Env), m ds ρ = .ok () ρ' →
  (∀ (σ' : L2.St), StOk C G σ' H ρ' → (∀ vs, (∀ i ∈ ts, i ∈ vs) → wipe σ' vs = wipe σ vs) → Q σ' H) → g vs σ H Q
structure JOk (J : It) (B G1 : Hp) (ds : List D) : Prop where
  go : ∀ (i : Nat) (G H : Hp), Same B H → Same G1 G → Same G H → i < ds.length → J.go i H
  yld : ∀ (i : Nat) (G H : Hp) (x : V) (H' : Hp) (d : D), Same B H → Same G1 G → Same G H → ds[i]? = some d → J.yld i H x H' → ∃ G', Grow G H G' H' ∧ Rp G' x d
  stop : ∀ (G H : Hp), Same B H → Same G1 G → Same G H → J.stop ds.length H
def RdI (K : PySem.W.Frag) (wi : TI) (f : M (List D)) : Prop := ∀ (C : Ctx) (G : Hp) (σ : L2.St) (H : Hp) (ρ : Env) (R : It → Hp → Prop), C.K = K → StOk C G σ H ρ → ∀ (ds : List D) (ρ' : Env), f ρ = .ok ds ρ' →
  (∀ (J : It) (G' H' : Hp), Same G G' → StOk C G' σ H' ρ' → JOk J C.B G' ds → R J H') → wi σ H R
def PSt (X : Cx) (st : Stmt) (f : M Fl) : Prop := ∃ t, PS X st t ∧ RdS X.K t f
def PSts (X : Cx) (st : List Stmt) (f : M Fl) : Prop := ∃ t, PSs X st t ∧ RdS X.K t f
def PGt (X : Cx) (e : Expr) (ts : List Nat) (m : D → M Unit) : Prop := ∃ g, PG X e g ∧ RdG X.K g ts m
def PGts (X : Cx) (es : List Expr) (ts : List Nat) (m : List D → M Unit) : Prop := ∃ g, PGs X es g ∧ RdGs X.K g ts m
def PIt (X : Cx) (tg e : Expr) (f : M (List D)) : Prop := ∃ wi, PI X tg e wi ∧ RdI X.K wi f
/-! ### the mirror's statements -/
def setS (i : Nat) (s : Sl) : M Unit := fun ρ => if i < ρ.length then .ok () (ρ.set i s) else .stuck
def mSet (i : Nat) (f : M Rv) : M Fl := bnd f fun r => match r with
  | .fr d => bnd (setS i (.own d)) fun _ => ret .nx
  | .pl (.val d) => bnd (setS i (.val d)) fun _ => ret .nx
  | .pl (.slot j) => bnd (mGet j) fun d => bnd (setS i (.val d)) fun _ => ret .nx
def mSeq (a b : M Fl) : M Fl := bnd a fun fl => match fl with
  | .nx => b
  | fl => ret fl
def mSkip : M Fl := ret .nx
def mRet (f : M Rv) : M Fl := bnd f fun r => ret (.rt r)
def mRetN : M Fl := ret (.rt (.pl (.val .none)))
def mDrop {α : Type} (f : M α) : M Fl := bnd f fun _ => ret .nx
def mBrk : M Fl := ret .bk
def mCnt : M Fl := ret .ct
def mNever {α : Type} : M α := fun _ => .stuck
def tName (i : Nat) : D → M Unit := fun d => setS i (.val d)
def tsNil : List D → M Unit
  | [] => ret ()
  | _ => fun _ => .stuck
def tsCons (t : D → M Unit) (u : List D → M Unit) : List D → M Unit
  | d :: ds => bnd (t d) fun _ => u ds
  | _ => fun _ => .stuck
def tTupl (u : List D → M Unit) : D → M Unit
  | .tuple ds => u ds
  | _ => fun _ => .stuck
def mAsg (t : D → M Unit) (f : M D) : M Fl := bnd f fun d => bnd (t d) fun _ => ret .nx
def forGo (t : D → M Unit) (b : M Fl) : List D → M Fl
  | [] => ret .nx
  | d :: ds => bnd (t d) fun _ => bnd b fun fl => match fl with
    | .nx => forGo t b ds
    | .ct => forGo t b ds
    | .bk => ret .nx
    | .rt r => ret (.rt r)
def mFor (f : M (List D)) (t : D → M Unit) (b : M Fl) : M Fl := bnd f fun ds => forGo t b ds
def whGo (c : M Bool) (b : M Fl) : Nat → M Fl
  | 0 => fun _ => .stuck
  | n + 1 => bnd c fun k => if k = true then bnd b fun fl => match fl with
    | .nx => whGo c b n
    | .ct => whGo c b n
    | .bk => ret .nx
    | .rt r => ret (.rt r)
    else ret .nx
def mWhile (n : Env → Nat) (c : M Bool) (b : M Fl) : M Fl := fun ρ => whGo c b (n ρ) ρ
section
variable {C : Ctx} {G H : Hp} {σ : L2.St} {ρ ρ' : Env} {v : V} {p : Pl} {d : D}
theorem setS_ok {i : Nat} {s : Sl} {u : Unit} (h : setS i s ρ = .ok u ρ') : i < ρ.length ∧ ρ' = ρ.set i s := by
  unfold setS at h
  by_cases q : i < ρ.length
  · rw [if_pos q] at h; cases h; exact ⟨q, rfl⟩
  · rw [if_neg q] at h; cases h
/-- a name is given a thing -/
theorem StOk.put (S : StOk C G σ H ρ) {i : Nat} {s : Sl} (hi : i < ρ.length) (h : SlOk C G H i (some v) s) (ho : ownK s = true → ∀ (j : Nat) (a : Addr), v = .ref a → ¬ Own σ ρ j a) : StOk C G (σ.set i (some v)) H (ρ.set i s) := by
  have hs : i < σ.length := by rw [S.len]; exact hi
  have sub : ∀ {m : Nat} {b : Addr}, m ≠ i → Own (σ.set i (some v)) (ρ.set i s) m b → Own σ ρ m b := fun {m b} hm ⟨x, s', y, z⟩ => by
    rw [List.getElem?_set_ne (fun z => hm z.symm)] at x y
    exact ⟨x, s', y, z⟩
  have self : ∀ {b : Addr}, Own (σ.set i (some v)) (ρ.set i s) i b → v = .ref b ∧ ownK s = true := fun {b} ⟨x, s', y, z⟩ => by
    rw [List.getElem?_set_self hs] at x
    rw [List.getElem?_set_self hi] at y
    cases y
    exact ⟨Option.some.inj (Option.some.inj x), z⟩
  refine ⟨S.gh, S.bh, S.g0, S.fr, S.ga, S.wf, by rw [List.length_set, List.length_set]; exact S.len, fun j s' q => ?_, fun j k b hj hk => ?_⟩
  · by_cases hj : j = i
    · subst hj
      rw [List.getElem?_set_self hi] at q
      cases q
      exact ⟨some v, List.getElem?_set_self hs, h⟩
    · rw [List.getElem?_set_ne (fun z => hj z.symm)] at q ⊢
      exact S.sl j s' q
  · by_cases h1 : j = i
    · by_cases h2 : k = i
      · rw [h1, h2]
      · subst h1
        obtain ⟨e, z⟩ := self hj
        exact absurd (sub h2 hk) (ho z k b e)
    · by_cases h2 : k = i
      · subst h2
        obtain ⟨e, z⟩ := self hk
        exact absurd (sub h1 hj) (ho z j b e)
      · exact S.ds j k b (sub h1 hj) (sub h2 hk)
theorem StOk.putV (S : StOk C G σ H ρ) {i : Nat} (hi : i < ρ.length) (h : Rp G v d) : StOk C G (σ.set i (some v)) H (ρ.set i (.val d)) :=
  S.put hi ⟨v, rfl, h⟩ fun z => nomatch z
/-- an own object is changed in place -/
theorem StOk.mut (S : StOk C G σ H ρ) {i : Nat} {a : Addr} {o : HO} {s s' : Sl} (e : ρ[i]? = some s) (k : ownK s = true) (hv : σ[i]? = some (some (.ref a)))
    (h : (∃ d, s = .own d ∧ ∃ d', s' = .own d' ∧ Sh G (upd H a o) (.ref a) d') ∨ ∃ d, s = .io d ∧ ∃ d', s' = .io d' ∧ Sh G (upd H a o) (.ref a) d') : StOk C G σ (upd H a o) (ρ.set i s') := by
  have hi : i < ρ.length := (List.getElem?_eq_some_iff.mp e).1
  have own0 : Own σ ρ i a := ⟨hv, s, e, k⟩
  obtain ⟨tr, ga, ba⟩ := Own.tracked S own0
  have k' : ownK s' = true := by
    rcases h with ⟨_, _, _, rfl, _⟩ | ⟨_, _, _, rfl, _⟩ <;> rfl
  have nb : ∀ {b : Addr} {u : HO}, G b = some u → b ≠ a := fun {b u} q z => by subst z; rw [ga] at q; cases q
  have nbB : ∀ {b : Addr} {u : HO}, C.B b = some u → b ≠ a := fun {b u} q z => by subst z; rw [ba] at q; cases q
  have sub : ∀ {m : Nat} {b : Addr}, Own σ (ρ.set i s') m b → Own σ ρ m b := fun {m b} ⟨x, s2, y, z⟩ => by
    by_cases hm : m = i
    · subst hm
      exact ⟨x, s, e, k⟩
    · rw [List.getElem?_set_ne (fun z => hm z.symm)] at y
      exact ⟨x, s2, y, z⟩
  refine ⟨fun b u q => ?_, fun b u q => ?_, S.g0, fun b q => ?_, S.ga, S.wf, by rw [List.length_set]; exact S.len, fun j s2 q => ?_, fun j k b hj hk => S.ds j k b (sub hj) (sub hk)⟩
  · rw [upd_ne (nb q)]; exact S.gh b u q
  · rw [upd_ne (nbB q)]; exact S.bh b u q
  · by_cases hb : b = a
    · subst hb; rw [upd_same] at q; cases q
    · rw [upd_ne hb] at q; exact S.fr b q
  · by_cases hj : j = i
    · subst hj
      rw [List.getElem?_set_self hi] at q
      cases q
      obtain ⟨oo, e1, q1⟩ := S.sl j s e
      rw [hv] at e1
      cases e1
      refine ⟨_, hv, ?_⟩
      rcases h with ⟨d, rfl, d', rfl, sh⟩ | ⟨d, rfl, d', rfl, sh⟩
      · obtain ⟨b, e3, _, x, y, z⟩ := q1
        cases e3
        exact ⟨_, rfl, sh, x, y, z⟩
      · obtain ⟨b, e3, _, x, y⟩ := q1
        cases e3
        exact ⟨_, rfl, sh, x, y⟩
    · rw [List.getElem?_set_ne (fun z => hj z.symm)] at q
      obtain ⟨oo, e1, q1⟩ := S.sl j s2 q
      refine ⟨oo, e1, ?_⟩
      have far : ∀ {b : Addr}, oo = some (.ref b) → ownK s2 = true → b ≠ a := fun {b} e2 k2 z => by
        subst z; subst e2
        exact hj (S.ds j i _ ⟨e1, s2, q, k2⟩ own0)
      cases s2 with
      | un => trivial
      | val d' => exact q1
      | own d' =>
        obtain ⟨b, e3, r, x, y, z⟩ := q1
        refine ⟨b, e3, r.at (Same.refl _) fun c ec u hu => ?_, x, y, z⟩
        cases ec
        rw [upd_ne (far e3 rfl)]; exact hu
      | io d' =>
        obtain ⟨b, e3, r, x, y⟩ := q1
        refine ⟨b, e3, r.at (Same.refl _) fun c ec u hu => ?_, x, y⟩
        cases ec
        rw [upd_ne (far e3 rfl)]; exact hu
      | bor d' => exact q1
      | scr ns => exact q1
      | exc n => exact q1
end
/-! ### statements -/
section
variable {X : Cx} {e a b c : Expr} {es : List Expr} {pos pos' : Pos} {f fa fb : M D} {g ga gb : M Pl} {k : M Rv} {st : Stmt} {sts us : List Stmt} {m m1 m2 : M Fl} {x : Str}
theorem psts_nil : PSts X [] mSkip := ⟨_, pss_nil, fun C G σ H ρ D hK S fl ρ' hf q => by cases hf; exact q σ G H (Same.refl _) S⟩
theorem psts_one (h : PSt X st m) : PSts X [st] m := let ⟨t, h, r⟩ := h; ⟨t, pss_one h, r⟩
theorem psts_cons (h : PSt X st m1) (h2 : PSts X sts m2) : PSts X (st :: sts) (mSeq m1 m2) := by
  obtain ⟨t, h, r⟩ := h
  obtain ⟨u, h2, r2⟩ := h2
  refine ⟨_, pss_cons h h2, fun C G σ H ρ D hK S fl ρ' hf q => ?_⟩
  obtain ⟨f1, ρ1, h1, hf2⟩ := bnd_ok hf
  refine r C G σ H ρ _ hK S f1 ρ1 h1 fun σ1 G1 H1 g1 S1 => ?_
  cases f1 with
  | nx => exact r2 C G1 σ1 H1 ρ1 D hK S1 fl ρ' hf2 fun σ2 G2 H2 g2 S2 => q σ2 G2 H2 (g1.trans g2) S2
  | rt w => cases hf2; exact q σ1 G1 H1 g1 S1
  | bk => cases hf2; exact q σ1 G1 H1 g1 S1
  | ct => cases hf2; exact q σ1 G1 H1 g1 S1
theorem pst_pass : PSt X (.Pass pos) mSkip := ⟨_, ps_pass, fun C G σ H ρ D hK S fl ρ' hf q => by cases hf; exact q σ G H (Same.refl _) S⟩
theorem pst_break : PSt X (.Break pos) mBrk := ⟨_, ps_break, fun C G σ H ρ D hK S fl ρ' hf q => by cases hf; exact q σ G H (Same.refl _) S⟩
theorem pst_continue : PSt X (.Continue pos) mCnt := ⟨_, ps_continue, fun C G σ H ρ D hK S fl ρ' hf q => by cases hf; exact q σ G H (Same.refl _) S⟩
theorem pst_never : PSt X st mNever := ⟨_, ps_never, fun C G σ H ρ D hK S fl ρ' hf q => by cases hf⟩
theorem pst_ret (h : PF X e k) : PSt X (.Return (some e) pos) (mRet k) := by
  obtain ⟨t, h, r⟩ := h
  refine ⟨_, ps_ret h, fun C G σ H ρ D hK S fl ρ' hf q => ?_⟩
  obtain ⟨w, ρ1, h1, hf2⟩ := bnd_ok hf
  cases hf2
  exact r C G σ H ρ _ hK S w _ h1 fun v G1 H1 g1 S1 o => q σ G1 H1 g1 S1 v o
theorem pst_retN : PSt X (.Return none pos) mRetN := ⟨_, ps_retN, fun C G σ H ρ D hK S fl ρ' hf q => by
  cases hf
  exact q σ G H (Same.refl _) S .non .non⟩
theorem pst_drop (h : PV X e f) (hs : swapsWith e none pos.line X.env = pure false := by rfl) : PSt X (.Expr e pos) (mDrop f) := by
  obtain ⟨t, h, r⟩ := h
  refine ⟨_, ps_expr h hs, fun C G σ H ρ D hK S fl ρ' hf q => ?_⟩
  obtain ⟨w, ρ1, h1, hf2⟩ := bnd_ok hf
  cases hf2
  exact r C G σ H ρ _ hK S w _ h1 fun v G1 H1 g1 S1 o => q σ G1 H1 g1 S1
theorem pst_if (hc : PTt X c mc) (ha : PSts X sts m1) (hb : PSts X us m2) : PSt X (.If c sts us pos) (mIf mc m1 m2) := by
  obtain ⟨t, hc, rc⟩ := hc
  obtain ⟨u, ha, ra⟩ := ha
  obtain ⟨w, hb, rb⟩ := hb
  refine ⟨_, ps_if hc ha hb, fun C G σ H ρ D hK S fl ρ' hf q => ?_⟩
  obtain ⟨k, ρ1, h1, hf2⟩ := bnd_ok hf
  refine rc C G σ H ρ _ hK S k ρ1 h1 fun G1 H1 g1 S1 => ?_
  cases k with
  | true => rw [if_pos rfl]; exact ra C G1 σ H1 ρ1 D hK S1 fl ρ' hf2 fun σ2 G2 H2 g2 S2 => q σ2 G2 H2 (g1.trans g2) S2
  | false => rw [if_neg Bool.false_ne_true]; exact rb C G1 σ H1 ρ1 D hK S1 fl ρ' hf2 fun σ2 G2 H2 g2 S2 => q σ2 G2 H2 (g1.trans g2) S2
/-- x = e -/
theorem rd_set {t : TE} {i : Nat} (r : RdF X.K t k) : RdS X.K (tAsg t (gName i)) (mSet i k) := by
  intro C G σ H ρ D hK S fl ρ' hf q
  obtain ⟨w, ρ1, h1, hf2⟩ := bnd_ok hf
  refine r C G σ H ρ _ hK S w ρ1 h1 fun v G1 H1 g1 S1 o => ?_
  show D.nx (σ.set i (some v)) H1
  cases w with
  | fr d =>
    obtain ⟨u, ρ2, h2, hf3⟩ := bnd_ok hf2
    cases hf3
    obtain ⟨hi, rfl⟩ := setS_ok h2
    obtain ⟨a, rfl, sh, x, y, z, no⟩ := o
    exact q _ G1 H1 g1 (S1.put hi ⟨a, rfl, sh, x, y, z⟩ fun _ j b eb ow => by cases eb; exact no j ow)
  | pl p =>
    cases p with
    | val d =>
      obtain ⟨u, ρ2, h2, hf3⟩ := bnd_ok hf2
      cases hf3
      obtain ⟨hi, rfl⟩ := setS_ok h2
      exact q _ G1 H1 g1 (S1.putV hi o)
    | slot j =>
      obtain ⟨d, ρ2, h2, hf3⟩ := bnd_ok hf2
      obtain ⟨u, ρ3, h3, hf4⟩ := bnd_ok hf3
      cases hf4
      obtain ⟨hi, rfl⟩ := setS_ok h3
      obtain ⟨G2, g2, S2, r2⟩ := mGet_ok S1 (show σ[j]? = some (some v) from o) h2
      exact q _ G2 H1 (g1.trans g2) (S2.putV hi r2)
theorem pst_set {i : Nat} (hN : X.N.Nodup) (h : PF X e k) (hi : X.N[i]? = some x := by rfl) (hx : Loc X.env.scope x := by first | exact Or.inl rfl | exact Or.inr rfl) (hs : swapsWith e (some (.Name x pos')) pos.line X.env = pure false := by rfl)
    (hf : X.fn x = true ∨ X.env.scope.names.lookup x = some .local := by first | exact .inl rfl | exact .inr rfl | assumption) : PSt X (.Assign [.Name x pos'] e pos) (mSet i k) := by
  obtain ⟨t, h, r⟩ := h
  exact ⟨_, ps_set hN hi hx h hs hf, rd_set r⟩
/-! ### targets -/
theorem wipe_set {i : Nat} {o : Option V} : ∀ {vs : List Nat} {σ : L2.St}, i ∈ vs → wipe (σ.set i o) vs = wipe σ vs
  | [], _, h => by cases h
  | v :: vs, σ, h => by
    show (wipe (σ.set i o) vs).set v none = (wipe σ vs).set v none
    by_cases hv : i ∈ vs
    · rw [wipe_set hv]
    · have e : i = v := by
        cases h with
        | head => rfl
        | tail _ h => exact absurd h hv
      subst e
      have k : ∀ {ws : List Nat} {τ : L2.St}, i ∉ ws → wipe (τ.set i o) ws = (wipe τ ws).set i o := by
        intro ws
        induction ws with
        | nil => intro τ _; rfl
        | cons w ws ih =>
          intro τ hn
          show (wipe (τ.set i o) ws).set w none = ((wipe τ ws).set w none).set i o
          rw [ih (fun z => hn (List.mem_cons_of_mem _ z)), List.set_comm _ _ (fun z => hn (by rw [z]; exact List.mem_cons_self))]
      rw [k hv, List.set_set]
theorem pgt_name {i : Nat} (hN : X.N.Nodup) (hi : X.N[i]? = some x := by rfl) (hx : Loc X.env.scope x := by first | exact Or.inl rfl | exact Or.inr rfl) (hf : X.fn x = true ∨ X.env.scope.names.lookup x = some .local := by first | exact .inl rfl | exact .inr rfl | assumption) : PGt X (.Name x pos) [i] (tName i) :=
  ⟨_, pg_name hN hi hx hf, fun C G σ H ρ v d Q hK S rr ρ' hm q => by
    obtain ⟨hi, rfl⟩ := setS_ok hm
    exact q _ (S.putV hi rr) fun vs hv => wipe_set (hv i List.mem_cons_self)⟩
theorem pgts_nil : PGts X [] [] tsNil := ⟨_, pgs_nil, fun C G σ H ρ vs ds Q hK S rr ρ' hm q => by
  cases rr with
  | nil => cases hm; exact ⟨rfl, q σ S fun _ _ => rfl⟩
  | cons => cases hm⟩
theorem pgts_cons {t : D → M Unit} {u : List D → M Unit} {ts us : List Nat} (h : PGt X e ts t) (h2 : PGts X es us u) (hs : (assignEach (e :: es) X.env).map (·.2) = assign e X.env :: (assignEach es X.env).map (·.2) := by rfl) : PGts X (e :: es) (ts ++ us) (tsCons t u) := by
  obtain ⟨g, h, r⟩ := h
  obtain ⟨g2, h2, r2⟩ := h2
  refine ⟨_, pgs_cons h h2 hs, fun C G σ H ρ vs ds Q hK S rr ρ' hm q => ?_⟩
  cases rr with
  | nil => cases hm
  | @cons v vs d ds hv hr =>
    obtain ⟨uu, ρ1, h1, hm2⟩ := bnd_ok hm
    exact ⟨v, vs, rfl, r C G σ H ρ v d _ hK S hv ρ1 h1 fun σ1 S1 w1 => r2 C G σ1 H ρ1 vs ds Q hK S1 hr ρ' hm2 fun σ2 S2 w2 => q σ2 S2 fun ws hw => (w2 ws fun i hi => hw i (List.mem_append_right _ hi)).trans (w1 ws fun i hi => hw i (List.mem_append_left _ hi))⟩
end
end PL
namespace PL
open PySem PySem.Spec L2
variable [Kap]
def isOwn (j : Nat) : M Unit := fun ρ => match ρ[j]? with
  | some (.own _) => .ok () ρ
  | some (.io _) => .ok () ρ
  | _ => .stuck
def setAt (j : Nat) (d k : D) : M Fl := fun ρ => match ρ[j]? with
  | some (.own (.list ds)) => match k with
    | .int n => match ixN ds.length n with
      | some i => .ok .nx (ρ.set j (.own (.list (ds.set i d))))
      | none => .stuck
    | _ => .stuck
  | some (.io (.list ds)) => match k with
    | .int n => match ixN ds.length n with
      | some i => .ok .nx (ρ.set j (.io (.list (ds.set i d))))
      | none => .stuck
    | _ => .stuck
  | _ => .stuck
def mSetIx (j : Nat) (fe fi : M D) : M Fl := bnd fe fun d => bnd (isOwn j) fun _ => bnd fi fun k => setAt j d k
theorem isOwn_ok {C : Ctx} {G H : Hp} {σ : L2.St} {ρ ρ' : Env} {j : Nat} {u : Unit} (S : StOk C G σ H ρ) (h : isOwn j ρ = .ok u ρ') : ∃ a, σ[j]? = some (some (.ref a)) ∧ ρ' = ρ := by
  unfold isOwn at h
  cases q : ρ[j]? with
  | none => rw [q] at h; cases h
  | some s =>
    rw [q] at h
    obtain ⟨o, e1, q1⟩ := S.sl j s q
    cases s with
    | own d => cases h; obtain ⟨a, rfl, _⟩ := q1; exact ⟨a, e1, rfl⟩
    | io d => cases h; obtain ⟨a, rfl, _⟩ := q1; exact ⟨a, e1, rfl⟩
    | _ => cases h
theorem setAt_ok {j : Nat} {d : D} {n : Int} {ρ ρ' : Env} {fl : Fl} (h : setAt j d (.int n) ρ = .ok fl ρ') : ∃ s ds i, ρ[j]? = some s ∧ ((s = .own (.list ds) ∧ ρ' = ρ.set j (.own (.list (ds.set i d)))) ∨ (s = .io (.list ds) ∧ ρ' = ρ.set j (.io (.list (ds.set i d))))) ∧ ixN ds.length n = some i ∧ fl = .nx ∧ True := by
  unfold setAt at h
  cases q : ρ[j]? with
  | none => rw [q] at h; cases h
  | some s =>
    rw [q] at h
    cases s with
    | own d' =>
      cases d' with
      | list ds =>
        simp only at h
        cases r : ixN ds.length n with
        | none => rw [r] at h; cases h
        | some i => rw [r] at h; cases h; exact ⟨_, ds, i, rfl, .inl ⟨rfl, rfl⟩, r, rfl, trivial⟩
      | _ => cases h
    | io d' =>
      cases d' with
      | list ds =>
        simp only at h
        cases r : ixN ds.length n with
        | none => rw [r] at h; cases h
        | some i => rw [r] at h; cases h; exact ⟨_, ds, i, rfl, .inr ⟨rfl, rfl⟩, r, rfl, trivial⟩
      | _ => cases h
    | _ => cases h
theorem setAt_int {j : Nat} {d k : D} {ρ ρ' : Env} {fl : Fl} (h : setAt j d k ρ = .ok fl ρ') (hk : ∀ n, k ≠ .int n := by intro n z; cases z) : False := by
  unfold setAt at h
  cases q : ρ[j]? with
  | none => rw [q] at h; cases h
  | some s =>
    rw [q] at h
    cases s with
    | own d' =>
      cases d' with
      | list ds => cases k with
        | int n => exact hk n rfl
        | _ => cases h
      | _ => cases h
    | io d' =>
      cases d' with
      | list ds => cases k with
        | int n => exact hk n rfl
        | _ => cases h
      | _ => cases h
    | _ => cases h
/-- a method that changes the list at a name -/
def mutAt (j : Nat) (g : List D → List D → Option (List D × D)) (as : List D) : M D := fun ρ => match ρ[j]? with
  | some (.own (.list ds)) => match g ds as with
    | some nr => .ok nr.2 (ρ.set j (.own (.list nr.1)))
    | none => .stuck
  | some (.io (.list ds)) => match g ds as with
    | some nr => .ok nr.2 (ρ.set j (.io (.list nr.1)))
    | none => .stuck
  | _ => .stuck
def isOwnL (j : Nat) : M Unit := fun ρ => match ρ[j]? with
  | some (.own (.list _)) => .ok () ρ
  | some (.io (.list _)) => .ok () ρ
  | _ => .stuck
def mMut (j : Nat) (g : List D → List D → Option (List D × D)) (fs : M (List D)) : M D := bnd (isOwnL j) fun _ => bnd fs fun as => mutAt j g as
theorem isOwnL_ok {C : Ctx} {G H : Hp} {σ : L2.St} {ρ ρ' : Env} {j : Nat} {u : Unit} (S : StOk C G σ H ρ) (h : isOwnL j ρ = .ok u ρ') : ∃ a xs, σ[j]? = some (some (.ref a)) ∧ H a = some (.lst xs) ∧ ρ' = ρ := by
  unfold isOwnL at h
  cases q : ρ[j]? with
  | none => rw [q] at h; cases h
  | some s =>
    rw [q] at h
    obtain ⟨o, e1, q1⟩ := S.sl j s q
    cases s with
    | own d => cases d with
      | list ds => cases h; obtain ⟨a, rfl, sh, _⟩ := q1; cases sh with
        | lst hh r => exact ⟨a, _, e1, hh, rfl⟩
      | _ => cases h
    | io d => cases d with
      | list ds => cases h; obtain ⟨a, rfl, sh, _⟩ := q1; cases sh with
        | lst hh r => exact ⟨a, _, e1, hh, rfl⟩
      | _ => cases h
    | _ => cases h
theorem mutAt_ok {j : Nat} {g : List D → List D → Option (List D × D)} {as : List D} {ρ ρ' : Env} {z : D} (h : mutAt j g as ρ = .ok z ρ') : ∃ s ds new, ρ[j]? = some s ∧ g ds as = some (new, z) ∧ ((s = .own (.list ds) ∧ ρ' = ρ.set j (.own (.list new))) ∨ (s = .io (.list ds) ∧ ρ' = ρ.set j (.io (.list new)))) := by
  unfold mutAt at h
  cases q : ρ[j]? with
  | none => rw [q] at h; cases h
  | some s =>
    rw [q] at h
    cases s with
    | own d' =>
      cases d' with
      | list ds =>
        simp only at h
        cases r : g ds as with
        | none => rw [r] at h; cases h
        | some nr => rw [r] at h; cases h; exact ⟨_, ds, nr.1, rfl, r, .inl ⟨rfl, rfl⟩⟩
      | _ => cases h
    | io d' =>
      cases d' with
      | list ds =>
        simp only at h
        cases r : g ds as with
        | none => rw [r] at h; cases h
        | some nr => rw [r] at h; cases h; exact ⟨_, ds, nr.1, rfl, r, .inr ⟨rfl, rfl⟩⟩
      | _ => cases h
    | _ => cases h
def mAug (i : Nat) (g : D → D → Option D) (fb : M Pl) : M Fl := bnd (mVar i) fun p => bnd fb fun q => bnd (look p) fun d => bnd (look q) fun e => bnd (ofO (g d e)) fun z => bnd (setS i (.val z)) fun _ => ret .nx
/-- while a loop goes over the list at j, it is but borrowed -/
def mLend (j : Nat) (f : M Fl) : M Fl := fun ρ => match ρ[j]? with
  | some (.own d) => match f (ρ.set j (.bor d)) with
    | .ok fl ρ' => match ρ'[j]? with
      | some (.bor d') => match fl with
        | .rt (.pl (.slot i)) => if i = j then .stuck else .ok fl (ρ'.set j (.own d))
        | fl => .ok fl (ρ'.set j (.own d))
      | _ => .stuck
    | .stuck => .stuck
  | _ => f ρ
section
variable {X : Cx} {e a b c tg : Expr} {es : List Expr} {pos pos' tpos : Pos} {f fa fb : M D} {g ga gb : M Pl} {k : M Rv} {st : Stmt} {sts us : List Stmt} {m m1 m2 : M Fl} {x : Str}
theorem pgt_tup {n : Nat} {kk : Nat} {u : List D → M Unit} {ts : List Nat} (hc : X.calm = true) (h : PGts X es ts u) (hn : (assignEach es X.env).length = n := by rfl) (hl : ∀ ds ρ ρ', u ds ρ = .ok () ρ' → ds.length = n)
    (hst : (assignEach es X.env).findIdx? (·.1) = none := by rfl) : PGt X (.Tuple es kk pos) ts (tTupl u) := by
  obtain ⟨g, h, r⟩ := h
  refine ⟨_, pg_tup hc h hn hst, fun C G σ H ρ v d Q hK S rr ρ' hm q => ?_⟩
  cases rr with
  | @tup a xs ds ha hr => exact ⟨a, xs, rfl, Or.inl (Or.inl (S.gh _ _ ha)), by rw [hr.length]; exact hl ds ρ ρ' hm, r C G σ H ρ xs ds Q hK S hr ρ' hm q⟩
  | _ => cases hm
theorem pst_asg {t : D → M Unit} {ts : List Nat} (h : PV X e f) (ht : PGt X tg ts t) (hs : swapsWithSole [tg] e pos.line X.env = pure false := by rfl) (hw : swappedStores [tg] e X.env = pure none := by rfl) (h1 : (assignEach [tg] X.env).map (·.2) = [assign tg X.env] := by rfl) : PSt X (.Assign [tg] e pos) (mAsg t f) := by
  obtain ⟨te, h, r⟩ := h
  obtain ⟨g, hg, rg⟩ := ht
  refine ⟨_, ps_asg h hg hs hw h1, fun C G σ H ρ D hK S fl ρ' hf q => ?_⟩
  obtain ⟨d, ρ1, h1, hf2⟩ := bnd_ok hf
  obtain ⟨uu, ρ2, h2, hf3⟩ := bnd_ok hf2
  cases hf3
  refine r C G σ H ρ _ hK S d ρ1 h1 fun v G1 H1 g1 S1 o => ?_
  exact rg C G1 σ H1 ρ1 v d _ hK S1 o _ h2 fun σ2 S2 _ => q σ2 G1 H1 g1 S2
/-! ### for -/
theorem forGo_rd {wi : TI} {gt : TG} {tb : TS} {fi : M (List D)} {t : D → M Unit} {ts : List Nat} {mb : M Fl} (hi : RdI X.K wi fi) (hg : RdG X.K gt ts t) (hb : RdS X.K tb mb) : RdS X.K (tFor wi gt tb) (mFor fi t mb) := by
  intro C G σ H ρ D hK S fl ρ' hf q
  obtain ⟨ds, ρ1, h1, hf2⟩ := bnd_ok hf
  refine hi C G σ H ρ _ hK S ds ρ1 h1 fun J G1 H1 g1 S1 JJ => ?_
  refine ⟨fun i mm σ2 H2 => i + mm = ds.length ∧ ∃ G2 ρ2, Same G1 G2 ∧ StOk C G2 σ2 H2 ρ2 ∧ forGo t mb (ds.drop i) ρ2 = .ok fl ρ', ⟨ds.length, by omega, G1, ρ1, Same.refl _, S1, by simpa using hf2⟩, fun i mm σ2 H2 ⟨hm, G2, ρ2, g2, S2, h2⟩ => ?_⟩
  by_cases hlt : i < ds.length
  · refine .inr ⟨JJ.go i G2 H2 S2.bh g2 S2.gh hlt, fun σ3 H3 => ∃ G3 ρ3, Same G1 G3 ∧ StOk C G3 σ3 H3 ρ3 ∧ forGo t mb (ds.drop (i + 1)) ρ3 = .ok fl ρ', fun σ3 H3 ⟨G3, ρ3, g3, S3, h3⟩ => ⟨mm - 1, by omega, by omega, G3, ρ3, g3, S3, h3⟩, fun y H3 hy => ?_⟩
    have ed : ds[i]? = some ds[i] := List.getElem?_eq_getElem hlt
    obtain ⟨G3, w, ry⟩ := JJ.yld i G2 H2 y H3 _ S2.bh g2 S2.gh ed hy
    have S3 := S2.grow w
    rw [List.drop_eq_getElem_cons hlt] at h2
    obtain ⟨uu, ρ3, h3, h4⟩ := bnd_ok h2
    obtain ⟨f1, ρ4, h5, h6⟩ := bnd_ok h4
    refine hg C G3 σ2 H3 ρ2 y _ _ hK S3 ry ρ3 h3 fun σ4 S4 _ => ?_
    refine hb C G3 σ4 H3 ρ3 _ hK S4 f1 ρ4 h5 fun σ5 G5 H5 g5 S5 => ?_
    have gg : Same G1 G5 := (g2.trans w.g).trans g5
    cases f1 with
    | nx => exact ⟨G5, ρ4, gg, S5, h6⟩
    | ct => exact ⟨G5, ρ4, gg, S5, h6⟩
    | bk => cases h6; exact q σ5 G5 H5 (g1.trans gg) S5
    | rt r => cases h6; exact q σ5 G5 H5 (g1.trans gg) S5
  · have hi : i = ds.length := by omega
    rw [List.drop_eq_nil_of_le (by omega)] at h2
    cases h2
    refine .inl ⟨?_, q σ2 G2 H2 (g1.trans g2) S2⟩
    rw [hi]
    exact JJ.stop G2 H2 S2.bh g2 S2.gh
theorem pst_for {fi : M (List D)} {t : D → M Unit} {ts : List Nat} (hp : PassesOwn (model X.prog X.w) X.A X.env X.xe) (hc : X.calm = true) (hi : PIt X tg e fi) (hg : PGt X tg ts t) (hb : PSts X sts m)
    (hs : ∀ x, foldedSetIterable e X.env x = pure x := by intro _; rfl) : PSt X (.For tg e sts [] pos) (mFor fi t m) := by
  obtain ⟨wi, hi, ri⟩ := hi
  obtain ⟨gt, hg, rg⟩ := hg
  obtain ⟨tb, hb, rb⟩ := hb
  exact ⟨_, ps_for hp hc hi hg hb hs, forGo_rd ri rg rb⟩
/-! ### while -/
theorem pst_while {mc : M Bool} (n : Env → Nat) (hp : PassesOwn (model X.prog X.w) X.A X.env X.xe) (hc : PTt X c mc) (hb : PSts X sts m) : PSt X (.While c sts [] pos) (mWhile n mc m) := by
  obtain ⟨tc, hc, rc⟩ := hc
  obtain ⟨tb, hb, rb⟩ := hb
  refine ⟨_, ps_while hp hc hb, fun C G σ H ρ D hK S fl ρ' hf q => ?_⟩
  refine ⟨fun mm σ2 H2 => ∃ G2 ρ2, Same G G2 ∧ StOk C G2 σ2 H2 ρ2 ∧ whGo mc m mm ρ2 = .ok fl ρ', ⟨n ρ, G, ρ, Same.refl _, S, hf⟩, fun mm σ2 H2 ⟨G2, ρ2, g2, S2, h2⟩ => ?_⟩
  cases mm with
  | zero => cases h2
  | succ mm =>
    obtain ⟨kk, ρ3, h3, h4⟩ := bnd_ok h2
    refine rc C G2 σ2 H2 ρ2 _ hK S2 kk ρ3 h3 fun G3 H3 g3 S3 => ?_
    cases kk with
    | false =>
      rw [if_neg Bool.false_ne_true]
      cases h4
      exact q σ2 G3 H3 (g2.trans g3) S3
    | true =>
      rw [if_pos rfl]
      refine ⟨fun σ5 H5 => ∃ G5 ρ5, Same G G5 ∧ StOk C G5 σ5 H5 ρ5 ∧ whGo mc m mm ρ5 = .ok fl ρ', fun σ5 H5 z => ⟨mm, by omega, z⟩, ?_⟩
      obtain ⟨f1, ρ4, h5, h6⟩ := bnd_ok h4
      refine rb C G3 σ2 H3 ρ3 _ hK S3 f1 ρ4 h5 fun σ5 G5 H5 g5 S5 => ?_
      have gg : Same G G5 := (g2.trans g3).trans g5
      cases f1 with
      | nx => exact ⟨G5, ρ4, gg, S5, h6⟩
      | ct => exact ⟨G5, ρ4, gg, S5, h6⟩
      | bk => cases h6; exact q σ5 G5 H5 gg S5
      | rt r => cases h6; exact q σ5 G5 H5 gg S5
/-! ### lists changed in place -/
theorem pst_setix {j : Nat} (he : PV X e f) (hi : PV X b fb) (hN : X.N[j]? = some x := by rfl) (hv : Vis X.env.scope x := by first | exact Or.inl rfl | exact Or.inr (Or.inl rfl) | exact Or.inr (Or.inr rfl)) (hd : (x == ("__debug__" : Str)) = false := by decide)
    (hcd : (x == ("__classdict__" : Str)) = false := by decide) (ha : ∀ v, assign (.Subscript (.Name x pos') b tpos) X.env v = (do
      let ov ← holding [v] (eval (.Name x pos') X.env)
      let iv ← holding [v, ov] (eval b X.env)
      standAt tpos
      holding [v, ov, iv] (setItem ov iv v)
      release [v, ov, iv] []) := by intro _; rfl) (hs : swapsWithSole [.Subscript (.Name x pos') b tpos] e pos.line X.env = pure false := by rfl) (hw : swappedStores [.Subscript (.Name x pos') b tpos] e X.env = pure none := by rfl) :
    PSt X (.Assign [.Subscript (.Name x pos') b tpos] e pos) (mSetIx j f fb) := by
  obtain ⟨te, he, re⟩ := he
  obtain ⟨ti, hi, ri⟩ := hi
  refine ⟨_, ps_asg he (pg_sub (pe_var hN hv hd hcd) hi set_list ha) hs hw, fun C G σ H ρ D hK S fl ρ' hf q => ?_⟩
  obtain ⟨d, ρ1, h1, hf2⟩ := bnd_ok hf
  obtain ⟨_, ρ0, h0, hf3⟩ := bnd_ok hf2
  obtain ⟨kd, ρ2, h2, hf4⟩ := bnd_ok hf3
  refine re C G σ H ρ _ hK S d ρ1 h1 fun v G1 H1 g1 S1 o1 => ?_
  obtain ⟨a, ea, rfl⟩ := isOwn_ok S1 h0
  refine ⟨.ref a, ea, ?_⟩
  refine ri C G1 σ H1 _ _ hK S1 kd ρ2 h2 fun v2 G2 H2 g2 S2 o2 => ?_
  cases o2 with
  | int n =>
    obtain ⟨s, ds, i, es, hsd, hix, hfl, hρ⟩ := setAt_ok hf4
    cases hfl
    obtain ⟨o, e1, q1⟩ := S2.sl j s es
    rw [ea] at e1
    cases e1
    have fin : ∀ xs, H2 a = some (.lst xs) → RpA G2 xs ds → rSetL (.ref a) (.int n) v H2 (fun H3 => D.nx σ H3) := fun xs hx hr => by
      refine ⟨a, xs, n, i, rfl, rfl, hx, by rw [hr.length]; exact hix, ?_⟩
      have sh : Sh G2 (upd H2 a (.lst (xs.set i v))) (.ref a) (.list (ds.set i d)) := .lst upd_same (hr.set (o1.mono g2) i)
      rcases hsd with ⟨rfl, rfl⟩ | ⟨rfl, rfl⟩
      · exact q σ G2 _ (g1.trans g2) (S2.mut es rfl ea (.inl ⟨_, rfl, _, rfl, sh⟩))
      · exact q σ G2 _ (g1.trans g2) (S2.mut es rfl ea (.inr ⟨_, rfl, _, rfl, sh⟩))
    rcases hsd with ⟨rfl, _⟩ | ⟨rfl, _⟩
    · obtain ⟨b, eb, sh, _⟩ := q1
      cases eb
      cases sh with
      | lst h r => exact fin _ h r
    · obtain ⟨b, eb, sh, _⟩ := q1
      cases eb
      cases sh with
      | lst h r => exact fin _ h r
  | _ => exact (setAt_int hf4).elim
/-- a method that changes a list -/
def PMut (r : V → List V → Hp → VK → Prop) (g : List D → List D → Option (List D × D)) : Prop := ∀ (G H : Hp) (l : Addr) (vs : List V) (ds : List D) (as : List V) (ads : List D) (new : List D) (z : D) (Q : VK),
  Same G H → H l = some (.lst vs) → RpA G vs ds → RpA G as ads → g ds ads = some (new, z) → (∀ v ws, RpA G ws new → Rp G v z → Q v (upd H l (.lst ws))) → r (.ref l) as H Q
theorem rd_mut {r : V → List V → Hp → VK → Prop} {g' : List D → List D → Option (List D × D)} {t : TA} {fs : M (List D)} {j : Nat} (hp : PMut r g') (ha : RdA X.K t fs) : RdV X.K (tBM X.K "list" r (tVar j) t) (mMut j g' fs) := by
  intro C G σ H ρ Q hK S z ρ' hf q
  obtain ⟨_, ρ0, h0, hf2⟩ := bnd_ok hf
  obtain ⟨ads, ρ1, h1, hf3⟩ := bnd_ok hf2
  obtain ⟨a, xs0, ea, hx0, rfl⟩ := isOwnL_ok S h0
  refine ⟨.ref a, ea, Or.inl ⟨rfl, xs0, Or.inl (Or.inl hx0)⟩, ?_⟩
  refine ha C G σ H _ _ hK S ads ρ1 h1 fun as G1 H1 g1 S1 o1 => ?_
  obtain ⟨s, ds, new, es, hg, hsd⟩ := mutAt_ok hf3
  obtain ⟨o, e1, q1⟩ := S1.sl j s es
  rw [ea] at e1
  cases e1
  have fin : ∀ xs, H1 a = some (.lst xs) → RpA G1 xs ds → r (.ref a) as H1 Q := fun xs hx hr => by
    refine hp G1 H1 a xs ds as ads new z Q S1.gh hx hr o1 hg fun v ws rw1 rz => ?_
    have sh : Sh G1 (upd H1 a (.lst ws)) (.ref a) (.list new) := .lst upd_same rw1
    rcases hsd with ⟨rfl, rfl⟩ | ⟨rfl, rfl⟩
    · exact q v G1 _ g1 (S1.mut es rfl ea (.inl ⟨_, rfl, _, rfl, sh⟩)) rz
    · exact q v G1 _ g1 (S1.mut es rfl ea (.inr ⟨_, rfl, _, rfl, sh⟩)) rz
  rcases hsd with ⟨rfl, _⟩ | ⟨rfl, _⟩
  · obtain ⟨b, eb, sh, _⟩ := q1
    cases eb
    cases sh with
    | lst h r => exact fin _ h r
  · obtain ⟨b, eb, sh, _⟩ := q1
    cases eb
    cases sh with
    | lst h r => exact fin _ h r
/-- x op= e -/
theorem pst_aug {op : Operator} {ti : TIp} {i : Nat} {g' : D → D → Option D} (ho : PIp X op ti) (hp : POpV ti g') (hN : X.N.Nodup) (h : PP X e g) (hi : X.N[i]? = some x := by rfl) (hx : Loc X.env.scope x := by first | exact Or.inl rfl | exact Or.inr rfl)
    (hf : X.fn x = true ∨ X.env.scope.names.lookup x = some .local := by first | exact .inl rfl | exact .inr rfl | assumption) : PSt X (.AugAssign (.Name x pos') op e pos) (mAug i g' g) := by
  obtain ⟨te, h, r⟩ := h
  refine ⟨_, ps_aug hN hi hx h ho hf, fun C G σ H ρ D hK S fl ρ' hf q => ?_⟩
  obtain ⟨p, ρ1, h1, hf2⟩ := bnd_ok hf
  obtain ⟨p2, ρ2, h2, hf3⟩ := bnd_ok hf2
  have hv : ∃ v, σ[i]? = some (some v) ∧ okP G σ v p ∧ ρ1 = ρ := by
    unfold mVar at h1
    cases rr : ρ[i]? with
    | none => rw [rr] at h1; cases h1
    | some s =>
      rw [rr] at h1
      obtain ⟨o, e1, kk⟩ := S.sl i s rr
      cases s with
      | un => cases h1
      | val d' => cases h1; obtain ⟨v, rfl, rx⟩ := kk; exact ⟨v, e1, rx, rfl⟩
      | own d' => cases h1; obtain ⟨a, rfl, _⟩ := kk; exact ⟨_, e1, e1, rfl⟩
      | io d' => cases h1; obtain ⟨a, rfl, _⟩ := kk; exact ⟨_, e1, e1, rfl⟩
      | bor d' => cases h1; obtain ⟨v, rfl, _⟩ := kk; exact ⟨_, e1, e1, rfl⟩
      | scr ns => cases h1; obtain ⟨v, rfl, _⟩ := kk; exact ⟨_, e1, e1, rfl⟩
      | exc n => cases h1; obtain ⟨a, rfl, _⟩ := kk; exact ⟨_, e1, e1, rfl⟩
  obtain ⟨v, ev, o1, rfl⟩ := hv
  refine ⟨v, ev, ?_⟩
  refine r C G σ H _ _ hK S p2 ρ2 h2 fun v2 G2 H2 g2 S2 o2 => ?_
  obtain ⟨d1, ρ3, h3, hf4⟩ := bnd_ok hf3
  obtain ⟨s1, rfl⟩ := look_ok S2 (o1.mono g2) h3
  obtain ⟨d2, ρ4, h4, hf5⟩ := bnd_ok hf4
  obtain ⟨s2, rfl⟩ := look_ok S2 o2 h4
  obtain ⟨z, ρ5, h5, hf6⟩ := bnd_ok hf5
  obtain ⟨ez, rfl⟩ := ofO_ok h5
  obtain ⟨uu, ρ6, h6, hf7⟩ := bnd_ok hf6
  cases hf7
  obtain ⟨hi', rfl⟩ := setS_ok h6
  exact hp G2 H2 v v2 d1 d2 z _ S2.gh s1 s2 ez fun v3 G3 H3 w rz => q _ G3 H3 (g2.trans w.g) ((S2.grow w).putV hi' rz)
end
end PL
namespace PL
open PySem PySem.Spec L2 RT RZ
variable [Kap]
/-! ### what is gone through -/
def itemsD : D → Option (Bool × List D)
  | .list ds => some (false, ds)
  | .tuple ds => some (true, ds)
  | _ => none
def seqAt (p : Pl) : M (Bool × List D) := fun ρ => match p with
  | .val d => match itemsD d with
    | some ds => .ok ds ρ
    | none => .stuck
  | .slot i => match ρ[i]? with
    | some (.bor d) => match itemsD d with
      | some ds => .ok ds ρ
      | none => .stuck
    | some (.scr ns) => .ok (false, ns.map PyData.int) ρ
    | _ => .stuck
def mIter (f : M Pl) : M (List D) := bnd f fun p => bnd (seqAt p) fun ds => ret ds.2
def mRev (f : M (List D)) : M (List D) := bnd f fun ds => ret ds.reverse
def mEnum (f : M (List D)) : M (List D) := bnd f fun ds => ret (ds.zipIdx.map fun (d, i) => .tuple [.int (i : Int), d])
def mZip (f g : M Pl) : M (List D) := bnd f fun p => bnd g fun q => bnd (seqAt p) fun ds => bnd (seqAt q) fun es => if (ds.1 == es.1) = true then ret ((ds.2.zip es.2).map fun (d, e) => .tuple [d, e]) else fun _ => .stuck
def rngD (lo hi : Int) : List D := (List.range (hi - lo).toNat).map fun (i : Nat) => .int (lo + (i : Int))
def small62 (i : Int) : Bool := decide (-(2 ^ 62) ≤ i) && decide (i < 2 ^ 62)
def mRng1 (f : M D) : M (List D) := bnd f fun d => fun ρ => match d with
  | .int n => if small62 n = true then .ok (rngD 0 n) ρ else .stuck
  | _ => .stuck
def mRng2 (f g : M D) : M (List D) := bnd f fun d => bnd g fun e => fun ρ => match d, e with
  | .int a, .int b => if (small62 a && small62 b) = true then .ok (rngD a b) ρ else .stuck
  | _, _ => .stuck
/-- a list or a tuple that stays through all that the state lets be -/
def SeqS (K : PySem.W.Frag) (B G1 : Hp) (v : V) (ds : Bool × List D) : Prop :=
  ∃ a xs, v = .ref a ∧ RpA G1 xs ds.2 ∧ ((ds.1 = false ∧ ∀ G H, Same B H → Same G1 G → Same G H → SqL K H a xs) ∨ (ds.1 = true ∧ ∀ G H, Same B H → Same G1 G → Same G H → SqT K H a xs))
theorem sqT_seq {K : PySem.W.Frag} {H H' : Hp} {a : Addr} {xs : List V} (e : Same H H') (h : SqT K H a xs) : SqT K H' a xs := by
  rcases h with (h | ⟨o, h⟩) | h
  · exact .inl (.inl (e _ _ h))
  · exact .inl (.inr ⟨o, e _ _ h⟩)
  · exact .inr h
theorem seqAt_ok {C : Ctx} {G H : Hp} {σ : L2.St} {ρ ρ' : Env} {v : V} {p : Pl} {ds : Bool × List D} (S : StOk C G σ H ρ) (o : okP G σ v p) (h : seqAt p ρ = .ok ds ρ') : SeqS C.K C.B G v ds ∧ ρ' = ρ := by
  unfold seqAt at h
  cases p with
  | val d =>
    simp only at h
    cases q : itemsD d with
    | none => rw [q] at h; cases h
    | some es =>
      rw [q] at h
      cases h
      refine ⟨?_, rfl⟩
      have o' : Rp G v d := o
      cases o' with
      | lst ha r => cases q; exact ⟨_, _, rfl, r, .inl ⟨rfl, fun G2 H2 _ g gh => .inl (.inl (gh _ _ (g _ _ ha)))⟩⟩
      | tup ha r => cases q; exact ⟨_, _, rfl, r, .inr ⟨rfl, fun G2 H2 _ g gh => .inl (.inl (gh _ _ (g _ _ ha)))⟩⟩
      | _ => cases q
  | slot i =>
    simp only at h
    have hv : σ[i]? = some (some v) := o
    cases r : ρ[i]? with
    | none => rw [r] at h; cases h
    | some s =>
      rw [r] at h
      cases s with
      | bor d =>
        simp only at h
        cases q : itemsD d with
        | none => rw [q] at h; cases h
        | some es =>
          rw [q] at h
          cases h
          refine ⟨?_, rfl⟩
          obtain ⟨_, z, p1, p2⟩ := S.get r hv
          cases z
          have w := S.wf i v p1
          rw [p2] at w
          have w' : Sh C.G0 C.B v d := w
          cases w' with
          | lst ha rr => cases q; exact ⟨_, _, rfl, rr.mono S.g0, .inl ⟨rfl, fun G2 H2 b g gh => .inl (.inl (b _ _ ha))⟩⟩
          | tup ha rr => cases q; exact ⟨_, _, rfl, rr.mono S.g0, .inr ⟨rfl, fun G2 H2 b g gh => .inl (.inl (b _ _ ha))⟩⟩
          | _ => cases q
      | scr ns =>
        cases h
        refine ⟨?_, rfl⟩
        obtain ⟨_, z, p1, p2⟩ := S.get r hv
        cases z
        have w := S.wf i v p1
        rw [p2] at w
        obtain ⟨a, e, sq⟩ := w
        exact ⟨a, _, e, RpA.ints ns, .inl ⟨rfl, fun G2 H2 b g gh => Same.seq b sq⟩⟩
      | _ => cases h
theorem SeqS.mono {K : PySem.W.Frag} {B G1 G2 : Hp} {v : V} {ds : Bool × List D} (e : Same G1 G2) (h : SeqS K B G1 v ds) : SeqS K B G2 v ds := by
  obtain ⟨a, xs, ev, r, q⟩ := h
  exact ⟨a, xs, ev, r.mono e, q.elim (fun z => .inl ⟨z.1, fun G H b g gh => z.2 G H b (e.trans g) gh⟩) fun z => .inr ⟨z.1, fun G H b g gh => z.2 G H b (e.trans g) gh⟩⟩
section
variable {K : PySem.W.Frag} {B G1 : Hp} {a b : Addr} {xs ys : List V} {ds es : List D}
theorem JOk.list (st : ∀ G H, Same B H → Same G1 G → Same G H → SqL K H a xs) (r : RpA G1 xs ds) : JOk (Itl K a) B G1 ds where
  go := fun i G H b g gh hi => by
    obtain ⟨v, hv, _⟩ := r.get (List.getElem?_eq_getElem hi)
    exact ⟨xs, v, st G H b g gh, hv⟩
  yld := fun i G H x H' d b g gh hd hy => by
    obtain ⟨rfl, f⟩ := hy
    obtain ⟨v, hv, rv⟩ := r.get hd
    have e := f xs (st G _ b g gh)
    rw [hv] at e; cases e
    exact ⟨G, Grow.refl gh, rv.mono g⟩
  stop := fun G H b g gh => ⟨xs, st G H b g gh, by rw [r.length]; exact Nat.le_refl _⟩
theorem JOk.tup (st : ∀ G H, Same B H → Same G1 G → Same G H → SqT K H a xs) (r : RpA G1 xs ds) : JOk (Itt K a) B G1 ds where
  go := fun i G H b g gh hi => by
    obtain ⟨v, hv, _⟩ := r.get (List.getElem?_eq_getElem hi)
    exact ⟨xs, v, st G H b g gh, hv⟩
  yld := fun i G H x H' d b g gh hd hy => by
    obtain ⟨rfl, f⟩ := hy
    obtain ⟨v, hv, rv⟩ := r.get hd
    have e := f xs (st G _ b g gh)
    rw [hv] at e; cases e
    exact ⟨G, Grow.refl gh, rv.mono g⟩
  stop := fun G H b g gh => ⟨xs, st G H b g gh, by rw [r.length]; exact Nat.le_refl _⟩
theorem rev_get {α : Type} {l : List α} {i : Nat} {x : α} (h : l.reverse[i]? = some x) : l[l.length - 1 - i]? = some x := by
  have hi : i < l.reverse.length := (List.getElem?_eq_some_iff.mp h).1
  rw [List.length_reverse] at hi
  rw [List.getElem?_reverse hi] at h
  exact h
theorem JOk.revL (st : ∀ G H, Same B H → Same G1 G → Same G H → SqL K H a xs) (r : RpA G1 xs ds) : JOk (Itv K a xs.length) B G1 ds.reverse where
  go := fun i G H b g gh hi => by
    rw [List.length_reverse] at hi
    have hi' : i < xs.length := by rw [r.length]; exact hi
    exact ⟨hi', xs, xs[xs.length - 1 - i]'(by omega), st G H b g gh, List.getElem?_eq_getElem _⟩
  yld := fun i G H x H' d b g gh hd hy => by
    obtain ⟨rfl, f⟩ := hy
    obtain ⟨v, hv, rv⟩ := r.get (rev_get hd)
    have e := f xs (st G _ b g gh)
    rw [r.length, hv] at e; cases e
    exact ⟨G, Grow.refl gh, rv.mono g⟩
  stop := fun G H b g gh => by
    show xs.length ≤ ds.reverse.length
    rw [List.length_reverse, r.length]; exact Nat.le_refl _
theorem JOk.revT (st : ∀ G H, Same B H → Same G1 G → Same G H → SqT K H a xs) (r : RpA G1 xs ds) : JOk (ItvT K a xs.length) B G1 ds.reverse where
  go := fun i G H b g gh hi => by
    rw [List.length_reverse] at hi
    have hi' : i < xs.length := by rw [r.length]; exact hi
    exact ⟨hi', xs, xs[xs.length - 1 - i]'(by omega), st G H b g gh, List.getElem?_eq_getElem _⟩
  yld := fun i G H x H' d b g gh hd hy => by
    obtain ⟨rfl, f⟩ := hy
    obtain ⟨v, hv, rv⟩ := r.get (rev_get hd)
    have e := f xs (st G _ b g gh)
    rw [r.length, hv] at e; cases e
    exact ⟨G, Grow.refl gh, rv.mono g⟩
  stop := fun G H b g gh => by
    show xs.length ≤ ds.reverse.length
    rw [List.length_reverse, r.length]; exact Nat.le_refl _
theorem JOk.enum (st : ∀ G H, Same B H → Same G1 G → Same G H → SqL K H a xs) (r : RpA G1 xs ds) : JOk (Ite K a) B G1 (ds.zipIdx.map fun (d, i) => PyData.tuple [.int (i : Int), d]) where
  go := fun i G H b g gh hi => by
    simp only [List.length_map, List.length_zipIdx] at hi
    obtain ⟨v, hv, _⟩ := r.get (List.getElem?_eq_getElem hi)
    exact ⟨xs, v, st G H b g gh, hv⟩
  yld := fun i G H x H' d b g gh hd hy => by
    obtain ⟨T, x', rfl, hT, rfl, f⟩ := hy
    rw [List.getElem?_map] at hd
    cases q : ds.zipIdx[i]? with
    | none => rw [q] at hd; cases hd
    | some p =>
      rw [q] at hd
      cases hd
      rw [List.getElem?_zipIdx] at q
      cases q2 : ds[i]? with
      | none => rw [q2] at q; cases q
      | some d0 =>
        rw [q2] at q
        cases q
        obtain ⟨v, hv, rv⟩ := r.get q2
        have e := f xs (st G _ b g gh)
        rw [hv] at e; cases e
        have w := Grow.new (o := .tup [.int ((i : Nat) : Int), x']) gh hT
        refine ⟨_, w, .tup upd_same (.cons ?_ (.one (rv.mono (g.trans w.g))))⟩
        simp only [Nat.zero_add]
        exact .int _
  stop := fun G H b g gh => ⟨xs, st G H b g gh, by simp only [List.length_map, List.length_zipIdx]; rw [r.length]; exact Nat.le_refl _⟩
theorem JOk.zipL (s1 : ∀ G H, Same B H → Same G1 G → Same G H → SqL K H a xs) (r1 : RpA G1 xs ds) (s2 : ∀ G H, Same B H → Same G1 G → Same G H → SqL K H b ys) (r2 : RpA G1 ys es) : JOk (Itz K a b) B G1 ((ds.zip es).map fun (d, e) => PyData.tuple [d, e]) where
  go := fun i G H b g gh hi => by
    simp only [List.length_map, List.length_zip] at hi
    obtain ⟨v, hv, _⟩ := r1.get (List.getElem?_eq_getElem (show i < ds.length by omega))
    obtain ⟨u, hu, _⟩ := r2.get (List.getElem?_eq_getElem (show i < es.length by omega))
    exact ⟨xs, ys, v, u, s1 G H b g gh, s2 G H b g gh, hv, hu⟩
  yld := fun i G H x H' d b g gh hd hy => by
    obtain ⟨T, x', y', rfl, hT, rfl, f1, f2⟩ := hy
    rw [List.getElem?_map] at hd
    cases q : (ds.zip es)[i]? with
    | none => rw [q] at hd; cases hd
    | some p =>
      rw [q] at hd
      cases hd
      obtain ⟨q1, q2⟩ := List.getElem?_zip_eq_some.mp q
      obtain ⟨v, hv, rv⟩ := r1.get q1
      obtain ⟨u, hu, ru⟩ := r2.get q2
      have e1 := f1 xs (s1 G _ b g gh)
      rw [hv] at e1; cases e1
      have e2 := f2 ys (s2 G _ b g gh)
      rw [hu] at e2; cases e2
      have w := Grow.new (o := .tup [x', y']) gh hT
      exact ⟨_, w, .tup upd_same (.cons (rv.mono (g.trans w.g)) (.one (ru.mono (g.trans w.g))))⟩
  stop := fun G H b g gh => ⟨xs, ys, s1 G H b g gh, s2 G H b g gh, by simp only [List.length_map, List.length_zip]; rw [r1.length, r2.length]; omega⟩
theorem JOk.zipT (s1 : ∀ G H, Same B H → Same G1 G → Same G H → SqT K H a xs) (r1 : RpA G1 xs ds) (s2 : ∀ G H, Same B H → Same G1 G → Same G H → SqT K H b ys) (r2 : RpA G1 ys es) : JOk (ItzT K a b) B G1 ((ds.zip es).map fun (d, e) => PyData.tuple [d, e]) where
  go := fun i G H b g gh hi => by
    simp only [List.length_map, List.length_zip] at hi
    obtain ⟨v, hv, _⟩ := r1.get (List.getElem?_eq_getElem (show i < ds.length by omega))
    obtain ⟨u, hu, _⟩ := r2.get (List.getElem?_eq_getElem (show i < es.length by omega))
    exact ⟨xs, ys, v, u, s1 G H b g gh, s2 G H b g gh, hv, hu⟩
  yld := fun i G H x H' d b g gh hd hy => by
    obtain ⟨T, x', y', rfl, hT, rfl, f1, f2⟩ := hy
    rw [List.getElem?_map] at hd
    cases q : (ds.zip es)[i]? with
    | none => rw [q] at hd; cases hd
    | some p =>
      rw [q] at hd
      cases hd
      obtain ⟨q1, q2⟩ := List.getElem?_zip_eq_some.mp q
      obtain ⟨v, hv, rv⟩ := r1.get q1
      obtain ⟨u, hu, ru⟩ := r2.get q2
      have e1 := f1 xs (s1 G _ b g gh)
      rw [hv] at e1; cases e1
      have e2 := f2 ys (s2 G _ b g gh)
      rw [hu] at e2; cases e2
      have w := Grow.new (o := .tup [x', y']) gh hT
      exact ⟨_, w, .tup upd_same (.cons (rv.mono (g.trans w.g)) (.one (ru.mono (g.trans w.g))))⟩
  stop := fun G H b g gh => ⟨xs, ys, s1 G H b g gh, s2 G H b g gh, by simp only [List.length_map, List.length_zip]; rw [r1.length, r2.length]; omega⟩
theorem rngD_len (lo hi : Int) : (rngD lo hi).length = (hi - lo).toNat := by unfold rngD; rw [List.length_map, List.length_range]
theorem rngD_get {lo hi : Int} {i : Nat} {d : D} (h : (rngD lo hi)[i]? = some d) : d = .int (lo + (i : Int)) := by
  unfold rngD at h
  rw [List.getElem?_map] at h
  cases q : (List.range (hi - lo).toNat)[i]? with
  | none => rw [q] at h; cases h
  | some k =>
    rw [q] at h
    cases h
    have := (List.getElem?_eq_some_iff.mp q)
    obtain ⟨h1, h2⟩ := this
    rw [List.getElem_range] at h2
    rw [h2]
theorem JOk.rng {lo hi : Int} : JOk (Itr lo (hi - lo).toNat) B G1 (rngD lo hi) where
  go := fun i G H b g gh h => by rw [rngD_len] at h; exact h
  yld := fun i G H x H' d b g gh hd hy => by
    obtain ⟨rfl, rfl⟩ := hy
    rw [rngD_get hd]
    exact ⟨G, Grow.refl gh, .int _⟩
  stop := fun G H b g gh => by
    show (hi - lo).toNat ≤ (rngD lo hi).length
    rw [rngD_len]; exact Nat.le_refl _
end
section
variable {X : Cx} {e a b c tg : Expr} {es : List Expr} {pos pos' tpos p : Pos} {f fa fb : M D} {g ga gb : M Pl} {k : M Rv} {st : Stmt} {sts us : List Stmt} {m m1 m2 : M Fl} {x : Str}
def iSeq (K : PySem.W.Frag) (tl : TE) : TI := fun σ H R => tl σ H fun x H1 => ∃ a, x = .ref a ∧ ((∃ xs, SqL K H1 a xs ∧ R (Itl K a) H1) ∨ (∃ xs, SqT K H1 a xs ∧ R (Itt K a) H1))
theorem pi_seq {l : Expr} {tl : TE} (hl : PE X l tl) : PI X tg l (iSeq X.K tl) := by
  constructor
  intro pins s σ H R I h
  refine thn (hl.run pins s σ H _ I h) ?_
  rintro v s1 ⟨x, H1, I1, r1, a, rfl, q1⟩
  cases (show v = Value.ref a from r1)
  have hfp : ∀ b ∈ [s1.heap.objs.size], FpOk X pins H1 b := by
    intro b hb
    rw [List.mem_singleton.mp hb]
    exact I1.fpOk (Nat.le_refl _) (I1.hok.fresh (Nat.le_refl _))
  rcases q1 with ⟨xs, hq, q⟩ | ⟨xs, hq, q⟩
  · obtain ⟨its, rv, pp, hz⟩ := I1.list hq
    exact wpAny_pyIter_list pp.isList ⟨_, _, _, _, H1, rfl, I1.kept (t' := s1.toks) fun b o e => Heap.get?_push_of_some _ e, turn_list a _, ⟨_, Heap.get?_push_size _ rfl, rfl, rfl⟩, hfp, q⟩
  · obtain ⟨its, rv, pp, hz⟩ := I1.tuple hq
    exact wpAny_pyIter_tuple (show s1.heap.IsTuple a its.toArray from pp) ⟨_, _, _, _, H1, rfl, I1.kept (t' := s1.toks) fun b o e => Heap.get?_push_of_some _ e, turn_tuple a _, ⟨_, Heap.get?_push_size _ rfl, rfl, rfl⟩, hfp, q⟩
theorem pit_seq (h : PP X e g) : PIt X tg e (mIter g) := by
  obtain ⟨t, h, r⟩ := h
  refine ⟨_, pi_seq h, fun C G σ H ρ R hK S ds ρ' hf q => ?_⟩
  obtain ⟨pl, ρ1, h1, h2⟩ := bnd_ok hf
  obtain ⟨kd, ρ2, h3, h4⟩ := bnd_ok h2
  cases h4
  refine r C G σ H ρ _ hK S pl ρ1 h1 fun v G1 H1 g1 S1 o => ?_
  obtain ⟨⟨a, xs, rfl, rr, z⟩, rfl⟩ := seqAt_ok S1 o h3
  rw [hK] at z
  refine ⟨a, rfl, ?_⟩
  rcases z with ⟨_, z⟩ | ⟨_, z⟩
  · exact .inl ⟨xs, z G1 H1 S1.bh (Same.refl _) S1.gh, q _ G1 H1 g1 S1 (JOk.list z rr)⟩
  · exact .inr ⟨xs, z G1 H1 S1.bh (Same.refl _) S1.gh, q _ G1 H1 g1 S1 (JOk.tup z rr)⟩
theorem pit_rev (hg : Gl X "reversed") (hm : X.mg "reversed" = none) (h : PP X e g) (hs : starEach [e] X.env = (false, eval e X.env) :: starEach [] X.env := by rfl) : PIt X tg (.Call (.Name "reversed" p) [e] [] pos) (mRev (mIter g)) := by
  obtain ⟨t, h, r⟩ := h
  refine ⟨_, pi_revA hg hm h hs, fun C G σ H ρ R hK S ds ρ' hf q => ?_⟩
  obtain ⟨ds0, ρ0, hf0, h0⟩ := bnd_ok hf
  cases h0
  obtain ⟨pl, ρ1, h1, h2⟩ := bnd_ok hf0
  obtain ⟨kd, ρ2, h3, h4⟩ := bnd_ok h2
  cases h4
  refine r C G σ H ρ _ hK S pl ρ1 h1 fun v G1 H1 g1 S1 o => ?_
  obtain ⟨⟨a, xs, rfl, rr, z⟩, rfl⟩ := seqAt_ok S1 o h3
  rw [hK] at z
  refine ⟨a, xs, rfl, ?_⟩
  rcases z with ⟨_, z⟩ | ⟨_, z⟩
  · exact .inl ⟨z G1 H1 S1.bh (Same.refl _) S1.gh, q _ G1 H1 g1 S1 (JOk.revL z rr)⟩
  · exact .inr ⟨z G1 H1 S1.bh (Same.refl _) S1.gh, q _ G1 H1 g1 S1 (JOk.revT z rr)⟩
theorem pit_rng1 (hg : Gl X "range") (hm : X.mg "range" = none) (h : PV X a fa) (hs : starEach [a] X.env = [(false, eval a X.env)] := by rfl) : PIt X tg (.Call (.Name "range" p) [a] [] pos) (mRng1 fa) := by
  obtain ⟨t, h, r⟩ := h
  refine ⟨_, pi_range1 hg hm (pa_cons h pa_nil hs) hs, fun C G σ H ρ R hK S ds ρ' hf q => ?_⟩
  obtain ⟨d, ρ1, h1, hf2⟩ := bnd_ok hf
  refine r C G σ H ρ _ hK S d ρ1 h1 fun v G1 H1 g1 S1 o => ?_
  cases o with
  | int n =>
    by_cases hn : small62 n = true
    · simp only [hn, if_true] at hf2
      cases hf2
      simp only [small62, Bool.and_eq_true, decide_eq_true_eq] at hn
      refine ⟨n, rfl, hn.1, hn.2, ?_⟩
      have := JOk.rng (B := C.B) (G1 := G1) (lo := 0) (hi := n)
      rw [Int.sub_zero] at this
      exact q _ G1 H1 g1 S1 this
    · simp only [hn, if_false] at hf2
      cases hf2
  | _ => cases hf2
theorem pit_rng2 (hg : Gl X "range") (hm : X.mg "range" = none) (h : PV X a fa) (h2 : PV X b fb) (hs : starEach [a, b] X.env = [(false, eval a X.env), (false, eval b X.env)] := by rfl) (hs2 : starEach [b] X.env = [(false, eval b X.env)] := by rfl) (hs3 : starEach [a, b] X.env = (false, eval a X.env) :: starEach [b] X.env := by rfl) :
    PIt X tg (.Call (.Name "range" p) [a, b] [] pos) (mRng2 fa fb) := by
  obtain ⟨t, h, r⟩ := h
  obtain ⟨u, h2, r2⟩ := h2
  refine ⟨_, pi_range2 hg hm (pa_cons h (pa_cons h2 pa_nil hs2) hs3) hs hs2, fun C G σ H ρ R hK S ds ρ' hf q => ?_⟩
  obtain ⟨d, ρ1, h1, hf2⟩ := bnd_ok hf
  obtain ⟨d2, ρ2, h3, hf3⟩ := bnd_ok hf2
  refine r C G σ H ρ _ hK S d ρ1 h1 fun v G1 H1 g1 S1 o => ?_
  refine r2 C G1 σ H1 ρ1 _ hK S1 d2 ρ2 h3 fun v2 G2 H2 g2 S2 o2 => ?_
  cases o with
  | int n =>
    cases o2 with
    | int n2 =>
      by_cases hn : (small62 n && small62 n2) = true
      · simp only [hn, if_true] at hf3
        cases hf3
        simp only [small62, Bool.and_eq_true, decide_eq_true_eq] at hn
        exact ⟨n, n2, rfl, ⟨hn.1.1, hn.1.2, hn.2.1, hn.2.2⟩, q _ G2 H2 (g1.trans g2) S2 JOk.rng⟩
      · simp only [hn, if_false] at hf3
        cases hf3
    | _ => cases hf3
  | _ => cases hf3
theorem pit_zip {elts : List Expr} {kk : Nat} (hg : Gl X "zip") (hm : X.mg "zip" = none) (h : PP X a ga) (h2 : PP X b gb)
    (hs : starEach [a, b] X.env = (false, eval a X.env) :: starEach [b] X.env := by rfl) (hs2 : starEach [b] X.env = (false, eval b X.env) :: starEach [] X.env := by rfl) (hpl : (backTo pos (starEach [b] X.env)).any (·.1) = false := by rfl) :
    PIt X (.Tuple elts kk tpos) (.Call (.Name "zip" p) [a, b] [] pos) (mZip ga gb) := by
  obtain ⟨t, h, r⟩ := h
  obtain ⟨u, h2, r2⟩ := h2
  refine ⟨_, pi_zipA hg hm (pa_cons h (pa_cons h2 pa_nil hs2) hs) hs hpl, fun C G σ H ρ R hK S ds ρ' hf q => ?_⟩
  obtain ⟨p1, ρ1, h3, hf2⟩ := bnd_ok hf
  obtain ⟨p2, ρ2, h4, hf3⟩ := bnd_ok hf2
  obtain ⟨d1, ρ3, h5, hf4⟩ := bnd_ok hf3
  obtain ⟨d2, ρ4, h6, hf5⟩ := bnd_ok hf4
  by_cases hk : (d1.1 == d2.1) = true
  · simp only [hk, if_true] at hf5
    cases hf5
    refine r C G σ H ρ _ hK S p1 ρ1 h3 fun v G1 H1 g1 S1 o => ?_
    refine r2 C G1 σ H1 ρ1 _ hK S1 p2 ρ2 h4 fun v2 G2 H2 g2 S2 o2 => ?_
    obtain ⟨⟨a1, xs, rfl, rr, z⟩, rfl⟩ := seqAt_ok S2 (o.mono g2) h5
    obtain ⟨⟨a2, ys, rfl, rr2, z2⟩, rfl⟩ := seqAt_ok S2 o2 h6
    rw [hK] at z z2
    have hk' : d1.1 = d2.1 := eq_of_beq hk
    refine ⟨a1, a2, xs, ys, rfl, ?_⟩
    rcases z with ⟨k1, z⟩ | ⟨k1, z⟩
    · rcases z2 with ⟨k2, z2⟩ | ⟨k2, z2⟩
      · exact .inl ⟨z G2 H2 S2.bh (Same.refl _) S2.gh, z2 G2 H2 S2.bh (Same.refl _) S2.gh, q _ G2 H2 (g1.trans g2) S2 (JOk.zipL z rr z2 rr2)⟩
      · rw [k1, k2] at hk'; cases hk'
    · rcases z2 with ⟨k2, z2⟩ | ⟨k2, z2⟩
      · rw [k1, k2] at hk'; cases hk'
      · exact .inr ⟨z G2 H2 S2.bh (Same.refl _) S2.gh, z2 G2 H2 S2.bh (Same.refl _) S2.gh, q _ G2 H2 (g1.trans g2) S2 (JOk.zipT z rr z2 rr2)⟩
  · simp only [hk] at hf5
    cases hf5
end
end PL
namespace PL
open PySem PySem.Spec L2 RT RZ
variable [Kap]
/-! ### one reading for all that a mirror is of -/
def TV (K : PySem.W.Frag) (f : M D) : TE := fun σ H Q => ∃ (C : Ctx) (G : Hp) (ρ : Env) (d : D) (ρ' : Env), C.K = K ∧ StOk C G σ H ρ ∧ f ρ = .ok d ρ' ∧ ∀ (v : V) (G' H' : Hp), Same G G' → StOk C G' σ H' ρ' → Rp G' v d → Q v H'
def TTv (K : PySem.W.Frag) (f : M Bool) : TT := fun σ H Q => ∃ (C : Ctx) (G : Hp) (ρ : Env) (d : Bool) (ρ' : Env), C.K = K ∧ StOk C G σ H ρ ∧ f ρ = .ok d ρ' ∧ ∀ (G' H' : Hp), Same G G' → StOk C G' σ H' ρ' → Q d H'
def TGv (K : PySem.W.Frag) (ts : List Nat) (m : D → M Unit) : TG := fun v σ H Q => ∃ (C : Ctx) (G : Hp) (ρ : Env) (d : D) (ρ' : Env), C.K = K ∧ StOk C G σ H ρ ∧ Rp G v d ∧ m d ρ = .ok () ρ' ∧ ∀ (σ' : L2.St), StOk C G σ' H ρ' → (∀ vs, (∀ i ∈ ts, i ∈ vs) → wipe σ' vs = wipe σ vs) → Q σ' H
theorem pv_uni {X : Cx} {e : Expr} {f : M D} (h : PV X e f) : PE X e (TV X.K f) := by
  obtain ⟨t, h, r⟩ := h
  exact ⟨fun pins s σ H Q I ⟨C, G, ρ, d, ρ', hK, S, hf, q⟩ => h.run pins s σ H Q I (r C G σ H ρ Q hK S d ρ' hf q)⟩
theorem pt_uni {X : Cx} {e : Expr} {f : M Bool} (h : PTt X e f) : PT X e (TTv X.K f) := by
  obtain ⟨t, h, r⟩ := h
  exact ⟨fun pins s σ H Q I ⟨C, G, ρ, d, ρ', hK, S, hf, q⟩ => h.run pins s σ H Q I (r C G σ H ρ Q hK S d ρ' hf q)⟩
theorem pg_uni {X : Cx} {e : Expr} {ts : List Nat} {m : D → M Unit} (h : PGt X e ts m) : PG X e (TGv X.K ts m) := by
  obtain ⟨t, h, r⟩ := h
  exact ⟨fun pins s σ H v u Q I rv ⟨C, G, ρ, d, ρ', hK, S, rr, hm, q⟩ => h.run pins s σ H v u Q I rv (r C G σ H ρ v d Q hK S rr ρ' hm q)⟩
/-! ### comprehensions -/
def wipeE (ρ : Env) : List Nat → Env
  | [] => ρ
  | v :: vs => (wipeE ρ vs).set v .un
def keepS : Sl → Sl
  | .own _ => .un
  | .io _ => .un
  | s => s
def restE (ρ1 : Env) (ρ2 : Env) : List Nat → Env
  | [] => ρ2
  | v :: vs => (restE ρ1 ρ2 vs).set v (keepS (ρ1.getD v .un))
def lcGo (t : D → M Unit) (vs : List Nat) (c : M Bool) (fe : M D) : List D → List D → M (List D)
  | acc, [] => ret acc
  | acc, d :: ds => bnd (t d) fun _ => bnd c fun k => if k = true then bnd fe fun y => if acc.length < 100000 then fun ρ => lcGo t vs c fe (acc ++ [y]) ds (wipeE ρ vs) else fun _ => .stuck
    else fun ρ => lcGo t vs c fe acc ds (wipeE ρ vs)
def mLc (fi : M (List D)) (t : D → M Unit) (vs : List Nat) (c : M Bool) (fe : M D) : M Rv := bnd fi fun ds => fun ρ1 => match lcGo t vs c fe [] ds (wipeE ρ1 vs) with
  | .ok acc ρ2 => .ok (.fr (.list acc)) (restE ρ1 ρ2 vs)
  | .stuck => .stuck
def mYes : M Bool := ret true
section
variable {C : Ctx} {G H : Hp} {σ : L2.St} {ρ ρ' : Env} {v : V} {p : Pl} {d : D}
theorem StOk.putN (S : StOk C G σ H ρ) (i : Nat) : StOk C G (σ.set i none) H (ρ.set i .un) := by
  have sub : ∀ {m : Nat} {b : Addr}, Own (σ.set i none) (ρ.set i .un) m b → Own σ ρ m b := fun {m b} ⟨x, s', y, z⟩ => by
    by_cases hm : m = i
    · subst hm
      have hl : m < (σ.set m none).length := (List.getElem?_eq_some_iff.mp x).1
      rw [List.length_set] at hl
      rw [List.getElem?_set_self hl] at x
      cases x
    · rw [List.getElem?_set_ne (fun z => hm z.symm)] at x y
      exact ⟨x, s', y, z⟩
  refine ⟨S.gh, S.bh, S.g0, S.fr, S.ga, S.wf, by rw [List.length_set, List.length_set]; exact S.len, fun j s' q => ?_, fun j k b hj hk => S.ds j k b (sub hj) (sub hk)⟩
  by_cases hj : j = i
  · subst hj
    have hl : j < (ρ.set j .un).length := (List.getElem?_eq_some_iff.mp q).1
    rw [List.length_set] at hl
    rw [List.getElem?_set_self hl] at q
    cases q
    exact ⟨none, List.getElem?_set_self (by rw [S.len]; exact hl), trivial⟩
  · rw [List.getElem?_set_ne (fun z => hj z.symm)] at q ⊢
    exact S.sl j s' q
theorem StOk.wipe (S : StOk C G σ H ρ) : ∀ vs : List Nat, StOk C G (L2.wipe σ vs) H (wipeE ρ vs)
  | [] => S
  | v :: vs => (StOk.wipe S vs).putN v
theorem wipe_get {i : Nat} : ∀ {vs : List Nat} {σ : L2.St}, i ∉ vs → (L2.wipe σ vs)[i]? = σ[i]?
  | [], _, _ => rfl
  | v :: vs, σ, h => by
    show ((L2.wipe σ vs).set v none)[i]? = σ[i]?
    rw [List.getElem?_set_ne (fun z => h (by rw [z]; exact List.mem_cons_self)), wipe_get fun z => h (List.mem_cons_of_mem _ z)]
theorem wipe_sub {vs : List Nat} {σ : L2.St} : ∀ {ws : List Nat}, (∀ i ∈ ws, i ∈ vs) → L2.wipe (L2.wipe σ ws) vs = L2.wipe σ vs
  | [], _ => rfl
  | w :: ws, h => by
    show L2.wipe ((L2.wipe σ ws).set w none) vs = L2.wipe σ vs
    rw [wipe_set (h w List.mem_cons_self), wipe_sub fun i hi => h i (List.mem_cons_of_mem _ hi)]
theorem wipe_wipe {vs : List Nat} {σ : L2.St} : L2.wipe (L2.wipe σ vs) vs = L2.wipe σ vs := wipe_sub fun _ h => h
theorem restE_len (ρ1 ρ2 : Env) : ∀ vs : List Nat, (restE ρ1 ρ2 vs).length = ρ2.length
  | [] => rfl
  | v :: vs => by unfold restE; rw [List.length_set, restE_len ρ1 ρ2 vs]
theorem restE_out {ρ1 ρ2 : Env} {i : Nat} : ∀ {vs : List Nat}, i ∉ vs → (restE ρ1 ρ2 vs)[i]? = ρ2[i]?
  | [], _ => rfl
  | v :: vs, h => by
    show ((restE ρ1 ρ2 vs).set v _)[i]? = ρ2[i]?
    rw [List.getElem?_set_ne (fun z => h (by rw [z]; exact List.mem_cons_self)), restE_out fun z => h (List.mem_cons_of_mem _ z)]
theorem restE_in {ρ1 ρ2 : Env} {i : Nat} {s : Sl} : ∀ {vs : List Nat}, i ∈ vs → (restE ρ1 ρ2 vs)[i]? = some s → s = keepS (ρ1.getD i .un)
  | v :: vs, h, e => by
    have e' : ((restE ρ1 ρ2 vs).set v (keepS (ρ1.getD v .un)))[i]? = some s := e
    by_cases hv : v = i
    · subst hv
      have hl : v < ((restE ρ1 ρ2 vs).set v (keepS (ρ1.getD v .un))).length := (List.getElem?_eq_some_iff.mp e').1
      rw [List.length_set] at hl
      rw [List.getElem?_set_self hl] at e'
      exact (Option.some.inj e').symm
    · rw [List.getElem?_set_ne hv] at e'
      refine restE_in ?_ e'
      cases h with
      | head => exact absurd rfl hv
      | tail _ h => exact h
theorem keepS_own {s : Sl} : ownK (keepS s) = false := by cases s <;> rfl
theorem StOk.rest {G1 H1 : Hp} {ρ1 ρ2 : Env} (S1 : StOk C G1 σ H1 ρ1) {vs : List Nat} (S : StOk C G (L2.wipe σ vs) H ρ2) (g : Same G1 G) : StOk C G σ H (restE ρ1 ρ2 vs) := by
  have sub : ∀ {m : Nat} {b : Addr}, Own σ (restE ρ1 ρ2 vs) m b → Own (L2.wipe σ vs) ρ2 m b := fun {m b} ⟨x, s', y, z⟩ => by
    by_cases hm : m ∈ vs
    · have := restE_in hm y
      subst this
      rw [keepS_own] at z; cases z
    · rw [restE_out hm] at y
      exact ⟨by rw [wipe_get hm]; exact x, s', y, z⟩
  refine ⟨S.gh, S.bh, S.g0, S.fr, S.ga, S.wf, ?_, fun j s' q => ?_, fun j k b hj hk => S.ds j k b (sub hj) (sub hk)⟩
  · rw [restE_len, ← S.len, wipe_length]
  · by_cases hj : j ∈ vs
    · have hs := restE_in hj q
      have hl : j < (restE ρ1 ρ2 vs).length := (List.getElem?_eq_some_iff.mp q).1
      have hl2 : j < ρ1.length := by rw [restE_len, ← S.len, wipe_length, S1.len] at hl; exact hl
      have e1 : ρ1[j]? = some ρ1[j] := List.getElem?_eq_getElem hl2
      obtain ⟨o, eo, k⟩ := S1.sl j _ e1
      refine ⟨o, eo, ?_⟩
      have e2 : ρ1.getD j .un = ρ1[j] := by rw [List.getD_eq_getElem?_getD, e1]; rfl
      rw [hs, e2]
      revert k
      generalize ρ1[j] = s
      intro k
      cases s with
      | un => trivial
      | own d => trivial
      | io d => trivial
      | val d => obtain ⟨w, e, r⟩ := k; exact ⟨w, e, r.mono g⟩
      | bor d => exact k
      | scr ns => exact k
      | exc n => obtain ⟨w, e, r⟩ := k; exact ⟨w, e, (g _ _ r)⟩
    · rw [restE_out hj] at q
      obtain ⟨o, e, k⟩ := S.sl j s' q
      exact ⟨o, by rw [wipe_get hj] at e; exact e, k⟩
/-- a list that is being made stands aside -/
def Ctx.with (C : Ctx) (E : Addr) (o : HO) : Ctx := { C with B := upd C.B E o, A := fun a => C.A a ∧ a ≠ E }
theorem same_upd {B H : Hp} {a : Addr} {o : HO} (h : Same B H) : Same (upd B a o) (upd H a o) := fun b u q => by
  by_cases hb : b = a
  · subst hb; rw [upd_same] at q ⊢; exact q
  · rw [upd_ne hb] at q ⊢; exact h b u q
theorem same_new {H : Hp} {a : Addr} {o : HO} (h : H a = none) : Same H (upd H a o) := fun b u q => by
  rw [upd_ne (ne_of_none q h)]; exact q
theorem StOk.enter (S : StOk C G σ H ρ) {E : Addr} (hE : H E = none) (o : HO) : StOk (C.with E o) G σ (upd H E o) ρ := by
  have nE : ∀ {a : Addr}, H a ≠ none → a ≠ E := fun {a} h z => by subst z; exact h hE
  refine ⟨S.gh.trans (same_new hE), same_upd S.bh, S.g0, fun a q => ?_, fun a q => ?_, fun i v q => (S.wf i v q).mono (Same.refl _) (same_new (S.bh.free hE)), S.len, fun i s q => ?_, S.ds⟩
  · by_cases ha : a = E
    · subst ha; rw [upd_same] at q; cases q
    · rw [upd_ne ha] at q; exact ⟨S.fr a q, ha⟩
  · have ha : a ≠ E := fun z => by subst z; rw [S.gh.free hE] at q; exact q rfl
    exact (S.ga a q).imp id fun z => ⟨z, ha⟩
  · obtain ⟨oo, e, k⟩ := S.sl i s q
    refine ⟨oo, e, ?_⟩
    cases s with
    | un => trivial
    | val d' => exact k
    | own d' =>
      obtain ⟨b, e3, r, x, y, z⟩ := k
      have hb := nE r.tracked
      exact ⟨b, e3, r.mono (Same.refl _) (same_new hE), x, by show upd C.B E o b = none; rw [upd_ne hb]; exact y, z, hb⟩
    | io d' =>
      obtain ⟨b, e3, r, x, y, z⟩ := k
      have hb := nE r.tracked
      exact ⟨b, e3, r.mono (Same.refl _) (same_new hE), x, by show upd C.B E o b = none; rw [upd_ne hb]; exact y, z⟩
    | bor d' => exact k
    | scr ns => exact k
    | exc n => exact k
theorem StOk.step {E : Addr} {o o' : HO} (S : StOk (C.with E o) G σ H ρ) (hG : G E = none) (hw : ∀ (i : Nat) (v : V), C.P i = some v → BorOk C.K C.G0 C.B v (C.S i)) (hB : C.B E = none) : StOk (C.with E o') G σ (upd H E o') ρ := by
  have hH : H E = some o := S.bh E o upd_same
  refine ⟨fun a u q => ?_, fun a u q => ?_, S.g0, fun a q => ?_, S.ga, fun i v q => (hw i v q).mono (Same.refl _) (same_new hB), S.len, fun i s q => ?_, S.ds⟩
  · rw [upd_ne (ne_of_none q hG)]; exact S.gh a u q
  · have q' : upd C.B E o' a = some u := q
    by_cases ha : a = E
    · subst ha; rw [upd_same] at q' ⊢; exact q'
    · rw [upd_ne ha] at q' ⊢
      exact S.bh a u (by show upd C.B E o a = some u; rw [upd_ne ha]; exact q')
  · by_cases ha : a = E
    · subst ha; rw [upd_same] at q; cases q
    · rw [upd_ne ha] at q; exact S.fr a q
  · obtain ⟨oo, e, k⟩ := S.sl i s q
    refine ⟨oo, e, ?_⟩
    have nb : ∀ {b : Addr}, (C.with E o).B b = none → b ≠ E ∧ C.B b = none := fun {b} y => by
      have y' : upd C.B E o b = none := y
      have hb : b ≠ E := fun z => by subst z; rw [upd_same] at y'; cases y'
      rw [upd_ne hb] at y'
      exact ⟨hb, y'⟩
    cases s with
    | un => trivial
    | val d' => exact k
    | own d' =>
      obtain ⟨b, e3, r, x, y, z⟩ := k
      obtain ⟨hb, y'⟩ := nb y
      refine ⟨b, e3, r.at (Same.refl _) fun c ec u hu => ?_, x, by show upd C.B E o' b = none; rw [upd_ne hb]; exact y', z⟩
      cases ec; rw [upd_ne hb]; exact hu
    | io d' =>
      obtain ⟨b, e3, r, x, y, z⟩ := k
      obtain ⟨hb, y'⟩ := nb y
      refine ⟨b, e3, r.at (Same.refl _) fun c ec u hu => ?_, x, by show upd C.B E o' b = none; rw [upd_ne hb]; exact y', z⟩
      cases ec; rw [upd_ne hb]; exact hu
    | bor d' => exact k
    | scr ns => exact k
    | exc n => exact k
theorem StOk.exit {E : Addr} {o : HO} (S : StOk (C.with E o) G σ H ρ) (hw : ∀ (i : Nat) (v : V), C.P i = some v → BorOk C.K C.G0 C.B v (C.S i)) (hB : C.B E = none) : StOk C G σ H ρ := by
  have nb : ∀ {b : Addr}, (C.with E o).B b = none → C.B b = none := fun {b} y => by
    have y' : upd C.B E o b = none := y
    have hb : b ≠ E := fun z => by subst z; rw [upd_same] at y'; cases y'
    rw [upd_ne hb] at y'
    exact y'
  refine ⟨S.gh, (same_new hB).trans S.bh, S.g0, fun a q => (S.fr a q).1, fun a q => (S.ga a q).imp id fun z => z.1, hw, S.len, fun i s q => ?_, S.ds⟩
  obtain ⟨oo, e, k⟩ := S.sl i s q
  refine ⟨oo, e, ?_⟩
  cases s with
  | un => trivial
  | val d' => exact k
  | own d' => obtain ⟨b, e3, r, x, y, z⟩ := k; exact ⟨b, e3, r, x, nb y, z.1⟩
  | io d' => obtain ⟨b, e3, r, x, y, z⟩ := k; exact ⟨b, e3, r, x, nb y, z⟩
  | bor d' => exact k
  | scr ns => exact k
  | exc n => exact k
end
section
variable {X : Cx} {e a b c tg elt iter : Expr} {es ifs : List Expr} {pos pos' tpos p : Pos} {f fa fb fe : M D} {g ga gb : M Pl} {k : M Rv} {st : Stmt} {sts us : List Stmt} {m m1 m2 : M Fl} {x : Str} {scope : Scope} {own : List (Str × Nat)}
theorem line_lt {n : Nat} (h : n < 100000) : n < sizeLine := Nat.lt_of_lt_of_le h (by decide)
theorem rd_lc {wi : TI} {fi : M (List D)} {t : D → M Unit} {ts vs : List Nat} {mc : M Bool} (hts : ∀ i ∈ ts, i ∈ vs) (hi : RdI X.K wi fi) : RdF X.K (tLc wi (TGv X.K ts t) (TTv X.K mc) (TV X.K fe) vs) (mLc fi t vs mc fe) := by
  intro C G σ H ρ Q hK S r ρ' hf q
  obtain ⟨ds, ρ1, h1, hf2⟩ := bnd_ok hf
  refine hi C G σ H ρ _ hK S ds ρ1 h1 fun J G1 H1 g1 S1 JJ E hE => ?_
  cases hl : lcGo t vs mc fe [] ds (wipeE ρ1 vs) with
  | stuck => rw [hl] at hf2; cases hf2
  | ok accF ρF =>
    rw [hl] at hf2
    cases hf2
    have hBE : C.B E = none := S1.bh.free hE
    have hGE : ∀ {G2 : Hp} {σ2 : L2.St} {H2 : Hp} {ρ2 : Env} {o : HO}, StOk (C.with E o) G2 σ2 H2 ρ2 → G2 E = none := fun {G2 σ2 H2 ρ2 o} S2 => by
      cases q : G2 E with
      | none => rfl
      | some u =>
        rcases S2.ga E (ne_none_of q) with z | z
        · exact absurd (S1.gh.free hE |> S1.g0.free) z
        · exact absurd rfl z.2
    refine ⟨fun i mm H2 => i + mm = ds.length ∧ ∃ G2 ρ2 accV acc, Same G1 G2 ∧ StOk (C.with E (.lst accV)) G2 (L2.wipe σ vs) H2 ρ2 ∧ RpA G2 accV acc ∧ lcGo t vs mc fe acc (ds.drop i) ρ2 = .ok accF ρF,
      ⟨ds.length, by omega, G1, _, [], [], Same.refl _, (S1.enter hE (.lst [])).wipe vs, .nil, by simpa using hl⟩, fun i mm H2 ⟨hm, G2, ρ2, accV, acc, g2, S2, ra, h2⟩ => ?_⟩
    by_cases hlt : i < ds.length
    · have gh2 := S2.gh
      have bh2 : Same C.B H2 := (same_new hBE).trans S2.bh
      refine .inr ⟨JJ.go i G2 H2 bh2 g2 gh2 hlt, fun H3 => ∃ G3 ρ3 accV3 acc3, Same G1 G3 ∧ StOk (C.with E (.lst accV3)) G3 (L2.wipe σ vs) H3 ρ3 ∧ RpA G3 accV3 acc3 ∧ lcGo t vs mc fe acc3 (ds.drop (i + 1)) ρ3 = .ok accF ρF,
        fun H3 ⟨G3, ρ3, accV3, acc3, z1, z2, z3, z4⟩ => ⟨mm - 1, by omega, by omega, G3, ρ3, accV3, acc3, z1, z2, z3, z4⟩, fun y H3 hy => ?_⟩
      have ed : ds[i]? = some ds[i] := List.getElem?_eq_getElem hlt
      obtain ⟨G3, w, ry⟩ := JJ.yld i G2 H2 y H3 _ bh2 g2 gh2 ed hy
      have S3 := S2.grow w
      rw [List.drop_eq_getElem_cons hlt] at h2
      obtain ⟨uu, ρ3, h3, h4⟩ := bnd_ok h2
      refine ⟨C.with E (.lst accV), G3, _, _, ρ3, hK, S3, ry, h3, fun σ4 S4 w4 => ⟨(w4 vs hts).trans wipe_wipe, ?_⟩⟩
      obtain ⟨kk, ρ5, h5, h6⟩ := bnd_ok h4
      refine ⟨C.with E (.lst accV), G3, _, kk, ρ5, hK, S4, h5, fun G5 H5 g5 S5 => ?_⟩
      have ww : L2.wipe σ4 vs = L2.wipe σ vs := (w4 vs hts).trans wipe_wipe
      cases kk with
      | true =>
        show (if true = true then _ else _); rw [if_pos rfl]
        obtain ⟨yd, ρ6, h7, h8⟩ := bnd_ok h6
        refine ⟨C.with E (.lst accV), G5, _, yd, ρ6, hK, S5, h7, fun v6 G6 H6 g6 S6 r6 => ?_⟩
        have hH6 : H6 E = some (.lst accV) := S6.bh E _ upd_same
        have gg : Same G2 G6 := (w.g.trans g5).trans g6
        by_cases hac : acc.length < 100000
        · rw [if_pos hac] at h8
          refine ⟨accV, hH6, by rw [ra.length]; exact line_lt hac, G6, wipeE ρ6 vs, accV ++ [v6], acc ++ [yd], g2.trans gg, ?_, (ra.mono gg).append (.one r6), h8⟩
          have S7 := S6.step (o' := .lst (accV ++ [v6])) (hGE S6) S1.wf hBE
          rw [← ww]
          exact S7.wipe vs
        · rw [if_neg hac] at h8
          cases h8
      | false =>
        show (if false = true then _ else _); rw [if_neg Bool.false_ne_true]
        rw [if_neg Bool.false_ne_true] at h6
        refine ⟨G5, wipeE ρ5 vs, accV, acc, g2.trans (w.g.trans g5), ?_, ra.mono (w.g.trans g5), h6⟩
        rw [← ww]
        exact S5.wipe vs
    · have hi' : i = ds.length := by omega
      rw [List.drop_eq_nil_of_le (by omega)] at h2
      cases h2
      have gh2 := S2.gh
      have bh2 : Same C.B H2 := (same_new hBE).trans S2.bh
      refine .inl ⟨by rw [hi']; exact JJ.stop G2 H2 bh2 g2 gh2, ?_⟩
      have S3 : StOk C G2 (L2.wipe σ vs) H2 _ := S2.exit S1.wf hBE
      have S4 := S1.rest S3 g2
      refine q _ G2 H2 (g1.trans g2) S4 ⟨E, rfl, .lst (S2.bh E _ upd_same) ra, hGE S2, hBE, S1.fr E hE, fun j hj => ?_⟩
      obtain ⟨z1, s, z2, z3⟩ := hj
      by_cases hjv : j ∈ vs
      · have := restE_in hjv z2
        subst this
        rw [keepS_own] at z3; cases z3
      · rw [restE_out hjv] at z2
        obtain ⟨_, _, z4⟩ := Own.tracked S2 (i := j) (a := E) ⟨by rw [wipe_get hjv]; exact z1, s, z2, z3⟩
        have z5 : upd C.B E (.lst accV) E = none := z4
        rw [upd_same] at z5; cases z5
end
end PL
namespace PL
open PySem PySem.Spec L2 RT RZ
variable [Kap]
section
variable {X : Cx} {e a b c tg elt iter : Expr} {es ifs : List Expr} {pos pos' tpos p : Pos} {f fa fb fe : M D} {g ga gb : M Pl} {k : M Rv} {st : Stmt} {sts us : List Stmt} {m m1 m2 : M Fl} {x : Str} {scope : Scope} {own : List (Str × Nat)}
theorem pts_yes : PTs X [] (TTv X.K mYes) :=
  ⟨fun pins s σ H Q I ⟨C, G, ρ, d, ρ', hK, S, hf, q⟩ => pts_nil.run pins s σ H Q I (by cases hf; exact q G H (Same.refl _) S)⟩
theorem pf_lc {fi : M (List D)} {t : D → M Unit} {ts : List Nat} (hc : X.calm = true) (hN : X.N.Nodup) (hi : PIt X tg iter fi) (ok : BlkOk X.N X.env.scope scope own)
    (hg : ∀ (s : Shared) (H : Hp) (C : Addr) (cl : List (Str × Addr)) (fp : List Addr), PGt (X.blk s H scope (compEnvC scope cl C X.env) fp) tg ts t)
    (he : ∀ (s : Shared) (H : Hp) (C : Addr) (cl : List (Str × Addr)) (fp : List Addr), PV (X.blk s H scope (compEnvC scope cl C X.env) fp) elt fe) (hs : ∀ x, foldedSetIterable iter X.env x = pure x := by intro _; rfl)
    (hts : ∀ i ∈ ts, i ∈ own.map (·.2) := by decide) :
    PF X (.ListComp elt [⟨tg, iter, [], 0⟩] scope pos) (mLc fi t (own.map (·.2)) mYes fe) := by
  obtain ⟨wi, hi, ri⟩ := hi
  exact ⟨_, pe_lc (g := TGv X.K ts t) (tt := TTv X.K mYes) (te := TV X.K fe) hc hN hi ok (fun s H C cl fp => pg_uni (hg s H C cl fp)) (fun _ _ _ _ _ => pts_yes) (fun s H C cl fp => pv_uni (he s H C cl fp)) hs, rd_lc hts ri⟩
theorem pf_lcIf {fi : M (List D)} {t : D → M Unit} {ts : List Nat} {mc : M Bool} (hc : X.calm = true) (hN : X.N.Nodup) (hi : PIt X tg iter fi) (ok : BlkOk X.N X.env.scope scope own)
    (hg : ∀ (s : Shared) (H : Hp) (C : Addr) (cl : List (Str × Addr)) (fp : List Addr), PGt (X.blk s H scope (compEnvC scope cl C X.env) fp) tg ts t)
    (ht : ∀ (s : Shared) (H : Hp) (C : Addr) (cl : List (Str × Addr)) (fp : List Addr), PTt (X.blk s H scope (compEnvC scope cl C X.env) fp) c mc)
    (he : ∀ (s : Shared) (H : Hp) (C : Addr) (cl : List (Str × Addr)) (fp : List Addr), PV (X.blk s H scope (compEnvC scope cl C X.env) fp) elt fe) (hs : ∀ x, foldedSetIterable iter X.env x = pure x := by intro _; rfl)
    (hts : ∀ i ∈ ts, i ∈ own.map (·.2) := by decide) :
    PF X (.ListComp elt [⟨tg, iter, [c], 0⟩] scope pos) (mLc fi t (own.map (·.2)) mc fe) := by
  obtain ⟨wi, hi, ri⟩ := hi
  exact ⟨_, pe_lc (g := TGv X.K ts t) (tt := TTv X.K mc) (te := TV X.K fe) hc hN hi ok (fun s H C cl fp => pg_uni (hg s H C cl fp)) (fun s H C cl fp => pts_one (pt_uni (ht s H C cl fp))) (fun s H C cl fp => pv_uni (he s H C cl fp)) hs, rd_lc hts ri⟩
/-- y = [..] -/
theorem pst_setLc {i : Nat} {y : Str} {py spos : Pos} {fi : M (List D)} {t : D → M Unit} {ts : List Nat} (hc : X.calm = true) (hN : X.N.Nodup) (hy : X.N[i]? = some y) (hyl : X.env.scope.names.lookup y = some .local)
    (hsw : swapsWith (.ListComp elt [⟨tg, iter, [], 0⟩] scope pos) (some (.Name y py)) spos.line X.env = pure true) (hi : PIt X tg iter fi) (ok : BlkOk X.N X.env.scope scope own)
    (hg : ∀ (s : Shared) (H : Hp) (C : Addr) (cl : List (Str × Addr)) (fp : List Addr), PGt (X.blk s H scope (compEnvC scope cl C X.env) fp) tg ts t)
    (he : ∀ (s : Shared) (H : Hp) (C : Addr) (cl : List (Str × Addr)) (fp : List Addr), PV (X.blk s H scope (compEnvC scope cl C X.env) fp) elt fe) (hs : ∀ x, foldedSetIterable iter X.env x = pure x := by intro _; rfl)
    (hts : ∀ i ∈ ts, i ∈ own.map (·.2) := by decide) :
    PSt X (.Assign [.Name y py] (.ListComp elt [⟨tg, iter, [], 0⟩] scope pos) spos) (mSet i (mLc fi t (own.map (·.2)) mYes fe)) := by
  obtain ⟨wi, hi, ri⟩ := hi
  exact ⟨_, ps_setLc (g := TGv X.K ts t) (tt := TTv X.K mYes) (te := TV X.K fe) hc hN hy hyl hsw hi ok (fun s H C cl fp => pg_uni (hg s H C cl fp)) (fun _ _ _ _ _ => pts_yes) (fun s H C cl fp => pv_uni (he s H C cl fp)) hs, rd_set (rd_lc hts ri)⟩
theorem pst_setLcIf {i : Nat} {y : Str} {py spos : Pos} {fi : M (List D)} {t : D → M Unit} {ts : List Nat} {mc : M Bool} (hc : X.calm = true) (hN : X.N.Nodup) (hy : X.N[i]? = some y) (hyl : X.env.scope.names.lookup y = some .local)
    (hsw : swapsWith (.ListComp elt [⟨tg, iter, [c], 0⟩] scope pos) (some (.Name y py)) spos.line X.env = pure true) (hi : PIt X tg iter fi) (ok : BlkOk X.N X.env.scope scope own)
    (hg : ∀ (s : Shared) (H : Hp) (C : Addr) (cl : List (Str × Addr)) (fp : List Addr), PGt (X.blk s H scope (compEnvC scope cl C X.env) fp) tg ts t)
    (ht : ∀ (s : Shared) (H : Hp) (C : Addr) (cl : List (Str × Addr)) (fp : List Addr), PTt (X.blk s H scope (compEnvC scope cl C X.env) fp) c mc)
    (he : ∀ (s : Shared) (H : Hp) (C : Addr) (cl : List (Str × Addr)) (fp : List Addr), PV (X.blk s H scope (compEnvC scope cl C X.env) fp) elt fe) (hs : ∀ x, foldedSetIterable iter X.env x = pure x := by intro _; rfl)
    (hts : ∀ i ∈ ts, i ∈ own.map (·.2) := by decide) :
    PSt X (.Assign [.Name y py] (.ListComp elt [⟨tg, iter, [c], 0⟩] scope pos) spos) (mSet i (mLc fi t (own.map (·.2)) mc fe)) := by
  obtain ⟨wi, hi, ri⟩ := hi
  exact ⟨_, ps_setLc (g := TGv X.K ts t) (tt := TTv X.K mc) (te := TV X.K fe) hc hN hy hyl hsw hi ok (fun s H C cl fp => pg_uni (hg s H C cl fp)) (fun s H C cl fp => pts_one (pt_uni (ht s H C cl fp))) (fun s H C cl fp => pv_uni (he s H C cl fp)) hs, rd_set (rd_lc hts ri)⟩
end
/-! ### what a def promises -/
def runD (nl : Nat) (body : M Fl) (ss : Env) : Option (Rv × Env) := match body (ss ++ List.replicate nl .un) with
  | .ok (.rt r) ρ => some (r, ρ)
  | .ok .nx ρ => some (.pl (.val .none), ρ)
  | _ => none
def spD (K : PySem.W.Frag) (np nl : Nat) (body : M Fl) : Sp := fun vs H Q _ => ∃ (C : Ctx) (ss : Env) (r : Rv) (ρ' : Env), vs.length = np ∧ C.K = K ∧ StOk C C.G0 (vs.map some) H ss ∧ runD nl body ss = some (r, ρ') ∧
  ∀ (v : V) (G' : Hp) (σ' : L2.St) (H' : Hp), Same C.G0 G' → StOk C G' σ' H' ρ' → okR C G' σ' H' ρ' v r → Q v H'
theorem StOk.more {C : Ctx} {G H : Hp} {σ : L2.St} {ρ : Env} (S : StOk C G σ H ρ) (n : Nat) : StOk C G (σ ++ List.replicate n none) H (ρ ++ List.replicate n .un) := by
  have low : ∀ {i : Nat} {s : Sl}, (ρ ++ List.replicate n Sl.un)[i]? = some s → ownK s = true → i < ρ.length := fun {i s} q z => by
    rcases Nat.lt_or_ge i ρ.length with h | h
    · exact h
    · rw [List.getElem?_append_right h] at q
      have := List.mem_of_getElem? q
      rw [List.mem_replicate] at this
      rw [this.2] at z; cases z
  have sub : ∀ {i : Nat} {a : Addr}, Own (σ ++ List.replicate n none) (ρ ++ List.replicate n .un) i a → Own σ ρ i a := fun {i a} ⟨x, s, y, z⟩ => by
    have h := low y z
    rw [List.getElem?_append_left h] at y
    rw [List.getElem?_append_left (by rw [S.len]; exact h)] at x
    exact ⟨x, s, y, z⟩
  refine ⟨S.gh, S.bh, S.g0, S.fr, S.ga, S.wf, by simp [S.len], fun i s q => ?_, fun i j a hi hj => S.ds i j a (sub hi) (sub hj)⟩
  rcases Nat.lt_or_ge i ρ.length with h | h
  · rw [List.getElem?_append_left h] at q
    rw [List.getElem?_append_left (by rw [S.len]; exact h)]
    exact S.sl i s q
  · rw [List.getElem?_append_right h] at q
    have := List.mem_of_getElem? q
    rw [List.mem_replicate] at this
    have hi : i - ρ.length < n := by
      have := (List.getElem?_eq_some_iff.mp q).1
      rwa [List.length_replicate] at this
    refine ⟨none, ?_, ?_⟩
    · rw [List.getElem?_append_right (by rw [S.len]; exact h), S.len, List.getElem?_replicate, if_pos hi]
    · rw [this.2]; trivial
section
variable {P : Program} {w : World} {K : PySem.W.Frag} {mg : Str → Option Value} {base : Heap} {k : Nat} {N ps : List Str} {x qual : Str} {st : Stmt} {f : Addr} {fd : FuncData} {m : M Fl}
/-- a def by its body -/
theorem fn_pl {np nl : Nat} (F : Fun K x qual st f fd) (S : FnScope N ps (defScope st)) (hn : N.length = np + nl) (hp : ps.length = np)
    (hb : ∀ (cdv : Value) (A : Around) (outer : List PySem.Env) (s : Shared) (H : Hp) (E : XK), Room k (A.deeper (PyProof.Rows.envOfC qual (defScope st) s.heap.objs.size f cdv)) →
      PSts (cxOf CX0 P w K mg base N qual (defScope st) f cdv A outer s H E).nox (defBody st) m) : FnOk P w K mg base CX0 (k + 1) f fd ps (spD K np nl m) := by
  refine F.ok S (fun vs H Q E h => ?_) fun cdv A outer s H vs Q E hr h => ?_
  · obtain ⟨C, ss, r, ρ', hl, _⟩ := h
    rw [hl, hp]
  · obtain ⟨C, ss, r, ρ', hl, hK, S0, hrun, q⟩ := h
    obtain ⟨t, ht, rt⟩ := hb cdv A outer s H E hr
    refine ⟨t, ht, ?_⟩
    have e : L2.start N vs = vs.map some ++ List.replicate nl none := by
      unfold L2.start
      rw [hn, hl, Nat.add_sub_cancel_left]
    rw [e]
    have S1 := S0.more nl
    unfold runD at hrun
    cases hm : m (ss ++ List.replicate nl .un) with
    | stuck => rw [hm] at hrun; cases hrun
    | ok fl ρ1 =>
      rw [hm] at hrun
      cases fl with
      | rt r1 => cases hrun; exact rt C C.G0 _ H _ _ hK S1 _ _ hm fun σ' G' H' g S' v o => q v G' σ' H' g S' o
      | nx => cases hrun; exact rt C C.G0 _ H _ _ hK S1 _ _ hm fun σ' G' H' g S' => q .non G' σ' H' g S' .non
      | bk => cases hrun
      | ct => cases hrun
end
/-! ### calls -/
inductive Md where
  | v | b | io | s
def argS (ρ : Env) : Md → Pl → Option Sl
  | .v, .val d => some (.val d)
  | .b, p => (rsv ρ p).map .bor
  | .io, .slot i => match ρ[i]? with
    | some (.own d) => some (.io d)
    | some (.io d) => some (.io d)
    | _ => none
  | .s, .slot i => match ρ[i]? with
    | some (.scr ns) => some (.scr ns)
    | some (.exc n) => some (.exc n)
    | _ => none
  | .s, .val d => some (.val d)
  | _, _ => none
def argSs (ρ : Env) : List Md → List Pl → Option Env
  | [], [] => some []
  | m :: ms, p :: ps => match argS ρ m p, argSs ρ ms ps with
    | some s, some ss => some (s :: ss)
    | _, _ => none
  | _, _ => none
/-- the places that are handed in to be changed -/
def ios : List Md → List Pl → List Nat
  | .io :: ms, .slot i :: ps => i :: ios ms ps
  | _ :: ms, _ :: ps => ios ms ps
  | _, _ => []
/-- the places that are handed in to be looked at -/
def nios : List Md → List Pl → List Nat
  | .io :: ms, _ :: ps => nios ms ps
  | _ :: ms, .slot i :: ps => i :: nios ms ps
  | _ :: ms, _ :: ps => nios ms ps
  | _, _ => []
def apart (ms : List Md) (ps : List Pl) : Bool := decide (ios ms ps).Nodup && (nios ms ps).all fun i => decide (i ∉ ios ms ps)
def putIo (ρ : Env) (i : Nat) (d : D) : Option Env := match ρ[i]? with
  | some (.own _) => some (ρ.set i (.own d))
  | some (.io _) => some (ρ.set i (.io d))
  | _ => none
def back1 (ρ : Env) (m : Md) (p : Pl) (s : Sl) : Option Env := match m with
  | .io => match p with
    | .slot i => match s with
      | .io d => putIo ρ i d
      | _ => none
    | .val _ => none
  | _ => some ρ
def backIo (ρ : Env) : List Md → List Pl → List Sl → Option Env
  | m :: ms, p :: ps, s :: ss => match back1 ρ m p s with
    | some ρ1 => backIo ρ1 ms ps ss
    | none => none
  | [], [], [] => some ρ
  | [], [], _ :: _ => some ρ
  | [], _ :: _, _ => none
  | _ :: _, [], _ => none
  | _ :: _, _ :: _, [] => none
def resR (ρ : Env) : Rv → Option Rv
  | .fr d => some (.fr d)
  | .pl (.val d) => some (.pl (.val d))
  | .pl (.slot k) => match ρ[k]? with
    | some (.val d) => some (.pl (.val d))
    | some (.own d) => some (.fr d)
    | some (.bor d) => if atom d = true then some (.pl (.val d)) else none
    | _ => none
/-- what a call comes to, without what is only local there -/
def evalD (ms : List Md) (nl : Nat) (body : M Fl) (ss : Env) : Option (Rv × Env) := match runD nl body ss with
  | some (r, ρ') => match resR ρ' r with
    | some r' => some (r', ρ'.take ms.length)
    | none => none
  | none => none
def callAt (ms : List Md) (nl : Nat) (body : M Fl) (ps : List Pl) : M Rv := fun ρ => if apart ms ps = true then match argSs ρ ms ps with
    | some ss => match evalD ms nl body ss with
      | some ro => match backIo ρ ms ps ro.2 with
        | some ρ2 => .ok ro.1 ρ2
        | none => .stuck
      | none => .stuck
    | none => .stuck
  else .stuck
def mCall (ms : List Md) (nl : Nat) (body : M Fl) (fs : M (List Pl)) : M Rv := bnd fs fun ps => callAt ms nl body ps
end PL
namespace PL
open PySem PySem.Spec L2 RT RZ
variable [Kap]
theorem okPs.len {G : Hp} {σ : L2.St} : ∀ {vs : List V} {ps : List Pl}, okPs G σ vs ps → vs.length = ps.length
  | _, _, .nil => rfl
  | _, _, .cons _ r => by simp [okPs.len r]
theorem okPs.get {G : Hp} {σ : L2.St} : ∀ {vs : List V} {ps : List Pl} {i : Nat} {p : Pl}, okPs G σ vs ps → ps[i]? = some p → ∃ v, vs[i]? = some v ∧ okP G σ v p
  | _, _, _, _, .nil, h => by simp at h
  | _, _, 0, _, .cons h r, e => by simp at e; subst e; exact ⟨_, rfl, h⟩
  | _, _, i + 1, _, .cons h r, e => by
    have := okPs.get (i := i) r (by simpa using e)
    simpa using this
theorem argSs_len {ρ : Env} : ∀ {ms : List Md} {ps : List Pl} {ss : Env}, argSs ρ ms ps = some ss → ms.length = ps.length ∧ ss.length = ps.length
  | [], [], _, h => by cases h; exact ⟨rfl, rfl⟩
  | [], _ :: _, _, h => by cases h
  | _ :: _, [], _, h => by cases h
  | m :: ms, p :: ps, ss, h => by
    unfold argSs at h
    cases q1 : argS ρ m p with
    | none => rw [q1] at h; cases h
    | some s =>
      cases q2 : argSs ρ ms ps with
      | none => rw [q1, q2] at h; cases h
      | some ss' =>
        rw [q1, q2] at h
        cases h
        obtain ⟨h1, h2⟩ := argSs_len q2
        exact ⟨by simp [h1], by simp [h2]⟩
theorem argSs_get {ρ : Env} : ∀ {ms : List Md} {ps : List Pl} {ss : Env} {i : Nat} {s : Sl}, argSs ρ ms ps = some ss → ss[i]? = some s → ∃ m p, ms[i]? = some m ∧ ps[i]? = some p ∧ argS ρ m p = some s
  | [], [], _, _, _, h, e => by cases h; simp at e
  | [], _ :: _, _, _, _, h, _ => by cases h
  | _ :: _, [], _, _, _, h, _ => by cases h
  | m :: ms, p :: ps, ss, i, s, h, e => by
    unfold argSs at h
    cases q1 : argS ρ m p with
    | none => rw [q1] at h; cases h
    | some s' =>
      cases q2 : argSs ρ ms ps with
      | none => rw [q1, q2] at h; cases h
      | some ss' =>
        rw [q1, q2] at h
        cases h
        cases i with
        | zero => simp at e; subst e; exact ⟨m, p, rfl, rfl, q1⟩
        | succ i =>
          obtain ⟨m', p', h1, h2, h3⟩ := argSs_get q2 (i := i) (by simpa using e)
          exact ⟨m', p', by simpa using h1, by simpa using h2, h3⟩
theorem ios_mem : ∀ {ms : List Md} {ps : List Pl} {i j : Nat}, ms[i]? = some .io → ps[i]? = some (.slot j) → j ∈ ios ms ps
  | [], _, _, _, h, _ => by simp at h
  | _ :: _, [], _, _, _, h => by simp at h
  | m :: ms, p :: ps, 0, j, h1, h2 => by
    simp at h1 h2; subst h1; subst h2
    exact List.mem_cons_self
  | m :: ms, p :: ps, i + 1, j, h1, h2 => by
    have := ios_mem (ms := ms) (ps := ps) (i := i) (j := j) (by simpa using h1) (by simpa using h2)
    cases m with
    | io => cases p with
      | slot k => exact List.mem_cons_of_mem _ this
      | val d => exact this
    | _ => exact this
theorem nios_mem : ∀ {ms : List Md} {ps : List Pl} {i j : Nat} {m : Md}, ms[i]? = some m → m ≠ .io → ps[i]? = some (.slot j) → j ∈ nios ms ps
  | [], _, _, _, _, h, _, _ => by simp at h
  | _ :: _, [], _, _, _, _, _, h => by simp at h
  | m :: ms, p :: ps, 0, j, m', h1, hm, h2 => by
    simp at h1 h2; subst h1; subst h2
    cases m with
    | io => exact absurd rfl hm
    | _ => exact List.mem_cons_self
  | m :: ms, p :: ps, i + 1, j, m', h1, hm, h2 => by
    have := nios_mem (ms := ms) (ps := ps) (i := i) (j := j) (by simpa using h1) hm (by simpa using h2)
    cases m with
    | io => exact this
    | _ => cases p with
      | slot k => exact List.mem_cons_of_mem _ this
      | val d => exact this
theorem ios_inj : ∀ {ms : List Md} {ps : List Pl} {i i' j : Nat}, (ios ms ps).Nodup → ms[i]? = some .io → ps[i]? = some (.slot j) → ms[i']? = some .io → ps[i']? = some (.slot j) → i = i'
  | [], _, _, _, _, _, h, _, _, _ => by simp at h
  | _ :: _, [], _, _, _, _, _, h, _, _ => by simp at h
  | m :: ms, p :: ps, 0, 0, _, _, _, _, _, _ => rfl
  | m :: ms, p :: ps, 0, i' + 1, j, nd, h1, h2, h3, h4 => by
    simp at h1 h2; subst h1; subst h2
    have := ios_mem (ms := ms) (ps := ps) (i := i') (j := j) (by simpa using h3) (by simpa using h4)
    have nd' : (j :: ios ms ps).Nodup := nd
    exact absurd this (List.nodup_cons.mp nd').1
  | m :: ms, p :: ps, i + 1, 0, j, nd, h1, h2, h3, h4 => by
    simp at h3 h4; subst h3; subst h4
    have := ios_mem (ms := ms) (ps := ps) (i := i) (j := j) (by simpa using h1) (by simpa using h2)
    have nd' : (j :: ios ms ps).Nodup := nd
    exact absurd this (List.nodup_cons.mp nd').1
  | m :: ms, p :: ps, i + 1, i' + 1, j, nd, h1, h2, h3, h4 => by
    have nd' : (ios ms ps).Nodup := by
      cases m with
      | io => cases p with
        | slot k => exact (List.nodup_cons.mp nd).2
        | val d => exact nd
      | _ => exact nd
    exact congrArg _ (ios_inj nd' (by simpa using h1) (by simpa using h2) (by simpa using h3) (by simpa using h4))
theorem putIo_ok {ρ ρ1 : Env} {i : Nat} {d : D} (h : putIo ρ i d = some ρ1) : ∃ s s', ρ[i]? = some s ∧ ρ1 = ρ.set i s' ∧ ((∃ d0, s = .own d0 ∧ s' = .own d) ∨ (∃ d0, s = .io d0 ∧ s' = .io d)) := by
  unfold putIo at h
  cases q : ρ[i]? with
  | none => rw [q] at h; cases h
  | some s =>
    rw [q] at h
    cases s with
    | own d0 => cases h; exact ⟨_, _, rfl, rfl, .inl ⟨d0, rfl, rfl⟩⟩
    | io d0 => cases h; exact ⟨_, _, rfl, rfl, .inr ⟨d0, rfl, rfl⟩⟩
    | _ => cases h
theorem back1_ok {ρ ρ1 : Env} {m : Md} {p : Pl} {s : Sl} (h : back1 ρ m p s = some ρ1) : (m ≠ .io ∧ ρ1 = ρ) ∨ ∃ i d, m = .io ∧ p = .slot i ∧ s = .io d ∧ putIo ρ i d = some ρ1 := by
  unfold back1 at h
  cases m with
  | io => cases p with
    | val d => cases h
    | slot i => cases s with
      | io d => exact .inr ⟨i, d, rfl, rfl, rfl, h⟩
      | _ => cases h
  | v => cases h; exact .inl ⟨(fun z => nomatch z), rfl⟩
  | b => cases h; exact .inl ⟨(fun z => nomatch z), rfl⟩
  | s => cases h; exact .inl ⟨(fun z => nomatch z), rfl⟩
theorem backIo_cons {ρ ρ2 : Env} {m : Md} {ms : List Md} {p : Pl} {ps : List Pl} {ss : List Sl} (h : backIo ρ (m :: ms) (p :: ps) ss = some ρ2) : ∃ s ss' ρ1, ss = s :: ss' ∧ back1 ρ m p s = some ρ1 ∧ backIo ρ1 ms ps ss' = some ρ2 := by
  cases ss with
  | nil => simp [backIo] at h
  | cons s ss' =>
    simp only [backIo] at h
    cases q : back1 ρ m p s with
    | none => rw [q] at h; cases h
    | some ρ1 => rw [q] at h; exact ⟨s, ss', ρ1, rfl, q, h⟩
theorem ios_io {ms : List Md} {ps : List Pl} {i : Nat} : ios (.io :: ms) (.slot i :: ps) = i :: ios ms ps := rfl
theorem ios_no {m : Md} {ms : List Md} {p : Pl} {ps : List Pl} (h : m ≠ .io) : ios (m :: ms) (p :: ps) = ios ms ps := by
  cases m with
  | io => exact absurd rfl h
  | _ => rfl
theorem backIo_out : ∀ {ms : List Md} {ps : List Pl} {ss ρ ρ2 : Env} {j : Nat}, backIo ρ ms ps ss = some ρ2 → j ∉ ios ms ps → ρ2[j]? = ρ[j]? := by
  intro ms
  induction ms with
  | nil =>
    intro ps ss ρ ρ2 j h _
    cases ps with
    | nil => cases ss <;> simp [backIo] at h <;> rw [h]
    | cons p ps => simp [backIo] at h
  | cons m ms ih =>
    intro ps ss ρ ρ2 j h hj
    cases ps with
    | nil => simp [backIo] at h
    | cons p ps =>
      obtain ⟨s, ss', ρ1, rfl, h1, h2⟩ := backIo_cons h
      rcases back1_ok h1 with ⟨hm, rfl⟩ | ⟨i, d, rfl, rfl, rfl, hp⟩
      · rw [ios_no hm] at hj
        exact ih h2 hj
      · rw [ios_io] at hj
        obtain ⟨s, s', _, rfl, _⟩ := putIo_ok hp
        rw [ih h2 fun z => hj (List.mem_cons_of_mem _ z), List.getElem?_set_ne fun z => hj (by rw [z]; exact List.mem_cons_self)]
theorem backIo_len : ∀ {ms : List Md} {ps : List Pl} {ss ρ ρ2 : Env}, backIo ρ ms ps ss = some ρ2 → ρ2.length = ρ.length := by
  intro ms
  induction ms with
  | nil =>
    intro ps ss ρ ρ2 h
    cases ps with
    | nil => cases ss <;> simp [backIo] at h <;> rw [h]
    | cons p ps => simp [backIo] at h
  | cons m ms ih =>
    intro ps ss ρ ρ2 h
    cases ps with
    | nil => simp [backIo] at h
    | cons p ps =>
      obtain ⟨s, ss', ρ1, rfl, h1, h2⟩ := backIo_cons h
      rcases back1_ok h1 with ⟨hm, rfl⟩ | ⟨i, d, rfl, rfl, rfl, hp⟩
      · exact ih h2
      · obtain ⟨s, s', _, rfl, _⟩ := putIo_ok hp
        rw [ih h2, List.length_set]
theorem backIo_in : ∀ {ms : List Md} {ps : List Pl} {ss ρ ρ2 : Env} {j : Nat}, backIo ρ ms ps ss = some ρ2 → (ios ms ps).Nodup → j ∈ ios ms ps →
    ∃ (i : Nat) (d : D) (s s' : Sl), ms[i]? = some Md.io ∧ ps[i]? = some (Pl.slot j) ∧ ss[i]? = some (Sl.io d) ∧ ρ[j]? = some s ∧ ρ2[j]? = some s' ∧ ((∃ d0, s = .own d0 ∧ s' = .own d) ∨ (∃ d0, s = .io d0 ∧ s' = .io d)) := by
  intro ms
  induction ms with
  | nil =>
    intro ps ss ρ ρ2 j h nd hj
    cases ps <;> cases hj
  | cons m ms ih =>
    intro ps ss ρ ρ2 j h nd hj
    cases ps with
    | nil => simp [backIo] at h
    | cons p ps =>
      obtain ⟨s, ss', ρ1, rfl, h1, h2⟩ := backIo_cons h
      rcases back1_ok h1 with ⟨hm, rfl⟩ | ⟨i, d, rfl, rfl, rfl, hp⟩
      · rw [ios_no hm] at hj nd
        obtain ⟨i2, d2, s2, s2', a1, a2, a3, r⟩ := ih h2 nd hj
        exact ⟨i2 + 1, d2, s2, s2', by simpa using a1, by simpa using a2, by simpa using a3, r⟩
      · rw [ios_io] at hj nd
        obtain ⟨n1, n2⟩ := List.nodup_cons.mp nd
        obtain ⟨s, s', e, rfl, k⟩ := putIo_ok hp
        have hi : i < ρ.length := (List.getElem?_eq_some_iff.mp e).1
        by_cases hji : j = i
        · subst hji
          refine ⟨0, d, s, s', rfl, rfl, rfl, e, ?_, k⟩
          rw [backIo_out h2 n1, List.getElem?_set_self hi]
        · have hj' : j ∈ ios ms ps := by
            cases hj with
            | head => exact absurd rfl hji
            | tail _ z => exact z
          obtain ⟨i2, d2, s2, s2', a1, a2, a3, a4, r⟩ := ih h2 n2 hj'
          rw [List.getElem?_set_ne (fun z => hji z.symm)] at a4
          exact ⟨i2 + 1, d2, s2, s2', by simpa using a1, by simpa using a2, by simpa using a3, a4, r⟩
theorem Rp.tracked {G : Hp} {a : Addr} {d : D} (h : Rp G (.ref a) d) : G a ≠ none := by
  cases h with
  | lst h r => exact ne_none_of h
  | tup h r => exact ne_none_of h
  | dct h r => exact ne_none_of h
section
variable {C : Ctx} {G H : Hp} {σ : L2.St} {ρ : Env} {vs : List V} {ps : List Pl} {ms : List Md} {ss : Env}
def IoA (σ : L2.St) (ms : List Md) (ps : List Pl) (a : Addr) : Prop := ∃ j ∈ ios ms ps, σ[j]? = some (some (.ref a))
open Classical in
noncomputable def callC (C : Ctx) (G H : Hp) (σ : L2.St) (vs : List V) (ms : List Md) (ps : List Pl) (ss : Env) : Ctx :=
  { K := C.K, G0 := G, B := fun a => if IoA σ ms ps a then none else H a, A := fun a => H a = none, P := fun i => vs[i]?, S := fun i => ss.getD i .un }
theorem ios_arg : ∀ {ms : List Md} {ps : List Pl} {j : Nat}, j ∈ ios ms ps → ∃ (i : Nat), ms[i]? = some Md.io ∧ ps[i]? = some (Pl.slot j)
  | [], _, _, h => by cases h
  | .io :: ms, .slot i :: ps, j, h => by
    have h' : j ∈ i :: ios ms ps := h
    cases h' with
    | head => exact ⟨0, rfl, rfl⟩
    | tail _ z => obtain ⟨k, h1, h2⟩ := ios_arg z; exact ⟨k + 1, by simpa using h1, by simpa using h2⟩
  | .io :: ms, .val _ :: ps, j, h => by obtain ⟨k, h1, h2⟩ := ios_arg (ms := ms) (ps := ps) h; exact ⟨k + 1, by simpa using h1, by simpa using h2⟩
  | .v :: ms, p :: ps, j, h => by obtain ⟨k, h1, h2⟩ := ios_arg (ms := ms) (ps := ps) h; exact ⟨k + 1, by simpa using h1, by simpa using h2⟩
  | .b :: ms, p :: ps, j, h => by obtain ⟨k, h1, h2⟩ := ios_arg (ms := ms) (ps := ps) h; exact ⟨k + 1, by simpa using h1, by simpa using h2⟩
  | .s :: ms, p :: ps, j, h => by obtain ⟨k, h1, h2⟩ := ios_arg (ms := ms) (ps := ps) h; exact ⟨k + 1, by simpa using h1, by simpa using h2⟩
  | .io :: ms, [], j, h => by cases h
  | .v :: ms, [], j, h => by cases h
  | .b :: ms, [], j, h => by cases h
  | .s :: ms, [], j, h => by cases h
theorem getE {ms : List Md} {ps : List Pl} (ha : argSs ρ ms ps = some ss) {i : Nat} {p : Pl} {m : Md} (hp : ps[i]? = some p) (hm : ms[i]? = some m) : ∃ s, ss[i]? = some s ∧ argS ρ m p = some s := by
  obtain ⟨l1, l2⟩ := argSs_len ha
  have hi : i < ps.length := (List.getElem?_eq_some_iff.mp hp).1
  have e : ss[i]? = some (ss[i]'(by omega)) := List.getElem?_eq_getElem _
  obtain ⟨m', p', h1, h2, h3⟩ := argSs_get ha e
  rw [hp] at h2; cases h2
  rw [hm] at h1; cases h1
  exact ⟨_, e, h3⟩
/-- what is handed in to be changed is somebody's own -/
theorem io_own (ha : argSs ρ ms ps = some ss) {i j : Nat} (hm : ms[i]? = some .io) (hp : ps[i]? = some (.slot j)) : ∃ s d, ρ[j]? = some s ∧ ownK s = true ∧ (s = .own d ∨ s = .io d) ∧ ss[i]? = some (.io d) := by
  obtain ⟨s, e, h⟩ := getE ha hp hm
  unfold argS at h
  simp only at h
  cases q : ρ[j]? with
  | none => rw [q] at h; cases h
  | some s0 =>
    rw [q] at h
    cases s0 with
    | own d => cases h; exact ⟨_, d, rfl, rfl, .inl rfl, e⟩
    | io d => cases h; exact ⟨_, d, rfl, rfl, .inr rfl, e⟩
    | _ => cases h
theorem IoA.own (ha : argSs ρ ms ps = some ss) {a : Addr} (h : IoA σ ms ps a) : ∃ j ∈ ios ms ps, Own σ ρ j a := by
  obtain ⟨j, hj, e⟩ := h
  obtain ⟨i, h1, h2⟩ := ios_arg hj
  obtain ⟨s, d, q, k, _⟩ := io_own ha h1 h2
  exact ⟨j, hj, e, s, q, k⟩
theorem call_start (S : StOk C G σ H ρ) (o : okPs G σ vs ps) (ap : apart ms ps = true) (ha : argSs ρ ms ps = some ss) : StOk (callC C G H σ vs ms ps ss) G (vs.map some) H ss := by
  obtain ⟨l1, l2⟩ := argSs_len ha
  have lv := o.len
  unfold apart at ap
  simp only [Bool.and_eq_true, decide_eq_true_eq, List.all_eq_true] at ap
  obtain ⟨nd, dis⟩ := ap
  have Bio : ∀ {a : Addr}, IoA σ ms ps a → (callC C G H σ vs ms ps ss).B a = none := fun {a} h => if_pos h
  have Bno : ∀ {a : Addr}, ¬ IoA σ ms ps a → (callC C G H σ vs ms ps ss).B a = H a := fun {a} h => if_neg h
  have CB : Same C.B (callC C G H σ vs ms ps ss).B := fun a u q => by
    rw [Bno fun h => ?_]
    · exact S.bh a u q
    · obtain ⟨j, _, ow⟩ := IoA.own ha h
      rw [(Own.tracked S ow).2.2] at q; cases q
  have sg : ∀ {i : Nat} {s : Sl}, ss[i]? = some s → ss.getD i .un = s := fun {i s} e => by rw [List.getD_eq_getElem?_getD, e]; rfl
  -- what is but looked at isn't what is changed
  have far : ∀ {i : Nat} {m : Md} {p : Pl} {v : V} {a : Addr}, ms[i]? = some m → m ≠ .io → ps[i]? = some p → okP G σ v p → v = .ref a → (∃ d, rsv ρ p = some d) → ¬ IoA σ ms ps a := by
    intro i m p v a hm hne hp ho hv hd h
    subst hv
    obtain ⟨j', hj', ow⟩ := IoA.own ha h
    obtain ⟨t1, t2, t3⟩ := Own.tracked S ow
    cases p with
    | val d => exact (Rp.tracked (show Rp G (.ref a) d from ho)) t2
    | slot j =>
      have hσ : σ[j]? = some (some (.ref a)) := ho
      have hjn : j ∉ ios ms ps := by
        have := dis j (nios_mem hm hne hp)
        exact this
      obtain ⟨d, hd⟩ := hd
      simp only [rsv] at hd
      cases q : ρ[j]? with
      | none => rw [q] at hd; cases hd
      | some s =>
        rw [q] at hd
        have k := S.get q hσ
        cases s with
        | un => cases hd
        | scr ns => cases hd
        | exc n => cases hd
        | val d' => obtain ⟨w, e, r⟩ := k; cases e; exact r.tracked t2
        | own d' => exact hjn (by rw [S.ds j j' a ⟨hσ, _, q, rfl⟩ ow]; exact hj')
        | io d' => exact hjn (by rw [S.ds j j' a ⟨hσ, _, q, rfl⟩ ow]; exact hj')
        | bor d' =>
          obtain ⟨w, e, p1, p2⟩ := k
          cases e
          have w := S.wf j _ p1
          rw [p2] at w
          exact (Sh.tracked (show Sh C.G0 C.B (.ref a) d' from w)) t3
  refine ⟨S.gh, fun a u q => ?_, Same.refl _, fun a q => q, fun a q => .inl q, fun i v q => ?_, by rw [List.length_map, lv, l2], fun i s e => ?_, fun i j a hi hj => ?_⟩
  · by_cases h : IoA σ ms ps a
    · rw [Bio h] at q; cases q
    · rw [Bno h] at q; exact q
  · -- wf
    have q' : vs[i]? = some v := q
    show BorOk C.K G (callC C G H σ vs ms ps ss).B v (ss.getD i .un)
    have hi : i < ps.length := by rw [← lv]; exact (List.getElem?_eq_some_iff.mp q').1
    have e : ss[i]? = some (ss[i]'(by omega)) := List.getElem?_eq_getElem _
    rw [sg e]
    generalize ss[i]'(by omega) = s at e
    obtain ⟨m, p, h1, h2, h3⟩ := argSs_get ha e
    obtain ⟨v', hv', ho⟩ := o.get h2
    rw [q'] at hv'; cases hv'
    cases s with
    | bor d =>
      cases m with
      | b =>
        simp only [argS] at h3
        cases r : rsv ρ p with
        | none => rw [r] at h3; cases h3
        | some d' =>
          rw [r] at h3
          cases h3
          refine (rsv_ok S ho r).at (Same.refl _) fun a ea u hu => ?_
          rw [Bno (far h1 (fun z => nomatch z) h2 ho ea ⟨_, r⟩)]
          exact hu
      | v => cases p <;> cases h3
      | io => cases p with
        | val d' => cases h3
        | slot j => simp only [argS] at h3; split at h3 <;> cases h3
      | s => cases p with
        | val d' => cases h3
        | slot j => simp only [argS] at h3; split at h3 <;> cases h3
    | scr ns =>
      cases m with
      | b =>
        simp only [argS] at h3
        cases r : rsv ρ p with
        | none => rw [r] at h3; cases h3
        | some d' => rw [r] at h3; cases h3
      | v => cases p <;> cases h3
      | io => cases p with
        | val d' => cases h3
        | slot j => simp only [argS] at h3; split at h3 <;> cases h3
      | s => cases p with
        | val d' => cases h3
        | slot j =>
          simp only [argS] at h3
          cases r : ρ[j]? with
          | none => rw [r] at h3; cases h3
          | some s0 =>
            rw [r] at h3
            cases s0 with
            | scr ns' =>
              cases h3
              obtain ⟨w, e, p1, p2⟩ := S.get r (show σ[j]? = some (some v) from ho)
              cases e
              have w := S.wf j _ p1
              rw [p2] at w
              obtain ⟨a, ea, sq⟩ := w
              exact ⟨a, ea, Same.seq CB sq⟩
            | _ => cases h3
    | _ => trivial
  · obtain ⟨m, p, h1, h2, h3⟩ := argSs_get ha e
    obtain ⟨v, hv, ho⟩ := o.get h2
    refine ⟨some v, by rw [List.getElem?_map, hv]; rfl, ?_⟩
    have hP : (callC C G H σ vs ms ps ss).P i = some v := hv
    have hS : (callC C G H σ vs ms ps ss).S i = s := sg e
    cases s with
    | un => trivial
    | val d =>
      cases m with
      | v => cases p with
        | val d' => cases h3; exact ⟨v, rfl, ho⟩
        | slot j => cases h3
      | b => simp only [argS] at h3; cases r : rsv ρ p with
        | none => rw [r] at h3; cases h3
        | some d' => rw [r] at h3; cases h3
      | io => cases p with
        | val d' => cases h3
        | slot j => simp only [argS] at h3; split at h3 <;> cases h3
      | s => cases p with
        | val d' => cases h3; exact ⟨v, rfl, ho⟩
        | slot j => simp only [argS] at h3; split at h3 <;> cases h3
    | own d =>
      cases m with
      | v => cases p <;> cases h3
      | b => simp only [argS] at h3; cases r : rsv ρ p with
        | none => rw [r] at h3; cases h3
        | some d' => rw [r] at h3; cases h3
      | io => cases p with
        | val d' => cases h3
        | slot j => simp only [argS] at h3; split at h3 <;> cases h3
      | s => cases p with
        | val d' => cases h3
        | slot j => simp only [argS] at h3; split at h3 <;> cases h3
    | bor d => exact ⟨v, rfl, hP, hS⟩
    | scr ns => exact ⟨v, rfl, hP, hS⟩
    | exc n =>
      cases m with
      | v => cases p <;> cases h3
      | b => simp only [argS] at h3; cases r : rsv ρ p with
        | none => rw [r] at h3; cases h3
        | some d' => rw [r] at h3; cases h3
      | io => cases p with
        | val d' => cases h3
        | slot j => simp only [argS] at h3; split at h3 <;> cases h3
      | s => cases p with
        | val d' => cases h3
        | slot j =>
          simp only [argS] at h3
          cases r : ρ[j]? with
          | none => rw [r] at h3; cases h3
          | some s0 =>
            rw [r] at h3
            cases s0 with
            | exc n' =>
              cases h3
              obtain ⟨a, e, x⟩ := S.get r (show σ[j]? = some (some v) from ho)
              exact ⟨a, e, x⟩
            | _ => cases h3
    | io d =>
      cases m with
      | v => cases p <;> cases h3
      | b => simp only [argS] at h3; cases r : rsv ρ p with
        | none => rw [r] at h3; cases h3
        | some d' => rw [r] at h3; cases h3
      | s => cases p with
        | val d' => cases h3
        | slot j => simp only [argS] at h3; split at h3 <;> cases h3
      | io => cases p with
        | val d' => cases h3
        | slot j =>
          obtain ⟨s0, d0, q, kk, sd, e'⟩ := io_own ha h1 h2
          rw [e] at e'; cases e'
          have k := S.get q (show σ[j]? = some (some v) from ho)
          have fin : ∀ {a : Addr}, v = .ref a → Sh G H (.ref a) d → G a = none → SlOk (callC C G H σ vs ms ps ss) G H i (some v) (.io d) := fun {a} ea sh gn => by
            subst ea
            exact ⟨a, rfl, sh, gn, Bio ⟨j, ios_mem h1 h2, ho⟩, hP⟩
          rcases sd with rfl | rfl
          · obtain ⟨a, ea, sh, gn, _⟩ := k
            exact fin (Option.some.inj ea) sh gn
          · obtain ⟨a, ea, sh, gn, _⟩ := k
            exact fin (Option.some.inj ea) sh gn
  · -- two names for one object
    have pick : ∀ {i : Nat}, Own (vs.map some) ss i a → ∃ j, ms[i]? = some .io ∧ ps[i]? = some (.slot j) ∧ Own σ ρ j a := by
      intro i ⟨x, s, y, z⟩
      obtain ⟨m, p, h1, h2, h3⟩ := argSs_get ha y
      obtain ⟨v, hv, ho⟩ := o.get h2
      rw [List.getElem?_map, hv] at x
      cases x
      cases m with
      | v => cases p with
        | val d' => cases h3; cases z
        | slot j => cases h3
      | b => simp only [argS] at h3; cases r : rsv ρ p with
        | none => rw [r] at h3; cases h3
        | some d' => rw [r] at h3; cases h3; cases z
      | s => cases p with
        | val d' => cases h3; cases z
        | slot j => simp only [argS] at h3; split at h3 <;> cases h3 <;> cases z
      | io => cases p with
        | val d' => cases h3
        | slot j =>
          obtain ⟨s0, d0, q, kk, _⟩ := io_own ha h1 h2
          exact ⟨j, h1, h2, ho, s0, q, kk⟩
    obtain ⟨j1, a1, a2, a3⟩ := pick hi
    obtain ⟨j2, b1, b2, b3⟩ := pick hj
    have ej := S.ds j1 j2 a a3 b3
    subst ej
    exact ios_inj nd a1 a2 b1 b2
theorem call_end {G' H' : Hp} {σ' : L2.St} {ρ' ρ2 : Env} (S : StOk C G σ H ρ) (o : okPs G σ vs ps) (ap : apart ms ps = true) (ha : argSs ρ ms ps = some ss) (S' : StOk (callC C G H σ vs ms ps ss) G' σ' H' ρ') (g : Same G G') (hb : backIo ρ ms ps ρ' = some ρ2) :
    StOk C G' σ H' ρ2 := by
  unfold apart at ap
  simp only [Bool.and_eq_true, decide_eq_true_eq, List.all_eq_true] at ap
  obtain ⟨nd, dis⟩ := ap
  have Bno : ∀ {a : Addr}, ¬ IoA σ ms ps a → (callC C G H σ vs ms ps ss).B a = H a := fun {a} h => if_neg h
  have CB : Same C.B (callC C G H σ vs ms ps ss).B := fun a u q => by
    rw [Bno fun h => ?_]
    · exact S.bh a u q
    · obtain ⟨j, _, ow⟩ := IoA.own ha h
      rw [(Own.tracked S ow).2.2] at q; cases q
  have trk : ∀ {a : Addr}, H' a = none → H a = none := fun {a} q => S'.fr a q
  have gnew : ∀ {a : Addr}, G' a ≠ none → G a ≠ none ∨ H a = none := fun {a} q => S'.ga a q
  have still : ∀ {a : Addr}, H a ≠ none → G a = none → G' a = none := fun {a} h1 h2 => by
    cases q : G' a with
    | none => rfl
    | some u => exact ((gnew (ne_none_of q)).elim (fun z => (z h2).elim) fun z => (h1 z).elim)
  have kind : ∀ {j : Nat} {s2 : Sl}, ρ2[j]? = some s2 → ownK s2 = true → ∃ s, ρ[j]? = some s ∧ ownK s = true := fun {j s2} q z => by
    by_cases hj : j ∈ ios ms ps
    · obtain ⟨i, d, s, s', h1, h2, h3, h4, h5, h6⟩ := backIo_in hb nd hj
      refine ⟨s, h4, ?_⟩
      rcases h6 with ⟨_, rfl, _⟩ | ⟨_, rfl, _⟩ <;> rfl
    · rw [backIo_out hb hj] at q
      exact ⟨s2, q, z⟩
  refine ⟨S'.gh, CB.trans S'.bh, S.g0.trans g, fun a q => S.fr a (trk q), fun a q => (gnew q).elim (S.ga a) fun z => .inr (S.fr a z), S.wf, by rw [backIo_len hb]; exact S.len, fun j s2 q => ?_, fun i j a ⟨x, s, y, z⟩ ⟨x', s', y', z'⟩ => ?_⟩
  · by_cases hj : j ∈ ios ms ps
    · obtain ⟨i, d, s, s', h1, h2, h3, h4, h5, h6⟩ := backIo_in hb nd hj
      rw [q] at h5; cases h5
      obtain ⟨oo, e1, k1⟩ := S'.sl i _ h3
      obtain ⟨a, rfl, sh, gn, _, hP⟩ := k1
      obtain ⟨v, hv, ho⟩ := o.get h2
      have hP' : vs[i]? = some (.ref a) := hP
      rw [hP'] at hv; cases hv
      have hσ : σ[j]? = some (some (.ref a)) := ho
      have k := S.get h4 hσ
      refine ⟨_, hσ, ?_⟩
      rcases h6 with ⟨d0, rfl, rfl⟩ | ⟨d0, rfl, rfl⟩
      · obtain ⟨b, eb, _, _, y, z⟩ := k
        cases eb
        exact ⟨_, rfl, sh, gn, y, z⟩
      · obtain ⟨b, eb, _, _, y, z⟩ := k
        cases eb
        exact ⟨_, rfl, sh, gn, y, z⟩
    · rw [backIo_out hb hj] at q
      obtain ⟨oo, e1, k⟩ := S.sl j s2 q
      refine ⟨oo, e1, ?_⟩
      have keep : ∀ {a : Addr}, oo = some (.ref a) → ownK s2 = true → ∀ u, H a = some u → H' a = some u := fun {a} ea kk u hu => by
        subst ea
        refine S'.bh a u ?_
        rw [Bno fun h => ?_]
        · exact hu
        · obtain ⟨j', hj', ow⟩ := IoA.own ha h
          exact hj (by rw [S.ds j j' a ⟨e1, s2, q, kk⟩ ow]; exact hj')
      cases s2 with
      | un => trivial
      | val d => obtain ⟨v, e, r⟩ := k; exact ⟨v, e, r.mono g⟩
      | own d =>
        obtain ⟨b, e3, r, x, y, z⟩ := k
        exact ⟨b, e3, r.at g fun c ec u hu => by cases ec; exact keep e3 rfl u hu, still r.tracked x, y, z⟩
      | io d =>
        obtain ⟨b, e3, r, x, y, z⟩ := k
        exact ⟨b, e3, r.at g fun c ec u hu => by cases ec; exact keep e3 rfl u hu, still r.tracked x, y, z⟩
      | bor d => exact k
      | scr ns => exact k
      | exc n => obtain ⟨v, e, r⟩ := k; exact ⟨v, e, (g _ _ r)⟩
  · obtain ⟨t, t1, t2⟩ := kind y z
    obtain ⟨t', t1', t2'⟩ := kind y' z'
    exact S.ds i j a ⟨x, t, t1, t2⟩ ⟨x', t', t1', t2'⟩
end
theorem backIo_take : ∀ {ms : List Md} {ps : List Pl} {ρ ss : Env}, ms.length = ps.length → backIo ρ ms ps (ss.take ms.length) = backIo ρ ms ps ss
  | [], [], _, ss, _ => by cases ss <;> rfl
  | m :: ms, p :: ps, ρ, [], _ => rfl
  | m :: ms, p :: ps, ρ, s :: ss, h => by
    show backIo ρ (m :: ms) (p :: ps) (s :: ss.take ms.length) = _
    simp only [backIo]
    cases back1 ρ m p s with
    | none => rfl
    | some ρ1 => exact backIo_take (by simpa using h)
theorem evalD_inv {ms : List Md} {nl : Nat} {body : M Fl} {ss : Env} {ro : Rv × Env} (h : evalD ms nl body ss = some ro) : ∃ r ρ', runD nl body ss = some (r, ρ') ∧ resR ρ' r = some ro.1 ∧ ro.2 = ρ'.take ms.length := by
  unfold evalD at h
  cases h1 : runD nl body ss with
  | none => rw [h1] at h; cases h
  | some x =>
    obtain ⟨r, ρ'⟩ := x
    rw [h1] at h
    simp only at h
    cases h2 : resR ρ' r with
    | none => rw [h2] at h; cases h
    | some r2 => rw [h2] at h; cases h; exact ⟨r, ρ', rfl, h2, rfl⟩
section
variable {X : Cx} {e : Expr} {es : List Expr} {pos p : Pos} {x : Str} {k : Nat} {f : Addr} {fd : FuncData} {ps : List Str} {np nl : Nat} {m : M Fl} {ms : List Md} {fs : M (List Pl)}
theorem rd_call {E : XK} {t : TA} (ra : RdPs X.K t fs) (hl : ms.length = np) : RdF X.K (tCall (spD X.K np nl m) [] E t) (mCall ms nl m fs) := by
  intro C G σ H ρ Q hK S r' ρ2 hf q
  obtain ⟨pl, ρ1, h1, hf2⟩ := bnd_ok hf
  refine ra C G σ H ρ _ hK S pl ρ1 h1 fun vs G1 H1 g1 S1 o => ?_
  unfold callAt at hf2
  by_cases ap : apart ms pl = true
  · rw [if_pos ap] at hf2
    cases ha2 : argSs ρ1 ms pl with
    | none => rw [ha2] at hf2; cases hf2
    | some ss =>
      rw [ha2] at hf2
      simp only at hf2
      cases hev : evalD ms nl m ss with
      | none => rw [hev] at hf2; cases hf2
      | some ro =>
        rw [hev] at hf2
        simp only at hf2
        obtain ⟨r, ρ', hrun, hres, hout⟩ := evalD_inv hev
        obtain ⟨r2, outs⟩ := ro
        simp only at hf2 hres hout
        cases hbk0 : backIo ρ1 ms pl outs with
        | none => rw [hbk0] at hf2; cases hf2
        | some ρ3 =>
            rw [hbk0] at hf2
            cases hf2
            have hbk : backIo ρ1 ms pl ρ' = some ρ2 := by
              rw [hout, backIo_take (argSs_len ha2).1] at hbk0
              exact hbk0
            obtain ⟨l1, l2⟩ := argSs_len ha2
            refine ⟨callC C G1 H1 σ vs ms pl ss, ss, r, ρ', by rw [List.append_nil, o.len, ← l1, hl], hK, ?_, hrun, fun v G' σ' H' g S' rok => ?_⟩
            · rw [List.append_nil]
              exact call_start S1 o ap ha2
            · have S2 := call_end S1 o ap ha2 S' g hbk
              refine q v G' H' (g1.trans g) S2 ?_
              have fresh : ∀ {a : Addr} {d : D}, v = .ref a → Sh G' H' (.ref a) d → G' a = none → H1 a = none → okR C G' σ H' ρ2 v (.fr d) := fun {a d} ea sh gn hn => by
                refine ⟨a, ea, sh, gn, S1.bh.free hn, S1.fr a hn, fun j ow => ?_⟩
                obtain ⟨z1, s, z2, z3⟩ := ow
                have ap' := ap
                unfold apart at ap'
                simp only [Bool.and_eq_true, decide_eq_true_eq] at ap'
                have : ∃ s0, ρ1[j]? = some s0 ∧ ownK s0 = true := by
                  by_cases hj : j ∈ ios ms pl
                  · obtain ⟨i, d, s, s', h1, h2, h3, h4, h5, h6⟩ := backIo_in hbk ap'.1 hj
                    refine ⟨s, h4, ?_⟩
                    rcases h6 with ⟨_, rfl, _⟩ | ⟨_, rfl, _⟩ <;> rfl
                  · rw [backIo_out hbk hj] at z2
                    exact ⟨s, z2, z3⟩
                obtain ⟨s0, w1, w2⟩ := this
                exact (Own.tracked S1 ⟨z1, s0, w1, w2⟩).1 hn
              cases r with
              | fr d =>
                cases hres
                obtain ⟨a, ea, sh, gn, _, aa, _⟩ := rok
                exact fresh ea sh gn aa
              | pl p =>
                cases p with
                | val d => cases hres; exact rok
                | slot j =>
                  have hv : σ'[j]? = some (some v) := rok
                  simp only [resR] at hres
                  cases qq : ρ'[j]? with
                  | none => rw [qq] at hres; cases hres
                  | some s =>
                    rw [qq] at hres
                    have kk := S'.get qq hv
                    cases s with
                    | un => cases hres
                    | io d => cases hres
                    | scr ns => cases hres
                    | exc n => cases hres
                    | val d => cases hres; obtain ⟨w, e, rr⟩ := kk; cases e; exact rr
                    | own d =>
                      cases hres
                      obtain ⟨a, e, sh, gn, _, aa⟩ := kk
                      exact fresh (Option.some.inj e) sh gn aa
                    | bor d =>
                      simp only at hres
                      by_cases hat : atom d = true
                      · rw [if_pos hat] at hres
                        cases hres
                        obtain ⟨w, e, p1, p2⟩ := kk
                        cases e
                        exact (S'.bor p1 p2).atom hat G'
                      · rw [if_neg hat] at hres
                        cases hres
  · rw [if_neg ap] at hf2
    cases hf2
theorem pf_call (F : FnOk X.prog X.w X.K X.mg X.base CX0 k f fd ps (spD X.K np nl m)) (hr : Room k X.A) (hg : Gl X x) (hm : X.mg x = some (.ref f)) (hk : PySem.W.keepIn X.K (.ref f) = true) (hb : Binds X.K fd ps []) (ha : PPs X (e :: es) fs) (hl : ms.length = np)
    (hdb : (x == ("__debug__" : Str)) = false := by decide) (he : starEach (e :: es) X.env = (false, eval e X.env) :: starEach es X.env := by rfl) (hpl : (backTo pos (starEach es X.env)).any (·.1) = false := by rfl) :
    PF X (.Call (.Name x p) (e :: es) [] pos) (mCall ms nl m fs) := by
  obtain ⟨t, ha, ra⟩ := ha
  exact ⟨_, pe_call F hr hg hm hk hb .nil (pass0) ha hdb he hpl, rd_call ra hl⟩
end
end PL
namespace PL
open PySem PySem.Spec L2 RT RZ
variable [Kap]
/-! ### operators -/
theorem opOr {X : Cx} {f : Value → Value → Sem Value} {r r' : R2} (h : OpR X f r) (h' : OpR X f r') : OpR X f (fun x y H Q => r x y H Q ∨ r' x y H Q) := by
  intro pins s σ H x y v u Q I rx ry q
  exact q.elim (fun z => h pins s σ H x y v u Q I rx ry z) fun z => h' pins s σ H x y v u Q I rx ry z
theorem POpV.orL {r r' : R2} {g : D → D → Option D} (h : POpV r g) : POpV (fun x y H Q => r x y H Q ∨ r' x y H Q) g := fun G H x y d e z Q gh s1 s2 hg q => .inl (h G H x y d e z Q gh s1 s2 hg q)
theorem POpV.orR {r r' : R2} {g : D → D → Option D} (h : POpV r' g) : POpV (fun x y H Q => r x y H Q ∨ r' x y H Q) g := fun G H x y d e z Q gh s1 s2 hg q => .inr (h G H x y d e z Q gh s1 s2 hg q)
/-- by what the two are -/
def POpX (r : R2) (g : D → D → Option (Bool × D)) : Prop := ∀ (G H : Hp) (x y : V) (d e z : D) (b : Bool) (Q : VK), Same G H → Sh G H x d → Sh G H y e → g d e = some (b, z) →
  (b = false → ∀ v G' H', Grow G H G' H' → Rp G' v z → Q v H') → (b = true → ∀ p H', H p = none → Grow G H G H' → Sh G H' (.ref p) z → Q (.ref p) H') → r x y H Q
def rvOf (bz : Bool × D) : Rv := if bz.1 = true then .fr bz.2 else .pl (.val bz.2)
def mOpX (g : D → D → Option (Bool × D)) (fa fb : M Pl) : M Rv := bnd (mOp g fa fb) fun bz => ret (rvOf bz)
section
variable {X : Cx} {e a b c tg elt iter : Expr} {es ifs : List Expr} {pos pos' tpos p apos cpos : Pos} {f fa fb fe : M D} {g ga gb : M Pl} {k : M Rv} {x : Str}
theorem rd_opX {r : R2} {g' : D → D → Option (Bool × D)} {ta tb : TE} (hp : POpX r g') (ha : RdP X.K ta ga) (hb : RdP X.K tb gb) : RdF X.K (tOp r ta tb) (mOpX g' ga gb) := by
  intro C G σ H ρ Q hK S d ρ' hf q
  obtain ⟨bz, ρ0, hf0, h0⟩ := bnd_ok hf
  cases h0
  obtain ⟨p, ρ1, h1, hf2⟩ := bnd_ok hf0
  obtain ⟨p2, ρ2, h2, hf3⟩ := bnd_ok hf2
  refine ha C G σ H ρ _ hK S p ρ1 h1 fun v1 G1 H1 g1 S1 o1 => ?_
  refine hb C G1 σ H1 ρ1 _ hK S1 p2 ρ2 h2 fun v2 G2 H2 g2 S2 o2 => ?_
  obtain ⟨d1, ρ3, h3, hf4⟩ := bnd_ok hf3
  obtain ⟨s1, rfl⟩ := look_ok S2 (o1.mono g2) h3
  obtain ⟨d2, ρ4, h4, hf5⟩ := bnd_ok hf4
  obtain ⟨s2, rfl⟩ := look_ok S2 o2 h4
  obtain ⟨e, rfl⟩ := ofO_ok hf5
  obtain ⟨bb, z⟩ := bz
  refine hp G2 H2 v1 v2 d1 d2 z bb Q S2.gh s1 s2 e (fun hb v G' H' w rr => ?_) fun hb p H' hn w ss => ?_
  · subst hb
    exact q v G' H' ((g1.trans g2).trans w.g) (S2.grow w) rr
  · subst hb
    exact q _ G2 H' (g1.trans g2) (S2.grow w) (fresh_ok S2 hn w ss)
theorem pf_opX {op : Operator} {r : R2} {g' : D → D → Option (Bool × D)} (ho : OpR X (binaryOp op) r) (hp : POpX r g') (ha : PP X a ga) (hb : PP X b gb) : PF X (.BinOp a op b pos) (mOpX g' ga gb) := by
  obtain ⟨ta, ha, ra⟩ := ha
  obtain ⟨tb, hb, rb⟩ := hb
  exact ⟨_, pe_op ho ha hb, rd_opX hp ra rb⟩
end
/-- two ints -/
def onInts (c : Int → Int → Bool) (f : Int → Int → D) : D → D → Option D
  | .int i, .int j => if c i j = true then some (f i j) else none
  | _, _ => none
theorem pop_I {Cd : Int → Int → Prop} {c : Int → Int → Bool} {f : Int → Int → V} {fd : Int → Int → D} (hc : ∀ i j, c i j = true → Cd i j) (hr : ∀ i j G, Rp G (f i j) (fd i j)) : POpV (rI Cd f) (onInts c fd) := by
  intro G H x y d e z Q gh s1 s2 hg q
  cases s1 with
  | int i =>
    cases s2 with
    | int j =>
      unfold onInts at hg
      by_cases h : c i j = true
      · simp only [h, if_true] at hg
        cases hg
        exact ⟨i, j, rfl, rfl, hc i j h, q _ G H (Grow.refl gh) (hr i j G)⟩
      · simp only [h] at hg
        cases hg
    | _ => cases hg
  | _ => cases hg
def onInts0 (f : Int → Int → D) : D → D → Option D
  | .int i, .int j => some (f i j)
  | _, _ => none
theorem pop_I0 {f : Int → Int → V} {fd : Int → Int → D} (hr : ∀ i j G, Rp G (f i j) (fd i j)) : POpV (rI0 f) (onInts0 fd) := by
  intro G H x y d e z Q gh s1 s2 hg q
  cases s1 with
  | int i =>
    cases s2 with
    | int j => cases hg; exact ⟨i, j, rfl, rfl, q _ G H (Grow.refl gh) (hr i j G)⟩
    | _ => cases hg
  | _ => cases hg
abbrev gSub' : D → D → Option D := onInts0 fun i j => .int (i - j)
/-- .. of which the first may be a truth value -/
def onIB (f : Int → Int → Bool) : D → D → Option D
  | .int i, .int j => some (.bool (f i j))
  | .bool b, .int j => some (.bool (f (if b then 1 else 0) j))
  | _, _ => none
def rIB (f : Int → Int → Bool) : R2 := fun x y H Q => (∃ i j, x = .int i ∧ y = .int j ∧ Q (.bl (f i j)) H) ∨ (∃ b j, x = .bl b ∧ y = .int j ∧ Q (.bl (f (if b then 1 else 0) j)) H)
theorem pop_IB {f : Int → Int → Bool} : POpV (rIB f) (onIB f) := by
  intro G H x y d e z Q gh s1 s2 hg q
  cases s1 with
  | int i =>
    cases s2 with
    | int j => cases hg; exact .inl ⟨i, j, rfl, rfl, q _ G H (Grow.refl gh) (.bl _)⟩
    | _ => cases hg
  | bl b =>
    cases s2 with
    | int j => cases hg; exact .inr ⟨b, j, rfl, rfl, q _ G H (Grow.refl gh) (.bl _)⟩
    | _ => cases hg
  | _ => cases hg
section
variable {prog : Program} {w : World} {A : Around} {E : Value → Shared → Prop} {s : Shared} {p : Bool} {n : Int} {u : Tok} {Q : Value → Shared → Prop}
theorem sub_int_bool : isSubtype (.type "int") (.type "bool") = pure false := by rw [isSubtype_type]; kernel_rfl
theorem gives_lt_bi (p : Bool) (n : Int) (u : Tok) : Gives (Builtin.«int.__lt__» ⟨[.bool p, .int n u], []⟩) (.val (Value.bool (decide ((if p = true then (1 : Int) else 0) < n)))) :=
  .of_wp fun M A E s Q h => by obtain ⟨hp, g, d, tk, os⟩ := s; wp_walk; exact ⟨_, rfl, h⟩
theorem gives_le_bi (p : Bool) (n : Int) (u : Tok) : Gives (Builtin.«int.__le__» ⟨[.bool p, .int n u], []⟩) (.val (Value.bool (decide ((if p = true then (1 : Int) else 0) ≤ n)))) :=
  .of_wp fun M A E s Q h => by obtain ⟨hp, g, d, tk, os⟩ := s; wp_walk; exact ⟨_, rfl, h⟩
theorem lt_bi (h : Q (.bool (decide ((if p = true then (1 : Int) else 0) < n))) s) : wpAny (model prog w) A (compareOp .Lt (.bool p) (.int n u)) Q E s := by
  show wpAny _ A (richCompare .Lt _ _) Q E s
  exact PyProof.Rows.wpAny_richCompare_left (PyProof.Rows.typeIs_bool' s p) (typeIs_int s n u) (by decide) sub_int_bool F.slot_bool_lt
    (call_gives F.slot_bool_lt (PyProof.Rows.typeIs_bool' s p) F.entry_int_lt (F.args_int_lt_2 _ _) (gives_lt_bi p n u) ⟨nofun, h⟩)
theorem le_bi (h : Q (.bool (decide ((if p = true then (1 : Int) else 0) ≤ n))) s) : wpAny (model prog w) A (compareOp .LtE (.bool p) (.int n u)) Q E s := by
  show wpAny _ A (richCompare .LtE _ _) Q E s
  exact PyProof.Rows.wpAny_richCompare_left (PyProof.Rows.typeIs_bool' s p) (typeIs_int s n u) (by decide) sub_int_bool F.slot_bool_le
    (call_gives F.slot_bool_le (PyProof.Rows.typeIs_bool' s p) F.entry_int_le (F.args_int_le_2 _ _) (gives_le_bi p n u) ⟨nofun, h⟩)
end
theorem op_ltB {X : Cx} : OpR X (compareOp .Lt) (rIB fun i j => decide (i < j)) := by
  intro pins s σ H x y v u Q I rx ry h
  rcases h with ⟨i, j, rfl, rfl, q⟩ | ⟨b, j, rfl, rfl, q⟩
  · exact op_lt pins s σ H _ _ v u Q I rx ry ⟨i, j, rfl, rfl, q⟩
  · cases (show v = Value.bool b from rx)
    obtain ⟨t', rfl⟩ := ry
    exact lt_bi ⟨.bl _, H, I, rfl, q⟩
theorem op_leB {X : Cx} : OpR X (compareOp .LtE) (rIB fun i j => decide (i ≤ j)) := by
  intro pins s σ H x y v u Q I rx ry h
  rcases h with ⟨i, j, rfl, rfl, q⟩ | ⟨b, j, rfl, rfl, q⟩
  · exact op_le pins s σ H _ _ v u Q I rx ry ⟨i, j, rfl, rfl, q⟩
  · cases (show v = Value.bool b from rx)
    obtain ⟨t', rfl⟩ := ry
    exact le_bi ⟨.bl _, H, I, rfl, q⟩
abbrev gLt : D → D → Option D := onIB fun i j => decide (i < j)
abbrev gLe : D → D → Option D := onIB fun i j => decide (i ≤ j)
abbrev gGt : D → D → Option D := onInts0 fun i j => .bool (decide (j < i))
abbrev gGe : D → D → Option D := onInts0 fun i j => .bool (decide (j ≤ i))
def cDivW (_ j : Int) : Bool := decide (0 < j) && decide (j.natAbs.log2 < 9000)
def cMulW (i j : Int) : Bool := decide (i.natAbs.log2 + j.natAbs.log2 < 1000000)
def cMod (_ j : Int) : Bool := decide (0 < j)
abbrev gDiv : D → D → Option D := onInts cDivW fun i j => .int (i / j)
abbrev gMod : D → D → Option D := onInts cMod fun i j => .int (i % j)
section
variable {X : Cx} {e a b c tg elt iter : Expr} {es ifs : List Expr} {pos pos' tpos p apos cpos : Pos} {f fa fb fe : M D} {g ga gb : M Pl} {k : M Rv} {x : Str}
theorem pv_sub (ha : PP X a ga) (hb : PP X b gb) : PV X (.BinOp a .Sub b pos) (mOp gSub' ga gb) := pv_op op_sub (pop_I0 fun i j G => .int _) ha hb
theorem pv_fdiv (ha : PP X a ga) (hb : PP X b gb) : PV X (.BinOp a .FloorDiv b pos) (mOp gDiv ga gb) := pv_op op_fdivW (pop_I (fun i j h => by
  simp only [cDivW, Bool.and_eq_true, decide_eq_true_eq] at h; exact h) fun i j G => .int _) ha hb
theorem pv_mod (ha : PP X a ga) (hb : PP X b gb) : PV X (.BinOp a .Mod b pos) (mOp gMod ga gb) := pv_op op_mod (pop_I (fun i j h => of_decide_eq_true h) fun i j G => .int _) ha hb
theorem pt_lt (ha : PP X a ga) (hb : PP X b gb) : PTt X (.Compare a [.Lt] [b] pos) (mB (mOp gLt ga gb)) := pt_cmp' op_ltB pop_IB ha hb (nomark _)
theorem pt_le (ha : PP X a ga) (hb : PP X b gb) : PTt X (.Compare a [.LtE] [b] pos) (mB (mOp gLe ga gb)) := pt_cmp' op_leB pop_IB ha hb (nomark _)
theorem pt_gt (ha : PP X a ga) (hb : PP X b gb) : PTt X (.Compare a [.Gt] [b] pos) (mB (mOp gGt ga gb)) := pt_cmp' op_gt (pop_I0 fun i j G => .bl _) ha hb (nomark _)
theorem pt_ge (ha : PP X a ga) (hb : PP X b gb) : PTt X (.Compare a [.GtE] [b] pos) (mB (mOp gGe ga gb)) := pt_cmp' op_ge (pop_I0 fun i j G => .bl _) ha hb (nomark _)
theorem pv_lt (ha : PP X a ga) (hb : PP X b gb) : PV X (.Compare a [.Lt] [b] pos) (mOp gLt ga gb) := pv_cmp op_ltB pop_IB ha hb (nomark _)
theorem pv_le (ha : PP X a ga) (hb : PP X b gb) : PV X (.Compare a [.LtE] [b] pos) (mOp gLe ga gb) := pv_cmp op_leB pop_IB ha hb (nomark _)
theorem pv_gt (ha : PP X a ga) (hb : PP X b gb) : PV X (.Compare a [.Gt] [b] pos) (mOp gGt ga gb) := pv_cmp op_gt (pop_I0 fun i j G => .bl _) ha hb (nomark _)
theorem pv_ge (ha : PP X a ga) (hb : PP X b gb) : PV X (.Compare a [.GtE] [b] pos) (mOp gGe ga gb) := pv_cmp op_ge (pop_I0 fun i j G => .bl _) ha hb (nomark _)
/-! ### + and * by what the two are -/
def gAdd : D → D → Option (Bool × D)
  | .int i, .int j => some (false, .int (i + j))
  | .list xs, .list ys => if xs.length + ys.length ≤ 100000 then some (true, .list (xs ++ ys)) else none
  | .tuple xs, .tuple ys => if xs.length + ys.length ≤ 100000 ∧ xs ≠ [] ∧ ys ≠ [] then some (false, .tuple (xs ++ ys)) else none
  | .str x, .str y => if x.length + y.length ≤ 100000 then some (false, .str (x ++ y)) else none
  | _, _ => none
def rAddA (K : PySem.W.Frag) : R2 := fun x y H Q => rI0 (fun i j => .int (i + j)) x y H Q ∨ (rCat x y H Q ∨ (rCatT K x y H Q ∨ (∃ i j, x = .str i ∧ y = .str j ∧ i.length + j.length ≤ sizeLine ∧ Q (.str (i ++ j)) H)))
theorem op_addA : OpR X (binaryOp .Add) (rAddA X.K) := opOr op_add (opOr op_cat (opOr op_catT op_add_str))
theorem pop_addA {K : PySem.W.Frag} : POpX (rAddA K) gAdd := by
  intro G H x y d e z bb Q gh s1 s2 hg q qf
  cases s1 with
  | int i => cases s2 with
    | int j => cases hg; exact .inl ⟨i, j, rfl, rfl, q rfl _ G H (Grow.refl gh) (.int _)⟩
    | _ => cases hg
  | str i => cases s2 with
    | str j =>
      simp only [gAdd] at hg
      by_cases h : i.length + j.length ≤ 100000
      · rw [if_pos h] at hg; cases hg
        exact .inr (.inr (.inr ⟨i, j, rfl, rfl, line_of h, q rfl _ G H (Grow.refl gh) (.str _)⟩))
      · rw [if_neg h] at hg; cases hg
    | _ => cases hg
  | @lst a1 xs ds h1 r1 => cases s2 with
    | @lst a2 ys es h2 r2 =>
      simp only [gAdd] at hg
      by_cases h : ds.length + es.length ≤ 100000
      · rw [if_pos h] at hg; cases hg
        refine .inr (.inl ⟨a1, a2, xs, ys, rfl, rfl, h1, h2, by rw [r1.length, r2.length]; exact line_of h, fun p hp => ?_⟩)
        exact qf rfl p _ hp (Grow.newF gh hp) (.lst upd_same (r1.append r2))
      · rw [if_neg h] at hg; cases hg
    | _ => cases hg
  | @tup a1 xs ds h1 r1 => cases s2 with
    | @tup a2 ys es h2 r2 =>
      simp only [gAdd] at hg
      by_cases h : ds.length + es.length ≤ 100000 ∧ ds ≠ [] ∧ es ≠ []
      · rw [if_pos h] at hg; cases hg
        have n1 : xs ≠ [] := fun z => h.2.1 (by have := r1.length; rw [z] at this; exact List.length_eq_zero_iff.mp this.symm)
        have n2 : ys ≠ [] := fun z => h.2.2 (by have := r2.length; rw [z] at this; exact List.length_eq_zero_iff.mp this.symm)
        refine .inr (.inr (.inl ⟨a1, a2, xs, ys, rfl, rfl, .inl (.inl h1), .inl (.inl h2), n1, by rw [r1.length, r2.length]; exact line_of h.1, fun z => absurd z n2, fun _ p hp => ?_⟩))
        have w : Grow G H _ _ := Grow.new (o := .tup (xs ++ ys)) gh hp
        exact q rfl _ _ _ w (.tup upd_same ((r1.append r2).mono w.g))
      · rw [if_neg h] at hg; cases hg
    | _ => cases hg
  | _ => cases hg
theorem pf_add (ha : PP X a ga) (hb : PP X b gb) : PF X (.BinOp a .Add b pos) (mOpX gAdd ga gb) := pf_opX op_addA pop_addA ha hb
def gMul : D → D → Option (Bool × D)
  | .int i, .int j => if cMulW i j = true then some (false, .int (i * j)) else none
  | .list xs, .int n => if xs.length * n.toNat ≤ 100000 ∧ -(2 ^ 63) ≤ n ∧ n < 2 ^ 63 then some (true, .list (List.replicate n.toNat xs).flatten) else none
  | _, _ => none
def rMulA : R2 := fun x y H Q => rI CMulW (fun i j => .int (i * j)) x y H Q ∨ rRep x y H Q
theorem op_mulA : OpR X (binaryOp .Mult) rMulA := opOr op_mulW op_rep
theorem RpA.rep {G : Hp} {xs : List V} {ds : List D} (r : RpA G xs ds) : ∀ n : Nat, RpA G (List.replicate n xs).flatten (List.replicate n ds).flatten
  | 0 => .nil
  | n + 1 => by
    rw [List.replicate_succ, List.replicate_succ, List.flatten_cons, List.flatten_cons]
    exact r.append (RpA.rep r n)
theorem pop_mulA : POpX rMulA gMul := by
  intro G H x y d e z bb Q gh s1 s2 hg q qf
  cases s1 with
  | int i => cases s2 with
    | int j =>
      simp only [gMul] at hg
      by_cases h : cMulW i j = true
      · rw [if_pos h] at hg; cases hg
        exact .inl ⟨i, j, rfl, rfl, by simp only [cMulW, decide_eq_true_eq] at h; exact h, q rfl _ G H (Grow.refl gh) (.int _)⟩
      · rw [if_neg h] at hg; cases hg
    | _ => cases hg
  | @lst a1 xs ds h1 r1 => cases s2 with
    | int n =>
      simp only [gMul] at hg
      by_cases h : ds.length * n.toNat ≤ 100000 ∧ -(2 ^ 63) ≤ n ∧ n < 2 ^ 63
      · rw [if_pos h] at hg; cases hg
        refine .inr ⟨a1, n, xs, rfl, rfl, h1, h.2.1, h.2.2, by rw [r1.length]; exact line_of h.1, fun p hp => ?_⟩
        exact qf rfl p _ hp (Grow.newF gh hp) (.lst upd_same (r1.rep n.toNat))
      · rw [if_neg h] at hg; cases hg
    | _ => cases hg
  | _ => cases hg
theorem pf_mul (ha : PP X a ga) (hb : PP X b gb) : PF X (.BinOp a .Mult b pos) (mOpX gMul ga gb) := pf_opX op_mulA pop_mulA ha hb
def mNegU (f : M D) : M D := bnd f fun d => fun ρ => match d with
  | .int i => .ok (.int (-i)) ρ
  | _ => .stuck
theorem pv_neg (ha : PV X a fa) : PV X (.UnaryOp .USub a pos) (mNegU fa) := by
  obtain ⟨t, ha, r⟩ := ha
  refine ⟨_, pe_un un_neg ha, fun C G σ H ρ Q hK S d ρ' hf q => ?_⟩
  obtain ⟨d1, ρ1, h1, hf2⟩ := bnd_ok hf
  refine r C G σ H ρ _ hK S d1 ρ1 h1 fun v G1 H1 g1 S1 o => ?_
  cases o with
  | int i => cases hf2; exact ⟨i, rfl, q _ G1 H1 g1 S1 (.int _)⟩
  | _ => cases hf2
end
end PL
namespace PL
open PySem PySem.Spec L2 RT RZ
variable [Kap]
/-! ### powers of any ints -/
def cPowW (i j : Int) : Bool := decide (0 ≤ j) && decide (j ≤ 64) && decide (i.natAbs.log2 < 10000)
abbrev gPow : D → D → Option D := onInts cPowW fun i j => .int (i ^ j.toNat)
def CPowW (i j : Int) : Prop := cPowW i j = true
theorem op_powW {X : Cx} : OpR X (binaryOp .Pow) (rI CPowW fun i j => .int (i ^ j.toNat)) := opI fun i j t u s Q E hc q => by
  have h : 0 ≤ j ∧ j ≤ 64 ∧ i.natAbs.log2 < 10000 := by
    simp only [CPowW, cPowW, Bool.and_eq_true, decide_eq_true_eq] at hc
    exact ⟨hc.1.1, hc.1.2, hc.2⟩
  refine PyProof.Rows.pow_int h.1 ?_ q
  have hb : Builtin.Int.intBits i ≤ 10000 := by
    unfold Builtin.Int.intBits
    split
    · omega
    · omega
  have h1 : (Builtin.Int.intBits i : Int) * j ≤ 10000 * j := Int.mul_le_mul_of_nonneg_right (by omega) h.1
  have := h.2.1
  omega
section
variable {X : Cx} {e a b c tg elt iter : Expr} {es ifs : List Expr} {pos pos' tpos p p1 p2 apos cpos : Pos} {f fa fb fe : M D} {g ga gb : M Pl} {k : M Rv} {x : Str}
theorem pv_pow (ha : PP X a ga) (hb : PP X b gb) : PV X (.BinOp a .Pow b pos) (mOp gPow ga gb) := pv_op op_powW (pop_I (fun i j h => h) fun i j G => .int _) ha hb
/-! ### == and != of data -/
mutual
theorem Rp.dp {K : PySem.W.Frag} {G H : Hp} (gh : Same G H) : ∀ {v : V} {d : D}, Rp G v d → d.canLay0 = true → Dp K H v d
  | _, _, .non, _ => .non
  | _, _, .bl b, _ => .bl b
  | _, _, .int i, _ => .int i
  | _, _, .str x, _ => .str x
  | _, _, .lst h r, c => .lst (.inl (.inl (gh _ _ h))) (RpA.dp gh r c)
  | _, _, .tup h r, c => .tup (.inl (.inl (gh _ _ h))) (RpA.dp gh r c)
  | _, _, .dct h r, c => by cases c
theorem RpA.dp {K : PySem.W.Frag} {G H : Hp} (gh : Same G H) : ∀ {vs : List V} {ds : List D}, RpA G vs ds → PyData.canLayAll0 ds = true → DpAll K H vs ds
  | _, _, .nil, _ => .nil
  | _, _, .cons h r, c => by
    have c' : (_ && _) = true := c
    rw [Bool.and_eq_true] at c'
    exact .cons (Rp.dp gh h c'.1) (RpA.dp gh r c'.2)
end
theorem Sh.dp {K : PySem.W.Frag} {G H : Hp} (gh : Same G H) {v : V} {d : D} (h : Sh G H v d) (c : d.canLay0 = true) : Dp K H v d := by
  cases h with
  | non => exact .non
  | bl b => exact .bl b
  | int i => exact .int i
  | str x => exact .str x
  | lst h r => exact .lst (.inl (.inl h)) (r.dp gh c)
  | tup h r => exact .tup (.inl (.inl h)) (r.dp gh c)
  | dct h r => cases c
def gEq (d e : D) : Option D := match d, e with
  | .str a, .str b => some (.bool (a.cps.toList == b.cps.toList))
  | d, e => if (SeqAt.shaped d && SeqAt.shaped e) = true then some (.bool (PyData.eqv d e)) else none
def gNe (d e : D) : Option D := match d, e with
  | .str a, .str b => some (.bool (a.cps.toList != b.cps.toList))
  | d, e => if (SeqAt.shaped d && SeqAt.shaped e) = true then some (.bool (!PyData.eqv d e)) else none
def rEqS (K : PySem.W.Frag) : R2 := fun x y H Q => (∃ a b, x = .str a ∧ y = .str b ∧ Q (.bl (a.cps.toList == b.cps.toList)) H) ∨ rEqD K x y H Q
def rNeS (K : PySem.W.Frag) : R2 := fun x y H Q => (∃ a b, x = .str a ∧ y = .str b ∧ Q (.bl (a.cps.toList != b.cps.toList)) H) ∨ rNeD K x y H Q
theorem op_eqS {X : Cx} (hu : X.A.units + 64 < cLine) : OpR X (compareOp .Eq) (rEqS X.K) := by
  intro pins s σ H x y v u Q I rx ry h
  rcases h with ⟨a, b, rfl, rfl, q⟩ | h
  · obtain ⟨t, rfl⟩ := rx
    obtain ⟨t', rfl⟩ := ry
    exact PySem.P.eq_str ⟨.bl _, H, I, rfl, q⟩
  · exact op_eqD hu pins s σ H x y v u Q I rx ry h
theorem op_neS {X : Cx} (hu : X.A.units + 64 < cLine) : OpR X (compareOp .NotEq) (rNeS X.K) := by
  intro pins s σ H x y v u Q I rx ry h
  rcases h with ⟨a, b, rfl, rfl, q⟩ | h
  · obtain ⟨t, rfl⟩ := rx
    obtain ⟨t', rfl⟩ := ry
    exact PySem.P.ne_str ⟨.bl _, H, I, rfl, q⟩
  · exact op_neD hu pins s σ H x y v u Q I rx ry h
theorem pop_eq {K : PySem.W.Frag} : POpV (rEqS K) gEq := by
  intro G H x y d e z Q gh s1 s2 hg q
  unfold gEq at hg
  split at hg
  · cases hg
    cases s1; cases s2
    exact .inl ⟨_, _, rfl, rfl, q _ G H (Grow.refl gh) (.bl _)⟩
  · by_cases h : (SeqAt.shaped d && SeqAt.shaped e) = true
    · rw [if_pos h] at hg; cases hg
      rw [Bool.and_eq_true] at h
      exact .inr ⟨d, e, s1.dp gh (SeqAt.canLay_of_shaped h.1), s2.dp gh (SeqAt.canLay_of_shaped h.2), h.1, h.2, q _ G H (Grow.refl gh) (.bl _)⟩
    · rw [if_neg h] at hg; cases hg
theorem pop_ne {K : PySem.W.Frag} : POpV (rNeS K) gNe := by
  intro G H x y d e z Q gh s1 s2 hg q
  unfold gNe at hg
  split at hg
  · cases hg
    cases s1; cases s2
    exact .inl ⟨_, _, rfl, rfl, q _ G H (Grow.refl gh) (.bl _)⟩
  · by_cases h : (SeqAt.shaped d && SeqAt.shaped e) = true
    · rw [if_pos h] at hg; cases hg
      rw [Bool.and_eq_true] at h
      exact .inr ⟨d, e, s1.dp gh (SeqAt.canLay_of_shaped h.1), s2.dp gh (SeqAt.canLay_of_shaped h.2), h.1, h.2, q _ G H (Grow.refl gh) (.bl _)⟩
    · rw [if_neg h] at hg; cases hg
theorem pt_eq (hu : X.A.units + 64 < cLine) (ha : PP X a ga) (hb : PP X b gb) : PTt X (.Compare a [.Eq] [b] pos) (mB (mOp gEq ga gb)) := pt_cmp' (op_eqS hu) pop_eq ha hb (nomark _)
theorem pt_ne (hu : X.A.units + 64 < cLine) (ha : PP X a ga) (hb : PP X b gb) : PTt X (.Compare a [.NotEq] [b] pos) (mB (mOp gNe ga gb)) := pt_cmp' (op_neS hu) pop_ne ha hb (nomark _)
theorem pv_eq (hu : X.A.units + 64 < cLine) (ha : PP X a ga) (hb : PP X b gb) : PV X (.Compare a [.Eq] [b] pos) (mOp gEq ga gb) := pv_cmp (op_eqS hu) pop_eq ha hb (nomark _)
theorem pv_ne (hu : X.A.units + 64 < cLine) (ha : PP X a ga) (hb : PP X b gb) : PV X (.Compare a [.NotEq] [b] pos) (mOp gNe ga gb) := pv_cmp (op_neS hu) pop_ne ha hb (nomark _)
/-! ### is, is not -/
def isNone : D → Bool
  | .none => true
  | _ => false
def gIs (d e : D) : Option D := match e with
  | .none => some (.bool (isNone d))
  | .bool b => match d with
    | .bool a => some (.bool (decide (a = b)))
    | _ => some (.bool false)
  | _ => none
def gNot (d e : D) : Option D := match e with
  | .none => some (.bool (!isNone d))
  | .bool b => match d with
    | .bool a => some (.bool (!decide (a = b)))
    | _ => some (.bool true)
  | _ => none
/-- is of a bool: of what is no bool -/
def noBl : V → Prop
  | .non => True
  | .int _ => True
  | .str _ => True
  | .ref _ => True
  | _ => False
def rIsO : R2 := fun x y H Q => ∃ b : Bool, y = .bl b ∧ noBl x ∧ Q (.bl false) H
def rNotO : R2 := fun x y H Q => ∃ b : Bool, y = .bl b ∧ noBl x ∧ Q (.bl true) H
theorem op_isO : OpR X (compareOp .Is) rIsO := by
  intro pins s σ H x y v u Q I rx ry h
  obtain ⟨b, rfl, hx, q⟩ := h
  cases (show u = Value.bool b from ry)
  have fin : EP X pins σ Q (.bool false) s := ⟨.bl false, H, I, rfl, q⟩
  cases x with
  | non => cases (show v = Value.none from rx); exact wpAny_is_other rfl (fun z => nomatch z) fin
  | int i => obtain ⟨t, rfl⟩ := (show ∃ t, v = Value.int i t from rx); exact wpAny_is_other rfl (fun z => nomatch z) fin
  | str i => obtain ⟨t, rfl⟩ := (show ∃ t, v = Value.str i t from rx); exact wpAny_is_other rfl (fun z => nomatch z) fin
  | ref a => cases (show v = Value.ref a from rx); exact wpAny_is_other rfl (fun z => nomatch z) fin
  | _ => exact hx.elim
theorem op_notO : OpR X (compareOp .IsNot) rNotO := by
  intro pins s σ H x y v u Q I rx ry h
  obtain ⟨b, rfl, hx, q⟩ := h
  cases (show u = Value.bool b from ry)
  have fin : EP X pins σ Q (.bool true) s := ⟨.bl true, H, I, rfl, q⟩
  cases x with
  | non => cases (show v = Value.none from rx); exact wpAny_isNot_other rfl (fun z => nomatch z) fin
  | int i => obtain ⟨t, rfl⟩ := (show ∃ t, v = Value.int i t from rx); exact wpAny_isNot_other rfl (fun z => nomatch z) fin
  | str i => obtain ⟨t, rfl⟩ := (show ∃ t, v = Value.str i t from rx); exact wpAny_isNot_other rfl (fun z => nomatch z) fin
  | ref a => cases (show v = Value.ref a from rx); exact wpAny_isNot_other rfl (fun z => nomatch z) fin
  | _ => exact hx.elim
theorem isNone_ok {G H : Hp} {v : V} {d : D} (h : Sh G H v d) : decide (v = V.non) = isNone d := by
  cases h <;> first | rfl | exact decide_eq_false fun z => nomatch z
def rIsA : R2 := fun x y H Q => (y = .non ∧ Q (.bl (decide (x = .non))) H) ∨ (rIsB x y H Q ∨ rIsO x y H Q)
def rNotA : R2 := fun x y H Q => (y = .non ∧ Q (.bl (!decide (x = .non))) H) ∨ (rNotB x y H Q ∨ rNotO x y H Q)
theorem pop_is : POpV rIsA gIs := by
  intro G H x y d e z Q gh s1 s2 hg q
  cases s2 with
  | non => cases hg; exact .inl ⟨rfl, q _ G H (Grow.refl gh) (by rw [isNone_ok s1]; exact .bl _)⟩
  | bl b => cases s1 with
    | bl a => cases hg; exact .inr (.inl ⟨a, b, rfl, rfl, q _ G H (Grow.refl gh) (.bl _)⟩)
    | _ => cases hg; exact .inr (.inr ⟨b, rfl, trivial, q _ G H (Grow.refl gh) (.bl _)⟩)
  | _ => cases hg
theorem pop_not : POpV rNotA gNot := by
  intro G H x y d e z Q gh s1 s2 hg q
  cases s2 with
  | non => cases hg; exact .inl ⟨rfl, q _ G H (Grow.refl gh) (by rw [isNone_ok s1]; exact .bl _)⟩
  | bl b => cases s1 with
    | bl a => cases hg; exact .inr (.inl ⟨a, b, rfl, rfl, q _ G H (Grow.refl gh) (.bl _)⟩)
    | _ => cases hg; exact .inr (.inr ⟨b, rfl, trivial, q _ G H (Grow.refl gh) (.bl _)⟩)
  | _ => cases hg
theorem pt_is (ha : PP X a ga) (hb : PP X b gb) : PTt X (.Compare a [.Is] [b] pos) (mB (mOp gIs ga gb)) := pt_cmp' (opOr op_isN (opOr op_isBl op_isO)) pop_is ha hb (nomark _)
theorem pt_isnot (ha : PP X a ga) (hb : PP X b gb) : PTt X (.Compare a [.IsNot] [b] pos) (mB (mOp gNot ga gb)) := pt_cmp' (opOr op_notN (opOr op_notBl op_notO)) pop_not ha hb (nomark _)
theorem pv_is (ha : PP X a ga) (hb : PP X b gb) : PV X (.Compare a [.Is] [b] pos) (mOp gIs ga gb) := pv_cmp (opOr op_isN (opOr op_isBl op_isO)) pop_is ha hb (nomark _)
theorem pv_isnot (ha : PP X a ga) (hb : PP X b gb) : PV X (.Compare a [.IsNot] [b] pos) (mOp gNot ga gb) := pv_cmp (opOr op_notN (opOr op_notBl op_notO)) pop_not ha hb (nomark _)
/-! ### subscripts -/
def gIx : D → D → Option D
  | .list ds, .int i => atI ds i
  | .tuple ds, .int i => atI ds i
  | .str s, .int i => if s.length ≤ 100000 then (atI s.cps.toList i).map fun c => .str ⟨#[c]⟩ else none
  | _, _ => none
theorem atI_rp {G : Hp} {vs : List V} {ds : List D} {i : Int} {d : D} (r : RpA G vs ds) (h : atI ds i = some d) : ∃ v, atI vs i = some v ∧ Rp G v d := by
  unfold atI at h ⊢
  rw [r.length]
  cases q : ixN ds.length i with
  | none => rw [q] at h; cases h
  | some j => rw [q] at h; exact r.get h
theorem pop_ix {K : PySem.W.Frag} : POpV (rIx K) gIx := by
  intro G H x y d e z Q gh s1 s2 hg q
  cases s2 with
  | int i =>
    cases s1 with
    | @lst a xs ds h r =>
      obtain ⟨v, hv, rv⟩ := atI_rp r (show atI ds i = some z from hg)
      exact .inl ⟨a, xs, i, v, rfl, rfl, .inl (.inl h), hv, q v G H (Grow.refl gh) rv⟩
    | @tup a xs ds h r =>
      obtain ⟨v, hv, rv⟩ := atI_rp r (show atI ds i = some z from hg)
      exact .inr (.inl ⟨a, xs, i, v, rfl, rfl, .inl (.inl h), hv, q v G H (Grow.refl gh) rv⟩)
    | str s =>
      simp only [gIx] at hg
      by_cases hl : s.length ≤ 100000
      · rw [if_pos hl] at hg
        cases r : atI s.cps.toList i with
        | none => rw [r] at hg; cases hg
        | some c =>
          rw [r] at hg
          cases hg
          exact .inr (.inr ⟨s, i, c, rfl, rfl, line_of hl, r, q _ G H (Grow.refl gh) (.str _)⟩)
      · rw [if_neg hl] at hg; cases hg
    | _ => cases hg
  | non => cases s1 <;> cases hg
  | bl b => cases s1 <;> cases hg
  | str b => cases s1 <;> cases hg
  | lst h r => cases s1 <;> cases hg
  | tup h r => cases s1 <;> cases hg
  | dct h r => cases s1 <;> cases hg
theorem pv_ix (ha : PP X a ga) (hb : PP X b gb) (hs : PlainIx b := by intro _ _; rfl) : PV X (.Subscript a b pos) (mOp gIx ga gb) := by
  obtain ⟨ta, ha, ra⟩ := ha
  obtain ⟨tb, hb, rb⟩ := hb
  exact ⟨_, pe_ix ix_seq ha hb hs, rd_op pop_ix ra rb⟩
/-! ### slices -/
def cutD (xs : List D) (lo hi : Option Int) : List D := (xs.drop (HT.sIx xs.length 0 lo)).take (HT.sIx xs.length xs.length hi - HT.sIx xs.length 0 lo)
theorem cut_rp {G : Hp} {vs : List V} {ds : List D} {lo hi : Option Int} (r : RpA G vs ds) : RpA G (cutV vs lo hi) (cutD ds lo hi) := by
  unfold cutV cutD
  rw [r.length]
  exact (r.drop _).take _
/-- a list's slice is a list of one's own; a tuple's that isn't the whole one is a new tuple -/
def sliceD (d : D) (lo hi : Option Int) : Option (Bool × D) := match d with
  | .list ds => some (true, .list (cutD ds lo hi))
  | .tuple ds => if HT.sIx ds.length 0 lo = 0 ∧ HT.sIx ds.length ds.length hi = ds.length then none else some (false, .tuple (cutD ds lo hi))
  | _ => none
def asIx : Option D → Option (Option Int)
  | none => some none
  | some (.int i) => some (some i)
  | _ => none
def mOpt : Option (M D) → M (Option Int)
  | none => ret none
  | some f => bnd f fun d => fun ρ => match d with
    | .int i => .ok (some i) ρ
    | _ => .stuck
def mSlice (g : M Pl) (lo hi : Option (M D)) : M Rv := bnd g fun p => bnd (mOpt lo) fun l => bnd (mOpt hi) fun h => bnd (look p) fun d => bnd (ofO (sliceD d l h)) fun bz => ret (rvOf bz)
def slOr (r r' : V → Option Int → Option Int → Hp → VK → Prop) : V → Option Int → Option Int → Hp → VK → Prop := fun x l h H Q => r x l h H Q ∨ r' x l h H Q
theorem slR_or {r r' : V → Option Int → Option Int → Hp → VK → Prop} (h : SlR X r) (h' : SlR X r') : SlR X (slOr r r') := by
  intro pins s σ H x v vl vu l u sa Q I rx rs pl pu q
  rcases q with q | q
  · exact h pins s σ H x v vl vu l u sa Q I rx rs pl pu q
  · exact h' pins s σ H x v vl vu l u sa Q I rx rs pl pu q
def RdO (K : PySem.W.Frag) (t : TO) (f : M (Option Int)) : Prop := ∀ (C : Ctx) (G : Hp) (σ : L2.St) (H : Hp) (ρ : Env) (Q : Option Int → Hp → Prop), C.K = K → StOk C G σ H ρ → ∀ (d : Option Int) (ρ' : Env), f ρ = .ok d ρ' →
  (∀ (G' H' : Hp), Same G G' → StOk C G' σ H' ρ' → Q d H') → t σ H Q
def POt (X : Cx) (o : Option Expr) (f : M (Option Int)) : Prop := ∃ t, PO X o t ∧ RdO X.K t f
theorem pot_none : POt X none (mOpt none) := ⟨_, po_none, fun C G σ H ρ Q hK S d ρ' hf q => by cases hf; exact q G H (Same.refl _) S⟩
theorem pot_some (h : PV X e f) : POt X (some e) (mOpt (some f)) := by
  obtain ⟨t, h, r⟩ := h
  refine ⟨_, po_some h, fun C G σ H ρ Q hK S d ρ' hf q => ?_⟩
  obtain ⟨d1, ρ1, h1, hf2⟩ := bnd_ok hf
  refine r C G σ H ρ _ hK S d1 ρ1 h1 fun v G1 H1 g1 S1 o => ?_
  cases o with
  | int i => cases hf2; exact ⟨i, rfl, q G1 H1 g1 S1⟩
  | _ => cases hf2
theorem pf_slice {lo hi : Option Expr} {fl fh : Option (M D)} (h : PP X e g) (hl : POt X lo (mOpt fl)) (hh : POt X hi (mOpt fh)) : PF X (.Subscript e (.Slice lo hi none p2) pos) (mSlice g fl fh) := by
  obtain ⟨t, h, r⟩ := h
  obtain ⟨tl, hl, rl⟩ := hl
  obtain ⟨th, hh, rh⟩ := hh
  refine ⟨_, pe_slice (slR_or sl_list sl_tup) h hl hh, fun C G σ H ρ Q hK S d ρ' hf q => ?_⟩
  obtain ⟨pl, ρ1, h1, hf2⟩ := bnd_ok hf
  obtain ⟨l, ρ2, h2, hf3⟩ := bnd_ok hf2
  obtain ⟨u, ρ3, h3, hf4⟩ := bnd_ok hf3
  obtain ⟨dd, ρ4, h4, hf5⟩ := bnd_ok hf4
  obtain ⟨bz, ρ5, h5, hf6⟩ := bnd_ok hf5
  cases hf6
  refine r C G σ H ρ _ hK S pl ρ1 h1 fun v G1 H1 g1 S1 o1 => ?_
  refine rl C G1 σ H1 ρ1 _ hK S1 l ρ2 h2 fun G2 H2 g2 S2 => ?_
  refine rh C G2 σ H2 ρ2 _ hK S2 u ρ3 h3 fun G3 H3 g3 S3 => ?_
  obtain ⟨s, rfl⟩ := look_ok S3 ((o1.mono g2).mono g3) h4
  obtain ⟨es, rfl⟩ := ofO_ok h5
  have gg := (g1.trans g2).trans g3
  cases s with
  | @lst a xs ds ha ra =>
    cases es
    refine .inl ⟨a, xs, rfl, .inl (.inl ha), fun p hp => ?_⟩
    have w := Grow.newF (o := .lst (cutV xs l u)) S3.gh hp
    exact q _ G3 _ gg (S3.grow w) (fresh_ok S3 hp w (.lst upd_same (cut_rp ra)))
  | @tup a xs ds ha ra =>
    simp only [sliceD] at es
    by_cases hw : HT.sIx ds.length 0 l = 0 ∧ HT.sIx ds.length ds.length u = ds.length
    · rw [if_pos hw] at es; cases es
    · rw [if_neg hw] at es; cases es
      refine .inr ⟨a, xs, rfl, .inl (.inl ha), by rw [ra.length]; exact hw, fun p hp => ?_⟩
      have w := Grow.new (o := .tup (cutV xs l u)) S3.gh hp
      exact q _ _ _ (gg.trans w.g) (S3.grow w) (.tup upd_same ((cut_rp ra).mono w.g))
  | _ => cases es
end
end PL
namespace PL
open PySem PySem.Spec L2 RT RZ
variable [Kap]
section
variable {X : Cx} {e a b c tg elt iter : Expr} {es ifs : List Expr} {pos pos' tpos p p1 p2 apos cpos : Pos} {f fa fb fe : M D} {g ga gb : M Pl} {gs : M (List Pl)} {k : M Rv} {x : Str}
/-! ### calls of built-ins -/
theorem pv_b {id : String} {r : List V → Hp → VK → Prop} {g' : List D → Option D} (hc : CallR X (.builtin id) r) (hp : PClV r g') (hg : Gl X x) (hm : X.mg x = none) (hv : bootBuiltins x = some (.builtin id)) (ha : PPs X (e :: es) gs) (hn : x ≠ "__name__" := by decide) (hdb : (x == ("__debug__" : Str)) = false := by decide)
    (he : starEach (e :: es) X.env = (false, eval e X.env) :: starEach es X.env := by rfl) (hpl : (backTo pos (starEach es X.env)).any (·.1) = false := by rfl) : PV X (.Call (.Name x p) (e :: es) [] pos) (mN g' gs) := by
  obtain ⟨t, ha, ra⟩ := ha
  exact ⟨_, pe_callB hc hg hm hv ha hn hdb he hpl, rd_cl hp ra⟩
theorem pv_bT {id : String} {r : List V → Hp → VK → Prop} {g' : List D → Option D} (hc : CallR X (.type id) r) (hp : PClV r g') (hg : Gl X x) (hm : X.mg x = none) (hv : bootBuiltins x = some (.type id)) (ha : PPs X (e :: es) gs) (hn : x ≠ "__name__" := by decide) (hdb : (x == ("__debug__" : Str)) = false := by decide)
    (he : starEach (e :: es) X.env = (false, eval e X.env) :: starEach es X.env := by rfl) (hpl : (backTo pos (starEach es X.env)).any (·.1) = false := by rfl) : PV X (.Call (.Name x p) (e :: es) [] pos) (mN g' gs) := by
  obtain ⟨t, ha, ra⟩ := ha
  exact ⟨_, pe_callTy hc hg hm hv ha hn hdb he hpl, rd_cl hp ra⟩
theorem pf_b {id : String} {r : List V → Hp → VK → Prop} {g' : List D → Option D} (hc : CallR X (.builtin id) r) (hp : PClF r g') (hg : Gl X x) (hm : X.mg x = none) (hv : bootBuiltins x = some (.builtin id)) (ha : PPs X (e :: es) gs) (hn : x ≠ "__name__" := by decide) (hdb : (x == ("__debug__" : Str)) = false := by decide)
    (he : starEach (e :: es) X.env = (false, eval e X.env) :: starEach es X.env := by rfl) (hpl : (backTo pos (starEach es X.env)).any (·.1) = false := by rfl) : PF X (.Call (.Name x p) (e :: es) [] pos) (mFr (mN g' gs)) := by
  obtain ⟨t, ha, ra⟩ := ha
  exact ⟨_, pe_callB hc hg hm hv ha hn hdb he hpl, rd_clF hp ra⟩
theorem pf_bT {id : String} {r : List V → Hp → VK → Prop} {g' : List D → Option D} (hc : CallR X (.type id) r) (hp : PClF r g') (hg : Gl X x) (hm : X.mg x = none) (hv : bootBuiltins x = some (.type id)) (ha : PPs X (e :: es) gs) (hn : x ≠ "__name__" := by decide) (hdb : (x == ("__debug__" : Str)) = false := by decide)
    (he : starEach (e :: es) X.env = (false, eval e X.env) :: starEach es X.env := by rfl) (hpl : (backTo pos (starEach es X.env)).any (·.1) = false := by rfl) : PF X (.Call (.Name x p) (e :: es) [] pos) (mFr (mN g' gs)) := by
  obtain ⟨t, ha, ra⟩ := ha
  exact ⟨_, pe_callTy hc hg hm hv ha hn hdb he hpl, rd_clF hp ra⟩
/-! what each gives -/
def gLen : List D → Option D
  | [.list ds] => some (.int ds.length)
  | [.tuple ds] => some (.int ds.length)
  | [.str s] => if s.length ≤ 100000 then some (.int s.length) else none
  | _ => none
def rLenA (K : PySem.W.Frag) : List V → Hp → VK → Prop := fun xs H Q => ∃ x n, xs = [x] ∧ LenV K x H n ∧ Q (.int n) H
theorem pcl_len {K : PySem.W.Frag} : PClV (rLenA K) gLen := by
  intro G H vs ds z Q gh s hg q
  cases s with
  | nil => cases hg
  | cons h r => cases r with
    | cons _ _ => cases h <;> cases hg
    | nil =>
      cases h with
      | @lst a xs ds h r => cases hg; exact ⟨_, _, rfl, .inl ⟨xs, .inl (.inl h), r.length.symm⟩, q _ G H (Grow.refl gh) (.int _)⟩
      | @tup a xs ds h r => cases hg; exact ⟨_, _, rfl, .inr ⟨xs, .inl (.inl h), r.length.symm⟩, q _ G H (Grow.refl gh) (.int _)⟩
      | str s =>
        simp only [gLen] at hg
        by_cases hl : s.length ≤ 100000
        · rw [if_pos hl] at hg; cases hg
          exact ⟨_, _, rfl, ⟨line_of hl, rfl⟩, q _ G H (Grow.refl gh) (.int _)⟩
        · rw [if_neg hl] at hg; cases hg
      | _ => cases hg
theorem pv_len (hg : Gl X "len") (hm : X.mg "len" = none) (ha : PPs X (e :: es) gs) (he : starEach (e :: es) X.env = (false, eval e X.env) :: starEach es X.env := by rfl) (hpl : (backTo pos (starEach es X.env)).any (·.1) = false := by rfl) :
    PV X (.Call (.Name "len" p) (e :: es) [] pos) (mN gLen gs) := pv_b call_len pcl_len hg hm PySem.boot_len ha (he := he) (hpl := hpl)
def gAbs : List D → Option D
  | [.int i] => some (.int (if i < 0 then -i else i))
  | _ => none
theorem pv_abs (hg : Gl X "abs") (hm : X.mg "abs" = none) (ha : PPs X (e :: es) gs) (he : starEach (e :: es) X.env = (false, eval e X.env) :: starEach es X.env := by rfl) (hpl : (backTo pos (starEach es X.env)).any (·.1) = false := by rfl) :
    PV X (.Call (.Name "abs" p) (e :: es) [] pos) (mN gAbs gs) := pv_b call_abs (fun G H vs ds z Q gh s hg q => by
  cases s with
  | nil => cases hg
  | cons h r => cases r with
    | cons _ _ => cases h <;> cases hg
    | nil => cases h with
      | int i => cases hg; exact ⟨i, rfl, q _ G H (Grow.refl gh) (.int _)⟩
      | _ => cases hg) hg hm PyProof.Rows.boot_abs ha (he := he) (hpl := hpl)
def gMax2 : List D → Option D
  | [.int i, .int j] => some (.int (if j > i then j else i))
  | _ => none
def gMin2 : List D → Option D
  | [.int i, .int j] => some (.int (if j < i then j else i))
  | _ => none
theorem pv_max2 (hc : X.calm = true) (hg : Gl X "max") (hm : X.mg "max" = none) (ha : PPs X (e :: es) gs) (he : starEach (e :: es) X.env = (false, eval e X.env) :: starEach es X.env := by rfl) (hpl : (backTo pos (starEach es X.env)).any (·.1) = false := by rfl) :
    PV X (.Call (.Name "max" p) (e :: es) [] pos) (mN gMax2 gs) := pv_b (call_max2 hc) (fun G H vs ds z Q gh s hg q => by
  cases s with
  | nil => cases hg
  | cons h r => cases r with
    | nil => cases h <;> cases hg
    | cons h2 r2 => cases r2 with
      | cons _ _ => cases h <;> cases h2 <;> cases hg
      | nil => cases h with
        | int i => cases h2 with
          | int j => cases hg; exact ⟨i, j, rfl, q _ G H (Grow.refl gh) (.int _)⟩
          | _ => cases hg
        | _ => cases hg) hg hm (by decide +kernel) ha (he := he) (hpl := hpl)
theorem pv_min2 (hc : X.calm = true) (hg : Gl X "min") (hm : X.mg "min" = none) (ha : PPs X (e :: es) gs) (he : starEach (e :: es) X.env = (false, eval e X.env) :: starEach es X.env := by rfl) (hpl : (backTo pos (starEach es X.env)).any (·.1) = false := by rfl) :
    PV X (.Call (.Name "min" p) (e :: es) [] pos) (mN gMin2 gs) := pv_b (call_min2 hc) (fun G H vs ds z Q gh s hg q => by
  cases s with
  | nil => cases hg
  | cons h r => cases r with
    | nil => cases h <;> cases hg
    | cons h2 r2 => cases r2 with
      | cons _ _ => cases h <;> cases h2 <;> cases hg
      | nil => cases h with
        | int i => cases h2 with
          | int j => cases hg; exact ⟨i, j, rfl, q _ G H (Grow.refl gh) (.int _)⟩
          | _ => cases hg
        | _ => cases hg) hg hm (by decide +kernel) ha (he := he) (hpl := hpl)
def gInt1 : List D → Option D
  | [.int i] => some (.int i)
  | [.bool b] => some (.int (if b then 1 else 0))
  | _ => none
theorem pv_int1 (hg : Gl X "int") (hm : X.mg "int" = none) (ha : PPs X (e :: es) gs) (he : starEach (e :: es) X.env = (false, eval e X.env) :: starEach es X.env := by rfl) (hpl : (backTo pos (starEach es X.env)).any (·.1) = false := by rfl) :
    PV X (.Call (.Name "int" p) (e :: es) [] pos) (mN gInt1 gs) := pv_bT call_int1 (fun G H vs ds z Q gh s hg q => by
  cases s with
  | nil => cases hg
  | cons h r => cases r with
    | cons _ _ => cases h <;> cases hg
    | nil => cases h with
      | int i => cases hg; exact .inl ⟨i, rfl, q _ G H (Grow.refl gh) (.int _)⟩
      | bl b => cases hg; exact .inr ⟨b, rfl, q _ G H (Grow.refl gh) (.int _)⟩
      | _ => cases hg) hg hm PyProof.Rows.boot_int ha (he := he) (hpl := hpl)
def bools : List D → Option (List Bool)
  | [] => some []
  | .bool b :: ds => (bools ds).map (b :: ·)
  | _ => none
theorem bools_ok {G : Hp} : ∀ {ds : List D} {bs : List Bool} {vs : List V}, bools ds = some bs → RpA G vs ds → vs = bs.map V.bl
  | [], bs, _, h, .nil => by cases h; rfl
  | d :: ds, bs, _, h, .cons r rs => by
    cases r with
    | bl b =>
      simp only [bools] at h
      cases q : bools ds with
      | none => rw [q] at h; cases h
      | some cs => rw [q] at h; cases h; rw [bools_ok q rs]; rfl
    | _ => cases h
def nums : List D → Option (List Int)
  | [] => some []
  | .int b :: ds => (nums ds).map (b :: ·)
  | _ => none
theorem nums_ok {G : Hp} : ∀ {ds : List D} {bs : List Int} {vs : List V}, nums ds = some bs → RpA G vs ds → vs = bs.map V.int
  | [], bs, _, h, .nil => by cases h; rfl
  | d :: ds, bs, _, h, .cons r rs => by
    cases r with
    | int b =>
      simp only [nums] at h
      cases q : nums ds with
      | none => rw [q] at h; cases h
      | some cs => rw [q] at h; cases h; rw [nums_ok q rs]; rfl
    | _ => cases h
def gAll : List D → Option D
  | [.list ds] => (bools ds).map fun bs => .bool (bs.all id)
  | _ => none
def gAny : List D → Option D
  | [.list ds] => (bools ds).map fun bs => .bool (bs.any id)
  | _ => none
def gSum : List D → Option D
  | [.list ds] => (nums ds).map fun bs => .int bs.sum
  | _ => none
theorem pcl_list1 {r : List V → Hp → VK → Prop} {α : Type} {dec : List D → Option (List α)} {inj : α → V} {out : List α → D} {gg : List D → Option D} (hg1 : ∀ ds, gg [.list ds] = (dec ds).map out) (hg2 : ∀ l, (∀ ds, l ≠ [PyData.list ds]) → gg l = none)
    (hdec : ∀ {G : Hp} {ds : List D} {bs : List α} {vs : List V}, dec ds = some bs → RpA G vs ds → vs = bs.map inj)
    (hr : ∀ (H : Hp) (a : Addr) (bs : List α) (Q : VK) (G : Hp), H a = some (.lst (bs.map inj)) → Same G H → (∀ v G' H', Grow G H G' H' → Rp G' v (out bs) → Q v H') → r [.ref a] H Q) : PClV r gg := by
  intro G H vs ds z Q gh s hg q
  cases s with
  | nil => rw [hg2 _ (by intro ds h; simp at h)] at hg; cases hg
  | cons h rr => cases rr with
    | cons _ _ => rw [hg2 _ (by intro ds h; simp at h)] at hg; cases hg
    | nil => cases h with
      | @lst a xs ds h r =>
        rw [hg1] at hg
        cases qd : dec ds with
        | none => rw [qd] at hg; cases hg
        | some bs =>
          rw [qd] at hg
          cases hg
          have := hdec qd r
          subst this
          exact hr H a bs Q G h gh q
      | _ => rw [hg2 _ (by intro ds h; simp at h)] at hg; cases hg
theorem pv_all (hc : X.calm = true) (hg : Gl X "all") (hm : X.mg "all" = none) (ha : PPs X (e :: es) gs) (he : starEach (e :: es) X.env = (false, eval e X.env) :: starEach es X.env := by rfl) (hpl : (backTo pos (starEach es X.env)).any (·.1) = false := by rfl) :
    PV X (.Call (.Name "all" p) (e :: es) [] pos) (mN gAll gs) := pv_b (cr_all hc) (pcl_list1 (dec := bools) (inj := V.bl) (out := fun bs => .bool (bs.all id)) (fun _ => rfl) (fun l h => by
      cases l with
      | nil => rfl
      | cons d ds => cases d <;> cases ds <;> first | rfl | exact absurd rfl (h _)) bools_ok fun H a bs Q G h gh q => ⟨a, bs, rfl, .inl (.inl h), q _ G H (Grow.refl gh) (.bl _)⟩) hg hm (by decide +kernel) ha (he := he) (hpl := hpl)
theorem pv_any (hc : X.calm = true) (hg : Gl X "any") (hm : X.mg "any" = none) (ha : PPs X (e :: es) gs) (he : starEach (e :: es) X.env = (false, eval e X.env) :: starEach es X.env := by rfl) (hpl : (backTo pos (starEach es X.env)).any (·.1) = false := by rfl) :
    PV X (.Call (.Name "any" p) (e :: es) [] pos) (mN gAny gs) := pv_b (cr_any hc) (pcl_list1 (dec := bools) (inj := V.bl) (out := fun bs => .bool (bs.any id)) (fun _ => rfl) (fun l h => by
      cases l with
      | nil => rfl
      | cons d ds => cases d <;> cases ds <;> first | rfl | exact absurd rfl (h _)) bools_ok fun H a bs Q G h gh q => ⟨a, bs, rfl, .inl (.inl h), q _ G H (Grow.refl gh) (.bl _)⟩) hg hm (by decide +kernel) ha (he := he) (hpl := hpl)
theorem pv_sum (hc : X.calm = true) (hg : Gl X "sum") (hm : X.mg "sum" = none) (ha : PPs X (e :: es) gs) (he : starEach (e :: es) X.env = (false, eval e X.env) :: starEach es X.env := by rfl) (hpl : (backTo pos (starEach es X.env)).any (·.1) = false := by rfl) :
    PV X (.Call (.Name "sum" p) (e :: es) [] pos) (mN gSum gs) := pv_b (cr_sum hc) (pcl_list1 (dec := nums) (inj := V.int) (out := fun bs => .int bs.sum) (fun _ => rfl) (fun l h => by
      cases l with
      | nil => rfl
      | cons d ds => cases d <;> cases ds <;> first | rfl | exact absurd rfl (h _)) nums_ok fun H a bs Q G h gh q => ⟨a, bs, rfl, .inl (.inl h), q _ G H (Grow.refl gh) (.int _)⟩) hg hm (by decide +kernel) ha (he := he) (hpl := hpl)
def gList : List D → Option D
  | [.list ds] => some (.list ds)
  | [.tuple ds] => some (.list ds)
  | _ => none
theorem pf_list (hg : Gl X "list") (hm : X.mg "list" = none) (ha : PPs X (e :: es) gs) (he : starEach (e :: es) X.env = (false, eval e X.env) :: starEach es X.env := by rfl) (hpl : (backTo pos (starEach es X.env)).any (·.1) = false := by rfl) :
    PF X (.Call (.Name "list" p) (e :: es) [] pos) (mFr (mN gList gs)) := pf_bT call_list_of (fun G H vs ds z Q gh s hg q => by
  cases s with
  | nil => cases hg
  | cons h r => cases r with
    | cons _ _ => cases h <;> cases hg
    | nil => cases h with
      | @lst a xs ds h r => cases hg; exact ⟨a, xs, rfl, .inl (.inl (.inl h)), fun l hl => q l _ hl (Grow.newF gh hl) (.lst upd_same r)⟩
      | @tup a xs ds h r => cases hg; exact ⟨a, xs, rfl, .inr (.inl (.inl h)), fun l hl => q l _ hl (Grow.newF gh hl) (.lst upd_same r)⟩
      | _ => cases hg) hg hm PyProof.Rows.boot_list ha (he := he) (hpl := hpl)
def gTuple : List D → Option D
  | [.list ds] => some (.tuple ds)
  | _ => none
theorem pv_tuple (hg : Gl X "tuple") (hm : X.mg "tuple" = none) (ha : PPs X (e :: es) gs) (he : starEach (e :: es) X.env = (false, eval e X.env) :: starEach es X.env := by rfl) (hpl : (backTo pos (starEach es X.env)).any (·.1) = false := by rfl) :
    PV X (.Call (.Name "tuple" p) (e :: es) [] pos) (mN gTuple gs) := pv_bT call_tuple_of (fun G H vs ds z Q gh s hg q => by
  cases s with
  | nil => cases hg
  | cons h r => cases r with
    | cons _ _ => cases h <;> cases hg
    | nil => cases h with
      | @lst a xs ds h r => cases hg; exact ⟨a, xs, rfl, .inl ⟨.inl (.inl h), fun l hl => (Grow.new (o := .tup xs) gh hl |> fun w => q _ _ _ w (.tup upd_same (r.mono w.g)))⟩⟩
      | _ => cases hg) hg hm PyProof.Rows.boot_tuple ha (he := he) (hpl := hpl)
/-! ### the script -/
def mLenS (i : Nat) : M D := fun ρ => match ρ[i]? with
  | some (.scr ns) => .ok (.int ns.length) ρ
  | _ => .stuck
def mIxS (i : Nat) (fb : M D) : M D := fun ρ => match ρ[i]? with
  | some (.scr ns) => match fb ρ with
    | .ok (.int n) ρ' => match atI ns n with
      | some v => .ok (.int v) ρ'
      | none => .stuck
    | _ => .stuck
  | _ => .stuck
theorem scr_at {C : Ctx} {G H : Hp} {σ : L2.St} {ρ : Env} {i : Nat} {ns : List Int} (S : StOk C G σ H ρ) (e : ρ[i]? = some (.scr ns)) : ∃ a, σ[i]? = some (some (.ref a)) ∧ SqL C.K C.B a (ns.map V.int) := by
  obtain ⟨o, e1, v, rfl, p1, p2⟩ := S.sl i _ e
  have w := S.wf i v p1
  rw [p2] at w
  obtain ⟨a, rfl, q⟩ := w
  exact ⟨a, e1, q⟩
theorem pv_lenS (i : Nat) (hg : Gl X "len") (hm : X.mg "len" = none) (hN : X.N[i]? = some x := by rfl) (hv : Vis X.env.scope x := by first | exact Or.inl rfl | exact Or.inr (Or.inl rfl) | exact Or.inr (Or.inr rfl)) (hd : (x == ("__debug__" : Str)) = false := by decide)
    (hcd : (x == ("__classdict__" : Str)) = false := by decide) (he : starEach [.Name x p1] X.env = (false, eval (.Name x p1) X.env) :: starEach [] X.env := by rfl) (hpl : (backTo pos (starEach [] X.env)).any (·.1) = false := by rfl) :
    PV X (.Call (.Name "len" p) [.Name x p1] [] pos) (mLenS i) := by
  refine ⟨_, pe_callB call_len hg hm PySem.boot_len (pa_cons (pe_var hN hv hd hcd) pa_nil he) (he := he) (hpl := hpl), fun C G σ H ρ Q hK S d ρ' hf q => ?_⟩
  unfold mLenS at hf
  cases r : ρ[i]? with
  | none => rw [r] at hf; cases hf
  | some s =>
    rw [r] at hf
    cases s with
    | scr ns =>
      cases hf
      obtain ⟨a, e1, sq⟩ := scr_at S r
      rw [hK] at sq
      exact ⟨_, e1, _, _, rfl, .inl ⟨_, Same.seq S.bh sq, by rw [List.length_map]⟩, q _ G H (Same.refl _) S (.int _)⟩
    | _ => cases hf
theorem pv_ixS (i : Nat) (hb : PV X b fb) (hs : PlainIx b := by intro _ _; rfl) (hN : X.N[i]? = some x := by rfl) (hv : Vis X.env.scope x := by first | exact Or.inl rfl | exact Or.inr (Or.inl rfl) | exact Or.inr (Or.inr rfl)) (hd : (x == ("__debug__" : Str)) = false := by decide)
    (hcd : (x == ("__classdict__" : Str)) = false := by decide) : PV X (.Subscript (.Name x p1) b pos) (mIxS i fb) := by
  obtain ⟨tb, hb, rb⟩ := hb
  refine ⟨_, pe_ix ix_list (pe_var hN hv hd hcd) hb hs, fun C G σ H ρ Q hK S d ρ' hf q => ?_⟩
  unfold mIxS at hf
  cases r : ρ[i]? with
  | none => rw [r] at hf; cases hf
  | some s =>
    rw [r] at hf
    cases s with
    | scr ns =>
      simp only at hf
      obtain ⟨a, e1, sq⟩ := scr_at S r
      rw [hK] at sq
      refine ⟨_, e1, ?_⟩
      cases r2 : fb ρ with
      | stuck => rw [r2] at hf; cases hf
      | ok d1 ρ1 =>
        rw [r2] at hf
        cases d1 with
        | int n =>
          simp only at hf
          refine rb C G σ H ρ _ hK S _ ρ1 r2 fun v G1 H1 g1 S1 o => ?_
          cases o
          cases r3 : atI ns n with
          | none => rw [r3] at hf; cases hf
          | some w =>
            rw [r3] at hf
            cases hf
            refine ⟨a, _, n, .int w, rfl, rfl, Same.seq S1.bh sq, ?_, q _ G1 H1 g1 S1 (.int _)⟩
            unfold atI at r3 ⊢
            rw [List.length_map]
            cases r4 : ixN ns.length n with
            | none => rw [r4] at r3; cases r3
            | some j =>
              rw [r4] at r3
              have r3' : ns[j]? = some w := r3
              show (ns.map V.int)[j]? = _
              rw [List.getElem?_map, r3']
              rfl
        | _ => cases hf
    | _ => cases hf
/-! ### isinstance -/
def tyD : D → String
  | .none => "NoneType"
  | .bool _ => "bool"
  | .int _ => "int"
  | .str _ => "str"
  | .list _ => "list"
  | .tuple _ => "tuple"
  | .dict _ => "dict"
theorem Sh.ty {K : PySem.W.Frag} {G H : Hp} {v : V} {d : D} (h : Sh G H v d) : TyX K H v (.type (tyD d)) := by
  cases h with
  | non => exact .base .non
  | bl b => exact .base (.bl b)
  | int i => exact .base (.int i)
  | str s => exact .base (.str s)
  | lst h r => exact .base (.lst h)
  | tup h r => exact .base (.tup h)
  | dct h r => exact .base (.dK h)
/-- the types' own answer, by names -/
def isTy (t : String) : String → Bool
  | "int" => t == "int" || t == "bool"
  | T => t == T
def goodTy (T : String) : Bool := T == "int" || T == "bool" || T == "str" || T == "list" || T == "tuple" || T == "dict"
theorem kit_isTy {K : PySem.W.Frag} {d : D} {T : String} (h : goodTy T = true) : PySem.W.kitOne K (.type (tyD d)) (.type T) = some (isTy (tyD d) T) := by
  simp only [goodTy, Bool.or_eq_true, beq_iff_eq] at h
  have k : kitB (tyD d) T = some (isTy (tyD d) T) := by
    rcases h with ((((h | h) | h) | h) | h) | h <;> subst h <;> cases d <;> simp only [tyD] <;> decide +kernel
  exact kit_ty k
def gIsi (Ts : List String) (d : D) : Option D := some (.bool (Ts.any fun T => isTy (tyD d) T))
theorem pv_isi {T : String} (hg : Gl X "isinstance") (hm : X.mg "isinstance" = none) (ha : PP X e g) (hT : PE X b (tC (.ty T))) (hgood : goodTy T = true) (he : starEach [e, b] X.env = (false, eval e X.env) :: starEach [b] X.env := by rfl) (he2 : starEach [b] X.env = (false, eval b X.env) :: starEach [] X.env := by rfl)
    (hpl : (backTo pos (starEach [b] X.env)).any (·.1) = false := by rfl) : PV X (.Call (.Name "isinstance" p) [e, b] [] pos) (mUn (gIsi [T]) g) := by
  obtain ⟨t, ha, r⟩ := ha
  refine ⟨_, pe_callB call_isi hg hm PyProof.Rows.boot_isinstance (pa_cons ha (pa_cons hT pa_nil he2) he) (he := he) (hpl := hpl), fun C G σ H ρ Q hK S d ρ' hf q => ?_⟩
  obtain ⟨pl, ρ1, h1, hf2⟩ := bnd_ok hf
  refine r C G σ H ρ _ hK S pl ρ1 h1 fun v G1 H1 g1 S1 o => ?_
  obtain ⟨dd, ρ2, h2, hf3⟩ := bnd_ok hf2
  obtain ⟨s, rfl⟩ := look_ok S1 o h2
  cases hf3
  refine ⟨v, .ty T, _, _, _, rfl, .ty T, s.ty, kit_isTy hgood, ?_⟩
  have : isTy (tyD dd) T = [T].any fun T => isTy (tyD dd) T := by simp
  rw [this]
  exact q _ G1 H1 g1 S1 (.bl _)
theorem kit_any {K : PySem.W.Frag} {d : D} : ∀ {Ts : List String}, Ts.all goodTy = true → PySem.W.kitAny K (.type (tyD d)) (Ts.map Value.type) = some (Ts.any fun T => isTy (tyD d) T)
  | [], _ => kitAny_nil
  | T :: Ts, h => by
    have h' : (goodTy T && Ts.all goodTy) = true := h
    rw [Bool.and_eq_true] at h'
    refine kitAny_cons (kit_isTy h'.1) (fun hb => ?_) fun hb => ?_
    · rw [kit_any h'.2, List.any_cons, hb, Bool.false_or]
    · rw [List.any_cons, hb, Bool.true_or]
theorem tys_paired : ∀ (Ts : List String), Paired ClsV (Ts.map V.ty) (Ts.map Value.type)
  | [] => .nil
  | T :: Ts => .cons (.ty T) (tys_paired Ts)
def tTys (Ts : List String) : TA := fun _ H Q => Q (Ts.map V.ty) H
theorem pa_tyN : PA X [] (tTys []) := ⟨fun pos pins s σ H Q I h => pa_nil.run pos pins s σ H Q I h⟩
theorem pa_tyC {T : String} {Ts : List String} (h : PE X e (tC (.ty T))) (hr : PA X es (tTys Ts)) (hs : starEach (e :: es) X.env = (false, eval e X.env) :: starEach es X.env := by rfl) : PA X (e :: es) (tTys (T :: Ts)) :=
  ⟨fun pos pins s σ H Q I q => (pa_cons h hr hs).run pos pins s σ H Q I q⟩
theorem pv_isiT {Ts : List String} {x1} (hg : Gl X "isinstance") (hm : X.mg "isinstance" = none) (ha : PP X e g) (hT : PA X es (tTys Ts)) (hgood : Ts.all goodTy = true) (hlen : Ts.length ≤ 1000) (he : starEach [e, .Tuple es x1 tpos] X.env = (false, eval e X.env) :: starEach [.Tuple es x1 tpos] X.env := by rfl) (he2 : starEach [.Tuple es x1 tpos] X.env = (false, eval (.Tuple es x1 tpos) X.env) :: starEach [] X.env := by rfl)
    (hpl : (backTo pos (starEach [.Tuple es x1 tpos] X.env)).any (·.1) = false := by rfl) : PV X (.Call (.Name "isinstance" p) [e, .Tuple es x1 tpos] [] pos) (mUn (gIsi Ts) g) := by
  obtain ⟨t, ha, r⟩ := ha
  refine ⟨_, pe_callB call_isiT hg hm PyProof.Rows.boot_isinstance (pa_cons ha (pa_cons (pe_tup hT) pa_nil he2) he) (he := he) (hpl := hpl), fun C G σ H ρ Q hK S d ρ' hf q => ?_⟩
  obtain ⟨pl, ρ1, h1, hf2⟩ := bnd_ok hf
  refine r C G σ H ρ _ hK S pl ρ1 h1 fun v G1 H1 g1 S1 o => ?_
  obtain ⟨dd, ρ2, h2, hf3⟩ := bnd_ok hf2
  refine ⟨by rw [List.length_map]; exact Nat.le_trans hlen (by decide), fun tp htp => ?_⟩
  have w := Grow.newF (o := .tup (Ts.map V.ty)) S1.gh htp
  have S2 := S1.grow w
  obtain ⟨s, rfl⟩ := look_ok S2 o h2
  cases hf3
  exact ⟨v, tp, Ts.map V.ty, _, _, _, rfl, upd_same, tys_paired Ts, s.ty, kit_any hgood, q _ G1 _ g1 S2 (.bl _)⟩
theorem pe_ty {T : Str} {u : String} (hg : Gl X T) (hm : X.mg T = none) (hv : bootBuiltins T = some (.type u)) (hn : T ≠ "__name__" := by decide) (hd : (T == ("__debug__" : Str)) = false := by decide) : PE X (.Name T pos) (tC (.ty u)) := pe_bltn hg hm hv rfl hn hd
/-! ### methods that change a list -/
theorem pv_mut {j : Nat} {name : Str} {id : String} {r : V → List V → Hp → VK → Prop} {g' : List D → List D → Option (List D × D)} {fs : M (List D)} (slot : Slot "list" name id) (hty : typeOf (.builtin id) = pure (.type "method_descriptor")) (hm : MtR X id r) (hp : PMut r g') (ha : PVs X (e :: es) fs) (hN : X.N[j]? = some x := by rfl)
    (hv : Vis X.env.scope x := by first | exact Or.inl rfl | exact Or.inr (Or.inl rfl) | exact Or.inr (Or.inr rfl)) (hd : (x == ("__debug__" : Str)) = false := by decide) (hcd : (x == ("__classdict__" : Str)) = false := by decide)
    (hbase : attributeBase (.Name x p1) name X.env (eval (.Name x p1) X.env) = eval (.Name x p1) X.env := by rfl)
    (hfew : ((backTo cpos (starEach (e :: es) X.env)).all (fun x => !x.1) && (backToKw cpos (keywordEach [] X.env)).all (fun x => x.1.isSome)
      && decide ((e :: es).length + ([] : List Keyword).length + (if ([] : List Keyword).isEmpty then 0 else 1) < 30)) = true := by rfl)
    (hline : (apos.endLine == cpos.line) = true := by rfl) (hs : starEach (e :: es) X.env = (false, eval e X.env) :: starEach es X.env := by rfl) (hplain : (backTo cpos (starEach es X.env)).any (·.1) = false := by rfl) :
    PV X (.Call (.Attribute (.Name x p1) name apos) (e :: es) [] cpos) (mMut j g' fs) := by
  obtain ⟨t, ha, ra⟩ := ha
  exact ⟨_, pe_bm PySem.F.plainAttrs_list slot hty hm (pe_var hN hv hd hcd) ha hbase hfew hline hs hplain, rd_mut hp ra⟩
theorem pv_mut0 {j : Nat} {name : Str} {id : String} {r : V → List V → Hp → VK → Prop} {g' : List D → List D → Option (List D × D)} (slot : Slot "list" name id) (hty : typeOf (.builtin id) = pure (.type "method_descriptor")) (hm : MtR X id r) (hp : PMut r g') (hN : X.N[j]? = some x := by rfl)
    (hv : Vis X.env.scope x := by first | exact Or.inl rfl | exact Or.inr (Or.inl rfl) | exact Or.inr (Or.inr rfl)) (hd : (x == ("__debug__" : Str)) = false := by decide) (hcd : (x == ("__classdict__" : Str)) = false := by decide)
    (hbase : attributeBase (.Name x p1) name X.env (eval (.Name x p1) X.env) = eval (.Name x p1) X.env := by rfl) (hline : (apos.endLine == cpos.line) = true := by rfl) :
    PV X (.Call (.Attribute (.Name x p1) name apos) [] [] cpos) (mMut j g' mNil) := by
  refine ⟨_, pe_bm0 PySem.F.plainAttrs_list slot hty hm (pe_var hN hv hd hcd) hbase hline, fun C G σ H ρ Q hK S d ρ' hf q => ?_⟩
  have key := rd_mut (X := X) (j := j) (t := tNil) (fs := mNil) hp (fun C G σ H ρ Q hK S d ρ' hf q => by cases hf; exact q [] G H (Same.refl _) S .nil) C G σ H ρ Q hK S d ρ' hf q
  obtain ⟨v, e1, z⟩ := key
  exact ⟨v, e1, z⟩
def gAppend (ds as : List D) : Option (List D × D) := match as with
  | [d] => if ds.length < 100000 then some (ds ++ [d], .none) else none
  | _ => none
theorem pmut_append : PMut rAppend gAppend := by
  intro G H l vs ds as ads new z Q gh hl r ra hg q
  cases ra with
  | nil => cases hg
  | cons h rr => cases rr with
    | cons _ _ => cases hg
    | nil =>
      simp only [gAppend] at hg
      split at hg
      · rename_i hlt
        cases hg
        exact ⟨l, vs, _, rfl, rfl, hl, by rw [r.length]; exact line_lt hlt, q _ _ (r.append (.one h)) .non⟩
      · cases hg
def gInsert (ds as : List D) : Option (List D × D) := match as with
  | [.int i, d] => if ds.length < 100000 ∧ 0 ≤ i ∧ i < 2 ^ 63 then some (ds.take i.toNat ++ [d] ++ ds.drop i.toNat, .none) else none
  | _ => none
theorem pmut_insert : PMut (fun x vs H Q => ∃ (l : Addr) (xs : List V) (i : Int) (y : V), x = .ref l ∧ vs = [.int i, y] ∧ H l = some (.lst xs) ∧ xs.length < sizeLine ∧ 0 ≤ i ∧ i < 2 ^ 63 ∧
    Q .non (upd H l (.lst (xs.take i.toNat ++ [y] ++ xs.drop i.toNat)))) gInsert := by
  intro G H l vs ds as ads new z Q gh hl r ra hg q
  cases ra with
  | nil => cases hg
  | cons h rr => cases rr with
    | nil => cases h <;> cases hg
    | cons h2 r2 => cases r2 with
      | cons _ _ => cases h <;> cases hg
      | nil => cases h with
        | int i =>
          simp only [gInsert] at hg
          split at hg
          · rename_i hlt
            cases hg
            exact ⟨l, vs, i, _, rfl, rfl, hl, by rw [r.length]; exact line_lt hlt.1, hlt.2.1, hlt.2.2, q _ _ (((r.take _).append (.one h2)).append (r.drop _)) .non⟩
          · cases hg
        | _ => cases hg
def gReverse (ds as : List D) : Option (List D × D) := match as with
  | [] => some (ds.reverse, .none)
  | _ => none
theorem pmut_reverse : PMut rReverse gReverse := by
  intro G H l vs ds as ads new z Q gh hl r ra hg q
  cases ra with
  | cons _ _ => cases hg
  | nil => cases hg; exact ⟨l, vs, rfl, rfl, hl, q _ _ r.reverse .non⟩
def gClear (ds as : List D) : Option (List D × D) := match as with
  | [] => some ([], .none)
  | _ => none
theorem pmut_clear : PMut rClear gClear := by
  intro G H l vs ds as ads new z Q gh hl r ra hg q
  cases ra with
  | cons _ _ => cases hg
  | nil => cases hg; exact ⟨l, vs, rfl, rfl, hl, q _ _ .nil .non⟩
def gPop (ds as : List D) : Option (List D × D) := match as with
  | [] => match ds[ds.length - 1]? with
    | some y => some (ds.dropLast, y)
    | none => none
  | _ => none
theorem RpA.dropLast {G : Hp} : ∀ {vs : List V} {ds : List D}, RpA G vs ds → RpA G vs.dropLast ds.dropLast
  | _, _, .nil => .nil
  | _, _, .cons h .nil => .nil
  | _, _, .cons h (.cons h2 r) => .cons h (RpA.dropLast (.cons h2 r))
theorem pmut_pop : PMut rPop gPop := by
  intro G H l vs ds as ads new z Q gh hl r ra hg q
  cases ra with
  | cons _ _ => cases hg
  | nil =>
    simp only [gPop] at hg
    cases e : ds[ds.length - 1]? with
    | none => rw [e] at hg; cases hg
    | some y =>
      rw [e] at hg
      cases hg
      obtain ⟨v, hv, rv⟩ := r.get e
      exact ⟨l, vs, v, rfl, rfl, hl, by rw [r.length]; exact hv, q _ _ r.dropLast rv⟩
end
end PL
namespace PL
open PySem PySem.Spec L2 RT RZ
variable [Kap]
/-! ### a def that is called where no repr is under way -/
structure FnG (P : Program) (w : World) (K : PySem.W.Frag) (mg : Str → Option Value) (base : Heap) (k : Nat) (f : Addr) (fd : FuncData) (ps : List Str) (sp : Sp) : Prop where
  len : ∀ (vs : List V) (H : Hp) (Q : VK) (E : XK), sp vs H Q E → vs.length = ps.length
  go : ∀ (A : Around), A.guards = some [] → ∀ (outer : List PySem.Env) (s : Shared) (H : Hp) (args : Args) (us : List Value) (vs : List V) (Q : VK) (E : XK), Room k A → Env0 P w K mg base A outer s H →
    BindsTo s fd args (ps.zip us) → Vals vs us → sp vs H Q E → codeAny (model P w) A (.call (.ref f) args) (CR L2.CX0 outer P w H s Q E) s
section
variable {P : Program} {w : World} {K : PySem.W.Frag} {mg : Str → Option Value} {base : Heap} {k : Nat} {N ps : List Str} {x qual : Str} {st : Stmt} {f : Addr} {fd : FuncData} {m : M Fl}
theorem FnG.mono {sp : Sp} {j : Nat} (F : FnG P w K mg base j f fd ps sp) (h : j ≤ k) : FnG P w K mg base k f fd ps sp :=
  ⟨F.len, fun A hG outer s H args us vs Q E hr => F.go A hG outer s H args us vs Q E (hr.mono h)⟩
theorem fnG_of {sp : Sp} (F : Fun K x qual st f fd) (S : FnScope N ps (defScope st)) (len : ∀ (vs : List V) (H : Hp) (Q : VK) (E : XK), sp vs H Q E → vs.length = ps.length)
    (body : ∀ (cdv : Value) (A : Around), A.guards = some [] → ∀ (outer : List PySem.Env) (s : Shared) (H : Hp) (vs : List V) (Q : VK) (E : XK), Room k (A.deeper (PyProof.Rows.envOfC qual (defScope st) s.heap.objs.size f cdv)) → sp vs H Q E →
      ∃ t, PSs (cxOf L2.CX0 P w K mg base N qual (defScope st) f cdv A outer s H E).nox (defBody st) t ∧ t { nx := fun _ H' => Q .non H', rt := Q } (L2.start N vs) H) : FnG P w K mg base (k + 1) f fd ps sp := by
  obtain ⟨oc, od, kV, doc, pm, an, cdv, ct, osl, rfl, lk, hcd⟩ := F.ex
  constructor
  · exact len
  intro A hG outer s H args us vs Q E hr e0 hb r hsp
  have hl := len _ _ _ _ hsp
  have KX : K.In s.heap := e0.mod.kin.keeps fun b o e => (e0.bs b o e).1
  have lim : s.heap.NoLimit := e0.mod.nolimit.keeps fun b o e => (e0.bs b o e).1
  have kinds : ∀ y ∈ ps.zip us, (defScope st).names.lookup y.1 = some .local ∨ ((defScope st).names.lookup y.1 = some .cell ∧ ((cellsFrom (s.heap.objs.size + 1) (defScope st).names []).lookup y.1).isSome = true) := by
    rintro ⟨n, v⟩ hy
    rcases S.par n (List.of_mem_zip hy).1 with q | q
    · exact Or.inl q
    · exact Or.inr ⟨q, PySem.W.cellsFrom_some _ _ _ (.inl q)⟩
  refine codeAny_call_function hr.depth (KX _ _ lk) rfl S.co S.gen rfl (PySem.W.codeRec_of KX hcd) (hb _ _ _ _ ?_)
  refine PySem.wpAny_newFunctionEnv_cells S.kind kinds ?_
  intro env he s1 x1
  subst he
  refine ⟨lim.keeps x1.toInCall.keep, codeAny_func ?_⟩
  obtain ⟨t, ht, hq⟩ := body cdv A hG outer s H vs Q E (hr.deeper _) hsp
  have I : Inv (cxOf L2.CX0 P w K mg base N qual (defScope st) f cdv A outer s H E) [] (L2.start N vs) H s1 := inv_start S hr.hd e0 hl r x1
  have run := ht.nox.run [] s1 (L2.start N vs) H _ I hq
  refine wpAny_mono run ?_ fun e s' hs => hs
  intro fl s' hs
  cases fl with
  | brk => obtain ⟨_, _, _, q⟩ := hs; exact q.elim
  | cont => obtain ⟨_, _, _, q⟩ := hs; exact q.elim
  | next => obtain ⟨σ', H', J, q⟩ := hs; exact ⟨V.non, H', J.os, J.bare, J.base, J.hok, rfl, q⟩
  | ret u => obtain ⟨v, σ', H', J, rv, q⟩ := hs; exact ⟨v, H', J.os, J.bare, J.base, J.hok, rv, q⟩
theorem fnG_pl {np nl : Nat} (F : Fun K x qual st f fd) (S : FnScope N ps (defScope st)) (hn : N.length = np + nl) (hp : ps.length = np)
    (hb : ∀ (cdv : Value) (A : Around) (outer : List PySem.Env) (s : Shared) (H : Hp) (E : XK), A.guards = some [] → Room k (A.deeper (PyProof.Rows.envOfC qual (defScope st) s.heap.objs.size f cdv)) →
      PSts (cxOf L2.CX0 P w K mg base N qual (defScope st) f cdv A outer s H E).nox (defBody st) m) : FnG P w K mg base (k + 1) f fd ps (spD K np nl m) := by
  refine fnG_of F S (fun vs H Q E h => ?_) fun cdv A hG outer s H vs Q E hr h => ?_
  · obtain ⟨C, ss, r, ρ', hl, _⟩ := h
    rw [hl, hp]
  · obtain ⟨C, ss, r, ρ', hl, hK, S0, hrun, q⟩ := h
    obtain ⟨t, ht, rt⟩ := hb cdv A outer s H E hG hr
    refine ⟨t, ht, ?_⟩
    have e : L2.start N vs = vs.map some ++ List.replicate nl none := by
      unfold L2.start
      rw [hn, hl, Nat.add_sub_cancel_left]
    rw [e]
    have S1 := S0.more nl
    unfold runD at hrun
    cases hm : m (ss ++ List.replicate nl .un) with
    | stuck => rw [hm] at hrun; cases hrun
    | ok fl ρ1 =>
      rw [hm] at hrun
      cases fl with
      | rt r1 => cases hrun; exact rt C C.G0 _ H _ _ hK S1 _ _ hm fun σ' G' H' g S' v o => q v G' σ' H' g S' o
      | nx => cases hrun; exact rt C C.G0 _ H _ _ hK S1 _ _ hm fun σ' G' H' g S' => q .non G' σ' H' g S' .non
      | bk => cases hrun
      | ct => cases hrun
end
section
variable {X : Cx} {e : Expr} {es : List Expr} {pos p : Pos} {x : Str} {k : Nat} {f : Addr} {fd : FuncData} {ps : List Str} {np nl : Nat} {m : M Fl} {ms : List Md} {fs : M (List Pl)} {sp : Sp} {t : TA}
theorem pe_callG (F : FnG X.prog X.w X.K X.mg X.base k f fd ps sp) (hG : X.A.guards = some []) (hr : Room k X.A) (hg : Gl X x) (hm : X.mg x = some (.ref f)) (hk : PySem.W.keepIn X.K (.ref f) = true) (hb : Binds X.K fd ps []) (ha : PA X (e :: es) t)
    (hdb : (x == ("__debug__" : Str)) = false := by decide) (he : starEach (e :: es) X.env = (false, eval e X.env) :: starEach es X.env := by rfl) (hpl : (backTo pos (starEach es X.env)).any (·.1) = false := by rfl) :
    PE X (.Call (.Name x p) (e :: es) [] pos) (tCall sp [] L2.E0 t) := by
  constructor
  intro pins s σ H Q I h
  refine PySem.wpAny_Call_Name_kw (ld_glob I hg hm ?_ hdb)
  refine PySem.W.callWith_K (h₀ := X.base) I.ok.mod.kin hk (thn (ha.run pos pins s σ H _ I h) ?_) he hpl
  rintro us s1 ⟨vs, H1, I1, r, q⟩
  refine ⟨I1.kIn, ?_⟩
  rw [List.append_nil] at q
  have hl : us.length = ps.length := by rw [← r.length]; exact F.len _ _ _ _ q
  have hb' := hb s1 us I1.kIn (by rw [List.append_nil]; exact hl)
  rw [List.append_nil] at hb'
  refine wpAny_call (codeAny_mono (F.go X.A hG X.stack s1 H1 ⟨us, []⟩ us vs Q _ hr I1.env0 hb' r q) ?_)
  intro r s' hq
  cases r with
  | error e => exact False.elim hq
  | ok fl =>
    cases fl with
    | ret u => exact I1.after hq
    | next => exact False.elim hq
    | brk => exact False.elim hq
    | cont => exact False.elim hq
theorem pf_callG (F : FnG X.prog X.w X.K X.mg X.base k f fd ps (spD X.K np nl m)) (hG : X.A.guards = some []) (hr : Room k X.A) (hg : Gl X x) (hm : X.mg x = some (.ref f)) (hk : PySem.W.keepIn X.K (.ref f) = true) (hb : Binds X.K fd ps []) (ha : PPs X (e :: es) fs) (hl : ms.length = np)
    (hdb : (x == ("__debug__" : Str)) = false := by decide) (he : starEach (e :: es) X.env = (false, eval e X.env) :: starEach es X.env := by rfl) (hpl : (backTo pos (starEach es X.env)).any (·.1) = false := by rfl) :
    PF X (.Call (.Name x p) (e :: es) [] pos) (mCall ms nl m fs) := by
  obtain ⟨t, ha, ra⟩ := ha
  exact ⟨_, pe_callG F hG hr hg hm hk hb ha hdb he hpl, rd_call ra hl⟩
end
/-! ### repr of data -/
/-- a number, a truth value, None, a text -/
def plain1 : D → Bool
  | .none => true
  | .bool _ => true
  | .int _ => true
  | .str _ => true
  | _ => false
/-- .. or a tuple of such -/
def plain2 : D → Bool
  | .tuple ds => ds.all plain1
  | d => plain1 d
/-- a dict of such -/
def flatD : D → Bool
  | .dict ks => ks.all fun kv => plain2 kv.2
  | _ => false
theorem plain1_reads {G : Hp} {h : Heap} {v : V} {d : D} {u : Value} (c : plain1 d = true) (r : Rp G v d) (rv : RelV v u) : Reads h u d [] := by
  cases r with
  | non => cases (show u = Value.none from rv); exact .none
  | bl b => cases (show u = Value.bool b from rv); exact .bool b
  | int i => obtain ⟨t, rfl⟩ := (show ∃ t, u = Value.int i t from rv); exact .int i t
  | str z => obtain ⟨t, rfl⟩ := (show ∃ t, u = Value.str z t from rv); exact .str z t
  | _ => cases c
theorem plain1_all {G : Hp} {h : Heap} : ∀ {vs : List V} {ds : List D} {us : List Value}, RpA G vs ds → ds.all plain1 = true → Vals vs us → ReadsAll h us ds []
  | _, _, _, .nil, _, .nil => .nil
  | _, _, _, .cons r rs, c, .cons x xs => by
    rw [List.all_cons, Bool.and_eq_true] at c
    exact ReadsAll.cons (as := []) (bs := []) (plain1_reads c.1 r x) (plain1_all rs c.2 xs)
theorem plain2_reads {X : Cx} {pins : List (Addr × Obj)} {σ : L2.St} {G H : Hp} {s : Shared} (I : L2.Inv X pins σ H s) (gh : Same G H) {v : V} {d : D} {u : Value} (c : plain2 d = true) (r : Rp G v d) (rv : RelV v u) : Reads s.heap u d [] := by
  cases r with
  | @tup a xs ds hG hr =>
    cases (show u = Value.ref a from rv)
    obtain ⟨its, rv2, ⟨o, ho, hc, n, hd⟩, _⟩ := I.tuple (.inl (.inl (gh _ _ hG)))
    exact Reads.tuple ho hc hd (plain1_all hr c rv2)
  | non => exact plain1_reads (G := G) c .non rv
  | bl b => exact plain1_reads (G := G) c (.bl b) rv
  | int i => exact plain1_reads (G := G) c (.int i) rv
  | str z => exact plain1_reads (G := G) c (.str z) rv
  | lst _ _ => cases c
  | dct _ _ => cases c
theorem flat_all {X : Cx} {pins : List (Addr × Obj)} {σ : L2.St} {G H : Hp} {s : Shared} (I : L2.Inv X pins σ H s) (gh : Same G H) : ∀ {es : List (Key × V)} {ks : List (D × D)} {vs : List (Key × Value)} {dl : List DictEntry}, RpK G es ks → (ks.all fun kv => plain2 kv.2) = true →
    KV es vs → Pairs (mixKind X.prog X.w) dl vs → ReadsAll s.heap (dl.map (·.key)) (ks.map (·.1)) [] ∧ ReadsAll s.heap (dl.map (·.val)) (ks.map (·.2)) []
  | _, _, _, _, .nil, _, .nil, .nil => ⟨.nil, .nil⟩
  | _, _, _, _, .cons r rs, c, .cons x xs, .cons p1 p2 ps => by
    rw [List.all_cons, Bool.and_eq_true] at c
    obtain ⟨q1, q2⟩ := flat_all I gh rs c.2 xs ps
    obtain ⟨x1, x2⟩ := x
    subst x1
    refine ⟨ReadsAll.cons (as := []) (bs := []) ?_ q1, ReadsAll.cons (as := []) (bs := []) ?_ q2⟩
    · rcases keyIs_shape p1 with ⟨i, t, e1, e2⟩ | ⟨z, t, e1, e2⟩
      · dsimp only; rw [e1, e2]; exact .int i t
      · dsimp only; rw [e1, e2]; exact .str z t
    · dsimp only; rw [p2]; exact plain2_reads I gh c.1 r x2
/-- a list or a tuple of such, and of what holds no dict -/
def mixD : D → Bool
  | .list ds => ds.all fun d => d.canLay0 || flatD d
  | .tuple ds => ds.all fun d => d.canLay0 || flatD d
  | _ => false
theorem flat_reads {X : Cx} {pins : List (Addr × Obj)} {σ : L2.St} {G H : Hp} {s : Shared} (I : L2.Inv X pins σ H s) (gh : Same G H) {v : V} {d : D} {u : Value} (c : flatD d = true) (sh : Sh G H v d) (ru : RelV v u) :
    ∃ as, Reads s.heap u d as ∧ (d.hasDict = true → sysModules ∉ as) := by
  cases sh with
  | @dct a es ks hH rK =>
    cases (show u = Value.ref a from ru)
    obtain ⟨z, lo, vs, kv, o, dl, ep, h1, ⟨h2, _, _⟩, h3, _, hp, _⟩ := dk_rd I.hok (.inl hH)
    obtain ⟨q1, q2⟩ := flat_all I gh rK c kv hp
    refine ⟨_, Reads.dict (as := []) (bs := []) h1 h2 h3 q1 q2, fun _ hmem => ?_⟩
    have e : sysModules = a := List.mem_singleton.mp hmem
    rw [e] at lo
    simp at lo
  | _ => cases c
theorem item_reads {X : Cx} {pins : List (Addr × Obj)} {σ : L2.St} {G H : Hp} {s : Shared} (I : L2.Inv X pins σ H s) (gh : Same G H) {v : V} {d : D} {u : Value} (c : (d.canLay0 || flatD d) = true) (r : Rp G v d) (ru : RelV v u) :
    ∃ as, Reads s.heap u d as ∧ (d.hasDict = true → sysModules ∉ as) := by
  rw [Bool.or_eq_true] at c
  rcases c with c | c
  · obtain ⟨as, rd⟩ := Dp.reads I d v u (r.dp gh c) ru
    exact ⟨as, rd, fun z => by rw [PyData.hasDict_of_canLay _ c] at z; cases z⟩
  · exact flat_reads I gh c (r.sh gh) ru
theorem mix_all {X : Cx} {pins : List (Addr × Obj)} {σ : L2.St} {G H : Hp} {s : Shared} (I : L2.Inv X pins σ H s) (gh : Same G H) : ∀ {xs : List V} {ds : List D} {us : List Value}, RpA G xs ds → (ds.all fun d => d.canLay0 || flatD d) = true → Vals xs us → PyData.showableAll ds = true →
    (∀ t ∈ PyData.shownAll ds, t.length ≤ sizeLine) → ∃ as bs, ReadsAll s.heap us ds as ∧ ReadAtMost s.heap (PyData.depthAll ds) bs ∧ ReprAllK X.prog X.w bs s.heap (PyData.depthAll ds) us (PyData.shownAll ds)
  | _, _, _, .nil, _, .nil, _, _ => ⟨[], [], .nil, (fun _ y => nomatch y), by rw [PyData.shownAll]; exact .nil⟩
  | _, _, _, .cons (d := d) (ds := ds) r rs, c, .cons x xs, sw, sz => by
    rw [List.all_cons, Bool.and_eq_true] at c
    rw [PyData.showableAll, Bool.and_eq_true] at sw
    rw [PyData.shownAll] at sz
    obtain ⟨a1, rd1, n1⟩ := item_reads I gh c.1 r x
    obtain ⟨b1, l1, k1⟩ := ReprK.of_reads (prog := X.prog) (w := X.w) rd1 sw.1 n1 (sz _ List.mem_cons_self)
    obtain ⟨a2, b2, rd2, l2, k2⟩ := mix_all I gh rs c.2 xs sw.2 fun t ht => sz t (List.mem_cons_of_mem _ ht)
    have e1 : d.depth ≤ PyData.depthAll (d :: ds) := by rw [PyData.depthAll]; omega
    have e2 : PyData.depthAll ds ≤ PyData.depthAll (d :: ds) := by rw [PyData.depthAll]; omega
    refine ⟨a1 ++ a2, b1 ++ b2, .cons rd1 rd2, (l1.mono e1).append (l2.mono e2), ?_⟩
    rw [PyData.shownAll]
    exact .cons ((k1.more fun b hb => List.mem_append_left b2 hb).level_le e1) (k2.more_le (fun b hb => List.mem_append_right b1 hb) e2)
theorem mix_shows {X : Cx} {pins : List (Addr × Obj)} {σ : L2.St} {G H : Hp} {s : Shared} (I : L2.Inv X pins σ H s) (gh : Same G H) {v : V} {d : D} {u : Value} (c : mixD d = true) (sh : Sh G H v d) (ru : RelV v u) (sw : d.showable = true) (sz : d.shown.length ≤ sizeLine) :
    ∃ a T idr, u = .ref a ∧ ShowsBy X.prog X.w s.heap a d T idr := by
  cases sh with
  | @lst a xs ds hH rA =>
    cases (show u = Value.ref a from ru)
    obtain ⟨its, rv, ⟨o, n, ho, hc, _, hd⟩, _⟩ := I.list (.inl (.inl hH))
    rw [PyData.shown] at sz
    rw [PyData.showable] at sw
    obtain ⟨as, bs, rd, lv, kk⟩ := mix_all I gh rA c rv sw fun t ht => Nat.le_trans (listText_mem_le ht) sz
    have out : a ∉ bs := not_mem_of_deeper (.list ho hc hd rd) (by rw [PyData.depth]; omega) lv
    refine ⟨a, "list", "list.__repr__", rfl, F.slot_list_repr.toG, F.slot_list_str, F.slot_list_format, fun s2 k0 => ⟨o, k0 _ _ ho, hc⟩, fun A E s2 Q g0 g1 k0 fin => ?_⟩
    rw [PyData.depth] at g1
    rw [PyData.shown] at fin
    cases its with
    | nil =>
      cases rd
      rw [PyData.shownAll, listText_nil] at fin
      exact call_list_repr_empty ⟨o, k0 _ _ ho, hc⟩ (k0 _ _ ho) hd (fin s2.heap _ _ fun _ _ y => y)
    | cons y ys => exact call_list_reprK ho hc hd out (by simpa using kk.length_eq) (fun i z e => kk.item i z (by simpa using e)) g0 (fun b _ => Clear.nil b) g1 k0 fin sz
  | @tup a xs ds hH rA =>
    cases (show u = Value.ref a from ru)
    obtain ⟨its, rv, ⟨o, ho, hc, n, hd⟩, _⟩ := I.tuple (.inl (.inl hH))
    rw [PyData.shown] at sz
    rw [PyData.showable] at sw
    obtain ⟨as, bs, rd, lv, kk⟩ := mix_all I gh rA c rv sw fun t ht => Nat.le_trans (tupleText_mem_le ht) sz
    have out : a ∉ bs := not_mem_of_deeper (.tuple ho hc hd rd) (by rw [PyData.depth]; omega) lv
    refine ⟨a, "tuple", "tuple.__repr__", rfl, F.slot_tuple_repr, F.slot_tuple_str, F.slot_tuple_format, fun s2 k0 => ⟨o, k0 _ _ ho, hc⟩, fun A E s2 Q g0 g1 k0 fin => ?_⟩
    rw [PyData.depth] at g1
    rw [PyData.shown] at fin
    exact call_tuple_reprK ho hc hd out kk g0 (fun b _ => Clear.nil b) g1 k0 fin sz
  | _ => cases c
def okRepr (d : D) : Bool := (d.canLay0 || (flatD d || mixD d)) && d.showable && decide (d.depth ≤ 64) && decide (d.shown.length ≤ sizeLine)
def gRepr : List D → Option D
  | [d] => if okRepr d = true then some (.str d.shown) else none
  | _ => none
def rRepr (K : PySem.W.Frag) : List V → Hp → VK → Prop := fun xs H Q => ∃ x d, xs = [x] ∧ (Dp K H x d ∧ d.canLay0 = true ∨ (flatD d || mixD d) = true ∧ ∃ G, Same G H ∧ Sh G H x d) ∧ okRepr d = true ∧ Q (.str d.shown) H
theorem call_repr {X : Cx} (hG : X.A.guards = some []) (hu : X.A.units + 66 < cLine) : CallR X (.builtin "repr") (rRepr X.K) := by
  intro pins s σ H xs us Q I r h
  obtain ⟨x, d, rfl, hd, ok, q⟩ := h
  obtain ⟨u, rfl, ru⟩ := vals1 r
  simp only [okRepr, Bool.and_eq_true, decide_eq_true_eq] at ok
  obtain ⟨⟨⟨_, c2⟩, c3⟩, c4⟩ := ok
  have fin : ∀ (h' : Heap) (t : Tok) (tk : Nat), (∀ b o, s.heap.get? b = some o → h'.get? b = some o) → EP X pins σ Q (.str d.shown t) { s with heap := h', toks := tk } := fun h' t tk kk => ⟨.str d.shown, H, I.kept (t' := tk) kk, ⟨t, rfl⟩, q⟩
  rcases hd with ⟨hd, c1⟩ | ⟨c1, G, gh, sh⟩
  · obtain ⟨as, rd⟩ := Dp.reads I d x u hd ru
    cases hd with
    | non => cases (show u = Value.none from ru); exact PySem.P.repr_of_none (fin s.heap _ _ fun _ _ e => e)
    | bl b => cases (show u = Value.bool b from ru); exact PySem.P.repr_of_bool (fin s.heap _ _ fun _ _ e => e)
    | int i =>
      obtain ⟨t, rfl⟩ := (show ∃ t, u = Value.int i t from ru)
      exact PySem.P.repr_of_int (of_decide_eq_true c2) (fin s.heap _ _ fun _ _ e => e)
    | str z =>
      obtain ⟨t, rfl⟩ := (show ∃ t, u = Value.str z t from ru)
      exact PySem.P.repr_of_str (fin s.heap _ _ fun _ _ e => e) c4
    | lst hs ha =>
      cases ru
      exact PySem.repr_of_reads' rd c2 (fun z => by rw [PyData.hasDict_of_canLay _ c1] at z; cases z) hG (by omega) (fun b o e => e) (fun h' t tk kk => fin h' t tk kk) c4
    | tup hs ha =>
      cases ru
      exact PySem.repr_of_reads' rd c2 (fun z => by rw [PyData.hasDict_of_canLay _ c1] at z; cases z) hG (by omega) (fun b o e => e) (fun h' t tk kk => fin h' t tk kk) c4
  · rw [Bool.or_eq_true] at c1
    rcases c1 with c1 | c1
    · obtain ⟨as, rd, hn⟩ := flat_reads I gh c1 sh ru
      cases sh with
      | dct _ _ =>
        cases (show u = Value.ref _ from ru)
        exact PySem.repr_of_reads' rd c2 hn hG (by omega) (fun b o e => e) (fun h' t tk kk => fin h' t tk kk) c4
      | _ => cases c1
    · obtain ⟨a, T, idr, rfl, S⟩ := mix_shows I gh c1 sh ru c2 c4
      exact call_repr_slot (by omega) (S.typeIs s fun _ _ e => e) S.slotRepr (S.call X.A.in1 _ s _ hG (by show X.A.units + 1 + d.depth < cLine; omega) (fun _ _ e => e) fun h' t tk kk => ⟨_, _, rfl, fin h' t tk kk⟩)
theorem pcl_repr {K : PySem.W.Frag} : PClV (rRepr K) gRepr := by
  intro G H vs ds z Q gh s hg q
  cases s with
  | nil => cases hg
  | cons h r => cases r with
    | cons _ _ => cases hg
    | @nil =>
      simp only [gRepr] at hg
      split at hg
      · rename_i ok
        cases hg
        have ok' := ok
        simp only [okRepr, Bool.and_eq_true, Bool.or_eq_true] at ok'
        refine ⟨_, _, rfl, ?_, ok, q _ G H (Grow.refl gh) (.str _)⟩
        rcases ok'.1.1.1 with c | c
        · exact .inl ⟨h.dp gh c, c⟩
        · exact .inr ⟨by rw [Bool.or_eq_true]; exact c, G, gh, h⟩
      · cases hg
section
variable {X : Cx} {e : Expr} {es : List Expr} {pos p : Pos} {gs : M (List Pl)}
theorem pv_repr (hG : X.A.guards = some []) (hu : X.A.units + 66 < cLine) (hg : Gl X "repr") (hm : X.mg "repr" = none) (ha : PPs X (e :: es) gs) (he : starEach (e :: es) X.env = (false, eval e X.env) :: starEach es X.env := by rfl) (hpl : (backTo pos (starEach es X.env)).any (·.1) = false := by rfl) :
    PV X (.Call (.Name "repr" p) (e :: es) [] pos) (mN gRepr gs) := pv_b (call_repr hG hu) pcl_repr hg hm PyProof.Rows.boot_repr ha (he := he) (hpl := hpl)
end
end PL
namespace PL
open PySem PySem.Spec L2 RT RZ
variable [Kap]
open PyProof.Rows (AllBare)
/-! ### the end of a law -/
theorem law_callG {P : Program} {w : World} {K : PySem.W.Frag} {mg mb : Str → Option Value} {k : Nat} {fa a : Addr} {fd : FuncData} {x : Str} {sp : Sp} {s1 : Shared} {vs : List Value} {ns : List Int}
    (KX : K.In s1.heap) (hns : s1.heap.Ns mainGlobals mg) (hb : s1.heap.Ns builtinsNs mb) (hbb : ∀ x : Str, x ≠ "__name__" → mb x = bootBuiltins x) (hlim : s1.heap.NoLimit) (hg : s1.gens = #[])
    (ha : s1.heap.get? a = some { cls := .type "list", data := .seq vs.toArray }) (hi : PyProof.Rows.IntsAre vs ns) (hl : ns.length ≤ sizeLine) (hr : Room k callerA)
    (F : ∀ base : Heap, K.In base → base.Ns mainGlobals mg → FnG P w K mg base k fa fd [x] sp) (hbind : ∀ (s : Shared) (u : Value), BindsTo s fd ⟨[u], []⟩ [(x, u)])
    (hsp : ∀ H : Hp, Only H → SqL K H a (ns.map V.int) → sp [.ref a] H (fun v _ => v = .bl true) fun _ _ _ => False) :
    codeAny (model P w) callerA (.call (.ref fa) ⟨[.ref a], []⟩) (fun r s' => r = .ok (.ret (.bool true)) ∧ OldK s1.heap s'.heap ∧ s'.os = s1.os ∧ AllBare s'.gens) s1 := by
  have lenV := hi.length
  have main : ∀ H : Hp, Only H → SqL K H a (ns.map V.int) → HOk P w H s1.heap → (∀ b, H b ≠ none → b = a) → (H a ≠ none → K.lookup a = none) →
      codeAny (model P w) callerA (.call (.ref fa) ⟨[.ref a], []⟩) (fun r s' => r = .ok (.ret (.bool true)) ∧ OldK s1.heap s'.heap ∧ s'.os = s1.os ∧ AllBare s'.gens) s1 := by
    intro H hO hS hok only hK
    have nodict : ∀ {b : Addr} {o : Obj} {es : Array DictEntry} {ep : Nat}, s1.heap.get? b = some o → o.data = .dict es ep → H b = none := by
      intro b o es ep e d
      refine Classical.byContradiction fun hne => ?_
      have e' := only b hne
      subst e'
      rw [ha] at e
      cases e
      cases (show Data.seq vs.toArray _ = Data.dict es ep from d)
    have nsB : ∀ {b : Addr} {m : Str → Option Value}, s1.heap.Ns b m → (hidT s1.heap H).Ns b m := by
      rintro b m ⟨o, es, ep, e, d, r⟩
      exact ⟨o, es, ep, hidT_get e (nodict e d), d, r⟩
    have kB : K.In (hidT s1.heap H) := by
      intro b o e
      refine hidT_get (KX b o e) (Classical.byContradiction fun hne => ?_)
      have e' := only b hne
      subst e'
      rw [hK hne] at e
      cases e
    obtain ⟨mc, l1, l2⟩ := hlim
    have e0 : Env0 P w K mg (hidT s1.heap H) callerA [] s1 H :=
      { frames := rfl, mod := ⟨kB, nsB hns, ⟨mb, nsB hb, hbb⟩, ⟨mc, nsB l1, l2⟩⟩, bs := fun b o e => of_hidT e, bsz := Nat.le_of_eq (hidT_size _ _), funs := trivial, frf := (fun b hb => nomatch hb), hok := hok, bare := .of_eq hg }
    have run := (F _ kB (nsB hns)).go callerA rfl [] s1 H ⟨[.ref a], []⟩ [.ref a] [.ref a] _ _ hr e0 (hbind s1 (.ref a)) (.cons rfl .nil) (hsp H hO hS)
    refine codeAny_mono run ?_
    intro r s' h
    cases r with
    | error e => exact False.elim h
    | ok fl =>
      cases fl with
      | next => exact False.elim h
      | brk => exact False.elim h
      | cont => exact False.elim h
      | ret u =>
        obtain ⟨v, H', os, bare, un, hok', r', q⟩ := h
        cases (show v = V.bl true from q)
        cases (show u = Value.bool true from r')
        refine ⟨rfl, OldK.of_keep fun b o e => ?_, os, bare⟩
        cases q2 : H b with
        | none => exact un.keep b o e q2 (fun z => nomatch z) (fun z => nomatch z)
        | some u =>
          rcases hO b with z | ⟨ob, xs, z⟩
          · rw [q2] at z; cases z
          · have z2 := un.frzs b ob _ z
            have e1 := (hok b _ z).1
            have e2 := (hok' b _ z2).1
            rw [e] at e1
            cases e1
            exact e2
  cases hk : K.lookup a with
  | some o =>
    have e := KX a o hk
    rw [ha] at e
    cases e
    refine main (fun _ => none) (fun _ => .inl rfl) (.inr ⟨_, vs.toArray, _, hk, rfl, rfl, rfl, ?_, ?_⟩) (fun b u z => nomatch (show (none : Option HO) = some u from z)) (fun b z => absurd rfl z) (fun z => absurd rfl z)
    · rw [List.size_toArray, lenV]; exact hl
    · simpa using vals_ints hi
  | none =>
    refine main (fun b => if b = a then some (.frz { cls := .type "list", data := .seq vs.toArray } (.lst (ns.map V.int))) else none) ?_ (.inl (.inr ⟨_, if_pos rfl⟩)) ?_ ?_ (fun _ => hk)
    · intro b
      by_cases hb : b = a
      · exact .inr ⟨_, _, if_pos hb⟩
      · exact .inl (if_neg hb)
    · intro b u z
      by_cases hb : b = a
      · simp only [if_pos hb] at z
        cases z
        subst hb
        exact ⟨ha, by rw [List.length_map]; exact hl, vs, _, vals_ints hi, ha⟩
      · simp only [if_neg hb] at z
        cases z
    · intro b z
      by_cases hb : b = a
      · exact hb
      · exact absurd (if_neg hb) z
theorem walk_ofG {l : PySem.W.OpenLaw} {n k : Nat} {q : Program} {loose : List Str} {XP : (Str → Option Value) → Heap → Prop} {YP : World → Heap → Prop} {d : DefRec} {K : Params → PySem.W.Frag} {sp : World → Sp} {x : Str}
    (hn : l.most = some n) (hn2 : n ≤ sizeLine) (hdf : d.params.defaults = []) (hr : Room k callerA)
    (hY : ∀ (w : World) (h : Heap), YP w h → (K w.params).In h)
    (F : ∀ (w : World) (mg : Str → Option Value) (fa : Addr) (h : Heap), (K w.params).In h → h.Ns mainGlobals mg → mg d.name = some (.ref fa) →
      ∃ fd : FuncData, (∀ (s : Shared) (u : Value), BindsTo s fd ⟨[u], []⟩ [(x, u)]) ∧
        ∀ base : Heap, (K w.params).In base → base.Ns mainGlobals mg → FnG l.prog w (K w.params) mg base k fa fd [x] (sp w))
    (hsp : ∀ (w : World) (H : Hp) (a : Addr) (ns : List Int), ns.length ≤ n → Only H → SqL (K w.params) H a (ns.map V.int) → sp w [.ref a] H (fun v _ => v = .bl true) fun _ _ _ => False) :
    PySem.W.WalkO q loose XP YP l.row.toRowW d [] (fun f vs => PySem.call f vs) := by
  refine Att.attach_call hn hdf ?_
  intro w s0 s1 mg mb fa o pm cd doc a vs ns G Y ho hd hcd hmg hobj hints hlen hg
  have KX := hY w _ Y
  obtain ⟨fd, hb, hF⟩ := F w mg fa _ KX G.T.g hmg
  exact law_callG KX G.T.g G.T.b G.T.builtins G.T.nolimit hg hobj hints (Nat.le_trans hlen hn2) hr hF hb fun H hO hS => hsp w H a ns hlen hO hS
/-- the law's run over plain data -/
theorem law_true {K : PySem.W.Frag} {nl : Nat} {m : M Fl} {H : Hp} {a : Addr} {ns : List Int} {ρ : Env} (hS : SqL K H a (ns.map V.int)) (hm : m (.scr ns :: List.replicate nl .un) = .ok (.rt (.pl (.val (.bool true)))) ρ) :
    spD K 1 nl m [.ref a] H (fun v _ => v = .bl true) fun _ _ _ => False := by
  refine ⟨{ K := K, G0 := fun _ => none, B := H, A := fun a => H a = none, P := fun i => if i = 0 then some (.ref a) else none, S := fun _ => .scr ns }, [.scr ns], .pl (.val (.bool true)), ρ, rfl, rfl, ?_, ?_, fun v G' σ' H' g S o => ?_⟩
  · refine ⟨(fun b u z => nomatch z), Same.refl _, Same.refl _, fun b z => z, fun b z => absurd rfl z, fun i v z => ?_, rfl, fun i s e => ?_, fun i j b hi hj => ?_⟩
    · by_cases hi : i = 0
      · have z' : some (V.ref a) = some v := by rw [← z]; exact (if_pos hi).symm
        cases z'
        exact ⟨a, rfl, hS⟩
      · have z' : none = some v := by rw [← z]; exact (if_neg hi).symm
        cases z'
    · cases i with
      | zero => cases e; exact ⟨_, rfl, _, rfl, rfl, rfl⟩
      | succ i => cases e
    · obtain ⟨_, s, e, z⟩ := hi
      cases i with
      | zero => cases e; cases z
      | succ i => cases e
  · unfold runD
    show (match m (.scr ns :: List.replicate nl .un) with
      | .ok (.rt r) ρ => some (r, ρ)
      | .ok .nx ρ => some (.pl (.val .none), ρ)
      | _ => none) = _
    rw [hm]
  · have o' : Rp G' v (.bool true) := o
    cases o'
    rfl
end PL
namespace PL
open PySem PySem.Spec L2 RT RZ
variable [Kap]
/-! ### truth -/
def truD : D → Option Bool
  | .none => some false
  | .bool b => some b
  | .int i => some (i != 0)
  | .str s => if s.length ≤ 100000 then some ((s.length : Int) != 0) else none
  | .list ds => some (!ds.isEmpty)
  | .tuple ds => some (!ds.isEmpty)
  | .dict _ => none
def mTr (f : M Pl) : M Bool := mUn truD f
theorem isE {G : Hp} {xs : List V} {ds : List D} (r : RpA G xs ds) : (!ds.isEmpty) = !xs.isEmpty := by cases r <;> rfl
theorem tru_ok' {K : PySem.W.Frag} {G H : Hp} {v : V} {d : D} {k : Bool} (h : Sh G H v d) (e : truD d = some k) : TruV K v H k := by
  cases h with
  | non => cases e; rfl
  | bl b => cases e; rfl
  | int i => cases e; rfl
  | str s =>
    simp only [truD] at e
    split at e
    · rename_i hl; cases e; exact ⟨line_of hl, rfl⟩
    · cases e
  | lst h r => cases e; exact .inl ⟨_, .inl (.inl h), isE r⟩
  | tup h r => cases e; exact .inr (.inl ⟨_, .inl (.inl h), isE r⟩)
  | dct h r => cases e
section
variable {X : Cx} {e a b c tg elt iter : Expr} {es ifs : List Expr} {pos pos' tpos p p1 p2 p3 apos cpos : Pos} {f fa fb fe : M D} {g ga gb : M Pl} {gs : M (List Pl)} {k : M Rv} {x : Str}
theorem ptt_truth (h : PP X e g) (he : ∀ whole, isTrue e X.env whole = (do let v ← whole; standAt e.pos; holding [v] (truthy v)) := by intro _; rfl) : PTt X e (mTr g) := by
  obtain ⟨t, h, r⟩ := h
  refine ⟨_, pt_truth h he, fun C G σ H ρ Q hK S k ρ' hf q => ?_⟩
  obtain ⟨pl, ρ1, h1, hf2⟩ := bnd_ok hf
  obtain ⟨d, ρ2, h2, hf3⟩ := bnd_ok hf2
  refine r C G σ H ρ _ hK S pl ρ1 h1 fun v G1 H1 g1 S1 o => ?_
  obtain ⟨s, rfl⟩ := look_ok S1 o h2
  obtain ⟨ek, rfl⟩ := ofO_ok hf3
  exact ⟨k, tru_ok' s ek, q G1 H1 g1 S1⟩
/-! ### xs[::-1] -/
def gRevs : D → Option D
  | .list ds => some (.list ds.reverse)
  | _ => none
theorem pf_revs {kk : Nat} (h : PP X e g) : PF X (.Subscript e (.Slice none none (some (.UnaryOp .USub (.Constant (.int 1) kk p1) p2)) p3) pos) (mFr (mUn gRevs g)) := by
  obtain ⟨t, h, r⟩ := h
  refine ⟨_, pe_revL h, fun C G σ H ρ Q hK S d ρ' hf q => ?_⟩
  obtain ⟨d0, ρ0, hf0, h0⟩ := bnd_ok hf
  cases h0
  obtain ⟨pl, ρ1, h1, hf2⟩ := bnd_ok hf0
  obtain ⟨d1, ρ2, h2, hf3⟩ := bnd_ok hf2
  refine r C G σ H ρ _ hK S pl ρ1 h1 fun v G1 H1 g1 S1 o => ?_
  obtain ⟨s, rfl⟩ := look_ok S1 o h2
  obtain ⟨ek, rfl⟩ := ofO_ok hf3
  cases s with
  | @lst a xs ds ha ra =>
    cases ek
    refine ⟨a, xs, rfl, .inl (.inl ha), fun p hp => ?_⟩
    have w := Grow.newF (o := .lst xs.reverse) S1.gh hp
    exact q _ G1 _ g1 (S1.grow w) (fresh_ok S1 hp w (.lst upd_same ra.reverse))
  | _ => cases ek
/-! ### methods of lists that change nothing -/
def isL : D → Option D
  | .list ds => some (.list ds)
  | _ => none
def mMeth (g' : D → List D → Option D) (fo : M Pl) (fs : M (List Pl)) : M D := bnd fo fun p => bnd (look p) fun d0 => bnd (ofO (isL d0)) fun _ => bnd fs fun ps => bnd (look p) fun d => bnd (lookAll ps) fun ds => ofO (g' d ds)
def PMeth (r : V → List V → Hp → VK → Prop) (g : D → List D → Option D) : Prop := ∀ (G H : Hp) (v : V) (d : D) (vs : List V) (ds : List D) (z : D) (Q : VK), Same G H → Sh G H v d → ShA G H vs ds → g d ds = some z → (∀ v G' H', Grow G H G' H' → Rp G' v z → Q v H') → r v vs H Q
theorem pv_meth {name : Str} {id : String} {r : V → List V → Hp → VK → Prop} {g' : D → List D → Option D} (slot : Slot "list" name id) (hty : typeOf (.builtin id) = pure (.type "method_descriptor")) (hm : MtR X id r) (hp : PMeth r g') (ho : PP X a ga) (ha : PPs X (e :: es) gs)
    (hbase : attributeBase a name X.env (eval a X.env) = eval a X.env := by rfl)
    (hfew : ((backTo cpos (starEach (e :: es) X.env)).all (fun x => !x.1) && (backToKw cpos (keywordEach [] X.env)).all (fun x => x.1.isSome)
      && decide ((e :: es).length + ([] : List Keyword).length + (if ([] : List Keyword).isEmpty then 0 else 1) < 30)) = true := by rfl)
    (hline : (apos.endLine == cpos.line) = true := by rfl) (hs : starEach (e :: es) X.env = (false, eval e X.env) :: starEach es X.env := by rfl) (hplain : (backTo cpos (starEach es X.env)).any (·.1) = false := by rfl) :
    PV X (.Call (.Attribute a name apos) (e :: es) [] cpos) (mMeth g' ga gs) := by
  obtain ⟨to, ho, ro⟩ := ho
  obtain ⟨ta, ha, ra⟩ := ha
  refine ⟨_, pe_bm PySem.F.plainAttrs_list slot hty hm ho ha hbase hfew hline hs hplain, fun C G σ H ρ Q hK S z ρ' hf q => ?_⟩
  obtain ⟨pl, ρ1, h1, hf2⟩ := bnd_ok hf
  obtain ⟨d0, ρ2, h2, hf3⟩ := bnd_ok hf2
  obtain ⟨d1, ρ3, h3, hf4⟩ := bnd_ok hf3
  obtain ⟨ps, ρ4, h4, hf5⟩ := bnd_ok hf4
  obtain ⟨d, ρ5, h5, hf6⟩ := bnd_ok hf5
  obtain ⟨ds, ρ6, h6, hf7⟩ := bnd_ok hf6
  refine ro C G σ H ρ _ hK S pl ρ1 h1 fun v G1 H1 g1 S1 o1 => ?_
  obtain ⟨s0, rfl⟩ := look_ok S1 o1 h2
  obtain ⟨e3, rfl⟩ := ofO_ok h3
  refine ⟨?_, ?_⟩
  · cases s0 with
    | lst ha2 _ => exact Or.inl ⟨rfl, _, Or.inl (Or.inl ha2)⟩
    | _ => cases e3
  · refine ra C G1 σ H1 _ _ hK S1 ps ρ4 h4 fun vs G2 H2 g2 S2 o2 => ?_
    obtain ⟨s1, rfl⟩ := look_ok S2 (o1.mono g2) h5
    obtain ⟨s2, rfl⟩ := lookAll_ok S2 o2 h6
    obtain ⟨e7, rfl⟩ := ofO_ok hf7
    exact hp G2 H2 v d vs ds z Q S2.gh s1 s2 e7 fun v G' H' w rr => q v G' H' ((g1.trans g2).trans w.g) (S2.grow w) rr
def rCountD (K : PySem.W.Frag) : V → List V → Hp → VK → Prop := fun x xs H Q => ∃ (a : Addr) (y : V) (d : PyData) (ds : List PyData), x = V.ref a ∧ xs = [y] ∧ Dp K H (V.ref a) (.list ds) ∧ Dp K H y d ∧
  SeqAt.shaped (.list ds) = true ∧ SeqAt.shaped d = true ∧ Q (.int ((ds.countP fun z => PyData.eqv z d : Nat) : Int)) H
theorem room_shaped {A : Around} {ds : List PyData} {d : PyData} (h : SeqAt.shaped d = true) (hu : A.units + 65 < cLine) : A.units + 1 + min (PyData.depthAll ds) d.depth < cLine := by
  have h1 := SeqAt.depth_of_shaped h
  have h2 : min (PyData.depthAll ds) d.depth ≤ d.depth := Nat.min_le_right _ _
  omega
theorem mt_countD (hu : X.A.units + 65 < cLine) : MtR X "list.count" (rCountD X.K) := by
  intro pins s σ H x xs v us Q I rx rxs h
  obtain ⟨a, y, d, ds, rfl, rfl, hl, hy, sl, sd, q⟩ := h
  cases rx
  obtain ⟨uy, rfl, ry⟩ := vals1 rxs
  obtain ⟨bs, r1⟩ := Dp.reads I d y uy hy ry
  have hxs : PyData.canLayAll0 ds = true := SeqAt.canLay_of_shaped sl
  cases hl with
  | lst hs ha =>
    obtain ⟨its, rv, ⟨⟨cls, dd, data, sls⟩, n, ho, hc, hdn, hdt⟩, hlen⟩ := I.list hs
    simp only at hc hdt
    subst hc hdt
    obtain ⟨as, h4⟩ := Dp.readsAll I ds _ its ha rv
    have hmap : its.map (SeqAt.readOf s.heap) = ds := SeqAt.readsAll_map ds its as hxs h4
    refine call_meets PySem.F.slot_list_count ⟨_, ho, rfl⟩ PySem.F.entry_list_count (PySem.F.args_list_count_2 _ _)
      (SeqAt.list_countAt a its.toArray n dd sls uy (fun u => PyData.eqv (SeqAt.readOf s.heap u) d)) ⟨ho, SeqAt.items_eqAt (vs := its.toArray) (show ReadsAll s.heap its.toArray.toList ds as from h4) r1 hxs (SeqAt.canLay_of_shaped sd) (room_shaped sd hu), ?_⟩
    have ec : its.toArray.toList.countP (fun u => PyData.eqv (SeqAt.readOf s.heap u) d) = ds.countP fun z => PyData.eqv z d := by
      rw [← hmap, List.countP_map]; rfl
    refine ⟨.int ((ds.countP fun z => PyData.eqv z d : Nat) : Int), H, I.tok _, ⟨s.toks, ?_⟩, q⟩
    rw [ec]
def gCount (d : D) (as : List D) : Option D := match d, as with
  | .list ds, [z] => if (SeqAt.shaped (.list ds) && SeqAt.shaped z) = true then some (.int ((ds.countP fun w => PyData.eqv w z : Nat) : Int)) else none
  | _, _ => none
theorem pmeth_count {K : PySem.W.Frag} : PMeth (rCountD K) gCount := by
  intro G H v d vs ds z Q gh s sa hg q
  cases s with
  | @lst a xs es h r =>
    cases sa with
    | nil => cases hg
    | cons h2 r2 => cases r2 with
      | cons _ _ => cases hg
      | nil =>
        simp only [gCount] at hg
        split at hg
        · rename_i ok
          cases hg
          rw [Bool.and_eq_true] at ok
          exact ⟨a, _, _, es, rfl, rfl, Sh.dp gh (.lst h r) (SeqAt.canLay_of_shaped ok.1), h2.dp gh (SeqAt.canLay_of_shaped ok.2), ok.1, ok.2, q _ G H (Grow.refl gh) (.int _)⟩
        · cases hg
  | _ => cases hg
theorem pv_count (hu : X.A.units + 65 < cLine) (ho : PP X a ga) (ha : PPs X (e :: es) gs) (hbase : attributeBase a "count" X.env (eval a X.env) = eval a X.env := by rfl)
    (hfew : ((backTo cpos (starEach (e :: es) X.env)).all (fun x => !x.1) && (backToKw cpos (keywordEach [] X.env)).all (fun x => x.1.isSome)
      && decide ((e :: es).length + ([] : List Keyword).length + (if ([] : List Keyword).isEmpty then 0 else 1) < 30)) = true := by rfl)
    (hline : (apos.endLine == cpos.line) = true := by rfl) (hs : starEach (e :: es) X.env = (false, eval e X.env) :: starEach es X.env := by rfl) (hplain : (backTo cpos (starEach es X.env)).any (·.1) = false := by rfl) :
    PV X (.Call (.Attribute a "count" apos) (e :: es) [] cpos) (mMeth gCount ga gs) := pv_meth PySem.F.slot_list_count PySem.F.type_list_count (mt_countD hu) pmeth_count ho ha hbase hfew hline hs hplain
end
theorem tsNil_len : ∀ (ds : List D) (ρ ρ' : Env), tsNil ds ρ = .ok () ρ' → ds.length = 0
  | [], _, _, _ => rfl
  | _ :: _, _, _, h => nomatch h
theorem tsCons_len {t : D → M Unit} {u : List D → M Unit} {n : Nat} (hu : ∀ (ds : List D) (ρ ρ' : Env), u ds ρ = .ok () ρ' → ds.length = n) : ∀ (ds : List D) (ρ ρ' : Env), tsCons t u ds ρ = .ok () ρ' → ds.length = n + 1
  | [], _, _, h => nomatch h
  | d :: ds, ρ, ρ', h => by
    obtain ⟨_, ρ1, _, h2⟩ := bnd_ok h
    rw [List.length_cons, hu ds ρ1 ρ' h2]
abbrev gAddI : D → D → Option D := onInts0 fun i j => .int (i + j)
theorem pop_ip {f : Int → Int → Int} : POpV (ipI f) (onInts0 fun i j => .int (f i j)) := by
  intro G H x y d e z Q gh s1 s2 hg q
  cases s1 with
  | int i =>
    cases s2 with
    | int j => cases hg; exact ⟨i, j, rfl, rfl, q _ G H (Grow.refl gh) (.int _)⟩
    | _ => cases hg
  | _ => cases hg
theorem _root_.L2.Room.u65 {k : Nat} {A : Around} (r : Room k A) : A.units + 65 < cLine := by have := r.un; omega
theorem _root_.L2.Room.u66 {k : Nat} {A : Around} (r : Room k A) : A.units + 66 < cLine := by have := r.un; omega
end PL
namespace PL
open PySem PySem.Spec L2 RT RZ
variable [Kap]
/-! ### running the mirror -/
theorem bnd_eq {α β : Type} {f : M α} {g : α → M β} {ρ ρ1 : Env} {a : α} (h : f ρ = .ok a ρ1) : bnd f g ρ = g a ρ1 := by unfold bnd; rw [h]
theorem mSeq_nx {a b : M Fl} {ρ ρ1 : Env} (h : a ρ = .ok .nx ρ1) : mSeq a b ρ = b ρ1 := by unfold mSeq; rw [bnd_eq h]
theorem mSeq_rt {a b : M Fl} {ρ ρ1 : Env} {r : Rv} (h : a ρ = .ok (.rt r) ρ1) : mSeq a b ρ = .ok (.rt r) ρ1 := by unfold mSeq; rw [bnd_eq h]; rfl
theorem mFor_ok {f : M (List D)} {t : D → M Unit} {b : M Fl} {ρ ρ1 : Env} {ds : List D} (h : f ρ = .ok ds ρ1) : mFor f t b ρ = forGo t b ds ρ1 := by unfold mFor; rw [bnd_eq h]
/-- a loop by its invariant -/
theorem forGo_inv {t : D → M Unit} {b : M Fl} (I : List D → Env → Prop) : ∀ (ds done : List D) (ρ : Env), I done ρ →
    (∀ (pre : List D) (d : D) (ρ : Env), d ∈ ds → pre.length < done.length + ds.length → I pre ρ → ∃ ρ1 ρ2 fl, t d ρ = .ok () ρ1 ∧ b ρ1 = .ok fl ρ2 ∧ (fl = .nx ∨ fl = .ct) ∧ I (pre ++ [d]) ρ2) →
    (∀ pre ρ, I pre ρ → done.length ≤ pre.length → True) → ∃ ρ', forGo t b ds ρ = .ok .nx ρ' ∧ I (done ++ ds) ρ'
  | [], done, ρ, h0, _, _ => ⟨ρ, rfl, by rw [List.append_nil]; exact h0⟩
  | d :: ds, done, ρ, h0, hs, ht => by
    obtain ⟨ρ1, ρ2, fl, e1, e2, hf, h1⟩ := hs done d ρ List.mem_cons_self (by rw [List.length_cons]; omega) h0
    obtain ⟨ρ', e3, h3⟩ := forGo_inv I ds (done ++ [d]) ρ2 h1 (fun pre d' ρ hd hl hi => hs pre d' ρ (List.mem_cons_of_mem _ hd) (by rw [List.length_append, List.length_cons, List.length_nil] at hl; rw [List.length_cons]; omega) hi) fun _ _ _ _ => trivial
    refine ⟨ρ', ?_, by rw [List.append_assoc] at h3; exact h3⟩
    show bnd (t d) (fun _ => bnd b fun fl => match fl with
      | .nx => forGo t b ds
      | .ct => forGo t b ds
      | .bk => ret .nx
      | .rt r => ret (.rt r)) ρ = _
    rw [bnd_eq e1, bnd_eq e2]
    rcases hf with rfl | rfl <;> exact e3
theorem forGo_by {t : D → M Unit} {b : M Fl} (I : List D → Env → Prop) {ds : List D} {ρ : Env} (h0 : I [] ρ)
    (hs : ∀ (pre : List D) (d : D) (ρ : Env), d ∈ ds → pre.length < ds.length → I pre ρ → ∃ ρ1 ρ2 fl, t d ρ = .ok () ρ1 ∧ b ρ1 = .ok fl ρ2 ∧ (fl = .nx ∨ fl = .ct) ∧ I (pre ++ [d]) ρ2) : ∃ ρ', forGo t b ds ρ = .ok .nx ρ' ∧ I ds ρ' := by
  have := forGo_inv I ds [] ρ h0 (fun pre d ρ hd hl => hs pre d ρ hd (by simpa using hl)) fun _ _ _ _ => trivial
  simpa using this
/-- a comprehension whose items are a function of what is gone through, the names as they were -/
theorem lcGo_map {t : D → M Unit} {vs : List Nat} {c : M Bool} {fe : M D} {φ : D → D} {ρ0 : Env} : ∀ (ds acc : List D),
    (∀ d ∈ ds, ∃ ρ1 ρ2 ρ3, t d ρ0 = .ok () ρ1 ∧ c ρ1 = .ok true ρ2 ∧ fe ρ2 = .ok (φ d) ρ3 ∧ wipeE ρ3 vs = ρ0) → acc.length + ds.length ≤ 100000 → lcGo t vs c fe acc ds ρ0 = .ok (acc ++ ds.map φ) ρ0
  | [], acc, _, _ => by rw [List.map_nil, List.append_nil]; rfl
  | d :: ds, acc, h, hl => by
    obtain ⟨ρ1, ρ2, ρ3, e1, e2, e3, e4⟩ := h d List.mem_cons_self
    rw [List.length_cons] at hl
    show bnd (t d) (fun _ => bnd c fun k => if k = true then bnd fe fun y => if acc.length < 100000 then fun ρ => lcGo t vs c fe (acc ++ [y]) ds (wipeE ρ vs) else fun _ => .stuck
      else fun ρ => lcGo t vs c fe acc ds (wipeE ρ vs)) ρ0 = _
    rw [bnd_eq e1, bnd_eq e2, if_pos rfl, bnd_eq e3, if_pos (by omega), e4, lcGo_map ds (acc ++ [φ d]) (fun d' hd => h d' (List.mem_cons_of_mem _ hd)) (by rw [List.length_append, List.length_cons, List.length_nil]; omega), List.map_cons, List.append_assoc]
    rfl
/-- a comprehension by an invariant of what is made -/
theorem lcGo_inv {t : D → M Unit} {vs : List Nat} {c : M Bool} {fe : M D} (I : List D → Env → Prop) : ∀ (ds acc : List D) (ρ : Env), I acc ρ →
    (∀ (pre : List D) (d : D) (ρ : Env), d ∈ ds → pre.length < acc.length + ds.length → I pre ρ → ∃ ρ1 ρ2 ρ3 y, t d ρ = .ok () ρ1 ∧ c ρ1 = .ok true ρ2 ∧ fe ρ2 = .ok y ρ3 ∧ I (pre ++ [y]) (wipeE ρ3 vs)) →
    acc.length + ds.length ≤ 100000 → ∃ out ρ', lcGo t vs c fe acc ds ρ = .ok out ρ' ∧ I out ρ' ∧ out.length = acc.length + ds.length
  | [], acc, ρ, h0, _, _ => ⟨acc, ρ, rfl, h0, rfl⟩
  | d :: ds, acc, ρ, h0, hs, hl => by
    obtain ⟨ρ1, ρ2, ρ3, y, e1, e2, e3, h1⟩ := hs acc d ρ List.mem_cons_self (by rw [List.length_cons]; omega) h0
    rw [List.length_cons] at hl
    obtain ⟨out, ρ', e4, h4, h5⟩ := lcGo_inv I ds (acc ++ [y]) (wipeE ρ3 vs) h1 (fun pre d' ρ hd hl' hi => hs pre d' ρ (List.mem_cons_of_mem _ hd) (by rw [List.length_append, List.length_cons, List.length_nil] at hl'; rw [List.length_cons]; omega) hi)
      (by rw [List.length_append, List.length_cons, List.length_nil]; omega)
    refine ⟨out, ρ', ?_, h4, by rw [h5, List.length_append, List.length_cons, List.length_nil, List.length_cons]; omega⟩
    show bnd (t d) (fun _ => bnd c fun k => if k = true then bnd fe fun y => if acc.length < 100000 then fun ρ => lcGo t vs c fe (acc ++ [y]) ds (wipeE ρ vs) else fun _ => .stuck
      else fun ρ => lcGo t vs c fe acc ds (wipeE ρ vs)) ρ = _
    rw [bnd_eq e1, bnd_eq e2, if_pos rfl, bnd_eq e3, if_pos (by omega)]
    exact e4
theorem mLc_ok {fi : M (List D)} {t : D → M Unit} {vs : List Nat} {c : M Bool} {fe : M D} {ρ ρ1 ρ2 : Env} {ds out : List D} (h1 : fi ρ = .ok ds ρ1) (h2 : lcGo t vs c fe [] ds (wipeE ρ1 vs) = .ok out ρ2) : mLc fi t vs c fe ρ = .ok (.fr (.list out)) (restE ρ1 ρ2 vs) := by
  unfold mLc
  rw [bnd_eq h1]
  simp only [h2]
theorem evalD_of {ms : List Md} {nl : Nat} {body : M Fl} {ss ρ' : Env} {r r' : Rv} (h1 : runD nl body ss = some (r, ρ')) (h2 : resR ρ' r = some r') : evalD ms nl body ss = some (r', ρ'.take ms.length) := by
  unfold evalD
  rw [h1]
  simp only [h2]
theorem shaped_int (i : Int) : SeqAt.shaped (.int i) = true := rfl
theorem shaped_bool (b : Bool) : SeqAt.shaped (.bool b) = true := rfl
theorem shaped_none : SeqAt.shaped .none = true := rfl
end PL
namespace L2
open PySem PySem.Spec PyProof.Rows HT
section
variable {prog : Program} {w : World} {A : Around} {E : Value → Shared → Prop} {s : Shared}
theorem getItem_tuple_whole {t sl : Addr} {items : Array Value} {vl vu : Value} {lo hi : Option Int} {Q : Value → Shared → Prop} (ht : IsTup s.heap t items) (hs : s.heap.IsSliceOf sl vl vu .none) (pl : IsPart vl lo) (pu : IsPart vu hi)
    (hw : sIx items.size 0 lo = 0 ∧ sIx items.size items.size hi = items.size) (h : Q (.ref t) s) : wpAny (model prog w) A (getItem (.ref t) (.ref sl)) Q E s := by
  obtain ⟨os, hos, hcs, hds⟩ := id hs
  have hTs : s.TypeIs (.ref sl) "slice" := ⟨os, hos, hcs⟩
  unfold getItem
  try with_reducible refine wpAny_holding ?_
  first | refine wpAny_bind (wpAny_pure ?_) | skip
  refine wpAny_bind (wpAny_sequenceKey ht.typeIs (by decide) ?_)
  refine wpAny_bind (wpAny_callSpecial?_slot (name := Str.ofString "__getitem__") ht.typeIs PyProof.Rows.slot_tuple_getitem
    (wpAny_call_entry PyProof.Rows.slot_tuple_getitem ht.typeIs entry_tuple_getitem ?_ (args_tuple_getitem _ _)))
  show wpAny _ _ (Builtin.Tuple.tupleItemsOf (.ref t) >>= _) _ _ s
  refine wpAny_bind (tupleItemsOf_ ht ?_)
  refine wpAny_bind (wpAny_typeOf hTs ?_)
  rw [if_pos (by decide)]
  refine wpAny_bind (sliceApplied_gen hs pl pu ?_)
  have hno : ((((sIx items.size 0 lo : Nat) : Int) == 0 && (1 : Int) == 1 && (sIx items.size items.size hi - sIx items.size 0 lo) == items.size) = true) := by
    rw [hw.1, hw.2]; simp
  show wpAny _ _ (if (((sIx items.size 0 lo : Nat) : Int) == 0 && (1 : Int) == 1 && (sIx items.size items.size hi - sIx items.size 0 lo) == items.size) = true then _ else _) _ _ s
  rw [if_pos hno]
  unfold Builtin.Tuple.tupleIsExact
  refine wpAny_bind (wpAny_bind (wpAny_typeOf ht.typeIs (wpAny_pure ?_)))
  rw [if_pos (by decide)]
  exact wpAny_bind (wpAny_rule (wpAny_pure ⟨_, rfl, wpAny_pure h⟩))
end
/-- the whole of a tuple is the tuple itself -/
def rSlTW (K : PySem.W.Frag) : V → Option Int → Option Int → Hp → VK → Prop := fun x lo hi H Q => ∃ a xs, x = .ref a ∧ SqT K H a xs ∧
  (HT.sIx xs.length 0 lo = 0 ∧ HT.sIx xs.length xs.length hi = xs.length) ∧ Q x H
theorem sl_tupW {X : Cx} : SlR X (rSlTW X.K) := by
  intro pins s σ H x v vl vu lo hi sl Q I rx hs pl pu h
  obtain ⟨a, xs, rfl, hx, hw, q⟩ := h
  cases rx
  obtain ⟨its, r, ht, hz⟩ := I.tuple hx
  have hlen : its.toArray.size = xs.length := by rw [List.size_toArray]; exact r.length.symm
  refine ⟨"tuple", _, PyProof.Rows.slot_tuple_getitem.lookup, ht.typeIs, ?_⟩
  exact getItem_tuple_whole ht hs pl pu (by rw [hlen]; exact hw) ⟨.ref a, H, I, rfl, q⟩
end L2
namespace PL
open PySem PySem.Spec L2
variable [Kap]
/-- a slice as a thing that is looked at: of a whole tuple the tuple itself -/
def sliceW (d : D) (lo hi : Option Int) : Option (Bool × D) := match d with
  | .list ds => some (false, .list (cutD ds lo hi))
  | .tuple ds => if HT.sIx ds.length 0 lo = 0 ∧ HT.sIx ds.length ds.length hi = ds.length then some (true, .tuple ds) else some (false, .tuple (cutD ds lo hi))
  | _ => none
def mSliceP (g : M Pl) (lo hi : Option (M D)) : M Pl := bnd g fun p => bnd (mOpt lo) fun l => bnd (mOpt hi) fun h => bnd (look p) fun d => bnd (ofO (sliceW d l h)) fun bz => ret (if bz.1 = true then p else .val bz.2)
theorem sliceW_t {d z : D} {lo hi : Option Int} (h : sliceW d lo hi = some (true, z)) : d = z := by
  unfold sliceW at h
  cases d with
  | tuple ds => simp only at h; split at h <;> cases h; rfl
  | list ds => cases h
  | _ => cases h
section
variable {X : Cx} {e : Expr} {pos p2 : Pos} {g : M Pl}
theorem pp_slice {lo hi : Option Expr} {fl fh : Option (M D)} (h : PP X e g) (hl : POt X lo (mOpt fl)) (hh : POt X hi (mOpt fh)) : PP X (.Subscript e (.Slice lo hi none p2) pos) (mSliceP g fl fh) := by
  obtain ⟨t, h, r⟩ := h
  obtain ⟨tl, hl, rl⟩ := hl
  obtain ⟨th, hh, rh⟩ := hh
  refine ⟨_, pe_slice (slR_or sl_list (slR_or sl_tup sl_tupW)) h hl hh, fun C G σ H ρ Q hK S d ρ' hf q => ?_⟩
  obtain ⟨pl, ρ1, h1, hf2⟩ := bnd_ok hf
  obtain ⟨l, ρ2, h2, hf3⟩ := bnd_ok hf2
  obtain ⟨u, ρ3, h3, hf4⟩ := bnd_ok hf3
  obtain ⟨dd, ρ4, h4, hf5⟩ := bnd_ok hf4
  obtain ⟨bz, ρ5, h5, hf6⟩ := bnd_ok hf5
  cases hf6
  refine r C G σ H ρ _ hK S pl ρ1 h1 fun v G1 H1 g1 S1 o1 => ?_
  refine rl C G1 σ H1 ρ1 _ hK S1 l ρ2 h2 fun G2 H2 g2 S2 => ?_
  refine rh C G2 σ H2 ρ2 _ hK S2 u ρ3 h3 fun G3 H3 g3 S3 => ?_
  have o3 := (o1.mono g2).mono g3
  obtain ⟨s, rfl⟩ := look_ok S3 o3 h4
  obtain ⟨es, rfl⟩ := ofO_ok h5
  have gg := (g1.trans g2).trans g3
  cases s with
  | @lst a xs ds ha ra =>
    cases es
    refine .inl ⟨a, xs, rfl, .inl (.inl ha), fun p hp => ?_⟩
    have w := Grow.newF (o := .lst (cutV xs l u)) S3.gh hp
    obtain ⟨_, ep, sh, gn, bn, aa, no⟩ := fresh_ok S3 hp w (.lst upd_same (cut_rp ra))
    cases ep
    obtain ⟨G4, g4, S4, r4⟩ := (S3.grow w).freezeF sh gn aa no
    exact q _ G4 _ (gg.trans g4) S4 r4
  | @tup a xs ds ha ra =>
    simp only [sliceW] at es
    by_cases hw : HT.sIx ds.length 0 l = 0 ∧ HT.sIx ds.length ds.length u = ds.length
    · rw [if_pos hw] at es; cases es
      refine .inr (.inr ⟨a, xs, rfl, .inl (.inl ha), by rw [ra.length]; exact hw, ?_⟩)
      exact q _ G3 _ gg S3 o3
    · rw [if_neg hw] at es; cases es
      refine .inr (.inl ⟨a, xs, rfl, .inl (.inl ha), by rw [ra.length]; exact hw, fun p hp => ?_⟩)
      have w := Grow.new (o := .tup (cutV xs l u)) S3.gh hp
      exact q _ _ _ (gg.trans w.g) (S3.grow w) (.tup upd_same ((cut_rp ra).mono w.g))
  | _ => cases es
end
end PL
namespace PL
open PySem PySem.Spec L2 RT RZ
variable [Kap]
/-! ### more of lists: pop(i), extend, max, min -/
def gPopAt (ds as : List D) : Option (List D × D) := match as with
  | [.int i] => match ixN ds.length i with
    | some k => match ds[k]? with
      | some y => if -(2 ^ 63) ≤ i ∧ i < 2 ^ 63 then some (ds.eraseIdx k, y) else none
      | none => none
    | none => none
  | _ => none
theorem RpA.eraseIdx {G : Hp} : ∀ {vs : List V} {ds : List D} (n : Nat), RpA G vs ds → RpA G (vs.eraseIdx n) (ds.eraseIdx n)
  | _, _, _, .nil => .nil
  | _, _, 0, .cons _ r => r
  | _, _, n + 1, .cons h r => .cons h (RpA.eraseIdx n r)
theorem pmut_popAt : PMut rPopAt gPopAt := by
  intro G H l vs ds as ads new z Q gh hl r ra hg q
  cases ra with
  | nil => cases hg
  | cons h rr => cases rr with
    | cons _ _ => cases h <;> cases hg
    | nil => cases h with
      | int i =>
        simp only [gPopAt] at hg
        cases e : ixN ds.length i with
        | none => rw [e] at hg; cases hg
        | some k =>
          rw [e] at hg
          simp only at hg
          cases e2 : ds[k]? with
          | none => rw [e2] at hg; cases hg
          | some y =>
            rw [e2] at hg
            simp only at hg
            split at hg
            · rename_i hi
              cases hg
              obtain ⟨v, hv, rv⟩ := r.get e2
              exact ⟨l, vs, i, k, v, rfl, rfl, hl, hi.1, hi.2, by rw [r.length]; exact (ixN_seq e).1, hv, q _ _ (r.eraseIdx k) rv⟩
            · cases hg
      | _ => cases hg
def gExtend (ds as : List D) : Option (List D × D) := match as with
  | [.list es] => if ds.length + es.length ≤ 100000 then some (ds ++ es, .none) else none
  | _ => none
theorem pmut_extend : PMut rExtend gExtend := by
  intro G H l vs ds as ads new z Q gh hl r ra hg q
  cases ra with
  | nil => cases hg
  | cons h rr => cases rr with
    | cons _ _ => cases h <;> cases hg
    | nil => cases h with
      | @lst b xs es hb rb =>
        simp only [gExtend] at hg
        split at hg
        · rename_i hlt
          cases hg
          exact ⟨l, b, vs, xs, rfl, rfl, hl, gh _ _ hb, by rw [r.length, rb.length]; exact line_of hlt, q _ _ (r.append rb) .non⟩
        · cases hg
      | _ => cases hg
def maxI : List Int → Int
  | [] => 0
  | [n] => n
  | n :: m :: ns => if maxI (m :: ns) ≤ n then n else maxI (m :: ns)
def minI : List Int → Int
  | [] => 0
  | [n] => n
  | n :: m :: ns => if n ≤ minI (m :: ns) then n else minI (m :: ns)
theorem maxI_mem : ∀ (ns : List Int), ns ≠ [] → maxI ns ∈ ns
  | [], h => absurd rfl h
  | [n], _ => List.mem_cons_self
  | n :: m :: ns, _ => by
    have := maxI_mem (m :: ns) (by simp)
    simp only [maxI]
    split
    · exact List.mem_cons_self
    · exact List.mem_cons_of_mem _ this
theorem maxI_le : ∀ (ns : List Int) (x : Int), x ∈ ns → x ≤ maxI ns
  | [], _, h => nomatch h
  | [n], x, h => by rw [List.mem_singleton] at h; subst h; exact Int.le_refl _
  | n :: m :: ns, x, h => by
    simp only [maxI]
    rcases List.mem_cons.mp h with rfl | h
    · split <;> omega
    · have := maxI_le (m :: ns) x h
      split <;> omega
theorem minI_mem : ∀ (ns : List Int), ns ≠ [] → minI ns ∈ ns
  | [], h => absurd rfl h
  | [n], _ => List.mem_cons_self
  | n :: m :: ns, _ => by
    have := minI_mem (m :: ns) (by simp)
    simp only [minI]
    split
    · exact List.mem_cons_self
    · exact List.mem_cons_of_mem _ this
theorem minI_le : ∀ (ns : List Int) (x : Int), x ∈ ns → minI ns ≤ x
  | [], _, h => nomatch h
  | [n], x, h => by rw [List.mem_singleton] at h; subst h; exact Int.le_refl _
  | n :: m :: ns, x, h => by
    simp only [minI]
    rcases List.mem_cons.mp h with rfl | h
    · split <;> omega
    · have := minI_le (m :: ns) x h
      split <;> omega
def numsNe (ds : List D) : Option (List Int) := match nums ds with
  | some (n :: ns) => some (n :: ns)
  | _ => none
def gMaxL : List D → Option D
  | [.list ds] => (numsNe ds).map fun ns => .int (maxI ns)
  | _ => none
def gMinL : List D → Option D
  | [.list ds] => (numsNe ds).map fun ns => .int (minI ns)
  | _ => none
theorem numsNe_ok {ds : List D} {ns : List Int} (h : numsNe ds = some ns) : nums ds = some ns ∧ ns ≠ [] := by
  unfold numsNe at h
  split at h
  · cases h; exact ⟨by assumption, by simp⟩
  · cases h
section
variable {X : Cx} {e a b : Expr} {es : List Expr} {pos p : Pos} {gs : M (List Pl)} {fs : M (List D)} {fa fb : M D}
theorem pv_maxL (hc : X.calm = true) (hg : Gl X "max") (hm : X.mg "max" = none) (ha : PPs X (e :: es) gs) (he : starEach (e :: es) X.env = (false, eval e X.env) :: starEach es X.env := by rfl) (hpl : (backTo pos (starEach es X.env)).any (·.1) = false := by rfl) :
    PV X (.Call (.Name "max" p) (e :: es) [] pos) (mN gMaxL gs) := pv_b (cr_max hc) (fun G H vs ds z Q gh s hg q => by
  cases s with
  | nil => cases hg
  | cons h r => cases r with
    | cons _ _ => cases h <;> cases hg
    | nil => cases h with
      | @lst a xs ds h r =>
        simp only [gMaxL] at hg
        cases qd : numsNe ds with
        | none => rw [qd] at hg; cases hg
        | some ns =>
          rw [qd] at hg
          cases hg
          obtain ⟨q1, q2⟩ := numsNe_ok qd
          have := nums_ok q1 r
          subst this
          refine ⟨a, ns, rfl, .inl (.inl h), List.length_pos_iff.mpr q2, fun m hm hle => ?_⟩
          have : m = maxI ns := Int.le_antisymm (maxI_le ns m hm) (hle _ (maxI_mem ns q2))
          subst this
          exact q _ G H (Grow.refl gh) (.int _)
      | _ => cases hg) hg hm (by decide +kernel) ha (he := he) (hpl := hpl)
theorem pv_minL (hc : X.calm = true) (hg : Gl X "min") (hm : X.mg "min" = none) (ha : PPs X (e :: es) gs) (he : starEach (e :: es) X.env = (false, eval e X.env) :: starEach es X.env := by rfl) (hpl : (backTo pos (starEach es X.env)).any (·.1) = false := by rfl) :
    PV X (.Call (.Name "min" p) (e :: es) [] pos) (mN gMinL gs) := pv_b (cr_min hc) (fun G H vs ds z Q gh s hg q => by
  cases s with
  | nil => cases hg
  | cons h r => cases r with
    | cons _ _ => cases h <;> cases hg
    | nil => cases h with
      | @lst a xs ds h r =>
        simp only [gMinL] at hg
        cases qd : numsNe ds with
        | none => rw [qd] at hg; cases hg
        | some ns =>
          rw [qd] at hg
          cases hg
          obtain ⟨q1, q2⟩ := numsNe_ok qd
          have := nums_ok q1 r
          subst this
          refine ⟨a, ns, rfl, .inl (.inl h), List.length_pos_iff.mpr q2, fun m hm hle => ?_⟩
          have : m = minI ns := Int.le_antisymm (hle _ (minI_mem ns q2)) (minI_le ns m hm)
          subst this
          exact q _ G H (Grow.refl gh) (.int _)
      | _ => cases hg) hg hm (by decide +kernel) ha (he := he) (hpl := hpl)
/-- {} -/
def mDict0 : M D := ret (.dict [])
theorem pv_dict0 : PV X (.Dict [] [] pos) mDict0 := ⟨_, pe_dnewK, fun C G σ H ρ Q hK S d ρ' hf q => by
  cases hf
  intro p hp
  have w : Grow G H (upd G p (.dK [])) (upd H p (.dK [])) := Grow.new S.gh hp
  exact q _ _ _ w.g (S.grow w) (.dct upd_same .nil)⟩
/-- {k: v}, the key a number -/
def mDict1 (fk fv : M D) : M D := bnd fk fun dk => bnd fv fun dv => match dk with
  | .int i => ret (.dict [(.int i, dv)])
  | _ => fun _ => .stuck
theorem pf_dict1 {k v : Expr} {fk fv : M D} (hk : PV X k fk) (hv : PV X v fv) : PF X (.Dict [some k] [v] pos) (mFr (mDict1 fk fv)) := by
  obtain ⟨tk, hk, rk⟩ := hk
  obtain ⟨tv, hv, rv⟩ := hv
  refine ⟨_, pe_disp (L2.pps_cons hk hv L2.pps_nil) rfl rfl (by simp) (by simp), fun C G σ H ρ Q hK S d ρ' hf q => ?_⟩
  obtain ⟨d', ρ0, hf0, h0⟩ := bnd_ok hf
  cases h0
  obtain ⟨dk, ρ1, h1, hf1⟩ := bnd_ok hf0
  obtain ⟨dv, ρ2, h2, hf2⟩ := bnd_ok hf1
  intro p hp
  have hBp : C.B p = none := S.bh.free hp
  have S1 : StOk (C.with p (.dK [])) G σ (upd H p (.dK [])) ρ := S.enter hp (.dK [])
  refine rk (C.with p (.dK [])) G σ _ ρ _ hK S1 dk ρ1 h1 fun x G1 H1 g1 S2 o1 => ?_
  refine rv (C.with p (.dK [])) G1 σ H1 ρ1 _ hK S2 dv ρ2 h2 fun y G2 H2 g2 S3 o2 => ?_
  cases o1 with
  | int i =>
    cases hf2
    have hH2 : H2 p = some (.dK []) := S3.bh p _ upd_same
    have hG2 : G2 p = none := by
      cases z : G2 p with
      | none => rfl
      | some u =>
        rcases S3.ga p (ne_none_of z) with w | w
        · exact absurd (S.gh.free hp |> S.g0.free) w
        · exact absurd rfl w.2
    refine ⟨hH2, [(.inl i, y)], rfl, by simp, ?_⟩
    have S4 : StOk (C.with p (.dK (mergeK [] [(.inl i, y)]))) G2 σ (upd H2 p (.dK (mergeK [] [(.inl i, y)]))) _ := S3.step (o' := .dK (mergeK [] [(.inl i, y)])) hG2 S.wf hBp
    have S5 := S4.exit S.wf hBp
    refine q _ G2 _ (g1.trans g2) S5 ⟨p, rfl, .dct upd_same (.cons o2 .nil), hG2, hBp, S.fr p hp, fun j hj => ?_⟩
    obtain ⟨_, _, z4⟩ := Own.tracked S4 hj
    have z5 : upd C.B p (.dK (mergeK [] [(.inl i, y)])) p = none := z4
    rw [upd_same] at z5
    cases z5
  | _ => cases hf2
/-- a, b = x, y -/
def mPar (i j : Nat) (fs : M (List D)) : M Fl := bnd fs fun ds => match ds with
  | [d, e] => bnd (setS i (.val d)) fun _ => bnd (setS j (.val e)) fun _ => ret .nx
  | _ => fun _ => .stuck
theorem pst_par {i j : Nat} {x y : Str} {px py pt : Pos} {kt k2 pt2} (hc : X.calm = true) (hN : X.N.Nodup) (ha : PVs X [a, b] fs) (hi : X.N[i]? = some x := by rfl) (hj : X.N[j]? = some y := by rfl) (hij : i ≠ j := by decide)
    (hx : X.env.scope.names.lookup x = some .local := by rfl) (hy : X.env.scope.names.lookup y = some .local := by rfl)
    (hw : swappedStores [.Tuple [.Name x px, .Name y py] kt pt] (.Tuple [a, b] k2 pt2) X.env = pure (some [x, y]) := by rfl)
    (hs : swapsWithSole [.Tuple [.Name x px, .Name y py] kt pt] (.Tuple [a, b] k2 pt2) pos.line X.env = pure false := by rfl) :
    PSt X (.Assign [.Tuple [.Name x px, .Name y py] kt pt] (.Tuple [a, b] k2 pt2) pos) (mPar i j fs) := by
  obtain ⟨t, ha, ra⟩ := ha
  refine ⟨_, ps_par hc hN hi hj hij hx hy ha hw hs, fun C G σ H ρ D hK S fl ρ' hf q => ?_⟩
  obtain ⟨ds, ρ1, h1, hf2⟩ := bnd_ok hf
  refine ra C G σ H ρ _ hK S ds ρ1 h1 fun vs G1 H1 g1 S1 o => ?_
  cases o with
  | nil => cases hf2
  | cons o1 r1 => cases r1 with
    | nil => cases hf2
    | cons o2 r2 => cases r2 with
      | cons _ _ => cases hf2
      | nil =>
        obtain ⟨u1, ρ2, h2, hf3⟩ := bnd_ok hf2
        obtain ⟨u2, ρ3, h3, hf4⟩ := bnd_ok hf3
        cases hf4
        obtain ⟨l1, rfl⟩ := setS_ok h2
        obtain ⟨l2, rfl⟩ := setS_ok h3
        exact ⟨_, _, rfl, q _ G1 H1 g1 ((S1.putV l1 o1).putV l2 o2)⟩
end
end PL
namespace L2
open PySem PySem.Spec PyProof.Rows
/-! ### sorted(d), d a dict whose keys are ints, any number of them -/
theorem intsAt : ∀ {us : List Value} {ks : List Int}, us.length = ks.length → (∀ (j : Nat) (v : Value), us[j]? = some v → ∃ (x : Int) (t : Tok), ks[j]? = some x ∧ v = Value.int x t) → IntsAre us ks
  | [], [], _, _ => .nil
  | u :: us, k :: ks, hl, h => by
    obtain ⟨x, t, e1, rfl⟩ := h 0 u rfl
    cases (show k = x from Option.some.inj e1)
    refine .cons _ _ (intsAt (by simpa using hl) fun j v e => ?_)
    obtain ⟨x, t, a, b⟩ := h (j + 1) v (by simpa using e)
    exact ⟨x, t, by simpa using a, b⟩
  | [], _ :: _, hl, _ => by simp at hl
  | _ :: _, [], hl, _ => by simp at hl
def rSortedDI : List V → Hp → VK → Prop := fun xs H Q => ∃ (a : Addr) (kvs : List (Key × V)) (ks : List Int), xs = [.ref a] ∧ H a = some (.dK kvs) ∧ kvs.map (·.1) = ks.map Sum.inl ∧
    ∀ (ns : List Int) (p : Addr), ns.Perm ks → ns.Pairwise (· ≤ ·) → H p = none → Q (.ref p) (upd H p (.lst (ns.map V.int)))
theorem cr_sortedDI {X : Cx} (hcalm : X.calm = true) : CallR X (.builtin "sorted") rSortedDI := by
  intro pins s σ H xs us Q I r q
  obtain ⟨a, kvs, ks, rfl, hd, hks, q⟩ := q
  obtain ⟨u, rfl, rx⟩ := vals1 r
  cases rx
  obtain ⟨z, lo, vs, rel, dd⟩ := dk_rd I.hok (.inl hd)
  obtain ⟨ep, hat⟩ := dd.dictAt
  have hkeys : vs.map (·.1) = ks.map Sum.inl := rel.keys.symm.trans hks
  have hl : vs.length = ks.length := by simpa using congrArg List.length hkeys
  have hz : vs.length ≤ sizeLine := by rw [← rel.length]; exact z
  refine Calls.call_function_entry kind_sorted plain_sorted entry_sorted (args_sorted1 _) ?_
  unfold Builtin.«sorted»
  refine wpAny_bind (m := checkCount "sorted" 1 1 _) (wpAny_pure ?_)
  refine wpAny_bind (PySem.W.kdu_collect (A := X.A.in1) (PySem.W.kdl_dict (knd := mixKind X.prog X.w) (kvs := vs) (ep := ep) lo) (I.ok.hd hcalm) hat hz fun h' tk acc hk hacc => ?_)
  have hal : acc.toList.length = ks.length := by rw [Array.length_toList, hacc.1, hl]
  have hS : IntsAre acc.toList ks := intsAt hal fun j v e => by
    obtain ⟨k, x, e1, e2⟩ := hacc.2 j v (by rw [← Array.getElem?_toList]; exact e)
    have e3 : (vs.map (·.1))[j]? = some k := by simp [e1]
    rw [hkeys] at e3
    obtain ⟨y, e4, rfl⟩ : ∃ y, ks[j]? = some y ∧ Sum.inl y = k := by simpa using e3
    rcases keyIs_shape (k := Sum.inl y) (v := v) e2 with ⟨i, t, ek, ev⟩ | ⟨zz, t, ek, ev⟩
    · cases ek; exact ⟨_, t, e4, ev⟩
    · cases ek
  have I1 : Inv X pins σ H { s with heap := h', toks := tk } := I.kept hk
  refine wpAny_bind (wpAny_newList ?_ (by rw [hal, ← hl]; exact hz))
  have hoL : (h'.push (seqObj "list" acc.toList.toArray 0)).get? h'.objs.size = some (seqObj "list" acc.toList.toArray 0) := Heap.get?_push_size _ rfl
  show wpAny _ _ _ _ _ { s with heap := h'.push (seqObj "list" acc.toList.toArray 0), toks := tk }
  refine wpAny_bind (wpAny_holding (wpAny_call_entry slot_list_sort ⟨_, hoL, rfl⟩ entry_list_sort
    (SrtO.list_sort_ord SrtO.swo_int (s := { s with heap := h'.push (seqObj "list" acc.toList.toArray 0), toks := tk }) hoL (by rw [hal, ← hl]; exact hz) (fun h2 => SrtO.ints_sortable hS h2) fun out h1 h2 => ⟨_, rfl, ?_⟩)
    (args_list_sort _)))
  obtain ⟨k1, k2, k3⟩ := SrtO.ints_out hS h1 h2
  obtain ⟨e', he'⟩ := sortedHeap_at (vs := acc.toList) (out := out.toArray) hoL
  have hlen : ((out.map SrtO.iv).map V.int).length ≤ sizeLine := by
    rw [List.length_map, k2.length_eq, ← hl]; exact hz
  refine wpAny_pure ⟨_, rfl, .ref h'.objs.size, upd H h'.objs.size (.lst ((out.map SrtO.iv).map V.int)), I1.laid (t' := tk) (fun b u e => ?_) (Nat.le_refl _)
    (show ObjOk X.prog X.w _ _ _ (.lst ((out.map SrtO.iv).map V.int)) from ⟨hlen, out, e', vals_of_ints k1, he'⟩), rfl, q _ _ k2 k3 (I1.hok.fresh (Nat.le_refl _))⟩
  have hb : b < h'.objs.size := Heap.lt_size e
  rw [sortedHeap_old (Nat.ne_of_lt hb) (by rw [size_push']; exact Nat.lt_succ_of_lt hb)]
  exact Heap.get?_push_of_some _ e
end L2
/-! PL21: calls with keywords, keyword-only parameters that lack, ranges with a step -/
namespace PL
open PySem PySem.Spec L2 PyProof.Rows RT RZ
variable [Kap]
/-! ### reading the written arguments and the keywords -/
def RdP2 (K : PySem.W.Frag) (t tk : TA) (n m : Nat) (f : M (List Pl)) : Prop := ∀ (C : Ctx) (G : Hp) (σ : L2.St) (H : Hp) (ρ : Env) (Q : List V → List V → Hp → Prop), C.K = K → StOk C G σ H ρ → ∀ (ds : List Pl) (ρ' : Env), f ρ = .ok ds ρ' →
  (∀ (vs zs : List V) (G' H' : Hp), vs.length = n → zs.length = m → Same G G' → StOk C G' σ H' ρ' → okPs G' σ (vs ++ zs) ds → Q vs zs H') → t σ H fun vs H1 => tk σ H1 fun zs H2 => Q vs zs H2
def PKs (X : Cx) (kws : List Keyword) (m : Nat) (f : M (List Pl)) : Prop := ∃ tk, PK X kws tk ∧ RdP2 X.K tNil tk 0 m f
def PPk (X : Cx) (es : List Expr) (kws : List Keyword) (n m : Nat) (f : M (List Pl)) : Prop := ∃ t tk, PA X es t ∧ PK X kws tk ∧ RdP2 X.K t tk n m f
section
variable {X : Cx} {e : Expr} {es : List Expr} {kws : List Keyword} {n m : Nat} {g : M Pl} {fs : M (List Pl)} {nm : Option Str} {kpos : Pos}
theorem pks_nil : PKs X [] 0 mNil := ⟨_, pk_nil, fun C G σ H ρ Q hK S d ρ' hf q => by cases hf; exact q [] [] G H rfl rfl (Same.refl _) S .nil⟩
theorem pks_cons (h : PP X e g) (hr : PKs X kws m fs) : PKs X (⟨nm, e, kpos⟩ :: kws) (m + 1) (mCons g fs) := by
  obtain ⟨t, h, r⟩ := h
  obtain ⟨u, hr, rr⟩ := hr
  refine ⟨_, pk_cons h hr, fun C G σ H ρ Q hK S ds ρ' hf q => ?_⟩
  obtain ⟨d, ρ1, h1, hf⟩ := bnd_ok hf
  obtain ⟨ds', ρ2, h2, hf⟩ := bnd_ok hf
  cases hf
  refine r C G σ H ρ _ hK S d ρ1 h1 fun v G1 H1 g1 S1 o1 => ?_
  refine rr C G1 σ H1 ρ1 (fun _ zs H2 => Q [] (v :: zs) H2) hK S1 ds' _ h2 fun vs zs G2 H2 l1 l2 g2 S2 o2 => ?_
  cases vs with
  | nil => exact q [] (v :: zs) G2 H2 rfl (congrArg Nat.succ l2) (g1.trans g2) S2 (.cons (o1.mono g2) o2)
  | cons _ _ => cases l1
theorem ppk_nil (hk : PKs X kws m fs) : PPk X [] kws 0 m fs := by
  obtain ⟨tk, h, r⟩ := hk
  exact ⟨_, _, pa_nil, h, r⟩
theorem ppk_cons (h : PP X e g) (hr : PPk X es kws n m fs) (hs : starEach (e :: es) X.env = (false, eval e X.env) :: starEach es X.env := by rfl) : PPk X (e :: es) kws (n + 1) m (mCons g fs) := by
  obtain ⟨t, h, r⟩ := h
  obtain ⟨u, uk, hr, hk, rr⟩ := hr
  refine ⟨_, _, pa_cons h hr hs, hk, fun C G σ H ρ Q hK S ds ρ' hf q => ?_⟩
  obtain ⟨d, ρ1, h1, hf⟩ := bnd_ok hf
  obtain ⟨ds', ρ2, h2, hf⟩ := bnd_ok hf
  cases hf
  refine r C G σ H ρ _ hK S d ρ1 h1 fun v G1 H1 g1 S1 o1 => ?_
  refine rr C G1 σ H1 ρ1 (fun vs zs H2 => Q (v :: vs) zs H2) hK S1 ds' _ h2 fun vs zs G2 H2 l1 l2 g2 S2 o2 => ?_
  exact q (v :: vs) zs G2 H2 (congrArg Nat.succ l1) l2 (g1.trans g2) S2 (.cons (o1.mono g2) o2)
end
def tBoth (n m : Nat) (t tk : TA) : TA := fun σ H Q => t σ H fun vs H1 => tk σ H1 fun zs H2 => vs.length = n ∧ zs.length = m ∧ Q (vs ++ zs) H2
theorem rd_both {K : PySem.W.Frag} {t tk : TA} {n m : Nat} {f : M (List Pl)} (r : RdP2 K t tk n m f) : RdPs K (tBoth n m t tk) f := fun C G σ H ρ Q hK S ds ρ' hf q =>
  r C G σ H ρ (fun vs zs H2 => vs.length = n ∧ zs.length = m ∧ Q (vs ++ zs) H2) hK S ds ρ' hf fun vs zs G' H' l1 l2 g S' o => ⟨l1, l2, q _ G' H' g S' o⟩
/-- how the values are bound: the written ones, then the keywords' -/
def KBz (K : PySem.W.Frag) (fd : FuncData) (ps : List Str) (n : Nat) (ks : List Str) : Prop := ∀ (s : Shared) (us ws : List Value), K.In s.heap → us.length = n → ws.length = ks.length → BindsTo s fd ⟨us, ks.zip ws⟩ (ps.zip (us ++ ws))
theorem fun_kbz {K : PySem.W.Frag} {x qual : Str} {st : Stmt} {f : Addr} {fd : FuncData} {ps ks : List Str} {n : Nat} (F : Fun K x qual st f fd)
    (h : ∀ (kV doc pm : Value) (an : Option Addr) (cdv ct : Value) (us ws : List Value), us.length = n → ws.length = ks.length → bindArgs (PySem.W.fnOf x qual (defArgs st) (defBody st) (defScope st) .none kV doc pm an cdv ct) ⟨us, ks.zip ws⟩ = pure (ps.zip (us ++ ws))) : KBz K fd ps n ks := by
  obtain ⟨oc, od, kV, doc, pm, an, cdv, ct, osl, rfl, lk, hcd⟩ := F.ex
  exact fun s us ws _ l1 l2 => .of_eq (h kV doc pm an cdv ct us ws l1 l2)
section
variable {X : Cx} {e : Expr} {es : List Expr} {pos p : Pos} {x : Str} {k : Nat} {f : Addr} {fd : FuncData} {ps ks : List Str} {np nl n m : Nat} {mm : M Fl} {ms : List Md} {fs : M (List Pl)} {sp : Sp} {t tk : TA} {kws : List Keyword}
theorem pe_callGK (F : FnG X.prog X.w X.K X.mg X.base k f fd ps sp) (hG : X.A.guards = some []) (hr : Room k X.A) (hg : Gl X x) (hm : X.mg x = some (.ref f)) (hk : PySem.W.keepIn X.K (.ref f) = true) (hb : KBz X.K fd ps n ks) (ha : PA X (e :: es) t) (hkw : PK X kws tk) (hm2 : ks.length = m)
    (hall : (backToKw pos (keywordEach kws X.env)).all (·.1.isSome) = true := by rfl) (hks : (backToKw pos (keywordEach kws X.env)).filterMap (·.1) = ks := by rfl)
    (hdb : (x == ("__debug__" : Str)) = false := by decide) (he : starEach (e :: es) X.env = (false, eval e X.env) :: starEach es X.env := by rfl)
    (hpl : ((backTo pos (starEach (e :: es) X.env)).any (·.1) || (backToKw pos (keywordEach kws X.env)).any (·.1.isNone)) = false := by rfl) :
    PE X (.Call (.Name x p) (e :: es) kws pos) (tCall sp [] L2.E0 (tBoth n m t tk)) := by
  constructor
  intro pins s σ H Q I h
  refine PySem.wpAny_Call_Name_kw (ld_glob I hg hm ?_ hdb)
  refine PySem.W.callWith_KW (h₀ := X.base) I.ok.mod.kin hk hall (thn (ha.run pos pins s σ H _ I h) fun us s1 ⟨vs, H1, I1, r, q⟩ => ?_) hpl he
  refine thn (hkw.run pos pins s1 σ H1 _ I1 q) fun ws s2 ⟨zs, H2, I2, rz, l1, l2, q2⟩ => ⟨I2.kIn, ?_⟩
  rw [hks]
  have q2 : sp ((vs ++ zs) ++ []) H2 Q L2.E0 := q2
  rw [List.append_nil] at q2
  refine wpAny_call (codeAny_mono (F.go X.A hG X.stack s2 H2 ⟨us, ks.zip ws⟩ (us ++ ws) (vs ++ zs) Q _ hr I2.env0 (hb s2 us ws I2.kIn (r.length.symm.trans l1) (rz.length.symm.trans (l2.trans hm2.symm))) (r.append rz) q2) ?_)
  intro r s' hq
  cases r with
  | error e => exact False.elim hq
  | ok fl =>
    cases fl with
    | ret u => exact I2.after hq
    | next => exact False.elim hq
    | brk => exact False.elim hq
    | cont => exact False.elim hq
theorem pf_callGK (F : FnG X.prog X.w X.K X.mg X.base k f fd ps (spD X.K np nl mm)) (hG : X.A.guards = some []) (hr : Room k X.A) (hg : Gl X x) (hm : X.mg x = some (.ref f)) (hk : PySem.W.keepIn X.K (.ref f) = true) (hb : KBz X.K fd ps n ks) (ha : PPk X (e :: es) kws n m fs) (hl : ms.length = np) (hm2 : ks.length = m := by rfl)
    (hall : (backToKw pos (keywordEach kws X.env)).all (·.1.isSome) = true := by rfl) (hks : (backToKw pos (keywordEach kws X.env)).filterMap (·.1) = ks := by rfl)
    (hdb : (x == ("__debug__" : Str)) = false := by decide) (he : starEach (e :: es) X.env = (false, eval e X.env) :: starEach es X.env := by rfl)
    (hpl : ((backTo pos (starEach (e :: es) X.env)).any (·.1) || (backToKw pos (keywordEach kws X.env)).any (·.1.isNone)) = false := by rfl) :
    PF X (.Call (.Name x p) (e :: es) kws pos) (mCall ms nl mm fs) := by
  obtain ⟨t, tk, ha, hkw, ra⟩ := ha
  exact ⟨_, pe_callGK F hG hr hg hm hk hb ha hkw hm2 hall hks hdb he hpl, rd_call (rd_both ra) hl⟩
end
/-! ### a keyword-only parameter lacks: its default None -/
def tSn (t : TA) : TA := fun σ H Q => t σ H fun vs H1 => Q (vs ++ [.non]) H1
def PPd (X : Cx) (es : List Expr) (f : M (List Pl)) : Prop := ∃ t, PA X es t ∧ RdPs X.K (tSn t) f
section
variable {X : Cx} {e : Expr} {es : List Expr} {g : M Pl} {fs : M (List Pl)}
theorem ppd_nil : PPd X [] (mCons (mPl (mC .none)) mNil) := ⟨_, pa_nil, fun C G σ H ρ Q hK S d ρ' hf q => by
  cases hf
  exact q [.non] G H (Same.refl _) S (.cons (show Rp G .non .none from .non) .nil)⟩
theorem ppd_cons (h : PP X e g) (hr : PPd X es fs) (hs : starEach (e :: es) X.env = (false, eval e X.env) :: starEach es X.env := by rfl) : PPd X (e :: es) (mCons g fs) := by
  obtain ⟨t, h, r⟩ := h
  obtain ⟨u, hr, rr⟩ := hr
  refine ⟨_, pa_cons h hr hs, fun C G σ H ρ Q hK S ds ρ' hf q => ?_⟩
  obtain ⟨d, ρ1, h1, hf⟩ := bnd_ok hf
  obtain ⟨ds', ρ2, h2, hf⟩ := bnd_ok hf
  cases hf
  refine r C G σ H ρ _ hK S d ρ1 h1 fun v G1 H1 g1 S1 o1 => ?_
  exact rr C G1 σ H1 ρ1 (fun vs H2 => Q (v :: vs) H2) hK S1 ds' _ h2 fun vs G2 H2 g2 S2 o2 => q _ G2 H2 (g1.trans g2) S2 (.cons (o1.mono g2) o2)
end
section
variable {X : Cx} {e : Expr} {es : List Expr} {pos p : Pos} {x : Str} {k : Nat} {f : Addr} {fd : FuncData} {ps : List Str} {np nl : Nat} {mm : M Fl} {ms : List Md} {fs : M (List Pl)} {sp : Sp} {t : TA} {ds : List Value}
def BindsN (K : PySem.W.Frag) (fd : FuncData) (ps : List Str) : Prop := ∃ ds : List Value, Vals [V.non] ds ∧ Binds K fd ps ds
theorem pe_callGd (F : FnG X.prog X.w X.K X.mg X.base k f fd ps sp) (hG : X.A.guards = some []) (hr : Room k X.A) (hg : Gl X x) (hm : X.mg x = some (.ref f)) (hk : PySem.W.keepIn X.K (.ref f) = true) (hb : BindsN X.K fd ps) (ha : PA X (e :: es) t)
    (hdb : (x == ("__debug__" : Str)) = false := by decide) (he : starEach (e :: es) X.env = (false, eval e X.env) :: starEach es X.env := by rfl) (hpl : (backTo pos (starEach es X.env)).any (·.1) = false := by rfl) :
    PE X (.Call (.Name x p) (e :: es) [] pos) (tCall sp [] L2.E0 (tSn t)) := by
  obtain ⟨ds, hd, hb⟩ := hb
  constructor
  intro pins s σ H Q I h
  refine PySem.wpAny_Call_Name_kw (ld_glob I hg hm ?_ hdb)
  refine PySem.W.callWith_K (h₀ := X.base) I.ok.mod.kin hk (thn (ha.run pos pins s σ H _ I h) ?_) he hpl
  rintro us s1 ⟨vs, H1, I1, r, q⟩
  refine ⟨I1.kIn, ?_⟩
  have q : sp ((vs ++ [.non]) ++ []) H1 Q L2.E0 := q
  rw [List.append_nil] at q
  have r2 : Vals (vs ++ [.non]) (us ++ ds) := r.append hd
  have hl : (us ++ ds).length = ps.length := by rw [← r2.length]; exact F.len _ _ _ _ q
  refine wpAny_call (codeAny_mono (F.go X.A hG X.stack s1 H1 ⟨us, []⟩ (us ++ ds) _ Q _ hr I1.env0 (hb s1 us I1.kIn hl) r2 q) ?_)
  intro r s' hq
  cases r with
  | error e => exact False.elim hq
  | ok fl =>
    cases fl with
    | ret u => exact I1.after hq
    | next => exact False.elim hq
    | brk => exact False.elim hq
    | cont => exact False.elim hq
theorem pf_callGd (F : FnG X.prog X.w X.K X.mg X.base k f fd ps (spD X.K np nl mm)) (hG : X.A.guards = some []) (hr : Room k X.A) (hg : Gl X x) (hm : X.mg x = some (.ref f)) (hk : PySem.W.keepIn X.K (.ref f) = true) (hb : BindsN X.K fd ps) (ha : PPd X (e :: es) fs) (hl : ms.length = np)
    (hdb : (x == ("__debug__" : Str)) = false := by decide) (he : starEach (e :: es) X.env = (false, eval e X.env) :: starEach es X.env := by rfl) (hpl : (backTo pos (starEach es X.env)).any (·.1) = false := by rfl) :
    PF X (.Call (.Name x p) (e :: es) [] pos) (mCall ms nl mm fs) := by
  obtain ⟨t, ha, ra⟩ := ha
  exact ⟨_, pe_callGd F hG hr hg hm hk hb ha hdb he hpl, rd_call ra hl⟩
end
/-- one keyword-only parameter y with the default None -/
theorem bindsN_of {K : PySem.W.Frag} {x qual y : Str} {st : Stmt} {f : Addr} {oc : Value} {od an : Option Addr} {osl : Array (Option Value)} {doc pm cdv ct : Value} {D : Addr} {ps : List Str} {n : Nat}
    (l : K.lookup f = some ⟨oc, od, .func (PySem.W.fnOf x qual (defArgs st) (defBody st) (defScope st) .none (.ref D) doc pm an cdv ct), osl⟩) (c : PySem.W.codeIn K cdv qual = true) (k : PySem.W.keepIn K (.ref f) = true)
    (hD : PySem.W.nsIn K D y = some (some .none)) (hn : n + 1 = ps.length)
    (h : ∀ (D : Addr) (doc pm : Value) (an : Option Addr) (cdv ct : Value) (us ks : List Value), us.length = n → ks.length = 1 →
      KwChain D ([y].zip ks) (bindArgs (PySem.W.fnOf x qual (defArgs st) (defBody st) (defScope st) .none (.ref D) doc pm an cdv ct) ⟨us, []⟩) (ps.zip (us ++ ks))) :
    BindsN K (PySem.W.fnOf x qual (defArgs st) (defBody st) (defScope st) .none (.ref D) doc pm an cdv ct) ps := by
  have F : FunD K x qual (defArgs st) (defBody st) (defScope st) [] [(y, .non)] f (PySem.W.fnOf x qual (defArgs st) (defBody st) (defScope st) .none (.ref D) doc pm an cdv ct) :=
    ⟨⟨oc, od, .none, .ref D, doc, pm, an, cdv, ct, osl, rfl, l, c, .inl ⟨rfl, rfl⟩, .inr ⟨D, rfl, fun q hq => by
      cases List.mem_singleton.mp hq
      exact ⟨.none, hD, rfl⟩⟩⟩, k⟩
  exact F.binds0 n (by simp) (by simpa using hn) fun D doc pm an cdv ct us ks l1 l2 => h D doc pm an cdv ct us ks l1 (by simpa using l2)
/-! ### for x in range(a, b, -1) -/
def rngdD (hi lo : Int) : List D := (List.range (hi - lo).toNat).map fun (i : Nat) => .int (hi - (i : Int))
theorem rngdD_len (hi lo : Int) : (rngdD hi lo).length = (hi - lo).toNat := by unfold rngdD; rw [List.length_map, List.length_range]
theorem rngdD_get {hi lo : Int} {i : Nat} {d : D} (h : (rngdD hi lo)[i]? = some d) : d = .int (hi - (i : Int)) := by
  unfold rngdD at h
  rw [List.getElem?_map] at h
  cases q : (List.range (hi - lo).toNat)[i]? with
  | none => rw [q] at h; cases h
  | some k =>
    rw [q] at h
    cases h
    obtain ⟨h1, h2⟩ := List.getElem?_eq_some_iff.mp q
    rw [List.getElem_range] at h2
    rw [h2]
theorem JOk.rngd {B G1} {hi lo : Int} : JOk (Itc hi (-1) (hi - lo).toNat) B G1 (rngdD hi lo) where
  go := fun i G H b g gh h => by rw [rngdD_len] at h; exact h
  yld := fun i G H x H' d b g gh hd hy => by
    obtain ⟨rfl, rfl⟩ := hy
    rw [rngdD_get hd]
    have e : hi + (i : Int) * (-1) = hi - (i : Int) := by omega
    rw [e]
    exact ⟨G, Grow.refl gh, .int _⟩
  stop := fun G H b g gh => by
    show (hi - lo).toNat ≤ (rngdD hi lo).length
    rw [rngdD_len]; exact Nat.le_refl _
def mRngD (f g : M D) : M (List D) := bnd f fun d => bnd g fun e => fun ρ => match d, e with
  | .int a, .int b => if (small62 a && small62 b) = true then .ok (rngdD a b) ρ else .stuck
  | _, _ => .stuck
section
variable {X : Cx} {a b c tg : Expr} {fa fb : M D} {p pos : Pos}
theorem pit_rngd (hg : Gl X "range") (hm : X.mg "range" = none) (h : PV X a fa) (h2 : PV X b fb) (h3 : PV X c (mC (.int (-1)))) (hs : starEach [a, b, c] X.env = (false, eval a X.env) :: starEach [b, c] X.env := by rfl) (hs2 : starEach [b, c] X.env = (false, eval b X.env) :: starEach [c] X.env := by rfl) (hs3 : starEach [c] X.env = (false, eval c X.env) :: starEach [] X.env := by rfl)
    (hpl : (backTo pos (starEach [b, c] X.env)).any (·.1) = false := by rfl) :
    PIt X tg (.Call (.Name "range" p) [a, b, c] [] pos) (mRngD fa fb) := by
  obtain ⟨t, h, r⟩ := h
  obtain ⟨u, h2, r2⟩ := h2
  obtain ⟨v3, h3, r3⟩ := h3
  refine ⟨_, pi_range3 hg hm (pa_cons h (pa_cons h2 (pa_cons h3 pa_nil hs3) hs2) hs) hs hpl, fun C G σ H ρ R hK S ds ρ' hf q => ?_⟩
  obtain ⟨d, ρ1, h1, hf2⟩ := bnd_ok hf
  obtain ⟨d2, ρ2, h3, hf3⟩ := bnd_ok hf2
  refine r C G σ H ρ _ hK S d ρ1 h1 fun v G1 H1 g1 S1 o => ?_
  refine r2 C G1 σ H1 ρ1 _ hK S1 d2 ρ2 h3 fun v2 G2 H2 g2 S2 o2 => ?_
  refine r3 C G2 σ H2 ρ2 _ hK S2 _ ρ2 rfl fun v3 G3 H3 g3 S3 o3 => ?_
  cases o with
  | int n =>
    cases o2 with
    | int n2 =>
      cases o3
      by_cases hn : (small62 n && small62 n2) = true
      · simp only [hn, if_true] at hf3
        cases hf3
        simp only [small62, Bool.and_eq_true, decide_eq_true_eq] at hn
        exact ⟨n, n2, -1, _, rfl, RgC.neg hn.1.1 hn.1.2 hn.2.1 hn.2.2, q _ G3 H3 ((g1.trans g2).trans g3) S3 JOk.rngd⟩
      · simp only [hn, if_false] at hf3
        cases hf3
    | _ => cases hf3
  | _ => cases hf3
end
/-! ### list(range(n)) -/
def mLRg (f : M D) : M D := bnd f fun d => fun ρ => match d with
  | .int n => if (decide (-100000 ≤ n) && decide (n ≤ 100000)) = true then .ok (.list (rngD 0 n)) ρ else .stuck
  | _ => .stuck
theorem rgV_rel {G : Hp} (n : Int) : RpA G (rgV 0 n) (rngD 0 n) := by
  unfold rgV rngD
  generalize (n - 0).toNat = m
  have : ∀ l : List Nat, RpA G (l.map fun i => V.int (0 + (i : Nat))) (l.map fun (i : Nat) => PyData.int (0 + (i : Int))) := by
    intro l
    induction l with
    | nil => exact .nil
    | cons x l ih => exact .cons (.int _) ih
  exact this _
section
variable {X : Cx} {a : Expr} {fa : M D} {p p2 pos pos2 : Pos}
theorem pf_listRg (hc : X.calm = true) (hg2 : Gl X "list") (hm2 : X.mg "list" = none) (hg : Gl X "range") (hm : X.mg "range" = none) (h : PV X a fa) (na : starEach [a] X.env = (false, eval a X.env) :: starEach [] X.env := by rfl)
    (na2 : starEach [.Call (.Name "range" p) [a] [] pos] X.env = (false, eval (.Call (.Name "range" p) [a] [] pos) X.env) :: starEach [] X.env := by rfl) :
    PF X (.Call (.Name "list" p2) [.Call (.Name "range" p) [a] [] pos] [] pos2) (mFr (mLRg fa)) := by
  obtain ⟨t, h, r⟩ := h
  refine ⟨_, pe_listRg hc hg2 hm2 (prg_1 hg hm h na) na2, fun C G σ H ρ Q hK S d ρ' hf q => ?_⟩
  obtain ⟨d', ρ0, hf0, h0⟩ := bnd_ok hf
  cases h0
  obtain ⟨d, ρ1, h1, hf2⟩ := bnd_ok hf0
  refine r C G σ H ρ _ hK S d ρ1 h1 fun v G1 H1 g1 S1 o => ?_
  cases o with
  | int n =>
    by_cases hn : (decide (-100000 ≤ n) && decide (n ≤ 100000)) = true
    · simp only [hn, if_true] at hf2
      cases hf2
      simp only [Bool.and_eq_true, decide_eq_true_eq] at hn
      refine ⟨n, rfl, ⟨by omega, by omega, by omega, by omega, by omega⟩, fun q0 hq0 => ?_⟩
      have w : Grow G1 H1 G1 (upd H1 q0 (.lst (rgV 0 n))) := Grow.newF S1.gh hq0
      exact q _ _ _ g1 (S1.grow w) (fresh_ok S1 hq0 w (.lst upd_same (rgV_rel n)))
    · simp only [hn, if_false] at hf2
      cases hf2
  | _ => cases hf2
end
end PL
namespace PL
open PySem PySem.Spec L2 RT RZ
variable [Kap]
def rBnd {α β : Type} (x : R α) (g : α → M β) : R β := match x with
  | .stuck => .stuck
  | .ok a ρ' => g a ρ'
def rFz : R Rv → R D
  | .stuck => .stuck
  | .ok (.fr d) ρ' => .ok d ρ'
  | .ok (.pl (.val d)) ρ' => .ok d ρ'
  | .ok (.pl (.slot i)) ρ' => mGet i ρ'
def rPl : R D → R Pl
  | .stuck => .stuck
  | .ok d ρ' => .ok (.val d) ρ'
def rRv : R Pl → R Rv
  | .stuck => .stuck
  | .ok d ρ' => .ok (.pl d) ρ'
def rFr : R D → R Rv
  | .stuck => .stuck
  | .ok d ρ' => .ok (.fr d) ρ'
def rSet (i : Nat) : R Rv → R Fl
  | .stuck => .stuck
  | .ok (.fr d) ρ' => bnd (setS i (.own d)) (fun _ => PL.ret .nx) ρ'
  | .ok (.pl (.val d)) ρ' => bnd (setS i (.val d)) (fun _ => PL.ret .nx) ρ'
  | .ok (.pl (.slot j)) ρ' => bnd (mGet j) (fun d => bnd (setS i (.val d)) fun _ => PL.ret .nx) ρ'
def rSeq (x : R Fl) (g : M Fl) : R Fl := match x with
  | .stuck => .stuck
  | .ok .nx ρ' => g ρ'
  | .ok (.rt r) ρ' => .ok (.rt r) ρ'
  | .ok .bk ρ' => .ok .bk ρ'
  | .ok .ct ρ' => .ok .ct ρ'
def rRet : R Rv → R Fl
  | .stuck => .stuck
  | .ok r ρ' => .ok (.rt r) ρ'
def rDrop {α : Type} : R α → R Fl
  | .stuck => .stuck
  | .ok _ ρ' => .ok .nx ρ'
def rBack (r : Rv) : Option PL.Env → R Rv
  | some ρ2 => .ok r ρ2
  | none => .stuck
def rCall (ρ : PL.Env) (ms : List Md) (ps : List Pl) : Option (Rv × List Sl) → R Rv
  | some ro => rBack ro.1 (backIo ρ ms ps ro.2)
  | none => .stuck
def rArgs (ρ : PL.Env) (ms : List Md) (nl : Nat) (body : M Fl) (ps : List Pl) : Option (List Sl) → R Rv
  | some ss => rCall ρ ms ps (evalD ms nl body ss)
  | none => .stuck
section
variable {α β : Type} (ρ ρ' : Env) (i j : Nat) (d e : D) (ds es : List D) (x y : Int) (b : Bool)
@[simp] theorem q_bnd (f : M α) (g : α → M β) : bnd f g ρ = rBnd (f ρ) g := rfl
@[simp] theorem r_bnd (a : α) (g : α → M β) : rBnd (.ok a ρ) g = g a ρ := rfl
@[simp] theorem r_bnd_s (g : α → M β) : rBnd (.stuck : R α) g = .stuck := rfl
@[simp] theorem q_ret (a : α) : PL.ret a ρ = .ok a ρ := rfl
@[simp] theorem q_ofO_some (a : α) : ofO (some a) ρ = .ok a ρ := rfl
@[simp] theorem q_ofO_none : (ofO (none : Option α)) ρ = .stuck := rfl
@[simp] theorem q_mVar : mVar i ρ = match ρ[i]? with
  | some .un => .stuck
  | none => .stuck
  | some (.val d) => .ok (.val d) ρ
  | some _ => .ok (.slot i) ρ := rfl
@[simp] theorem q_mC : mC d ρ = .ok d ρ := rfl
@[simp] theorem q_mGet : mGet i ρ = match ρ[i]? with
  | some (.val d) => .ok d ρ
  | some (.own d) => .ok d (ρ.set i (.val d))
  | some (.bor d) => if atom d = true then .ok d ρ else .stuck
  | _ => .stuck := rfl
@[simp] theorem q_mFz (f : M Rv) : mFz f ρ = rFz (f ρ) := by
  unfold mFz bnd
  cases f ρ with
  | stuck => rfl
  | ok r ρ' => cases r with
    | fr d => rfl
    | pl p => cases p <;> rfl
@[simp] theorem r_fz_f : rFz (.ok (.fr d) ρ) = .ok d ρ := rfl
@[simp] theorem r_fz_v : rFz (.ok (.pl (.val d)) ρ) = .ok d ρ := rfl
@[simp] theorem r_fz_s : rFz (.ok (.pl (.slot i)) ρ) = mGet i ρ := rfl
@[simp] theorem r_fz_x : rFz .stuck = .stuck := rfl
@[simp] theorem q_mPl (f : M D) : mPl f ρ = rPl (f ρ) := by unfold mPl bnd; cases f ρ <;> rfl
@[simp] theorem r_rPl (d : D) : rPl (.ok d ρ) = .ok (.val d) ρ := rfl
@[simp] theorem r_rPl_s : rPl .stuck = .stuck := rfl
@[simp] theorem q_mRv (f : M Pl) : mRv f ρ = rRv (f ρ) := by unfold mRv bnd; cases f ρ <;> rfl
@[simp] theorem r_rRv (d : Pl) : rRv (.ok d ρ) = .ok (.pl d) ρ := rfl
@[simp] theorem r_rRv_s : rRv .stuck = .stuck := rfl
@[simp] theorem q_rsv_val : rsv ρ (.val d) = some d := rfl
@[simp] theorem q_rsv_slot : rsv ρ (.slot i) = match ρ[i]? with
    | some (.val d) => some d
    | some (.own d) => some d
    | some (.io d) => some d
    | some (.bor d) => some d
    | _ => none := rfl
@[simp] theorem q_look (p : Pl) : look p ρ = match rsv ρ p with
  | some d => .ok d ρ
  | none => .stuck := rfl
@[simp] theorem q_lookAll_nil : lookAll [] ρ = .ok [] ρ := rfl
@[simp] theorem q_lookAll_cons (p : Pl) (ps : List Pl) : lookAll (p :: ps) ρ = bnd (look p) (fun d => bnd (lookAll ps) fun ds => PL.ret (d :: ds)) ρ := rfl
@[simp] theorem q_mOp (g : D → D → Option α) (fa fb : M Pl) : mOp g fa fb ρ = bnd fa (fun p => bnd fb fun q => bnd (look p) fun d => bnd (look q) fun e => ofO (g d e)) ρ := rfl
@[simp] theorem q_mUn (g : D → Option α) (fa : M Pl) : mUn g fa ρ = bnd fa (fun p => bnd (look p) fun d => ofO (g d)) ρ := rfl
@[simp] theorem q_mNil : (mNil : M (List α)) ρ = .ok [] ρ := rfl
@[simp] theorem q_mCons (fa : M α) (fr : M (List α)) : mCons fa fr ρ = bnd fa (fun p => bnd fr fun q => PL.ret (p :: q)) ρ := rfl
@[simp] theorem q_mN (g : List D → Option α) (fs : M (List Pl)) : mN g fs ρ = bnd fs (fun ps => bnd (lookAll ps) fun ds => ofO (g ds)) ρ := rfl
@[simp] theorem q_mFr (f : M D) : mFr f ρ = rFr (f ρ) := by unfold mFr bnd; cases f ρ <;> rfl
@[simp] theorem r_rFr (d : D) : rFr (.ok d ρ) = .ok (.fr d) ρ := rfl
@[simp] theorem r_rFr_s : rFr .stuck = .stuck := rfl
@[simp] theorem q_mTup (f : M (List D)) : mTup f ρ = bnd f (fun ds => if ds.length ≤ 100000 then PL.ret (.tuple ds) else fun _ => .stuck) ρ := Eq.trans rfl rfl
@[simp] theorem q_mLst (f : M (List D)) : mLst f ρ = bnd f (fun ds => if ds.length ≤ 100000 then PL.ret (.fr (.list ds)) else fun _ => .stuck) ρ := Eq.trans rfl rfl
@[simp] theorem q_mB (f : M D) : mB f ρ = bnd f (fun d => ofO (asBool d)) ρ := rfl
@[simp] theorem q_mIf (c : M Bool) (f g : M α) : mIf c f g ρ = bnd c (fun k => if k = true then f else g) ρ := rfl
@[simp] theorem q_mNot (c : M Bool) : mNot c ρ = bnd c (fun k => PL.ret (!k)) ρ := rfl
@[simp] theorem q_mAnd (f g : M Bool) : mAnd f g ρ = bnd f (fun k => if k = true then g else PL.ret false) ρ := rfl
@[simp] theorem q_mOr (f g : M Bool) : mOr f g ρ = bnd f (fun k => if k = true then PL.ret true else g) ρ := rfl
@[simp] theorem q_mAndV (f g : M D) : mAndV f g ρ = bnd (mB f) (fun k => if k = true then g else PL.ret (.bool false)) ρ := rfl
@[simp] theorem q_mOrV (f g : M D) : mOrV f g ρ = bnd (mB f) (fun k => if k = true then PL.ret (.bool true) else g) ρ := rfl
@[simp] theorem q_mNotV (f : M D) : mNotV f ρ = bnd (mB f) (fun k => PL.ret (.bool (!k))) ρ := rfl
@[simp] theorem q_setS (s : Sl) : setS i s ρ = if i < ρ.length then .ok () (ρ.set i s) else .stuck := rfl
@[simp] theorem q_mSet (f : M Rv) : mSet i f ρ = rSet i (f ρ) := by
  unfold mSet
  rw [q_bnd]
  cases f ρ with
  | stuck => rfl
  | ok r ρ' => cases r with
    | fr d => rfl
    | pl p => cases p <;> rfl
@[simp] theorem r_set_f : rSet i (.ok (.fr d) ρ) = bnd (setS i (.own d)) (fun _ => PL.ret .nx) ρ := rfl
@[simp] theorem r_set_v : rSet i (.ok (.pl (.val d)) ρ) = bnd (setS i (.val d)) (fun _ => PL.ret .nx) ρ := rfl
@[simp] theorem r_set_s : rSet i (.ok (.pl (.slot j)) ρ) = bnd (mGet j) (fun d => bnd (setS i (.val d)) fun _ => PL.ret .nx) ρ := rfl
@[simp] theorem r_set_x : rSet i .stuck = .stuck := rfl
@[simp] theorem q_mSeq (f g : M Fl) : mSeq f g ρ = rSeq (f ρ) g := by
  unfold mSeq
  rw [q_bnd]
  cases f ρ with
  | stuck => rfl
  | ok r ρ' => cases r <;> rfl
@[simp] theorem r_seq_n (g : M Fl) : rSeq (.ok .nx ρ) g = g ρ := rfl
@[simp] theorem r_seq_r (r : Rv) (g : M Fl) : rSeq (.ok (.rt r) ρ) g = .ok (.rt r) ρ := rfl
@[simp] theorem r_seq_b (g : M Fl) : rSeq (.ok .bk ρ) g = .ok .bk ρ := rfl
@[simp] theorem r_seq_c (g : M Fl) : rSeq (.ok .ct ρ) g = .ok .ct ρ := rfl
@[simp] theorem r_seq_x (g : M Fl) : rSeq .stuck g = .stuck := rfl
@[simp] theorem q_mSkip : mSkip ρ = .ok .nx ρ := rfl
@[simp] theorem q_mRet (f : M Rv) : mRet f ρ = rRet (f ρ) := by unfold mRet bnd; cases f ρ <;> rfl
@[simp] theorem r_ret (r : Rv) : rRet (.ok r ρ) = .ok (.rt r) ρ := rfl
@[simp] theorem r_ret_x : rRet .stuck = .stuck := rfl
@[simp] theorem q_mRetN : mRetN ρ = .ok (.rt (.pl (.val .none))) ρ := rfl
@[simp] theorem q_mDrop (f : M α) : mDrop f ρ = rDrop (f ρ) := by unfold mDrop bnd; cases f ρ <;> rfl
@[simp] theorem r_drop (a : α) : rDrop (.ok a ρ) = .ok .nx ρ := rfl
@[simp] theorem r_drop_x : rDrop (.stuck : R α) = .stuck := rfl
@[simp] theorem q_mNever : (mNever : M α) ρ = .stuck := rfl
@[simp] theorem q_tName : tName i d = setS i (.val d) := rfl
@[simp] theorem q_tsNil : tsNil [] = PL.ret () := rfl
@[simp] theorem q_tsCons (t : D → M Unit) (u : List D → M Unit) : tsCons t u (d :: ds) = bnd (t d) fun _ => u ds := rfl
@[simp] theorem q_tTupl (u : List D → M Unit) : tTupl u (.tuple ds) = u ds := rfl
@[simp] theorem q_mAsg (t : D → M Unit) (f : M D) : mAsg t f ρ = bnd f (fun d => bnd (t d) fun _ => PL.ret .nx) ρ := rfl
@[simp] theorem q_mTr (f : M Pl) : mTr f ρ = mUn truD f ρ := rfl
@[simp] theorem q_mOpX (g : D → D → Option (Bool × D)) (fa fb : M Pl) : mOpX g fa fb ρ = bnd (mOp g fa fb) (fun bz => PL.ret (rvOf bz)) ρ := rfl
@[simp] theorem q_rvOf_t : rvOf (true, d) = .fr d := rfl
@[simp] theorem q_rvOf_f : rvOf (false, d) = .pl (.val d) := rfl
@[simp] theorem q_mCall (ms : List Md) (nl : Nat) (body : M Fl) (fs : M (List Pl)) : mCall ms nl body fs ρ = bnd fs (fun ps => callAt ms nl body ps) ρ := rfl
@[simp] theorem q_callAt (ms : List Md) (nl : Nat) (body : M Fl) (ps : List Pl) : callAt ms nl body ps ρ = if apart ms ps = true then rArgs ρ ms nl body ps (argSs ρ ms ps) else .stuck := by
  unfold callAt
  split
  · cases argSs ρ ms ps with
    | none => rfl
    | some ss =>
      show _ = rCall ρ ms ps (evalD ms nl body ss)
      simp only
      cases evalD ms nl body ss with
      | none => rfl
      | some ro => simp only [rCall]; cases backIo ρ ms ps ro.2 <;> rfl
  · rfl
@[simp] theorem r_args (ms : List Md) (nl : Nat) (body : M Fl) (ps : List Pl) (ss : List Sl) : rArgs ρ ms nl body ps (some ss) = rCall ρ ms ps (evalD ms nl body ss) := rfl
@[simp] theorem r_args_x (ms : List Md) (nl : Nat) (body : M Fl) (ps : List Pl) : rArgs ρ ms nl body ps none = .stuck := rfl
@[simp] theorem r_call (ms : List Md) (ps : List Pl) (r : Rv) (e : List Sl) : rCall ρ ms ps (some (r, e)) = rBack r (backIo ρ ms ps e) := rfl
@[simp] theorem r_call_x (ms : List Md) (ps : List Pl) : rCall ρ ms ps none = .stuck := rfl
@[simp] theorem r_back (r : Rv) : rBack r (some ρ) = .ok r ρ := rfl
@[simp] theorem r_back_x (r : Rv) : rBack r none = .stuck := rfl
@[simp] theorem q_apart (ms : List Md) (ps : List Pl) : apart ms ps = (decide (ios ms ps).Nodup && (nios ms ps).all fun i => decide (i ∉ ios ms ps)) := rfl
@[simp] theorem q_ios_nil : ios [] ([] : List Pl) = [] := rfl
@[simp] theorem q_ios_io (ms : List Md) (ps : List Pl) : ios (.io :: ms) (.slot i :: ps) = i :: ios ms ps := rfl
@[simp] theorem q_ios_iov (ms : List Md) (ps : List Pl) : ios (.io :: ms) (.val d :: ps) = ios ms ps := rfl
@[simp] theorem q_ios_v (ms : List Md) (p : Pl) (ps : List Pl) : ios (.v :: ms) (p :: ps) = ios ms ps := rfl
@[simp] theorem q_ios_b (ms : List Md) (p : Pl) (ps : List Pl) : ios (.b :: ms) (p :: ps) = ios ms ps := rfl
@[simp] theorem q_ios_s (ms : List Md) (p : Pl) (ps : List Pl) : ios (.s :: ms) (p :: ps) = ios ms ps := rfl
@[simp] theorem q_nios_nil : nios [] ([] : List Pl) = [] := rfl
@[simp] theorem q_nios_io (ms : List Md) (p : Pl) (ps : List Pl) : nios (.io :: ms) (p :: ps) = nios ms ps := rfl
@[simp] theorem q_nios_v (ms : List Md) (ps : List Pl) : nios (.v :: ms) (.val d :: ps) = nios ms ps := rfl
@[simp] theorem q_nios_b (ms : List Md) (ps : List Pl) : nios (.b :: ms) (.val d :: ps) = nios ms ps := rfl
@[simp] theorem q_nios_s (ms : List Md) (ps : List Pl) : nios (.s :: ms) (.val d :: ps) = nios ms ps := rfl
@[simp] theorem q_nios_vs (ms : List Md) (ps : List Pl) : nios (.v :: ms) (.slot i :: ps) = i :: nios ms ps := rfl
@[simp] theorem q_nios_bs (ms : List Md) (ps : List Pl) : nios (.b :: ms) (.slot i :: ps) = i :: nios ms ps := rfl
@[simp] theorem q_nios_ss (ms : List Md) (ps : List Pl) : nios (.s :: ms) (.slot i :: ps) = i :: nios ms ps := rfl
@[simp] theorem q_argS_v : argS ρ .v (.val d) = some (.val d) := rfl
@[simp] theorem q_argS_b (p : Pl) : argS ρ .b p = (rsv ρ p).map .bor := by cases p <;> rfl
@[simp] theorem q_argS_io : argS ρ .io (.slot i) = match ρ[i]? with
    | some (.own d) => some (.io d)
    | some (.io d) => some (.io d)
    | _ => none := rfl
@[simp] theorem q_argS_s : argS ρ .s (.slot i) = match ρ[i]? with
    | some (.scr ns) => some (.scr ns)
    | some (.exc n) => some (.exc n)
    | _ => none := rfl
@[simp] theorem q_argS_sv : argS ρ .s (.val d) = some (.val d) := rfl
@[simp] theorem q_argSs_nil : argSs ρ [] [] = some [] := rfl
@[simp] theorem q_argSs_cons (m : Md) (ms : List Md) (p : Pl) (ps : List Pl) : argSs ρ (m :: ms) (p :: ps) = match argS ρ m p, argSs ρ ms ps with
    | some s, some ss => some (s :: ss)
    | _, _ => none := rfl
@[simp] theorem q_back_nil (ss : List Sl) : backIo ρ [] [] ss = some ρ := by cases ss <;> rfl
@[simp] theorem q_back_io (ms : List Md) (ps : List Pl) (ss : List Sl) : backIo ρ (.io :: ms) (.slot i :: ps) (.io d :: ss) = match putIo ρ i d with
    | some ρ1 => backIo ρ1 ms ps ss
    | none => none := rfl
@[simp] theorem q_back_v (ms : List Md) (p : Pl) (ps : List Pl) (s : Sl) (ss : List Sl) : backIo ρ (.v :: ms) (p :: ps) (s :: ss) = backIo ρ ms ps ss := rfl
@[simp] theorem q_back_b (ms : List Md) (p : Pl) (ps : List Pl) (s : Sl) (ss : List Sl) : backIo ρ (.b :: ms) (p :: ps) (s :: ss) = backIo ρ ms ps ss := rfl
@[simp] theorem q_back_s (ms : List Md) (p : Pl) (ps : List Pl) (s : Sl) (ss : List Sl) : backIo ρ (.s :: ms) (p :: ps) (s :: ss) = backIo ρ ms ps ss := rfl
@[simp] theorem q_putIo : putIo ρ i d = match ρ[i]? with
  | some (.own _) => some (ρ.set i (.own d))
  | some (.io _) => some (ρ.set i (.io d))
  | _ => none := rfl
@[simp] theorem q_mIter (f : M Pl) : mIter f ρ = bnd f (fun p => bnd (seqAt p) fun ds => PL.ret ds.2) ρ := rfl
@[simp] theorem q_mRev (f : M (List D)) : mRev f ρ = bnd f (fun ds => PL.ret ds.reverse) ρ := rfl
def rngOf : R D → R (List D)
  | .ok (.int n) ρ => if small62 n = true then .ok (rngD 0 n) ρ else .stuck
  | _ => .stuck
@[simp] theorem q_mRng1 (f : M D) : mRng1 f ρ = rngOf (f ρ) := by
  unfold mRng1
  rw [q_bnd]
  cases f ρ with
  | stuck => rfl
  | ok d ρ' => cases d <;> rfl
def rng2B (a : Int) : R D → R (List D)
  | .ok (.int b) ρ => if (small62 a && small62 b) = true then .ok (rngD a b) ρ else .stuck
  | _ => .stuck
def rng2Of (g : M D) : R D → R (List D)
  | .ok (.int a) ρ => rng2B a (g ρ)
  | _ => .stuck
@[simp] theorem q_mFor (f : M (List D)) (t : D → M Unit) (b : M Fl) : mFor f t b ρ = bnd f (fun ds => forGo t b ds) ρ := rfl
@[simp] theorem q_mMut (g : List D → List D → Option (List D × D)) (fs : M (List D)) : mMut j g fs ρ = bnd (isOwnL j) (fun _ => bnd fs fun as => mutAt j g as) ρ := rfl
@[simp] theorem q_mSetIx (fe fi : M D) : mSetIx j fe fi ρ = bnd fe (fun d => bnd (isOwn j) fun _ => bnd fi fun k => setAt j d k) ρ := rfl
@[simp] theorem q_mLenS : mLenS i ρ = match ρ[i]? with
  | some (.scr ns) => .ok (.int ns.length) ρ
  | _ => .stuck := rfl
@[simp] theorem q_mYes : mYes ρ = .ok true ρ := rfl
@[simp] theorem q_resR_fr : resR ρ (.fr d) = some (.fr d) := rfl
@[simp] theorem q_resR_v : resR ρ (.pl (.val d)) = some (.pl (.val d)) := rfl
@[simp] theorem q_resR_s : resR ρ (.pl (.slot i)) = match ρ[i]? with
    | some (.val d) => some (.pl (.val d))
    | some (.own d) => some (.fr d)
    | some (.bor d) => if atom d = true then some (.pl (.val d)) else none
    | _ => none := rfl
@[simp] theorem q_mMeth (g' : D → List D → Option D) (fo : M Pl) (fs : M (List Pl)) : mMeth g' fo fs ρ = bnd fo (fun p => bnd (look p) fun d0 => bnd (ofO (isL d0)) fun _ => bnd fs fun ps => bnd (look p) fun d => bnd (lookAll ps) fun ds => ofO (g' d ds)) ρ := rfl
@[simp] theorem q_wipe_nil : wipeE ρ [] = ρ := rfl
@[simp] theorem q_wipe_cons (v : Nat) (vs : List Nat) : wipeE ρ (v :: vs) = (wipeE ρ vs).set v .un := rfl
@[simp] theorem q_rest_nil : restE ρ ρ' [] = ρ' := rfl
@[simp] theorem q_rest_cons (v : Nat) (vs : List Nat) : restE ρ ρ' (v :: vs) = (restE ρ ρ' vs).set v (keepS (ρ.getD v .un)) := rfl
@[simp] theorem q_keep_un : keepS .un = .un := rfl
@[simp] theorem q_keep_val : keepS (.val d) = .val d := rfl
@[simp] theorem q_keep_bor : keepS (.bor d) = .bor d := rfl
@[simp] theorem q_keep_own : keepS (.own d) = .un := rfl
theorem q_mLc (fi : M (List D)) (t : D → M Unit) (vs : List Nat) (c : M Bool) (fe : M D) : mLc fi t vs c fe ρ = bnd fi (fun ds => fun ρ1 => match lcGo t vs c fe [] ds (wipeE ρ1 vs) with
  | .ok acc ρ2 => .ok (.fr (.list acc)) (restE ρ1 ρ2 vs)
  | .stuck => .stuck) ρ := rfl
theorem mSet_lc {j : Nat} {fi : M (List D)} {t : D → M Unit} {vs : List Nat} {c : M Bool} {fe : M D} {ρ ρ1 ρ2 ρ3 : Env} {ds out : List D} (h1 : fi ρ = .ok ds ρ1) (h2 : lcGo t vs c fe [] ds (wipeE ρ1 vs) = .ok out ρ2)
    (h3 : restE ρ1 ρ2 vs = ρ3) (h4 : j < ρ3.length) : mSet j (mLc fi t vs c fe) ρ = .ok .nx (ρ3.set j (.own (.list out))) := by
  rw [q_mSet, mLc_ok h1 h2, h3]
  simp [h4]
theorem runD_rt {nl : Nat} {m : M Fl} {ss ρ' : Env} {r : Rv} (h : m (ss ++ List.replicate nl .un) = .ok (.rt r) ρ') : runD nl m ss = some (r, ρ') := by
  unfold runD; rw [h]
theorem runD_nx {nl : Nat} {m : M Fl} {ss ρ' : Env} (h : m (ss ++ List.replicate nl .un) = .ok .nx ρ') : runD nl m ss = some (.pl (.val .none), ρ') := by
  unfold runD; rw [h]
theorem ev_rt {ms : List Md} {nl : Nat} {m : M Fl} {ss ρ' : Env} {r r' : Rv} (h : m (ss ++ List.replicate nl .un) = .ok (.rt r) ρ') (h2 : resR ρ' r = some r') : evalD ms nl m ss = some (r', ρ'.take ms.length) := evalD_of (runD_rt h) h2
theorem ev_nx {ms : List Md} {nl : Nat} {m : M Fl} {ss ρ' : Env} (h : m (ss ++ List.replicate nl .un) = .ok .nx ρ') : evalD ms nl m ss = some (.pl (.val .none), ρ'.take ms.length) := evalD_of (runD_nx h) rfl
@[simp] theorem q_asBool : asBool (.bool b) = some b := rfl
end
/-! ### the p-level: what a mirror does, without names -/
theorem ob {α β : Type} {o : Option α} {f : α → Option β} {r : β} (h : o.bind f = some r) : ∃ a, o = some a ∧ f a = some r := Option.bind_eq_some_iff.mp h
def bind1 {α γ : Type} (o : Option α) (f : α → Option γ) : Option γ := match o with
  | some x => f x
  | none => none
theorem ob1 {α γ : Type} {o : Option α} {f : α → Option γ} {r : γ} (h : bind1 o f = some r) : ∃ x, o = some x ∧ f x = some r := by
  cases o with
  | none => cases h
  | some t => exact ⟨t, rfl, h⟩
def bind2 {α1 α2 γ : Type} (o : Option (α1 × α2)) (f : α1 → α2 → Option γ) : Option γ := match o with
  | some (x1, x2) => f x1 x2
  | none => none
theorem bind2_some {α1 α2 γ : Type} (f : α1 → α2 → Option γ) (x1 : α1) (x2 : α2) : bind2 (some (x1, x2)) f = f x1 x2 := rfl
theorem ob2 {α1 α2 γ : Type} {o : Option (α1 × α2)} {f : α1 → α2 → Option γ} {r : γ} (h : bind2 o f = some r) : ∃ x1 x2, o = some (x1, x2) ∧ f x1 x2 = some r := by
  cases o with
  | none => cases h
  | some t => obtain ⟨x1, x2⟩ := t; exact ⟨x1, x2, rfl, h⟩
def bind3 {α1 α2 α3 γ : Type} (o : Option (α1 × α2 × α3)) (f : α1 → α2 → α3 → Option γ) : Option γ := match o with
  | some (x1, x2, x3) => f x1 x2 x3
  | none => none
theorem bind3_some {α1 α2 α3 γ : Type} (f : α1 → α2 → α3 → Option γ) (x1 : α1) (x2 : α2) (x3 : α3) : bind3 (some (x1, x2, x3)) f = f x1 x2 x3 := rfl
theorem ob3 {α1 α2 α3 γ : Type} {o : Option (α1 × α2 × α3)} {f : α1 → α2 → α3 → Option γ} {r : γ} (h : bind3 o f = some r) : ∃ x1 x2 x3, o = some (x1, x2, x3) ∧ f x1 x2 x3 = some r := by
  cases o with
  | none => cases h
  | some t => obtain ⟨x1, x2, x3⟩ := t; exact ⟨x1, x2, x3, rfl, h⟩
def bind4 {α1 α2 α3 α4 γ : Type} (o : Option (α1 × α2 × α3 × α4)) (f : α1 → α2 → α3 → α4 → Option γ) : Option γ := match o with
  | some (x1, x2, x3, x4) => f x1 x2 x3 x4
  | none => none
theorem bind4_some {α1 α2 α3 α4 γ : Type} (f : α1 → α2 → α3 → α4 → Option γ) (x1 : α1) (x2 : α2) (x3 : α3) (x4 : α4) : bind4 (some (x1, x2, x3, x4)) f = f x1 x2 x3 x4 := rfl
theorem ob4 {α1 α2 α3 α4 γ : Type} {o : Option (α1 × α2 × α3 × α4)} {f : α1 → α2 → α3 → α4 → Option γ} {r : γ} (h : bind4 o f = some r) : ∃ x1 x2 x3 x4, o = some (x1, x2, x3, x4) ∧ f x1 x2 x3 x4 = some r := by
  cases o with
  | none => cases h
  | some t => obtain ⟨x1, x2, x3, x4⟩ := t; exact ⟨x1, x2, x3, x4, rfl, h⟩
def bind5 {α1 α2 α3 α4 α5 γ : Type} (o : Option (α1 × α2 × α3 × α4 × α5)) (f : α1 → α2 → α3 → α4 → α5 → Option γ) : Option γ := match o with
  | some (x1, x2, x3, x4, x5) => f x1 x2 x3 x4 x5
  | none => none
theorem bind5_some {α1 α2 α3 α4 α5 γ : Type} (f : α1 → α2 → α3 → α4 → α5 → Option γ) (x1 : α1) (x2 : α2) (x3 : α3) (x4 : α4) (x5 : α5) : bind5 (some (x1, x2, x3, x4, x5)) f = f x1 x2 x3 x4 x5 := rfl
theorem ob5 {α1 α2 α3 α4 α5 γ : Type} {o : Option (α1 × α2 × α3 × α4 × α5)} {f : α1 → α2 → α3 → α4 → α5 → Option γ} {r : γ} (h : bind5 o f = some r) : ∃ x1 x2 x3 x4 x5, o = some (x1, x2, x3, x4, x5) ∧ f x1 x2 x3 x4 x5 = some r := by
  cases o with
  | none => cases h
  | some t => obtain ⟨x1, x2, x3, x4, x5⟩ := t; exact ⟨x1, x2, x3, x4, x5, rfl, h⟩
def bind6 {α1 α2 α3 α4 α5 α6 γ : Type} (o : Option (α1 × α2 × α3 × α4 × α5 × α6)) (f : α1 → α2 → α3 → α4 → α5 → α6 → Option γ) : Option γ := match o with
  | some (x1, x2, x3, x4, x5, x6) => f x1 x2 x3 x4 x5 x6
  | none => none
theorem bind6_some {α1 α2 α3 α4 α5 α6 γ : Type} (f : α1 → α2 → α3 → α4 → α5 → α6 → Option γ) (x1 : α1) (x2 : α2) (x3 : α3) (x4 : α4) (x5 : α5) (x6 : α6) : bind6 (some (x1, x2, x3, x4, x5, x6)) f = f x1 x2 x3 x4 x5 x6 := rfl
theorem ob6 {α1 α2 α3 α4 α5 α6 γ : Type} {o : Option (α1 × α2 × α3 × α4 × α5 × α6)} {f : α1 → α2 → α3 → α4 → α5 → α6 → Option γ} {r : γ} (h : bind6 o f = some r) : ∃ x1 x2 x3 x4 x5 x6, o = some (x1, x2, x3, x4, x5, x6) ∧ f x1 x2 x3 x4 x5 x6 = some r := by
  cases o with
  | none => cases h
  | some t => obtain ⟨x1, x2, x3, x4, x5, x6⟩ := t; exact ⟨x1, x2, x3, x4, x5, x6, rfl, h⟩
def bind7 {α1 α2 α3 α4 α5 α6 α7 γ : Type} (o : Option (α1 × α2 × α3 × α4 × α5 × α6 × α7)) (f : α1 → α2 → α3 → α4 → α5 → α6 → α7 → Option γ) : Option γ := match o with
  | some (x1, x2, x3, x4, x5, x6, x7) => f x1 x2 x3 x4 x5 x6 x7
  | none => none
theorem bind7_some {α1 α2 α3 α4 α5 α6 α7 γ : Type} (f : α1 → α2 → α3 → α4 → α5 → α6 → α7 → Option γ) (x1 : α1) (x2 : α2) (x3 : α3) (x4 : α4) (x5 : α5) (x6 : α6) (x7 : α7) : bind7 (some (x1, x2, x3, x4, x5, x6, x7)) f = f x1 x2 x3 x4 x5 x6 x7 := rfl
theorem ob7 {α1 α2 α3 α4 α5 α6 α7 γ : Type} {o : Option (α1 × α2 × α3 × α4 × α5 × α6 × α7)} {f : α1 → α2 → α3 → α4 → α5 → α6 → α7 → Option γ} {r : γ} (h : bind7 o f = some r) : ∃ x1 x2 x3 x4 x5 x6 x7, o = some (x1, x2, x3, x4, x5, x6, x7) ∧ f x1 x2 x3 x4 x5 x6 x7 = some r := by
  cases o with
  | none => cases h
  | some t => obtain ⟨x1, x2, x3, x4, x5, x6, x7⟩ := t; exact ⟨x1, x2, x3, x4, x5, x6, x7, rfl, h⟩
def bind8 {α1 α2 α3 α4 α5 α6 α7 α8 γ : Type} (o : Option (α1 × α2 × α3 × α4 × α5 × α6 × α7 × α8)) (f : α1 → α2 → α3 → α4 → α5 → α6 → α7 → α8 → Option γ) : Option γ := match o with
  | some (x1, x2, x3, x4, x5, x6, x7, x8) => f x1 x2 x3 x4 x5 x6 x7 x8
  | none => none
theorem bind8_some {α1 α2 α3 α4 α5 α6 α7 α8 γ : Type} (f : α1 → α2 → α3 → α4 → α5 → α6 → α7 → α8 → Option γ) (x1 : α1) (x2 : α2) (x3 : α3) (x4 : α4) (x5 : α5) (x6 : α6) (x7 : α7) (x8 : α8) : bind8 (some (x1, x2, x3, x4, x5, x6, x7, x8)) f = f x1 x2 x3 x4 x5 x6 x7 x8 := rfl
theorem ob8 {α1 α2 α3 α4 α5 α6 α7 α8 γ : Type} {o : Option (α1 × α2 × α3 × α4 × α5 × α6 × α7 × α8)} {f : α1 → α2 → α3 → α4 → α5 → α6 → α7 → α8 → Option γ} {r : γ} (h : bind8 o f = some r) : ∃ x1 x2 x3 x4 x5 x6 x7 x8, o = some (x1, x2, x3, x4, x5, x6, x7, x8) ∧ f x1 x2 x3 x4 x5 x6 x7 x8 = some r := by
  cases o with
  | none => cases h
  | some t => obtain ⟨x1, x2, x3, x4, x5, x6, x7, x8⟩ := t; exact ⟨x1, x2, x3, x4, x5, x6, x7, x8, rfl, h⟩
def bind9 {α1 α2 α3 α4 α5 α6 α7 α8 α9 γ : Type} (o : Option (α1 × α2 × α3 × α4 × α5 × α6 × α7 × α8 × α9)) (f : α1 → α2 → α3 → α4 → α5 → α6 → α7 → α8 → α9 → Option γ) : Option γ := match o with
  | some (x1, x2, x3, x4, x5, x6, x7, x8, x9) => f x1 x2 x3 x4 x5 x6 x7 x8 x9
  | none => none
theorem bind9_some {α1 α2 α3 α4 α5 α6 α7 α8 α9 γ : Type} (f : α1 → α2 → α3 → α4 → α5 → α6 → α7 → α8 → α9 → Option γ) (x1 : α1) (x2 : α2) (x3 : α3) (x4 : α4) (x5 : α5) (x6 : α6) (x7 : α7) (x8 : α8) (x9 : α9) : bind9 (some (x1, x2, x3, x4, x5, x6, x7, x8, x9)) f = f x1 x2 x3 x4 x5 x6 x7 x8 x9 := rfl
theorem ob9 {α1 α2 α3 α4 α5 α6 α7 α8 α9 γ : Type} {o : Option (α1 × α2 × α3 × α4 × α5 × α6 × α7 × α8 × α9)} {f : α1 → α2 → α3 → α4 → α5 → α6 → α7 → α8 → α9 → Option γ} {r : γ} (h : bind9 o f = some r) : ∃ x1 x2 x3 x4 x5 x6 x7 x8 x9, o = some (x1, x2, x3, x4, x5, x6, x7, x8, x9) ∧ f x1 x2 x3 x4 x5 x6 x7 x8 x9 = some r := by
  cases o with
  | none => cases h
  | some t => obtain ⟨x1, x2, x3, x4, x5, x6, x7, x8, x9⟩ := t; exact ⟨x1, x2, x3, x4, x5, x6, x7, x8, x9, rfl, h⟩
def bind10 {α1 α2 α3 α4 α5 α6 α7 α8 α9 α10 γ : Type} (o : Option (α1 × α2 × α3 × α4 × α5 × α6 × α7 × α8 × α9 × α10)) (f : α1 → α2 → α3 → α4 → α5 → α6 → α7 → α8 → α9 → α10 → Option γ) : Option γ := match o with
  | some (x1, x2, x3, x4, x5, x6, x7, x8, x9, x10) => f x1 x2 x3 x4 x5 x6 x7 x8 x9 x10
  | none => none
theorem bind10_some {α1 α2 α3 α4 α5 α6 α7 α8 α9 α10 γ : Type} (f : α1 → α2 → α3 → α4 → α5 → α6 → α7 → α8 → α9 → α10 → Option γ) (x1 : α1) (x2 : α2) (x3 : α3) (x4 : α4) (x5 : α5) (x6 : α6) (x7 : α7) (x8 : α8) (x9 : α9) (x10 : α10) : bind10 (some (x1, x2, x3, x4, x5, x6, x7, x8, x9, x10)) f = f x1 x2 x3 x4 x5 x6 x7 x8 x9 x10 := rfl
theorem ob10 {α1 α2 α3 α4 α5 α6 α7 α8 α9 α10 γ : Type} {o : Option (α1 × α2 × α3 × α4 × α5 × α6 × α7 × α8 × α9 × α10)} {f : α1 → α2 → α3 → α4 → α5 → α6 → α7 → α8 → α9 → α10 → Option γ} {r : γ} (h : bind10 o f = some r) : ∃ x1 x2 x3 x4 x5 x6 x7 x8 x9 x10, o = some (x1, x2, x3, x4, x5, x6, x7, x8, x9, x10) ∧ f x1 x2 x3 x4 x5 x6 x7 x8 x9 x10 = some r := by
  cases o with
  | none => cases h
  | some t => obtain ⟨x1, x2, x3, x4, x5, x6, x7, x8, x9, x10⟩ := t; exact ⟨x1, x2, x3, x4, x5, x6, x7, x8, x9, x10, rfl, h⟩
theorem sinj2 {α1 α2 : Type} {a1 b1 : α1} {a2 b2 : α2} (h : some (a1, a2) = some (b1, b2)) : a1 = b1 ∧ a2 = b2 := by
  cases h
  exact ⟨rfl, rfl⟩
theorem sinj3 {α1 α2 α3 : Type} {a1 b1 : α1} {a2 b2 : α2} {a3 b3 : α3} (h : some (a1, a2, a3) = some (b1, b2, b3)) : a1 = b1 ∧ a2 = b2 ∧ a3 = b3 := by
  cases h
  exact ⟨rfl, rfl, rfl⟩
theorem sinj4 {α1 α2 α3 α4 : Type} {a1 b1 : α1} {a2 b2 : α2} {a3 b3 : α3} {a4 b4 : α4} (h : some (a1, a2, a3, a4) = some (b1, b2, b3, b4)) : a1 = b1 ∧ a2 = b2 ∧ a3 = b3 ∧ a4 = b4 := by
  cases h
  exact ⟨rfl, rfl, rfl, rfl⟩
theorem sinj5 {α1 α2 α3 α4 α5 : Type} {a1 b1 : α1} {a2 b2 : α2} {a3 b3 : α3} {a4 b4 : α4} {a5 b5 : α5} (h : some (a1, a2, a3, a4, a5) = some (b1, b2, b3, b4, b5)) : a1 = b1 ∧ a2 = b2 ∧ a3 = b3 ∧ a4 = b4 ∧ a5 = b5 := by
  cases h
  exact ⟨rfl, rfl, rfl, rfl, rfl⟩
theorem sinj6 {α1 α2 α3 α4 α5 α6 : Type} {a1 b1 : α1} {a2 b2 : α2} {a3 b3 : α3} {a4 b4 : α4} {a5 b5 : α5} {a6 b6 : α6} (h : some (a1, a2, a3, a4, a5, a6) = some (b1, b2, b3, b4, b5, b6)) : a1 = b1 ∧ a2 = b2 ∧ a3 = b3 ∧ a4 = b4 ∧ a5 = b5 ∧ a6 = b6 := by
  cases h
  exact ⟨rfl, rfl, rfl, rfl, rfl, rfl⟩
theorem sinj7 {α1 α2 α3 α4 α5 α6 α7 : Type} {a1 b1 : α1} {a2 b2 : α2} {a3 b3 : α3} {a4 b4 : α4} {a5 b5 : α5} {a6 b6 : α6} {a7 b7 : α7} (h : some (a1, a2, a3, a4, a5, a6, a7) = some (b1, b2, b3, b4, b5, b6, b7)) : a1 = b1 ∧ a2 = b2 ∧ a3 = b3 ∧ a4 = b4 ∧ a5 = b5 ∧ a6 = b6 ∧ a7 = b7 := by
  cases h
  exact ⟨rfl, rfl, rfl, rfl, rfl, rfl, rfl⟩
theorem sinj8 {α1 α2 α3 α4 α5 α6 α7 α8 : Type} {a1 b1 : α1} {a2 b2 : α2} {a3 b3 : α3} {a4 b4 : α4} {a5 b5 : α5} {a6 b6 : α6} {a7 b7 : α7} {a8 b8 : α8} (h : some (a1, a2, a3, a4, a5, a6, a7, a8) = some (b1, b2, b3, b4, b5, b6, b7, b8)) : a1 = b1 ∧ a2 = b2 ∧ a3 = b3 ∧ a4 = b4 ∧ a5 = b5 ∧ a6 = b6 ∧ a7 = b7 ∧ a8 = b8 := by
  cases h
  exact ⟨rfl, rfl, rfl, rfl, rfl, rfl, rfl, rfl⟩
theorem sinj9 {α1 α2 α3 α4 α5 α6 α7 α8 α9 : Type} {a1 b1 : α1} {a2 b2 : α2} {a3 b3 : α3} {a4 b4 : α4} {a5 b5 : α5} {a6 b6 : α6} {a7 b7 : α7} {a8 b8 : α8} {a9 b9 : α9} (h : some (a1, a2, a3, a4, a5, a6, a7, a8, a9) = some (b1, b2, b3, b4, b5, b6, b7, b8, b9)) : a1 = b1 ∧ a2 = b2 ∧ a3 = b3 ∧ a4 = b4 ∧ a5 = b5 ∧ a6 = b6 ∧ a7 = b7 ∧ a8 = b8 ∧ a9 = b9 := by
  cases h
  exact ⟨rfl, rfl, rfl, rfl, rfl, rfl, rfl, rfl, rfl⟩
theorem sinj10 {α1 α2 α3 α4 α5 α6 α7 α8 α9 α10 : Type} {a1 b1 : α1} {a2 b2 : α2} {a3 b3 : α3} {a4 b4 : α4} {a5 b5 : α5} {a6 b6 : α6} {a7 b7 : α7} {a8 b8 : α8} {a9 b9 : α9} {a10 b10 : α10} (h : some (a1, a2, a3, a4, a5, a6, a7, a8, a9, a10) = some (b1, b2, b3, b4, b5, b6, b7, b8, b9, b10)) : a1 = b1 ∧ a2 = b2 ∧ a3 = b3 ∧ a4 = b4 ∧ a5 = b5 ∧ a6 = b6 ∧ a7 = b7 ∧ a8 = b8 ∧ a9 = b9 ∧ a10 = b10 := by
  cases h
  exact ⟨rfl, rfl, rfl, rfl, rfl, rfl, rfl, rfl, rfl, rfl⟩
def isLst : D → Bool
  | .list _ => true
  | _ => false
def tup2 : D → Option (D × D)
  | .tuple [a, b] => some (a, b)
  | _ => none
def tup3 : D → Option (D × D × D)
  | .tuple [a, b, c] => some (a, b, c)
  | _ => none
theorem tup2_eq {d a b : D} (h : tup2 d = some (a, b)) : d = .tuple [a, b] := by
  unfold tup2 at h
  split at h
  · cases h; rfl
  · cases h
theorem tup3_eq {d a b c : D} (h : tup3 d = some (a, b, c)) : d = .tuple [a, b, c] := by
  unfold tup3 at h
  split at h
  · cases h; rfl
  · cases h
theorem tT2 {d a b : D} (h : tup2 d = some (a, b)) (u : List D → M Unit) : tTupl u d = u [a, b] := by rw [tup2_eq h]; rfl
theorem tT3 {d a b c : D} (h : tup3 d = some (a, b, c)) (u : List D → M Unit) : tTupl u d = u [a, b, c] := by rw [tup3_eq h]; rfl
def ixP : D → Option Int
  | .int i => some i
  | _ => none
def atP (d : D) : Option Unit := if atom d = true then some () else none
theorem atP_eq {d : D} {u : Unit} (h : atP d = some u) : atom d = true := by
  unfold atP at h
  split at h
  · assumption
  · cases h
def negP : D → Option D
  | .int i => some (.int (-i))
  | _ => none
def rng1P : D → Option (List D)
  | .int n => if small62 n = true then some (rngD 0 n) else none
  | _ => none
def rng2P : D → D → Option (List D)
  | .int a, .int b => if (small62 a && small62 b) = true then some (rngD a b) else none
  | _, _ => none
def rngdP : D → D → Option (List D)
  | .int a, .int b => if (small62 a && small62 b) = true then some (rngdD a b) else none
  | _, _ => none
def dict1P : D → D → Option D
  | .int i, d => some (.dict [(.int i, d)])
  | _, _ => none
def dict1R (d : D) : R D → R D
  | .ok e ρ => ofO (dict1P d e) ρ
  | .stuck => .stuck
def lrgP : D → Option D
  | .int n => if (decide (-100000 ≤ n) && decide (n ≤ 100000)) = true then some (.list (rngD 0 n)) else none
  | _ => none
def zipP (d e : D) : Option (List D) := match itemsD d, itemsD e with
  | some x, some y => if (x.1 == y.1) = true then some ((x.2.zip y.2).map fun (d, e) => .tuple [d, e]) else none
  | _, _ => none
def addV (a b : D) : Option D := match gAdd a b with
  | some (false, z) => some z
  | _ => none
def addF (a b : D) : Option D := match gAdd a b with
  | some (true, z) => some z
  | _ => none
def mulV (a b : D) : Option D := match gMul a b with
  | some (false, z) => some z
  | _ => none
def mulF (a b : D) : Option D := match gMul a b with
  | some (true, z) => some z
  | _ => none
def slV (d : D) (l h : Option Int) : Option D := match sliceD d l h with
  | some (false, z) => some z
  | _ => none
def slF (d : D) (l h : Option Int) : Option D := match sliceD d l h with
  | some (true, z) => some z
  | _ => none
theorem sliceW_w {d z : D} {b : Bool} {lo hi : Option Int} (h : sliceW d lo hi = some (b, z)) (hb : b = true) : d = z := by
  subst hb; exact sliceW_t h
def slW (d : D) (l h : Option Int) : Option D := match sliceW d l h with
  | some (false, z) => some z
  | _ => none
theorem slW_eq {d z : D} {l k : Option Int} (h : slW d l k = some z) : sliceW d l k = some (false, z) := by
  unfold slW at h; split at h
  · cases h; assumption
  · cases h
theorem addV_eq {a b z : D} (h : addV a b = some z) : gAdd a b = some (false, z) := by
  unfold addV at h; split at h
  · cases h; assumption
  · cases h
theorem addF_eq {a b z : D} (h : addF a b = some z) : gAdd a b = some (true, z) := by
  unfold addF at h; split at h
  · cases h; assumption
  · cases h
theorem mulV_eq {a b z : D} (h : mulV a b = some z) : gMul a b = some (false, z) := by
  unfold mulV at h; split at h
  · cases h; assumption
  · cases h
theorem mulF_eq {a b z : D} (h : mulF a b = some z) : gMul a b = some (true, z) := by
  unfold mulF at h; split at h
  · cases h; assumption
  · cases h
theorem slV_eq {d z : D} {l k : Option Int} (h : slV d l k = some z) : sliceD d l k = some (false, z) := by
  unfold slV at h; split at h
  · cases h; assumption
  · cases h
theorem slF_eq {d z : D} {l k : Option Int} (h : slF d l k = some z) : sliceD d l k = some (true, z) := by
  unfold slF at h; split at h
  · cases h; assumption
  · cases h
def mutP (g : List D → List D → Option (List D × D)) (d : D) (as : List D) : Option (D × D) := match d with
  | .list ds => (g ds as).map fun nr => (.list nr.1, nr.2)
  | _ => none
theorem mutP_lst {g : List D → List D → Option (List D × D)} {d : D} {as : List D} {r : D × D} (h : mutP g d as = some r) : isLst d = true := by
  cases d <;> first | rfl | cases h
def setP (e k x : D) : Option D := match e, k with
  | .list ds, .int n => (ixN ds.length n).map fun i => .list (ds.set i x)
  | _, _ => none
def ixSP (ns : List Int) : D → Option D
  | .int n => (atI ns n).map .int
  | _ => none
def ovS (b : Bool) (z : D) : Sl := if b = true then .own z else .val z
@[simp] theorem ovS_t (z : D) : ovS true z = .own z := rfl
@[simp] theorem ovS_f (z : D) : ovS false z = .val z := rfl
section
variable {α β : Type} (ρ ρ' : Env) (i j : Nat) (d e : D) (ds es : List D) (x y : Int) (b : Bool)
theorem ofO_none' {α : Type} (ρ : Env) : (fun (_ : Env) => (R.stuck : R α)) ρ = .stuck := rfl
@[simp] theorem s_seq_v : seqAt (.val d) ρ = ofO (itemsD d) ρ := by
  unfold seqAt; dsimp only; cases itemsD d <;> rfl
@[simp] theorem s_seq_s : seqAt (.slot i) ρ = match ρ[i]? with
    | some (.bor d) => ofO (itemsD d) ρ
    | some (.scr ns) => .ok (false, ns.map PyData.int) ρ
    | _ => .stuck := by
  unfold seqAt
  simp only
  cases ρ[i]? with
  | none => rfl
  | some s => cases s <;> simp only
              rename_i d; cases itemsD d <;> rfl
@[simp] theorem s_isOwnL : isOwnL j ρ = match ρ[j]? with
    | some (.own d) => if isLst d = true then .ok () ρ else .stuck
    | some (.io d) => if isLst d = true then .ok () ρ else .stuck
    | _ => .stuck := by
  unfold isOwnL
  cases ρ[j]? with
  | none => rfl
  | some s => cases s <;> first | rfl | (rename_i d; cases d <;> rfl)
@[simp] theorem s_isOwn : isOwn j ρ = match ρ[j]? with
  | some (.own _) => .ok () ρ
  | some (.io _) => .ok () ρ
  | _ => .stuck := rfl
def rMut (f : D → Env) : Option (D × D) → R D
  | some (d, z) => .ok z (f d)
  | none => .stuck
@[simp] theorem rMut_some (f : D → Env) (z : D) : rMut f (some (d, z)) = .ok z (f d) := rfl
@[simp] theorem s_mutAt (g : List D → List D → Option (List D × D)) (as : List D) : mutAt j g as ρ = match ρ[j]? with
  | some (.own d) => rMut (fun d => ρ.set j (.own d)) (mutP g d as)
  | some (.io d) => rMut (fun d => ρ.set j (.io d)) (mutP g d as)
  | _ => .stuck := by
  unfold mutAt
  cases ρ[j]? with
  | none => rfl
  | some s =>
    cases s with
    | own d => cases d with
      | list ds => simp only [mutP]; cases g ds as <;> rfl
      | _ => rfl
    | io d => cases d with
      | list ds => simp only [mutP]; cases g ds as <;> rfl
      | _ => rfl
    | _ => rfl
def rSetAt (f : D → Env) : Option D → R Fl
  | some d => .ok .nx (f d)
  | none => .stuck
@[simp] theorem rSetAt_some (f : D → Env) : rSetAt f (some d) = .ok .nx (f d) := rfl
@[simp] theorem s_setAt (k : D) : setAt j d k ρ = match ρ[j]? with
  | some (.own e) => rSetAt (fun d => ρ.set j (.own d)) (setP e k d)
  | some (.io e) => rSetAt (fun d => ρ.set j (.io d)) (setP e k d)
  | _ => .stuck := by
  unfold setAt
  cases ρ[j]? with
  | none => rfl
  | some s =>
    cases s with
    | own e => cases e with
      | list ds => cases k with
        | int n => simp only [setP]; cases ixN ds.length n <;> rfl
        | _ => rfl
      | _ => rfl
    | io e => cases e with
      | list ds => cases k with
        | int n => simp only [setP]; cases ixN ds.length n <;> rfl
        | _ => rfl
      | _ => rfl
    | _ => rfl
@[simp] theorem s_neg (f : M D) : mNegU f ρ = bnd f (fun d => ofO (negP d)) ρ := by
  unfold mNegU bnd
  cases f ρ with
  | stuck => rfl
  | ok d ρ' => cases d <;> rfl
@[simp] theorem s_rngOf : rngOf (.ok d ρ) = ofO (rng1P d) ρ := by
  cases d with
  | int n => simp only [rngOf, rng1P]; split <;> rfl
  | _ => rfl
def rng2R (d : D) : R D → R (List D)
  | .ok e ρ => ofO (rng2P d e) ρ
  | .stuck => .stuck
@[simp] theorem s_rng2R : rng2R d (.ok e ρ) = ofO (rng2P d e) ρ := rfl
@[simp] theorem s_rng2 (f g : M D) : mRng2 f g ρ = bnd f (fun d => fun ρ => rng2R d (g ρ)) ρ := by
  unfold mRng2
  rw [q_bnd, q_bnd]
  cases f ρ with
  | stuck => rfl
  | ok d ρ' =>
    show bnd g _ ρ' = rng2R d (g ρ')
    rw [q_bnd]
    cases g ρ' with
    | stuck => rfl
    | ok e ρ'' =>
      cases d <;> first | rfl | (cases e <;> first | rfl | (simp only [r_bnd, rng2R, rng2P]; split <;> rfl))
def rngdR (d : D) : R D → R (List D)
  | .ok e ρ => ofO (rngdP d e) ρ
  | .stuck => .stuck
@[simp] theorem s_rngdR : rngdR d (.ok e ρ) = ofO (rngdP d e) ρ := rfl
@[simp] theorem s_rngd (f g : M D) : mRngD f g ρ = bnd f (fun d => fun ρ => rngdR d (g ρ)) ρ := by
  unfold mRngD
  rw [q_bnd, q_bnd]
  cases f ρ with
  | stuck => rfl
  | ok d ρ' =>
    show bnd g _ ρ' = rngdR d (g ρ')
    rw [q_bnd]
    cases g ρ' with
    | stuck => rfl
    | ok e ρ'' =>
      cases d <;> first | rfl | (cases e <;> first | rfl | (simp only [r_bnd, rngdR, rngdP]; split <;> rfl))
@[simp] theorem s_dict1R : dict1R d (.ok e ρ) = ofO (dict1P d e) ρ := rfl
@[simp] theorem s_dict1 (f g : M D) : mDict1 f g ρ = bnd f (fun d => fun ρ => dict1R d (g ρ)) ρ := by
  unfold mDict1
  rw [q_bnd, q_bnd]
  cases f ρ with
  | stuck => rfl
  | ok d ρ' =>
    show bnd g _ ρ' = dict1R d (g ρ')
    rw [q_bnd]
    cases g ρ' with
    | stuck => rfl
    | ok e ρ'' => cases d <;> rfl
@[simp] theorem s_lrg (f : M D) : mLRg f ρ = bnd f (fun d => ofO (lrgP d)) ρ := by
  unfold mLRg
  rw [q_bnd, q_bnd]
  cases f ρ with
  | stuck => rfl
  | ok d ρ' => cases d <;> first | rfl | (simp only [r_bnd, lrgP]; split <;> rfl)
@[simp] theorem s_ixS (fb : M D) (ns : List Int) (h : ρ[i]? = some (.scr ns)) : mIxS i fb ρ = bnd fb (fun d => ofO (ixSP ns d)) ρ := by
  unfold mIxS bnd
  rw [h]
  cases fb ρ with
  | stuck => rfl
  | ok d ρ' => cases d with
    | int n => simp only [ixSP]; cases atI ns n <;> rfl
    | _ => rfl
@[simp] theorem s_opt_none : mOpt none ρ = .ok none ρ := rfl
def rOptR (o : Option Int) (ρ : Env) : R (Option Int) := match o with
  | some i => .ok (some i) ρ
  | none => .stuck
@[simp] theorem rOptR_some (x : Int) : rOptR (some x) ρ = .ok (some x) ρ := rfl
@[simp] theorem s_opt (f : M D) : mOpt (some f) ρ = bnd f (fun d => fun ρ => rOptR (ixP d) ρ) ρ := by
  show bnd f _ ρ = bnd f _ ρ
  rw [q_bnd, q_bnd]
  cases f ρ with
  | stuck => rfl
  | ok d ρ' => cases d <;> rfl
@[simp] theorem s_slice (g : M Pl) (lo hi : Option (M D)) : mSlice g lo hi ρ = bnd g (fun p => bnd (mOpt lo) fun l => bnd (mOpt hi) fun h => bnd (look p) fun d => bnd (ofO (sliceD d l h)) fun bz => PL.ret (rvOf bz)) ρ := rfl
@[simp] theorem s_sliceP (g : M Pl) (lo hi : Option (M D)) : mSliceP g lo hi ρ = bnd g (fun p => bnd (mOpt lo) fun l => bnd (mOpt hi) fun h => bnd (look p) fun d => bnd (ofO (sliceW d l h)) fun bz => PL.ret (if bz.1 = true then p else .val bz.2)) ρ := rfl
@[simp] theorem r_fz_rv (bz : Bool × D) : rFz (.ok (rvOf bz) ρ) = .ok bz.2 ρ := by
  obtain ⟨b, z⟩ := bz; cases b <;> rfl
@[simp] theorem r_set_rv (bz : Bool × D) : rSet i (.ok (rvOf bz) ρ) = if i < ρ.length then .ok .nx (ρ.set i (ovS bz.1 bz.2)) else .stuck := by
  obtain ⟨b, z⟩ := bz
  cases b
  · show bnd (setS i (.val z)) (fun _ => PL.ret Fl.nx) ρ = _
    rw [q_bnd, q_setS]
    split <;> rfl
  · show bnd (setS i (.own z)) (fun _ => PL.ret Fl.nx) ρ = _
    rw [q_bnd, q_setS]
    split <;> rfl
@[simp] theorem r_resR_rv (bz : Bool × D) : resR ρ (rvOf bz) = some (rvOf bz) := by
  obtain ⟨b, z⟩ := bz; cases b <;> rfl
@[simp] theorem s_mDict0 : mDict0 ρ = .ok (.dict []) ρ := rfl
@[simp] theorem s_mPar (fs : M (List D)) : mPar i j fs ρ = bnd fs (fun ds => match ds with
  | [d, e] => bnd (setS i (.val d)) fun _ => bnd (setS j (.val e)) fun _ => PL.ret .nx
  | _ => fun _ => .stuck) ρ := rfl
@[simp] theorem s_mAug (g : D → D → Option D) (fb : M Pl) : mAug i g fb ρ = bnd (mVar i) (fun p => bnd fb fun q => bnd (look p) fun d => bnd (look q) fun e => bnd (ofO (g d e)) fun z => bnd (setS i (.val z)) fun _ => PL.ret .nx) ρ := rfl
end
theorem zipP_ok {f g : M Pl} {ρ ρ1 ρ2 : Env} {p q : Pl} {d e : D} {zs : List D} (h1 : f ρ = .ok p ρ1) (h2 : g ρ1 = .ok q ρ2) (h3 : seqAt p ρ2 = ofO (itemsD d) ρ2) (h4 : seqAt q ρ2 = ofO (itemsD e) ρ2) (h : zipP d e = some zs) : mZip f g ρ = .ok zs ρ2 := by
  unfold zipP at h
  unfold mZip
  rw [bnd_eq h1, bnd_eq h2]
  cases hx : itemsD d with
  | none => rw [hx] at h; cases h
  | some x =>
    cases hy : itemsD e with
    | none => rw [hx, hy] at h; cases h
    | some y =>
      rw [hx, hy] at h
      simp only at h
      rw [hx] at h3
      rw [hy] at h4
      rw [bnd_eq (show seqAt p ρ2 = .ok x ρ2 from h3), bnd_eq (show seqAt q ρ2 = .ok y ρ2 from h4)]
      split at h
      · rename_i hh; cases h; simp only [hh, if_true]; rfl
      · cases h
def sortI (ns : List Int) : List Int := ns.mergeSort fun a b => decide (a ≤ b)
theorem sortI_perm (ns : List Int) : (sortI ns).Perm ns := List.mergeSort_perm _ _
theorem sortI_le (ns : List Int) : (sortI ns).Pairwise (· ≤ ·) := by
  have := List.pairwise_mergeSort (le := fun a b : Int => decide (a ≤ b)) (by intro a b c; simp; omega) (by intro a b; simp; omega) ns
  exact this.imp (by intro a b h; simpa using h)
theorem sortI_one {ns ns' : List Int} (h : ns'.Perm ns) (hs : ns'.Pairwise (· ≤ ·)) : ns' = sortI ns :=
  List.Perm.eq_of_pairwise (le := (· ≤ ·)) (fun a b _ _ h1 h2 => by omega) hs (sortI_le ns) (h.trans (sortI_perm ns).symm)
theorem sortI_id {ns : List Int} (hs : ns.Pairwise (· ≤ ·)) : sortI ns = ns := (sortI_one (.refl ns) hs).symm
def gSorted : List D → Option D
  | [.list ds] => (nums ds).map fun ns => .list ((sortI ns).map .int)
  | _ => none
section
variable {X : Cx} {e : Expr} {es : List Expr} {pos p : Pos} {gs : M (List Pl)}
theorem pf_sorted (hg : Gl X "sorted") (hm : X.mg "sorted" = none) (ha : PPs X (e :: es) gs) (he : starEach (e :: es) X.env = (false, eval e X.env) :: starEach es X.env := by rfl) (hpl : (backTo pos (starEach es X.env)).any (·.1) = false := by rfl) :
    PF X (.Call (.Name "sorted" p) (e :: es) [] pos) (mFr (mN gSorted gs)) := pf_b cr_sortedI (fun G H vs ds z Q gh s hg q => by
  cases s with
  | nil => cases hg
  | cons h r => cases r with
    | cons _ _ => cases h <;> cases hg
    | nil => cases h with
      | @lst a xs ds h r =>
        simp only [gSorted] at hg
        cases qd : nums ds with
        | none => rw [qd] at hg; cases hg
        | some ns =>
          rw [qd] at hg
          cases hg
          have := nums_ok qd r
          subst this
          refine ⟨a, ns, rfl, .inl (.inl h), fun ns' l hp hs hl => ?_⟩
          rw [sortI_one hp hs]
          exact q l _ hl (Grow.newF gh hl) (.lst upd_same (RpA.ints _))
      | _ => cases hg) hg hm (by decide +kernel) ha (he := he) (hpl := hpl)
end
/-! ### runs -/
def Run (m : M Fl) (ρ : Env) (Q : Fl → Env → Prop) : Prop := ∃ fl ρ', m ρ = .ok fl ρ' ∧ Q fl ρ'
section
variable {m m1 m2 a b k : M Fl} {ρ ρ1 ρ2 : Env} {Q : Fl → Env → Prop} {c : M Bool}
theorem run_end {fl : Fl} (h : m ρ = .ok fl ρ1) (q : Q fl ρ1) : Run m ρ Q := ⟨fl, ρ1, h, q⟩
theorem run_seq (h : m1 ρ = .ok .nx ρ1) (r : Run m2 ρ1 Q) : Run (mSeq m1 m2) ρ Q := by
  obtain ⟨fl, ρ', e, q⟩ := r
  exact ⟨fl, ρ', (mSeq_nx h).trans e, q⟩
theorem run_seq_ret {f : M Rv} {r : Rv} (h : f ρ = .ok r ρ1) (q : Q (.rt r) ρ1) : Run (mSeq (mRet f) m2) ρ Q :=
  ⟨.rt r, ρ1, mSeq_rt (by rw [q_mRet, h]; rfl), q⟩
theorem run_ret {f : M Rv} {r : Rv} (h : f ρ = .ok r ρ1) (q : Q (.rt r) ρ1) : Run (mRet f) ρ Q :=
  ⟨.rt r, ρ1, by rw [q_mRet, h]; rfl, q⟩
theorem run_seq_assoc (h : Run (mSeq a (mSeq b k)) ρ Q) : Run (mSeq (mSeq a b) k) ρ Q := by
  obtain ⟨fl, ρ', e, q⟩ := h
  refine ⟨fl, ρ', ?_, q⟩
  rw [← e]
  simp only [q_mSeq]
  cases a ρ with
  | stuck => rfl
  | ok x ρ1 => cases x <;> simp only [r_seq_n, r_seq_r, r_seq_b, r_seq_c, q_mSeq]
theorem run_seq_skip (h : Run k ρ Q) : Run (mSeq mSkip k) ρ Q := h
theorem run_if_t (h : c ρ = .ok true ρ1) (r : Run a ρ1 Q) : Run (mIf c a b) ρ Q := by
  obtain ⟨fl, ρ', e, q⟩ := r
  exact ⟨fl, ρ', by rw [q_mIf, q_bnd, h]; exact e, q⟩
theorem run_if_f (h : c ρ = .ok false ρ1) (r : Run b ρ1 Q) : Run (mIf c a b) ρ Q := by
  obtain ⟨fl, ρ', e, q⟩ := r
  exact ⟨fl, ρ', by rw [q_mIf, q_bnd, h]; exact e, q⟩
theorem run_seq_if_t (h : c ρ = .ok true ρ1) (r : Run (mSeq a k) ρ1 Q) : Run (mSeq (mIf c a b) k) ρ Q := by
  obtain ⟨fl, ρ', e, q⟩ := r
  exact ⟨fl, ρ', by rw [← e, q_mSeq, q_mIf, q_bnd, h, q_mSeq]; rfl, q⟩
theorem run_seq_if_f (h : c ρ = .ok false ρ1) (r : Run (mSeq b k) ρ1 Q) : Run (mSeq (mIf c a b) k) ρ Q := by
  obtain ⟨fl, ρ', e, q⟩ := r
  exact ⟨fl, ρ', by rw [← e, q_mSeq, q_mIf, q_bnd, h, q_mSeq]; rfl, q⟩
theorem run_seq_brk (q : Q .bk ρ) : Run (mSeq mBrk k) ρ Q := ⟨.bk, ρ, rfl, q⟩
theorem run_seq_cnt (q : Q .ct ρ) : Run (mSeq mCnt k) ρ Q := ⟨.ct, ρ, rfl, q⟩
theorem run_nx (r : Run m ρ fun fl ρ' => fl = .nx ∧ ρ' = ρ1) : m ρ = .ok .nx ρ1 := by
  obtain ⟨fl, ρ', e, rfl, rfl⟩ := r
  exact e
theorem run_nxI {P : Env → Prop} (r : Run m ρ fun fl ρ' => fl = .nx ∧ P ρ') : ∃ ρ', m ρ = .ok .nx ρ' ∧ P ρ' := by
  obtain ⟨fl, ρ', e, rfl, q⟩ := r
  exact ⟨ρ', e, q⟩
end
/-- what a def hands back -/
def flR : Fl → Env → Option Rv
  | .rt r, ρ => resR ρ r
  | .nx, _ => some (.pl (.val .none))
  | _, _ => none
theorem run_evalD {ms : List Md} {nl : Nat} {m : M Fl} {ss io : List Sl} {r : Rv} (h : Run m (ss ++ List.replicate nl .un) fun fl ρ' => flR fl ρ' = some r ∧ ρ'.take ms.length = io) : evalD ms nl m ss = some (r, io) := by
  obtain ⟨fl, ρ', e, h1, rfl⟩ := h
  cases fl with
  | nx => cases h1; exact ev_nx e
  | rt q => exact ev_rt e h1
  | bk => cases h1
  | ct => cases h1
/-! ### loops -/
inductive Ct (S T : Type) where
  | nx (s : S) | bk (s : S) | rt (t : T)
def forP {S T : Type} (f : D → S → Option (Ct S T)) : List D → S → Option (Ct S T)
  | [], s => some (.nx s)
  | x :: xs, s => (f x s).bind fun o => match o with
    | .nx s' => forP f xs s'
    | .bk s' => some (.nx s')
    | .rt t => some (.rt t)
def foldP {S : Type} (f : D → S → Option S) : List D → S → Option S
  | [], s => some s
  | x :: xs, s => (f x s).bind fun s' => foldP f xs s'
def isRt : Fl → Prop
  | .rt _ => True
  | _ => False
/-- where a body ends -/
abbrev ctQ {S T : Type} (I : S → Env → Prop) (Post : T → Fl → Env → Prop) (o : Ct S T) (fl : Fl) (ρ' : Env) : Prop := match o with
  | .nx s' => (fl = .nx ∨ fl = .ct) ∧ I s' ρ'
  | .bk s' => fl = .bk ∧ I s' ρ'
  | .rt r => isRt fl ∧ Post r fl ρ'
abbrev ctE {S T : Type} (I : S → Env → Prop) (Post : T → Fl → Env → Prop) (o : Ct S T) (fl : Fl) (ρ' : Env) : Prop := match o with
  | .nx s' => fl = .nx ∧ I s' ρ'
  | .bk _ => False
  | .rt r => isRt fl ∧ Post r fl ρ'
theorem forGo_cons_ok {t : D → M Unit} {b : M Fl} {d : D} {ds : List D} {ρ ρ1 : Env} (h : t d ρ = .ok () ρ1) : forGo t b (d :: ds) ρ = bnd b (fun fl => match fl with
    | .nx => forGo t b ds
    | .ct => forGo t b ds
    | .bk => PL.ret .nx
    | .rt r => PL.ret (.rt r)) ρ1 := by
  show bnd (t d) _ ρ = _
  rw [bnd_eq h]
  all_goals rfl
theorem forP_run {S T : Type} {t : D → M Unit} {b : M Fl} {f : D → S → Option (Ct S T)} (I : S → Env → Prop) (Post : T → Fl → Env → Prop)
    (hb : ∀ x s ρ o, I s ρ → f x s = some o → ∃ ρ1, t x ρ = .ok () ρ1 ∧ Run b ρ1 (ctQ I Post o)) :
    ∀ (xs : List D) (s : S) (ρ : Env) (o : Ct S T), I s ρ → forP f xs s = some o → Run (forGo t b xs) ρ (ctE I Post o)
  | [], s, ρ, o, hi, h => by cases h; exact ⟨.nx, ρ, rfl, rfl, hi⟩
  | x :: xs, s, ρ, o, hi, h => by
    obtain ⟨o1, h1, h2⟩ := ob h
    obtain ⟨ρ1, e1, fl, ρ2, e2, q⟩ := hb x s ρ o1 hi h1
    cases o1 with
    | nx s' =>
      obtain ⟨hf, hi'⟩ := q
      obtain ⟨fl', ρ3, e3, q3⟩ := forP_run I Post hb xs s' ρ2 o hi' h2
      refine ⟨fl', ρ3, ?_, q3⟩
      rw [forGo_cons_ok e1, bnd_eq e2]
      rcases hf with rfl | rfl <;> exact e3
    | bk s' =>
      obtain ⟨rfl, hi'⟩ := q
      cases h2
      exact ⟨.nx, ρ2, by rw [forGo_cons_ok e1, bnd_eq e2]; rfl, rfl, hi'⟩
    | rt r =>
      obtain ⟨hf, hq⟩ := q
      cases h2
      cases fl with
      | rt r' => exact ⟨.rt r', ρ2, by rw [forGo_cons_ok e1, bnd_eq e2]; rfl, trivial, hq⟩
      | _ => exact hf.elim
theorem foldP_run {S : Type} {t : D → M Unit} {b : M Fl} {f : D → S → Option S} (I : S → Env → Prop)
    (hb : ∀ x s ρ s', I s ρ → f x s = some s' → ∃ ρ1, t x ρ = .ok () ρ1 ∧ Run b ρ1 fun fl ρ' => (fl = .nx ∨ fl = .ct) ∧ I s' ρ') :
    ∀ (xs : List D) (s : S) (ρ : Env) (s' : S), I s ρ → foldP f xs s = some s' → ∃ ρ', forGo t b xs ρ = .ok .nx ρ' ∧ I s' ρ'
  | [], s, ρ, s', hi, h => by cases h; exact ⟨ρ, rfl, hi⟩
  | x :: xs, s, ρ, s', hi, h => by
    obtain ⟨s1, h1, h2⟩ := ob h
    obtain ⟨ρ1, e1, fl, ρ2, e2, hf, hi'⟩ := hb x s ρ s1 hi h1
    obtain ⟨ρ3, e3, q3⟩ := foldP_run I hb xs s1 ρ2 s' hi' h2
    refine ⟨ρ3, ?_, q3⟩
    rw [forGo_cons_ok e1, bnd_eq e2]
    rcases hf with rfl | rfl <;> exact e3
theorem run_for_nx {fi : M (List D)} {t : D → M Unit} {b : M Fl} {ρ ρ1 : Env} {xs : List D} {P : Env → Prop} (h : fi ρ = .ok xs ρ1) (r : ∃ ρ', forGo t b xs ρ1 = .ok .nx ρ' ∧ P ρ') : ∃ ρ', mFor fi t b ρ = .ok .nx ρ' ∧ P ρ' := by
  obtain ⟨ρ', e, p⟩ := r
  exact ⟨ρ', (mFor_ok h).trans e, p⟩
theorem run_for {fi : M (List D)} {t : D → M Unit} {b : M Fl} {ρ ρ1 : Env} {xs : List D} {Q : Fl → Env → Prop} (h : fi ρ = .ok xs ρ1) (r : Run (forGo t b xs) ρ1 Q) : Run (mFor fi t b) ρ Q := by
  obtain ⟨fl, ρ', e, p⟩ := r
  exact ⟨fl, ρ', (mFor_ok h).trans e, p⟩
/-- behind a loop that may hand back -/
theorem run_seq_ct {S T : Type} {m k : M Fl} {ρ : Env} {I : S → Env → Prop} {Post : T → Fl → Env → Prop} {o : Ct S T} {Q : Fl → Env → Prop} (r : Run m ρ (ctE I Post o))
    (hr : ∀ t fl ρ', o = .rt t → isRt fl → Post t fl ρ' → Q fl ρ') (hn : ∀ s ρ', o = .nx s → I s ρ' → Run k ρ' Q) : Run (mSeq m k) ρ Q := by
  obtain ⟨fl, ρ', e, q⟩ := r
  cases o with
  | nx s =>
    obtain ⟨rfl, hi⟩ := q
    exact run_seq e (hn s ρ' rfl hi)
  | bk s => exact q.elim
  | rt t =>
    obtain ⟨hf, hq⟩ := q
    cases fl with
    | rt r => exact ⟨.rt r, ρ', mSeq_rt e, hr t _ ρ' rfl hf hq⟩
    | _ => exact hf.elim
theorem run_ct {S T : Type} {m : M Fl} {ρ : Env} {I : S → Env → Prop} {Post : T → Fl → Env → Prop} {o : Ct S T} {Q : Fl → Env → Prop} (r : Run m ρ (ctE I Post o))
    (hr : ∀ t fl ρ', o = .rt t → isRt fl → Post t fl ρ' → Q fl ρ') (hn : ∀ s ρ', o = .nx s → I s ρ' → Q .nx ρ') : Run m ρ Q := by
  obtain ⟨fl, ρ', e, q⟩ := r
  cases o with
  | nx s => obtain ⟨rfl, hi⟩ := q; exact ⟨.nx, ρ', e, hn s ρ' rfl hi⟩
  | bk s => exact q.elim
  | rt t => obtain ⟨hf, hq⟩ := q; exact ⟨fl, ρ', e, hr t fl ρ' rfl hf hq⟩
def ctB0 { T γ : Type} (o : Option (Ct (Unit) T)) (g : T → Option γ) (f : Unit → Option γ) : Option γ := match o with
  | some (.nx ()) => f ()
  | some (.rt t) => g t
  | _ => none
theorem ctB0_nx { T γ : Type} (g : T → Option γ) (f : Unit → Option γ) : ctB0 (some (.nx ())) g f = f () := rfl
theorem ctB0_rt { T γ : Type} (g : T → Option γ) (f : Unit → Option γ) (t : T) : ctB0 (some (.rt t)) g f = g t := rfl
theorem obct0 { T γ : Type} {o : Option (Ct (Unit) T)} {g : T → Option γ} {f : Unit → Option γ} {r : γ} (h : ctB0 o g f = some r) :
    ∃ c, o = some c ∧ ((∃ t, c = .rt t ∧ g t = some r) ∨ (c = .nx () ∧ f () = some r)) := by
  cases o with
  | none => cases h
  | some c => cases c with
    | nx s => exact ⟨_, rfl, .inr ⟨rfl, h⟩⟩
    | bk s => cases h
    | rt t => exact ⟨_, rfl, .inl ⟨t, rfl, h⟩⟩
def ctB1 {α1 T γ : Type} (o : Option (Ct (α1) T)) (g : T → Option γ) (f : α1 → Option γ) : Option γ := match o with
  | some (.nx x1) => f x1
  | some (.rt t) => g t
  | _ => none
theorem ctB1_nx {α1 T γ : Type} (g : T → Option γ) (f : α1 → Option γ) (x1 : α1) : ctB1 (some (.nx x1)) g f = f x1 := rfl
theorem ctB1_rt {α1 T γ : Type} (g : T → Option γ) (f : α1 → Option γ) (t : T) : ctB1 (some (.rt t)) g f = g t := rfl
theorem obct1 {α1 T γ : Type} {o : Option (Ct (α1) T)} {g : T → Option γ} {f : α1 → Option γ} {r : γ} (h : ctB1 o g f = some r) :
    ∃ c, o = some c ∧ ((∃ t, c = .rt t ∧ g t = some r) ∨ (∃ x1, c = .nx x1 ∧ f x1 = some r)) := by
  cases o with
  | none => cases h
  | some c => cases c with
    | nx s => exact ⟨_, rfl, .inr ⟨_, rfl, h⟩⟩
    | bk s => cases h
    | rt t => exact ⟨_, rfl, .inl ⟨t, rfl, h⟩⟩
def ctB2 {α1 α2 T γ : Type} (o : Option (Ct (α1 × α2) T)) (g : T → Option γ) (f : α1 → α2 → Option γ) : Option γ := match o with
  | some (.nx (x1, x2)) => f x1 x2
  | some (.rt t) => g t
  | _ => none
theorem ctB2_nx {α1 α2 T γ : Type} (g : T → Option γ) (f : α1 → α2 → Option γ) (x1 : α1) (x2 : α2) : ctB2 (some (.nx (x1, x2))) g f = f x1 x2 := rfl
theorem ctB2_rt {α1 α2 T γ : Type} (g : T → Option γ) (f : α1 → α2 → Option γ) (t : T) : ctB2 (some (.rt t)) g f = g t := rfl
theorem obct2 {α1 α2 T γ : Type} {o : Option (Ct (α1 × α2) T)} {g : T → Option γ} {f : α1 → α2 → Option γ} {r : γ} (h : ctB2 o g f = some r) :
    ∃ c, o = some c ∧ ((∃ t, c = .rt t ∧ g t = some r) ∨ (∃ x1 x2, c = .nx (x1, x2) ∧ f x1 x2 = some r)) := by
  cases o with
  | none => cases h
  | some c => cases c with
    | nx s => exact ⟨_, rfl, .inr ⟨_, _, rfl, h⟩⟩
    | bk s => cases h
    | rt t => exact ⟨_, rfl, .inl ⟨t, rfl, h⟩⟩
def ctB3 {α1 α2 α3 T γ : Type} (o : Option (Ct (α1 × α2 × α3) T)) (g : T → Option γ) (f : α1 → α2 → α3 → Option γ) : Option γ := match o with
  | some (.nx (x1, x2, x3)) => f x1 x2 x3
  | some (.rt t) => g t
  | _ => none
theorem ctB3_nx {α1 α2 α3 T γ : Type} (g : T → Option γ) (f : α1 → α2 → α3 → Option γ) (x1 : α1) (x2 : α2) (x3 : α3) : ctB3 (some (.nx (x1, x2, x3))) g f = f x1 x2 x3 := rfl
theorem ctB3_rt {α1 α2 α3 T γ : Type} (g : T → Option γ) (f : α1 → α2 → α3 → Option γ) (t : T) : ctB3 (some (.rt t)) g f = g t := rfl
theorem obct3 {α1 α2 α3 T γ : Type} {o : Option (Ct (α1 × α2 × α3) T)} {g : T → Option γ} {f : α1 → α2 → α3 → Option γ} {r : γ} (h : ctB3 o g f = some r) :
    ∃ c, o = some c ∧ ((∃ t, c = .rt t ∧ g t = some r) ∨ (∃ x1 x2 x3, c = .nx (x1, x2, x3) ∧ f x1 x2 x3 = some r)) := by
  cases o with
  | none => cases h
  | some c => cases c with
    | nx s => exact ⟨_, rfl, .inr ⟨_, _, _, rfl, h⟩⟩
    | bk s => cases h
    | rt t => exact ⟨_, rfl, .inl ⟨t, rfl, h⟩⟩
def ctB4 {α1 α2 α3 α4 T γ : Type} (o : Option (Ct (α1 × α2 × α3 × α4) T)) (g : T → Option γ) (f : α1 → α2 → α3 → α4 → Option γ) : Option γ := match o with
  | some (.nx (x1, x2, x3, x4)) => f x1 x2 x3 x4
  | some (.rt t) => g t
  | _ => none
theorem ctB4_nx {α1 α2 α3 α4 T γ : Type} (g : T → Option γ) (f : α1 → α2 → α3 → α4 → Option γ) (x1 : α1) (x2 : α2) (x3 : α3) (x4 : α4) : ctB4 (some (.nx (x1, x2, x3, x4))) g f = f x1 x2 x3 x4 := rfl
theorem ctB4_rt {α1 α2 α3 α4 T γ : Type} (g : T → Option γ) (f : α1 → α2 → α3 → α4 → Option γ) (t : T) : ctB4 (some (.rt t)) g f = g t := rfl
theorem obct4 {α1 α2 α3 α4 T γ : Type} {o : Option (Ct (α1 × α2 × α3 × α4) T)} {g : T → Option γ} {f : α1 → α2 → α3 → α4 → Option γ} {r : γ} (h : ctB4 o g f = some r) :
    ∃ c, o = some c ∧ ((∃ t, c = .rt t ∧ g t = some r) ∨ (∃ x1 x2 x3 x4, c = .nx (x1, x2, x3, x4) ∧ f x1 x2 x3 x4 = some r)) := by
  cases o with
  | none => cases h
  | some c => cases c with
    | nx s => exact ⟨_, rfl, .inr ⟨_, _, _, _, rfl, h⟩⟩
    | bk s => cases h
    | rt t => exact ⟨_, rfl, .inl ⟨t, rfl, h⟩⟩
def ctB5 {α1 α2 α3 α4 α5 T γ : Type} (o : Option (Ct (α1 × α2 × α3 × α4 × α5) T)) (g : T → Option γ) (f : α1 → α2 → α3 → α4 → α5 → Option γ) : Option γ := match o with
  | some (.nx (x1, x2, x3, x4, x5)) => f x1 x2 x3 x4 x5
  | some (.rt t) => g t
  | _ => none
theorem ctB5_nx {α1 α2 α3 α4 α5 T γ : Type} (g : T → Option γ) (f : α1 → α2 → α3 → α4 → α5 → Option γ) (x1 : α1) (x2 : α2) (x3 : α3) (x4 : α4) (x5 : α5) : ctB5 (some (.nx (x1, x2, x3, x4, x5))) g f = f x1 x2 x3 x4 x5 := rfl
theorem ctB5_rt {α1 α2 α3 α4 α5 T γ : Type} (g : T → Option γ) (f : α1 → α2 → α3 → α4 → α5 → Option γ) (t : T) : ctB5 (some (.rt t)) g f = g t := rfl
theorem obct5 {α1 α2 α3 α4 α5 T γ : Type} {o : Option (Ct (α1 × α2 × α3 × α4 × α5) T)} {g : T → Option γ} {f : α1 → α2 → α3 → α4 → α5 → Option γ} {r : γ} (h : ctB5 o g f = some r) :
    ∃ c, o = some c ∧ ((∃ t, c = .rt t ∧ g t = some r) ∨ (∃ x1 x2 x3 x4 x5, c = .nx (x1, x2, x3, x4, x5) ∧ f x1 x2 x3 x4 x5 = some r)) := by
  cases o with
  | none => cases h
  | some c => cases c with
    | nx s => exact ⟨_, rfl, .inr ⟨_, _, _, _, _, rfl, h⟩⟩
    | bk s => cases h
    | rt t => exact ⟨_, rfl, .inl ⟨t, rfl, h⟩⟩
def ctB6 {α1 α2 α3 α4 α5 α6 T γ : Type} (o : Option (Ct (α1 × α2 × α3 × α4 × α5 × α6) T)) (g : T → Option γ) (f : α1 → α2 → α3 → α4 → α5 → α6 → Option γ) : Option γ := match o with
  | some (.nx (x1, x2, x3, x4, x5, x6)) => f x1 x2 x3 x4 x5 x6
  | some (.rt t) => g t
  | _ => none
theorem ctB6_nx {α1 α2 α3 α4 α5 α6 T γ : Type} (g : T → Option γ) (f : α1 → α2 → α3 → α4 → α5 → α6 → Option γ) (x1 : α1) (x2 : α2) (x3 : α3) (x4 : α4) (x5 : α5) (x6 : α6) : ctB6 (some (.nx (x1, x2, x3, x4, x5, x6))) g f = f x1 x2 x3 x4 x5 x6 := rfl
theorem ctB6_rt {α1 α2 α3 α4 α5 α6 T γ : Type} (g : T → Option γ) (f : α1 → α2 → α3 → α4 → α5 → α6 → Option γ) (t : T) : ctB6 (some (.rt t)) g f = g t := rfl
theorem obct6 {α1 α2 α3 α4 α5 α6 T γ : Type} {o : Option (Ct (α1 × α2 × α3 × α4 × α5 × α6) T)} {g : T → Option γ} {f : α1 → α2 → α3 → α4 → α5 → α6 → Option γ} {r : γ} (h : ctB6 o g f = some r) :
    ∃ c, o = some c ∧ ((∃ t, c = .rt t ∧ g t = some r) ∨ (∃ x1 x2 x3 x4 x5 x6, c = .nx (x1, x2, x3, x4, x5, x6) ∧ f x1 x2 x3 x4 x5 x6 = some r)) := by
  cases o with
  | none => cases h
  | some c => cases c with
    | nx s => exact ⟨_, rfl, .inr ⟨_, _, _, _, _, _, rfl, h⟩⟩
    | bk s => cases h
    | rt t => exact ⟨_, rfl, .inl ⟨t, rfl, h⟩⟩
def ctB7 {α1 α2 α3 α4 α5 α6 α7 T γ : Type} (o : Option (Ct (α1 × α2 × α3 × α4 × α5 × α6 × α7) T)) (g : T → Option γ) (f : α1 → α2 → α3 → α4 → α5 → α6 → α7 → Option γ) : Option γ := match o with
  | some (.nx (x1, x2, x3, x4, x5, x6, x7)) => f x1 x2 x3 x4 x5 x6 x7
  | some (.rt t) => g t
  | _ => none
theorem ctB7_nx {α1 α2 α3 α4 α5 α6 α7 T γ : Type} (g : T → Option γ) (f : α1 → α2 → α3 → α4 → α5 → α6 → α7 → Option γ) (x1 : α1) (x2 : α2) (x3 : α3) (x4 : α4) (x5 : α5) (x6 : α6) (x7 : α7) : ctB7 (some (.nx (x1, x2, x3, x4, x5, x6, x7))) g f = f x1 x2 x3 x4 x5 x6 x7 := rfl
theorem ctB7_rt {α1 α2 α3 α4 α5 α6 α7 T γ : Type} (g : T → Option γ) (f : α1 → α2 → α3 → α4 → α5 → α6 → α7 → Option γ) (t : T) : ctB7 (some (.rt t)) g f = g t := rfl
theorem obct7 {α1 α2 α3 α4 α5 α6 α7 T γ : Type} {o : Option (Ct (α1 × α2 × α3 × α4 × α5 × α6 × α7) T)} {g : T → Option γ} {f : α1 → α2 → α3 → α4 → α5 → α6 → α7 → Option γ} {r : γ} (h : ctB7 o g f = some r) :
    ∃ c, o = some c ∧ ((∃ t, c = .rt t ∧ g t = some r) ∨ (∃ x1 x2 x3 x4 x5 x6 x7, c = .nx (x1, x2, x3, x4, x5, x6, x7) ∧ f x1 x2 x3 x4 x5 x6 x7 = some r)) := by
  cases o with
  | none => cases h
  | some c => cases c with
    | nx s => exact ⟨_, rfl, .inr ⟨_, _, _, _, _, _, _, rfl, h⟩⟩
    | bk s => cases h
    | rt t => exact ⟨_, rfl, .inl ⟨t, rfl, h⟩⟩
def ctB8 {α1 α2 α3 α4 α5 α6 α7 α8 T γ : Type} (o : Option (Ct (α1 × α2 × α3 × α4 × α5 × α6 × α7 × α8) T)) (g : T → Option γ) (f : α1 → α2 → α3 → α4 → α5 → α6 → α7 → α8 → Option γ) : Option γ := match o with
  | some (.nx (x1, x2, x3, x4, x5, x6, x7, x8)) => f x1 x2 x3 x4 x5 x6 x7 x8
  | some (.rt t) => g t
  | _ => none
theorem ctB8_nx {α1 α2 α3 α4 α5 α6 α7 α8 T γ : Type} (g : T → Option γ) (f : α1 → α2 → α3 → α4 → α5 → α6 → α7 → α8 → Option γ) (x1 : α1) (x2 : α2) (x3 : α3) (x4 : α4) (x5 : α5) (x6 : α6) (x7 : α7) (x8 : α8) : ctB8 (some (.nx (x1, x2, x3, x4, x5, x6, x7, x8))) g f = f x1 x2 x3 x4 x5 x6 x7 x8 := rfl
theorem ctB8_rt {α1 α2 α3 α4 α5 α6 α7 α8 T γ : Type} (g : T → Option γ) (f : α1 → α2 → α3 → α4 → α5 → α6 → α7 → α8 → Option γ) (t : T) : ctB8 (some (.rt t)) g f = g t := rfl
theorem obct8 {α1 α2 α3 α4 α5 α6 α7 α8 T γ : Type} {o : Option (Ct (α1 × α2 × α3 × α4 × α5 × α6 × α7 × α8) T)} {g : T → Option γ} {f : α1 → α2 → α3 → α4 → α5 → α6 → α7 → α8 → Option γ} {r : γ} (h : ctB8 o g f = some r) :
    ∃ c, o = some c ∧ ((∃ t, c = .rt t ∧ g t = some r) ∨ (∃ x1 x2 x3 x4 x5 x6 x7 x8, c = .nx (x1, x2, x3, x4, x5, x6, x7, x8) ∧ f x1 x2 x3 x4 x5 x6 x7 x8 = some r)) := by
  cases o with
  | none => cases h
  | some c => cases c with
    | nx s => exact ⟨_, rfl, .inr ⟨_, _, _, _, _, _, _, _, rfl, h⟩⟩
    | bk s => cases h
    | rt t => exact ⟨_, rfl, .inl ⟨t, rfl, h⟩⟩
def ctB9 {α1 α2 α3 α4 α5 α6 α7 α8 α9 T γ : Type} (o : Option (Ct (α1 × α2 × α3 × α4 × α5 × α6 × α7 × α8 × α9) T)) (g : T → Option γ) (f : α1 → α2 → α3 → α4 → α5 → α6 → α7 → α8 → α9 → Option γ) : Option γ := match o with
  | some (.nx (x1, x2, x3, x4, x5, x6, x7, x8, x9)) => f x1 x2 x3 x4 x5 x6 x7 x8 x9
  | some (.rt t) => g t
  | _ => none
theorem ctB9_nx {α1 α2 α3 α4 α5 α6 α7 α8 α9 T γ : Type} (g : T → Option γ) (f : α1 → α2 → α3 → α4 → α5 → α6 → α7 → α8 → α9 → Option γ) (x1 : α1) (x2 : α2) (x3 : α3) (x4 : α4) (x5 : α5) (x6 : α6) (x7 : α7) (x8 : α8) (x9 : α9) : ctB9 (some (.nx (x1, x2, x3, x4, x5, x6, x7, x8, x9))) g f = f x1 x2 x3 x4 x5 x6 x7 x8 x9 := rfl
theorem ctB9_rt {α1 α2 α3 α4 α5 α6 α7 α8 α9 T γ : Type} (g : T → Option γ) (f : α1 → α2 → α3 → α4 → α5 → α6 → α7 → α8 → α9 → Option γ) (t : T) : ctB9 (some (.rt t)) g f = g t := rfl
theorem obct9 {α1 α2 α3 α4 α5 α6 α7 α8 α9 T γ : Type} {o : Option (Ct (α1 × α2 × α3 × α4 × α5 × α6 × α7 × α8 × α9) T)} {g : T → Option γ} {f : α1 → α2 → α3 → α4 → α5 → α6 → α7 → α8 → α9 → Option γ} {r : γ} (h : ctB9 o g f = some r) :
    ∃ c, o = some c ∧ ((∃ t, c = .rt t ∧ g t = some r) ∨ (∃ x1 x2 x3 x4 x5 x6 x7 x8 x9, c = .nx (x1, x2, x3, x4, x5, x6, x7, x8, x9) ∧ f x1 x2 x3 x4 x5 x6 x7 x8 x9 = some r)) := by
  cases o with
  | none => cases h
  | some c => cases c with
    | nx s => exact ⟨_, rfl, .inr ⟨_, _, _, _, _, _, _, _, _, rfl, h⟩⟩
    | bk s => cases h
    | rt t => exact ⟨_, rfl, .inl ⟨t, rfl, h⟩⟩
/-! ### while -/
def whP {S T : Type} (c : S → Option Bool) (f : S → Option (Ct S T)) : Nat → S → Option (Ct S T)
  | 0, _ => none
  | n + 1, s => (c s).bind fun k => if k = true then (f s).bind fun o => match o with
    | .nx s' => whP c f n s'
    | .bk s' => some (.nx s')
    | .rt t => some (.rt t)
    else some (.nx s)
theorem whP_run {S T : Type} {mc : M Bool} {b : M Fl} {c : S → Option Bool} {f : S → Option (Ct S T)} (I : S → Env → Prop) (Post : T → Fl → Env → Prop)
    (hc : ∀ s ρ k, I s ρ → c s = some k → ∃ ρ1, mc ρ = .ok k ρ1 ∧ I s ρ1) (hb : ∀ s ρ o, I s ρ → c s = some true → f s = some o → Run b ρ (ctQ I Post o)) :
    ∀ (n : Nat) (s : S) (ρ : Env) (o : Ct S T), I s ρ → whP c f n s = some o → Run (whGo mc b n) ρ (ctE I Post o)
  | 0, _, _, _, _, h => by cases h
  | n + 1, s, ρ, o, hi, h => by
    obtain ⟨k, h1, h2⟩ := ob h
    obtain ⟨ρ1, e1, hi1⟩ := hc s ρ k hi h1
    cases k with
    | false =>
      rw [if_neg Bool.false_ne_true] at h2
      cases h2
      exact ⟨.nx, ρ1, by show bnd mc _ ρ = _; rw [bnd_eq e1]; rfl, rfl, hi1⟩
    | true =>
      rw [if_pos rfl] at h2
      obtain ⟨o1, h3, h4⟩ := ob h2
      obtain ⟨fl, ρ2, e2, q⟩ := hb s ρ1 o1 hi1 h1 h3
      have go : whGo mc b (n + 1) ρ = bnd b (fun fl => match fl with
        | .nx => whGo mc b n
        | .ct => whGo mc b n
        | .bk => PL.ret .nx
        | .rt r => PL.ret (.rt r)) ρ1 := by
        show bnd mc _ ρ = _
        rw [bnd_eq e1, if_pos rfl]
        all_goals rfl
      cases o1 with
      | nx s' =>
        obtain ⟨hf, hi'⟩ := q
        obtain ⟨fl', ρ3, e3, q3⟩ := whP_run I Post hc hb n s' ρ2 o hi' h4
        refine ⟨fl', ρ3, ?_, q3⟩
        rw [go, bnd_eq e2]
        rcases hf with rfl | rfl <;> exact e3
      | bk s' =>
        obtain ⟨rfl, hi'⟩ := q
        cases h4
        exact ⟨.nx, ρ2, by rw [go, bnd_eq e2]; rfl, rfl, hi'⟩
      | rt r =>
        obtain ⟨hf, hq⟩ := q
        cases h4
        cases fl with
        | rt r' => exact ⟨.rt r', ρ2, by rw [go, bnd_eq e2]; rfl, trivial, hq⟩
        | _ => exact hf.elim
theorem run_while {mc : M Bool} {b : M Fl} {n : Nat} {ρ : Env} {Q : Fl → Env → Prop} (r : Run (whGo mc b n) ρ Q) : Run (mWhile (fun _ => n) mc b) ρ Q := r
/-! ### comprehensions -/
def lcP {S : Type} (f : D → S → Option (Option D × S)) : List D → S → Option (List D × S)
  | [], s => some ([], s)
  | x :: xs, s => (f x s).bind fun (o, s') => (lcP f xs s').bind fun (out, s2) => match o with
    | some y => some (y :: out, s2)
    | none => some (out, s2)
def lcT {S : Type} (f : D → S → Option (Option D × S)) (xs : List D) (s : S) : Option (List D × S) := (lcP f xs s).bind fun os => if os.1.length ≤ 100000 then some os else none
def mapP (f : D → Option D) : List D → Option (List D)
  | [] => some []
  | x :: xs => (f x).bind fun y => (mapP f xs).bind fun ys => some (y :: ys)
def filP (f : D → Option (Option D)) : List D → Option (List D)
  | [] => some []
  | x :: xs => (f x).bind fun o => (filP f xs).bind fun ys => match o with
    | some y => some (y :: ys)
    | none => some ys
def mapT (f : D → Option D) (xs : List D) : Option (List D) := (mapP f xs).bind fun ys => if ys.length ≤ 100000 then some ys else none
def filT (f : D → Option (Option D)) (xs : List D) : Option (List D) := (filP f xs).bind fun ys => if ys.length ≤ 100000 then some ys else none
/-- where an item of a comprehension ends -/
abbrev lcQ (c : M Bool) (fe : M D) (vs : List Nat) (I : Env → Prop) (ρ1 ρ2 : Env) (o : Option D) : Prop := match o with
  | some y => ∃ ρ3, c ρ1 = .ok true ρ2 ∧ fe ρ2 = .ok y ρ3 ∧ I (wipeE ρ3 vs)
  | none => c ρ1 = .ok false ρ2 ∧ I (wipeE ρ2 vs)
theorem lcP_run {S : Type} {t : D → M Unit} {vs : List Nat} {c : M Bool} {fe : M D} {f : D → S → Option (Option D × S)} (I : S → Env → Prop)
    (hb : ∀ x s ρ o s', I s ρ → f x s = some (o, s') → ∃ ρ1 ρ2, t x ρ = .ok () ρ1 ∧ lcQ c fe vs (I s') ρ1 ρ2 o) :
    ∀ (xs acc : List D) (s : S) (ρ : Env) (out : List D) (s' : S), I s ρ → lcP f xs s = some (out, s') → acc.length + out.length ≤ 100000 → ∃ ρ', lcGo t vs c fe acc xs ρ = .ok (acc ++ out) ρ' ∧ I s' ρ'
  | [], acc, s, ρ, out, s', hi, h, _ => by cases h; exact ⟨ρ, by rw [List.append_nil]; rfl, hi⟩
  | x :: xs, acc, s, ρ, out, s', hi, h, hl => by
    obtain ⟨⟨o, s1⟩, h1, h2⟩ := ob h
    obtain ⟨⟨out1, s2⟩, h3, h4⟩ := ob h2
    obtain ⟨ρ1, ρ2, e1, q⟩ := hb x s ρ o s1 hi h1
    cases o with
    | none =>
      cases h4
      obtain ⟨e2, hi'⟩ := q
      obtain ⟨ρ4, e4, hi4⟩ := lcP_run I hb xs acc s1 _ _ _ hi' h3 hl
      refine ⟨ρ4, ?_, hi4⟩
      show bnd (t x) _ ρ = _
      rw [bnd_eq e1, bnd_eq e2]
      exact e4
    | some y =>
      cases h4
      obtain ⟨ρ3, e2, e3, hi'⟩ := q
      rw [List.length_cons] at hl
      obtain ⟨ρ4, e4, hi4⟩ := lcP_run I hb xs (acc ++ [y]) s1 _ _ _ hi' h3 (by rw [List.length_append, List.length_cons, List.length_nil]; omega)
      refine ⟨ρ4, ?_, hi4⟩
      show bnd (t x) _ ρ = _
      rw [bnd_eq e1, bnd_eq e2, if_pos rfl, bnd_eq e3, if_pos (by omega)]
      rw [List.append_assoc] at e4
      exact e4
theorem lcT_run {S : Type} {fi : M (List D)} {t : D → M Unit} {vs : List Nat} {c : M Bool} {fe : M D} {f : D → S → Option (Option D × S)} (I : S → Env → Prop)
    {ρ0 ρ1 : Env} {xs : List D} {s : S} {out : List D} {s' : S} (h0 : fi ρ0 = .ok xs ρ1) (hi : I s (wipeE ρ1 vs)) (h : lcT f xs s = some (out, s'))
    (hb : ∀ x s ρ o s', I s ρ → f x s = some (o, s') → ∃ ρ1 ρ2, t x ρ = .ok () ρ1 ∧ lcQ c fe vs (I s') ρ1 ρ2 o) : ∃ ρ', mLc fi t vs c fe ρ0 = .ok (.fr (.list out)) (restE ρ1 ρ' vs) ∧ I s' ρ' := by
  obtain ⟨⟨o1, s1⟩, h1, h2⟩ := ob h
  simp only at h2
  split at h2
  · cases h2
    obtain ⟨ρ', e, q⟩ := lcP_run I hb xs [] s (wipeE ρ1 vs) out s' hi h1 (by simpa using ‹_›)
    exact ⟨ρ', mLc_ok h0 e, q⟩
  · cases h2
theorem mapP_lc (f : D → Option D) : ∀ (xs out : List D), mapP f xs = some out → lcP (S := Unit) (fun x _ => (f x).map fun y => (some y, ())) xs () = some (out, ())
  | [], out, h => by cases h; rfl
  | x :: xs, out, h => by
    obtain ⟨y, h1, h2⟩ := ob h
    obtain ⟨ys, h3, h4⟩ := ob h2
    cases h4
    have := mapP_lc f xs ys h3
    simp only [lcP, h1, this, Option.map_some, Option.bind_some]
theorem filP_lc (f : D → Option (Option D)) : ∀ (xs out : List D), filP f xs = some out → lcP (S := Unit) (fun x _ => (f x).map fun y => (y, ())) xs () = some (out, ())
  | [], out, h => by cases h; rfl
  | x :: xs, out, h => by
    obtain ⟨y, h1, h2⟩ := ob h
    obtain ⟨ys, h3, h4⟩ := ob h2
    have := filP_lc f xs ys h3
    cases y <;> cases h4 <;> simp only [lcP, h1, this, Option.map_some, Option.bind_some]
theorem mapT_run {fi : M (List D)} {t : D → M Unit} {vs : List Nat} {c : M Bool} {fe : M D} {f : D → Option D} (I : Env → Prop)
    {ρ0 ρ1 : Env} {xs : List D} {out : List D} (h0 : fi ρ0 = .ok xs ρ1) (hi : I (wipeE ρ1 vs)) (h : mapT f xs = some out)
    (hb : ∀ x ρ y, I ρ → f x = some y → ∃ ρ1 ρ2 ρ3, t x ρ = .ok () ρ1 ∧ c ρ1 = .ok true ρ2 ∧ fe ρ2 = .ok y ρ3 ∧ I (wipeE ρ3 vs)) : ∃ ρ', mLc fi t vs c fe ρ0 = .ok (.fr (.list out)) (restE ρ1 ρ' vs) ∧ I ρ' := by
  obtain ⟨ys, h1, h2⟩ := ob h
  have hl : ys.length ≤ 100000 := by
    split at h2
    · assumption
    · cases h2
  rw [if_pos hl] at h2
  cases h2
  refine lcT_run (S := Unit) (fun _ ρ => I ρ) h0 hi (s' := ()) (s := ()) (by unfold lcT; rw [mapP_lc f xs out h1, Option.bind_some]; exact if_pos hl) fun x s ρ o s' hi' hf => ?_
  cases hfx : f x with
  | none => rw [hfx] at hf; cases hf
  | some y =>
    rw [hfx] at hf
    cases hf
    obtain ⟨ρa, ρb, ρc, e1, e2, e3, q⟩ := hb x ρ y hi' hfx
    exact ⟨ρa, ρb, e1, ρc, e2, e3, q⟩
theorem filT_run {fi : M (List D)} {t : D → M Unit} {vs : List Nat} {c : M Bool} {fe : M D} {f : D → Option (Option D)} (I : Env → Prop)
    {ρ0 ρ1 : Env} {xs : List D} {out : List D} (h0 : fi ρ0 = .ok xs ρ1) (hi : I (wipeE ρ1 vs)) (h : filT f xs = some out)
    (hb : ∀ x ρ o, I ρ → f x = some o → ∃ ρ1 ρ2, t x ρ = .ok () ρ1 ∧ lcQ c fe vs I ρ1 ρ2 o) : ∃ ρ', mLc fi t vs c fe ρ0 = .ok (.fr (.list out)) (restE ρ1 ρ' vs) ∧ I ρ' := by
  obtain ⟨ys, h1, h2⟩ := ob h
  have hl : ys.length ≤ 100000 := by
    split at h2
    · assumption
    · cases h2
  rw [if_pos hl] at h2
  cases h2
  refine lcT_run (S := Unit) (fun _ ρ => I ρ) h0 hi (s' := ()) (s := ()) (by unfold lcT; rw [filP_lc f xs out h1, Option.bind_some]; exact if_pos hl) fun x s ρ o s' hi' hf => ?_
  cases hfx : f x with
  | none => rw [hfx] at hf; cases hf
  | some y =>
    rw [hfx] at hf
    cases hf
    exact hb x ρ _ hi' hfx
end PL
/-! PL22: dicts with numbers as keys -/
namespace PL
open PySem PySem.Spec L2 RT RZ
variable [Kap]
def isKI : D → Int → Bool
  | .int j, i => decide (j = i)
  | _, _ => false
def lookD : List (D × D) → Int → Option D
  | [], _ => none
  | (k, d) :: r, i => if isKI k i = true then some d else lookD r i
def putD (ks : List (D × D)) (i : Int) (d : D) : List (D × D) := if (ks.any fun kv => isKI kv.1 i) = true then ks.map (fun kv => if isKI kv.1 i = true then (kv.1, d) else kv) else ks ++ [(.int i, d)]
theorem isKI_key (k : Key) (i : Int) : isKI (keyD k) i = decide (k = .inl i) := by
  cases k with
  | inl j => by_cases h : j = i <;> simp [keyD, isKI, h]
  | inr s => simp [keyD, isKI]
theorem valV_rpk {G : Hp} (i : Int) : ∀ {es : List (Key × V)} {ks : List (D × D)}, RpK G es ks → (∀ d, lookD ks i = some d → ∃ v, valV es (.inl i) = some v ∧ Rp G v d) ∧ (lookD ks i = none → valV es (.inl i) = none)
  | _, _, .nil => ⟨fun d h => (nomatch h), fun _ => rfl⟩
  | _, _, .cons (k := k) (v := v) (es := es) (d := d) (ks := ks) r rs => by
    have ih := valV_rpk i rs
    have hv : valV ((k, v) :: es) (.inl i) = if decide (k = .inl i) = true then some v else valV es (.inl i) := by
      unfold valV
      rw [List.find?_cons]
      cases decide (k = .inl i) <;> rfl
    unfold lookD
    rw [isKI_key, hv]
    cases decide (k = .inl i) with
    | true => exact ⟨fun d' h => ⟨v, rfl, by cases h; exact r⟩, fun h => by cases h⟩
    | false => exact ih
theorem any_rpk {G : Hp} (i : Int) : ∀ {es : List (Key × V)} {ks : List (D × D)}, RpK G es ks → (es.any fun kv => decide (kv.1 = .inl i)) = ks.any fun kv => isKI kv.1 i
  | _, _, .nil => rfl
  | _, _, .cons r rs => by rw [List.any_cons, List.any_cons, any_rpk i rs, isKI_key]
theorem map_rpk {G : Hp} (i : Int) {y : V} {x : D} (ry : Rp G y x) : ∀ {es : List (Key × V)} {ks : List (D × D)}, RpK G es ks → RpK G (es.map fun kv => if kv.1 = .inl i then (kv.1, y) else kv) (ks.map fun kv => if isKI kv.1 i = true then (kv.1, x) else kv)
  | _, _, .nil => .nil
  | _, _, .cons (k := k) r rs => by
    rw [List.map_cons, List.map_cons]
    dsimp only
    rw [isKI_key]
    by_cases h : k = .inl i
    · rw [if_pos h, if_pos (by simp [h])]; exact .cons ry (map_rpk i ry rs)
    · rw [if_neg h, if_neg (by simp [h])]; exact .cons r (map_rpk i ry rs)
theorem snoc_rpk {G : Hp} {k : Key} {y : V} {x : D} (ry : Rp G y x) : ∀ {es : List (Key × V)} {ks : List (D × D)}, RpK G es ks → RpK G (es ++ [(k, y)]) (ks ++ [(keyD k, x)])
  | _, _, .nil => .cons ry .nil
  | _, _, .cons r rs => .cons r (snoc_rpk ry rs)
theorem put_rpk {G : Hp} (i : Int) {y : V} {x : D} (ry : Rp G y x) {es : List (Key × V)} {ks : List (D × D)} (r : RpK G es ks) : RpK G (putK es (.inl i) y) (putD ks i x) := by
  unfold putK putD
  rw [any_rpk i r]
  split
  · exact map_rpk i ry r
  · exact snoc_rpk (k := .inl i) ry r
theorem len_rpk {G : Hp} : ∀ {es : List (Key × V)} {ks : List (D × D)}, RpK G es ks → es.length = ks.length
  | _, _, .nil => rfl
  | _, _, .cons _ rs => by rw [List.length_cons, List.length_cons, len_rpk rs]
/-! ### d[k] -/
def gIxA (d k : D) : Option D := match d with
  | .dict ks => match k with
    | .int i => lookD ks i
    | _ => none
  | d => gIx d k
def rIxD : R2 := fun x y H Q => ∃ a v, x = .ref a ∧ DGet H a y (some v) ∧ Q v H
theorem ix_dict {X : Cx} (hu : X.A.units + 1 < cLine) : IxR X rIxD := by
  intro value slice pins s σ H x y v u Q I rx ry q hs
  obtain ⟨a, w, ex, g, q⟩ := q
  subst ex
  cases (show v = Value.ref a from rx)
  exact PyProof.Rows.tail_any (dict_typeIs I g) PySem.F.slot_dict_getitem.lookup (d_getItem hu I g ry fun w' s3 I3 rw' => ⟨w, H, I3, rw', q⟩) hs
theorem pop_ixA {K : PySem.W.Frag} : POpV (fun x y H Q => rIx K x y H Q ∨ rIxD x y H Q) gIxA := by
  intro G H x y d e z Q gh s1 s2 hg q
  cases s1 with
  | @dct a es ks h r =>
    cases s2 with
    | int i =>
      obtain ⟨v, hv, rv⟩ := (valV_rpk i r).1 z hg
      exact .inr ⟨a, v, rfl, by rw [← hv]; exact DGet.k (k := .inl i) h, q v G H (Grow.refl gh) rv⟩
    | _ => cases hg
  | non => exact .inl (pop_ix G H _ _ _ _ z Q gh .non s2 hg q)
  | bl b => exact .inl (pop_ix G H _ _ _ _ z Q gh (.bl b) s2 hg q)
  | int i => exact .inl (pop_ix G H _ _ _ _ z Q gh (.int i) s2 hg q)
  | str i => exact .inl (pop_ix G H _ _ _ _ z Q gh (.str i) s2 hg q)
  | lst h r => exact .inl (pop_ix G H _ _ _ _ z Q gh (.lst h r) s2 hg q)
  | tup h r => exact .inl (pop_ix G H _ _ _ _ z Q gh (.tup h r) s2 hg q)
/-! ### d.get(k, x) -/
def isDct : D → Option Unit
  | .dict _ => some ()
  | _ => none
def get2D (d k x : D) : Option D := match d, k with
  | .dict ks, .int i => some ((lookD ks i).getD x)
  | _, _ => none
def mGet2 (go : M Pl) (fk fx : M D) : M D := bnd go fun p => bnd (look p) fun d0 => bnd (ofO (isDct d0)) fun _ => bnd fk fun k => bnd fx fun x => bnd (look p) fun d => ofO (get2D d k x)
section
variable {X : Cx} {a b o e f : Expr} {ga gb go : M Pl} {fk fx fb fd : M D} {pos pos' tpos apos cpos : Pos} {x : Str}
theorem pv_ixA (hu : X.A.units + 64 < cLine) (ha : PP X a ga) (hb : PP X b gb) (hs : PlainIx b := by intro _ _; rfl) : PV X (.Subscript a b pos) (mOp gIxA ga gb) := by
  obtain ⟨ta, ha, ra⟩ := ha
  obtain ⟨tb, hb, rb⟩ := hb
  exact ⟨_, pe_ix (IxR.or ix_seq (ix_dict (by omega))) ha hb hs, rd_op pop_ixA ra rb⟩
theorem pv_get2 (hu : X.A.units + 64 < cLine) (ho : PP X o go) (he : PV X e fk) (hf : PV X f fx) (m : M2 X o "get" apos e f cpos := by exact ⟨rfl, rfl, rfl, rfl⟩) :
    PV X (.Call (.Attribute o "get" apos) [e, f] [] cpos) (mGet2 go fk fx) := by
  obtain ⟨to, ho, ro⟩ := ho
  obtain ⟨te, he, re⟩ := he
  obtain ⟨tf, hf, rf⟩ := hf
  refine ⟨_, pe_dget2 (by omega) ho he hf m, fun C G σ H ρ Q hK S d ρ' hh q => ?_⟩
  obtain ⟨p, ρ1, h1, hh1⟩ := bnd_ok hh
  obtain ⟨d0, ρ2, h2, hh2⟩ := bnd_ok hh1
  obtain ⟨_, ρ3, h3, hh3⟩ := bnd_ok hh2
  obtain ⟨dk, ρ4, h4, hh4⟩ := bnd_ok hh3
  obtain ⟨dx, ρ5, h5, hh5⟩ := bnd_ok hh4
  obtain ⟨d1, ρ6, h6, hh6⟩ := bnd_ok hh5
  refine ro C G σ H ρ _ hK S p ρ1 h1 fun v G1 H1 g1 S1 o1 => ?_
  obtain ⟨sh, rfl⟩ := look_ok S1 o1 h2
  obtain ⟨hi, rfl⟩ := ofO_ok h3
  cases sh with
  | @dct A es ks hA rK =>
    refine ⟨A, rfl, .inl ⟨es, .inl hA⟩, ?_⟩
    refine re C G1 σ H1 _ _ hK S1 dk ρ4 h4 fun v2 G2 H2 g2 S2 o2 => ?_
    refine rf C G2 σ H2 _ _ hK S2 dx ρ5 h5 fun v3 G3 H3 g3 S3 o3 => ?_
    obtain ⟨sh2, rfl⟩ := look_ok S3 ((o1.mono g2).mono g3) h6
    obtain ⟨hz, rfl⟩ := ofO_ok hh6
    cases sh2 with
    | @dct _ es2 ks2 hA2 rK2 =>
      cases o2 with
      | int i =>
        cases hz
        refine ⟨valV es2 (.inl i), DGet.k (k := .inl i) hA2, ?_⟩
        obtain ⟨y1, y2⟩ := valV_rpk i rK2
        cases hl : lookD ks2 i with
        | none => rw [y2 hl]; exact q _ G3 H3 ((g1.trans g2).trans g3) S3 (by rw [hl]; exact o3)
        | some d =>
          obtain ⟨w, hw, rw1⟩ := y1 d hl
          rw [hw]
          exact q _ G3 H3 ((g1.trans g2).trans g3) S3 (by rw [hl]; exact rw1)
      | _ => cases hz
    | _ => cases hz
  | _ => cases hi
/-- {}, as an object of one's own -/
theorem pf_dict0 : PF X (.Dict [] [] pos) (mFr mDict0) := ⟨_, pe_dnewK, fun C G σ H ρ Q hK S d ρ' hf q => by
  cases hf
  intro p hp
  have w : Grow G H G (upd H p (.dK [])) := Grow.newF S.gh hp
  exact q _ _ _ (Same.refl _) (S.grow w) (fresh_ok S hp w (.dct upd_same .nil))⟩
/-! ### d[k] = x -/
def putAt (j : Nat) (d k : D) : M Fl := fun ρ => match ρ[j]? with
  | some (.own (.dict ks)) => match k with
    | .int i => if ks.length < 100000 then .ok .nx (ρ.set j (.own (.dict (putD ks i d)))) else .stuck
    | _ => .stuck
  | some (.io (.dict ks)) => match k with
    | .int i => if ks.length < 100000 then .ok .nx (ρ.set j (.io (.dict (putD ks i d)))) else .stuck
    | _ => .stuck
  | _ => .stuck
def mDPut (j : Nat) (fe fi : M D) : M Fl := bnd fe fun d => bnd (isOwn j) fun _ => bnd fi fun k => putAt j d k
theorem pst_dput {j : Nat} (hu : X.A.units + 64 < cLine) (he : PV X e fd) (hi : PV X b fb) (hN : X.N[j]? = some x := by rfl) (hv : Vis X.env.scope x := by first | exact Or.inl rfl | exact Or.inr (Or.inl rfl) | exact Or.inr (Or.inr rfl)) (hd : (x == ("__debug__" : Str)) = false := by decide)
    (hcd : (x == ("__classdict__" : Str)) = false := by decide) (ha : ∀ v, assign (.Subscript (.Name x pos') b tpos) X.env v = (do
      let ov ← holding [v] (eval (.Name x pos') X.env)
      let iv ← holding [v, ov] (eval b X.env)
      standAt tpos
      holding [v, ov, iv] (setItem ov iv v)
      release [v, ov, iv] []) := by intro _; rfl) (hs : swapsWithSole [.Subscript (.Name x pos') b tpos] e pos.line X.env = pure false := by rfl) (hw : swappedStores [.Subscript (.Name x pos') b tpos] e X.env = pure none := by rfl) :
    PSt X (.Assign [.Subscript (.Name x pos') b tpos] e pos) (mDPut j fd fb) := by
  obtain ⟨te, he, re⟩ := he
  obtain ⟨ti, hi, ri⟩ := hi
  refine ⟨_, ps_asg he (pg_sub (pe_var hN hv hd hcd) hi (set_dict (by omega)) ha) hs hw, fun C G σ H ρ D hK S fl ρ' hf q => ?_⟩
  obtain ⟨d, ρ1, h1, hf2⟩ := bnd_ok hf
  obtain ⟨_, ρ0, h0, hf3⟩ := bnd_ok hf2
  obtain ⟨kd, ρ2, h2, hf4⟩ := bnd_ok hf3
  refine re C G σ H ρ _ hK S d ρ1 h1 fun v G1 H1 g1 S1 o1 => ?_
  obtain ⟨a, ea, rfl⟩ := isOwn_ok S1 h0
  refine ⟨.ref a, ea, ?_⟩
  refine ri C G1 σ H1 _ _ hK S1 kd ρ2 h2 fun v2 G2 H2 g2 S2 o2 => ?_
  unfold putAt at hf4
  cases es : ρ2[j]? with
  | none => rw [es] at hf4; cases hf4
  | some s =>
    rw [es] at hf4
    obtain ⟨o, e1, q1⟩ := S2.sl j s es
    rw [ea] at e1
    cases e1
    cases o2 with
    | int n =>
      have fin : ∀ (ks : List (PL.D × PL.D)) (kvs : List (Key × V)), ks.length < 100000 → H2 a = some (.dK kvs) → RpK G2 kvs ks → (StOk C G2 σ (upd H2 a (.dK (putK kvs (.inl n) v))) ρ') → fl = .nx →
          ∃ a' H', (V.ref a : V) = .ref a' ∧ DPut H2 a' (.int n) v H' ∧ D.nx σ H' := fun ks kvs hl hA rK S3 hfl => by
        subst hfl
        exact ⟨a, _, rfl, DPut.k (k := .inl n) hA (by rw [len_rpk rK]; exact line_lt hl), q σ G2 _ (g1.trans g2) S3⟩
      cases s with
      | own dd =>
        obtain ⟨b', eb, sh, _⟩ := q1
        cases eb
        cases sh with
        | @dct _ kvs ks hA rK =>
          dsimp only at hf4
          by_cases hl : ks.length < 100000
          · rw [if_pos hl] at hf4
            cases hf4
            exact fin ks kvs hl hA rK (S2.mut es rfl ea (.inl ⟨_, rfl, _, rfl, .dct upd_same (put_rpk n (o1.mono g2) rK)⟩)) rfl
          · rw [if_neg hl] at hf4; cases hf4
        | _ => cases hf4
      | io dd =>
        obtain ⟨b', eb, sh, _⟩ := q1
        cases eb
        cases sh with
        | @dct _ kvs ks hA rK =>
          dsimp only at hf4
          by_cases hl : ks.length < 100000
          · rw [if_pos hl] at hf4
            cases hf4
            exact fin ks kvs hl hA rK (S2.mut es rfl ea (.inr ⟨_, rfl, _, rfl, .dct upd_same (put_rpk n (o1.mono g2) rK)⟩)) rfl
          · rw [if_neg hl] at hf4; cases hf4
        | _ => cases hf4
      | _ => cases hf4
    | _ =>
      exfalso
      cases s with
      | own dd => cases dd <;> cases hf4
      | io dd => cases dd <;> cases hf4
      | _ => cases hf4
end
/-! ### sorted(d) -/
def keyInts : List (D × D) → Option (List Int)
  | [] => some []
  | (.int i, _) :: r => (keyInts r).map (i :: ·)
  | _ => none
def gSortedA : List D → Option D
  | [.dict ks] => (keyInts ks).map fun ns => .list ((sortI ns).map .int)
  | l => gSorted l
theorem keyInts_ok {G : Hp} : ∀ {es : List (Key × V)} {ks : List (D × D)} {ns : List Int}, RpK G es ks → keyInts ks = some ns → es.map (·.1) = ns.map Sum.inl
  | _, _, _, .nil, h => by cases h; rfl
  | _, _, _, .cons (k := k) r rs, h => by
    cases k with
    | inr z => cases h
    | inl i =>
      have h : (keyInts _).map (i :: ·) = some _ := h
      obtain ⟨ns', e1, e2⟩ := Option.map_eq_some_iff.mp h
      subst e2
      rw [List.map_cons, List.map_cons, keyInts_ok rs e1]
theorem cr_orA {X : Cx} {c : Value} {r r' : List V → Hp → VK → Prop} (h : CallR X c r) (h' : CallR X c r') : CallR X c (fun xs H Q => r xs H Q ∨ r' xs H Q) := by
  intro pins s σ H xs us Q I rr q
  rcases q with q | q
  · exact h pins s σ H xs us Q I rr q
  · exact h' pins s σ H xs us Q I rr q
section
variable {X : Cx} {e : Expr} {es : List Expr} {pos p : Pos} {gs : M (List Pl)}
theorem pf_sortedA (hc : X.calm = true) (hg : Gl X "sorted") (hm : X.mg "sorted" = none) (ha : PPs X (e :: es) gs) (he : starEach (e :: es) X.env = (false, eval e X.env) :: starEach es X.env := by rfl) (hpl : (backTo pos (starEach es X.env)).any (·.1) = false := by rfl) :
    PF X (.Call (.Name "sorted" p) (e :: es) [] pos) (mFr (mN gSortedA gs)) := pf_b (cr_orA cr_sortedI (cr_sortedDI hc)) (fun G H vs ds z Q gh s hg q => by
  cases s with
  | nil => cases hg
  | cons h r => cases r with
    | cons _ _ => cases h <;> cases hg
    | nil => cases h with
      | @lst a xs ds h r =>
        simp only [gSortedA, gSorted] at hg
        cases qd : nums ds with
        | none => rw [qd] at hg; cases hg
        | some ns =>
          rw [qd] at hg
          cases hg
          have := nums_ok qd r
          subst this
          refine .inl ⟨a, ns, rfl, .inl (.inl h), fun ns' l hp hs hl => ?_⟩
          rw [sortI_one hp hs]
          exact q l _ hl (Grow.newF gh hl) (.lst upd_same (RpA.ints _))
      | @dct a kvs ks h r =>
        simp only [gSortedA] at hg
        cases qd : keyInts ks with
        | none => rw [qd] at hg; cases hg
        | some ns =>
          rw [qd] at hg
          cases hg
          refine .inr ⟨a, kvs, ns, rfl, h, keyInts_ok r qd, fun ns' l hp hs hl => ?_⟩
          rw [sortI_one hp hs]
          exact q l _ hl (Grow.newF gh hl) (.lst upd_same (RpA.ints _))
      | _ => cases hg) hg hm (by decide +kernel) ha (he := he) (hpl := hpl)
end
/-! ### the p-level's rules -/
def dputP (e k x : D) : Option D := match e, k with
  | .dict ks, .int i => if ks.length < 100000 then some (.dict (putD ks i x)) else none
  | _, _ => none
section
variable {ρ : Env} {j : Nat} {d : D}
@[simp] theorem s_get2 (go : M Pl) (fk fx : M D) : mGet2 go fk fx ρ = bnd go (fun p => bnd (look p) fun d0 => bnd (ofO (isDct d0)) fun _ => bnd fk fun k => bnd fx fun x => bnd (look p) fun d => ofO (get2D d k x)) ρ := rfl
@[simp] theorem s_mDPut (fe fi : M D) : mDPut j fe fi ρ = bnd fe (fun d => bnd (isOwn j) fun _ => bnd fi fun k => putAt j d k) ρ := rfl
@[simp] theorem s_putAt (k : D) : putAt j d k ρ = match ρ[j]? with
  | some (.own e) => rSetAt (fun d => ρ.set j (.own d)) (dputP e k d)
  | some (.io e) => rSetAt (fun d => ρ.set j (.io d)) (dputP e k d)
  | _ => .stuck := by
  unfold putAt
  cases ρ[j]? with
  | none => rfl
  | some s =>
    cases s with
    | own e => cases e with
      | dict ks => cases k with
        | int n => simp only [dputP]; by_cases h : ks.length < 100000 <;> simp only [h, if_true, if_false, rSetAt]
        | _ => rfl
      | _ => rfl
    | io e => cases e with
      | dict ks => cases k with
        | int n => simp only [dputP]; by_cases h : ks.length < 100000 <;> simp only [h, if_true, if_false, rSetAt]
        | _ => rfl
      | _ => rfl
    | _ => rfl
end
end PL
/-! PL23: sorted(set(xs)), xs a list of numbers -/
namespace L2
open PySem PySem.Spec PyProof.Rows
abbrev newSet (w : World) : Obj := { cls := .type "set", dict := none, data := .set #[] 0 (.fresh 0 0 (!w.params.followText "set-order")) }
section
variable {P : Program} {w : World} {A : Around} {E : Value → Shared → Prop} {s : Shared}
set_option maxHeartbeats 3200000 in
theorem set_of_list {l : Addr} {items : Array Value} (ns : List Int) {Q : Value → Shared → Prop} (hh : A.handled = none) (hl : s.heap.IsList l items) (hit : IntsAre items.toList ns) (hb : ns.length + 1 < scanBound)
    (h : ∀ (h' : Heap) (tk c : Nat), SetR w h' s.heap.objs.size (fun j => decide (j ∈ ns)) c → c ≤ ns.length → (∀ b o, s.heap.get? b = some o → h'.get? b = some o) → Q (.ref s.heap.objs.size) { s with heap := h', toks := tk }) :
    wpAny (model P w) A (call (.type "set") [.ref l]) Q E s := by
  have hisz : items.size = ns.length := by
    have q := IntsAre.length hit
    rw [Array.length_toList] at q
    exact q
  obtain ⟨c, tl, hmro⟩ := F.called_set.mro
  have hmade := F.called_set.made
  have hsub := F.called_set.sub
  refine wpAny_call (codeAny_of_tree ?_)
  show wpAny _ _ (callAny (.type "set") _) _ _ _
  refine wpAny_pure ⟨Code.quiet_builtin _ (by decide +kernel), codeAny_builtin F.entry_type_call ?_⟩
  rw [Around.under_plain (weight_type_call_type "set" [.ref l] []) rfl]
  have h1 := F.called_set.notType
  have h2 := F.called_set.canCreate
  have hct := F.typeCall_set_1 (.ref l)
  repeat (any_goals (first | assumption | wp_step))
  refine codeAny_mono (code_set_led1 (.ref l) (E := E) (Q₁ := fun obj s₁ => obj = .ref s.heap.objs.size ∧ s₁ = { s with heap := s.heap.push (newSet w) }) ⟨rfl, rfl⟩) fun r s₁ hr => ?_
  cases r with
  | error e => exact hr
  | ok fl =>
    cases fl with
    | ret obj =>
      obtain ⟨rfl, rfl⟩ := hr
      have hS : (s.heap.push (newSet w)).get? s.heap.objs.size = some (newSet w) := Heap.get?_push_size _ rfl
      have hT : Shared.TypeIs { s with heap := s.heap.push (newSet w) } (.ref s.heap.objs.size) "set" := ⟨_, hS, rfl⟩
      have hli := F.called_set.init.lookup
      have hbi := F.called_set.init.bind (.ref s.heap.objs.size)
      repeat (any_goals (first | assumption | wp_step))
      refine codeAny_mono (codeAny_call_builtin (R := wants (fun r s₂ => r = .none ∧ ∃ h' tk c, s₂ = { s with heap := h', toks := tk } ∧ SetR w h' s.heap.objs.size (fun j => decide (j ∈ ns)) c ∧ c ≤ ns.length ∧
          (∀ b o, s.heap.get? b = some o → h'.get? b = some o)) E) F.called_set.init.plain F.entry_set_init (check_set_init_1 hT ?_)) fun r₂ s₂ hr₂ => ?_
      · obtain ⟨ol, hol, hcl, nl, hdl⟩ := hl
        obtain ⟨ocls, odict, odata, oslots⟩ := ol
        simp only at hcl hdl
        subst hcl; subst hdl
        have hol' : (s.heap.push (newSet w)).get? l = some { cls := .type "list", dict := odict, data := .seq items nl, slots := oslots } := Heap.get?_push_of_some _ hol
        have hsls := F.sub_list_set
        have hslf := F.sub_list_frozenset
        have hne : (Value.type "list" == Value.type "dict") = false := by decide
        have hl1 : (s.heap.push (newSet w)).IsList l items := ⟨_, hol', rfl, nl, rfl⟩
        unfold Builtin.«set.__init__» noKeywords Builtin.Frozenset.updateFrom
        generalize hPI : pyIter = PI
        wp_walk
        subst hPI
        refine wpAny_pyIter_list hl1 ?_
        refine wpAny_bind (wpAny_runValue ?_)
        have hlS : l < s.heap.objs.size := Heap.lt_size hol
        have hh3 : A.in1.in1.in1.handled = none := by simp [hh]
        have hz1 : (s.heap.push (newSet w)).objs.size = s.heap.objs.size + 1 := Heap.size_push ..
        have hneI : l ≠ (s.heap.push (newSet w)).objs.size := by
          rw [Heap.size_push]; exact Nat.ne_of_lt (Nat.lt_succ_of_lt hlS)
        have hSf : s.heap.objs.size ∉ [(s.heap.push (newSet w)).objs.size, l] := by
          rw [Heap.size_push]; simp only [List.mem_cons, List.mem_singleton, List.not_mem_nil, or_false, not_or]
          exact ⟨Nat.ne_of_lt (Nat.lt_succ_self _), Nat.ne_of_gt hlS⟩
        have hval : ∀ (i : Nat) (v : Value), items[i]? = some v → ∃ k t, ns[i]? = some k ∧ v = .int k t := fun i v hv => by
          have hi : i < ns.length := by rw [← hisz]; exact (Array.getElem?_eq_some_iff.mp hv).1
          obtain ⟨t, e⟩ := PyProof.Rows.IntsAre.int_at hit i v (by rw [Array.getElem?_toList]; exact hv)
          refine ⟨ns[i], t, List.getElem?_eq_getElem hi, ?_⟩
          rw [e, List.getD_eq_getElem?_getD, List.getElem?_eq_getElem hi] <;> rfl
        refine set_update_ints ((Walks.list hh3 _ l hneI items).toS) s.heap.objs.size
          hSf ns hisz hb hval (items.size - 0) 0 _ (by omega) (Nat.zero_le _)
          ⟨⟨_, Heap.get?_push_size _ rfl, rfl, rfl⟩, (hl1.push _)⟩ ?hS0 ?hR
        case hS0 =>
          have hget : ((s.heap.push (newSet w)).push { cls := .type "list_iterator", data := .fields #[.ref l, .int 0 0] }).get? s.heap.objs.size
              = some (newSet w) := Heap.get?_push_of_some _ hS
          exact ⟨0, Nat.le_refl 0, setR_new_at hget⟩
        case hR =>
          intro s' c' hm hc' hS'
          obtain ⟨h', g2, d', tk', os'⟩ := s'
          have eg : g2 = s.gens := hm.gens
          have ed : d' = s.drawn := hm.drawn
          have eo : os' = s.os := hm.os
          subst eg; subst ed; subst eo
          show wpAny _ _ _ _ _ _
          refine wpAny_pure ?_
          show wpAny _ _ (ret Value.none) _ _ _
          rw [hisz] at hc'
          refine wpAny_pure ⟨rfl, h', tk', c', rfl, hS', hc', fun b o e => ?_⟩
          have hb0 : b < s.heap.objs.size := Heap.lt_size e
          have hb1 : b ≠ s.heap.objs.size := Nat.ne_of_lt hb0
          have hb2 : b ≠ (s.heap.push (newSet w)).objs.size := by
            rw [Heap.size_push]; exact Nat.ne_of_lt (Nat.lt_succ_of_lt hb0)
          exact hm.heap b o (by simp only [List.mem_cons, List.mem_singleton, List.not_mem_nil, or_false, not_or]; exact ⟨hb1, hb2⟩) (Heap.get?_push_of_some _ (Heap.get?_push_of_some _ e))
      · cases r₂ with
        | error e => exact hr₂
        | ok fl₂ =>
          cases fl₂ with
          | ret r =>
            obtain ⟨rfl, h', tk, c', rfl, hS', hc', hk'⟩ := hr₂
            repeat (any_goals (first | assumption | wp_step))
            exact h _ _ _ hS' hc' hk'
          | _ => exact hr₂.elim
    | _ => exact hr.elim
end
end L2
namespace L2
open PySem PySem.Spec PyProof.Rows
section
variable {P : Program} {w : World} {A : Around} {E : Value → Shared → Prop} {s : Shared}
/-- the set's members, in order -/
theorem sorted_set_any {a : Addr} {S : Int → Bool} {n : Nat} {Q : Value → Shared → Prop} (R : SetR w s.heap a S n) (hh : A.handled = none) (hz : n ≤ sizeLine)
    (fin : ∀ s' p (us : List Value) (c : Nat) (ks : List Int), (∀ b u, s.heap.get? b = some u → s'.heap.get? b = some u) → s'.gens = s.gens → s'.os = s.os → s.heap.objs.size ≤ p →
      s'.heap.get? p = some (seqObj "list" us.toArray c) → Vals (ks.map V.int) us → ks.length = n → ks.Pairwise (· < ·) → (∀ k, k ∈ ks ↔ S k = true) → Q (.ref p) s') :
    wpAny (model P w) A (call (.builtin "sorted") [.ref a]) Q E s := by
  obtain ⟨ob, es, ep, t, q1, q2, q3, good, nd, mem, few, fit, num, ris, led⟩ := R
  refine Calls.call_function_entry kind_sorted plain_sorted entry_sorted (args_sorted1 _) ?_
  unfold Builtin.«sorted»
  refine wpAny_bind (m := checkCount "sorted" 1 1 _) (wpAny_pure ?_)
  refine wpAny_bind (collect_set (A := A.in1) hh ⟨ob, q1, q2.1, q3⟩ fit few ris led fun s1 vs keep grow same os1 perm => ?_)
  have len : vs.length = n := by rw [perm.length_eq, List.length_map, Array.length_toList]; exact num
  have intsH : IntsAre vs (vs.map Builtin.Re.reRawOf) := ints_of vs fun v hv => by
    obtain ⟨x, hx, rfl⟩ := List.mem_map.mp (perm.mem_iff.mp hv)
    obtain ⟨k, tk, h1, _⟩ := good x hx
    exact ⟨k, tk, h1⟩
  have pk : (vs.map Builtin.Re.reRawOf).Perm (es.toList.map keyOf) := by
    have z := perm.map Builtin.Re.reRawOf
    rwa [List.map_map] at z
  refine wpAny_bind (wpAny_newList ?_ (by rw [len]; exact hz))
  have hoL : (s1.heap.push (seqObj "list" vs.toArray 0)).get? s1.heap.objs.size = some (seqObj "list" vs.toArray 0) := Heap.get?_push_size _ rfl
  refine wpAny_bind (wpAny_holding (wpAny_call_entry slot_list_sort ⟨_, hoL, rfl⟩ entry_list_sort
    (SrtO.list_sort_ord SrtO.swo_int hoL (by rw [len]; exact hz) (fun h2 => SrtO.ints_sortable intsH h2) fun out h1 h2 => ⟨_, rfl, ?_⟩)
    (args_list_sort _)))
  obtain ⟨k1, k2, k3⟩ := SrtO.ints_out intsH h1 h2
  obtain ⟨e', he'⟩ := sortedHeap_at (vs := vs) (out := out.toArray) hoL
  have pn : (out.map SrtO.iv).Perm (es.toList.map keyOf) := k2.trans pk
  refine wpAny_pure ⟨_, rfl, fin _ s1.heap.objs.size out _ (out.map SrtO.iv) (fun b u e => ?_) same os1 grow he' (vals_of_ints k1) ?_ (lt_of_le_nodup _ k3 (pn.nodup_iff.mpr nd)) fun k => by rw [pn.mem_iff, ← mem k]⟩
  · have q := keep b u e
    have lt := Heap.lt_size q
    rw [sortedHeap_old (Nat.ne_of_lt lt) (by rw [size_push']; exact Nat.lt_succ_of_lt lt)]
    exact Heap.get?_push_of_some _ q
  · rw [pn.length_eq, List.length_map, Array.length_toList]; exact num
end
end L2
namespace PL
open PySem PySem.Spec L2 PyProof.Rows RT RZ
variable [Kap]
def insU (x : Int) : List Int → List Int
  | [] => [x]
  | y :: ys => if x < y then x :: y :: ys else if x = y then y :: ys else y :: insU x ys
def uniqI (ns : List Int) : List Int := ns.foldr insU []
theorem insU_mem (x k : Int) : ∀ l : List Int, k ∈ insU x l ↔ k = x ∨ k ∈ l
  | [] => by simp [insU]
  | y :: ys => by
    unfold insU
    split
    · simp
    · split
      · rename_i h; subst h; simp
      · rw [List.mem_cons, insU_mem x k ys, List.mem_cons]
        constructor
        · rintro (h | h | h)
          · exact .inr (.inl h)
          · exact .inl h
          · exact .inr (.inr h)
        · rintro (h | h | h)
          · exact .inr (.inl h)
          · exact .inl h
          · exact .inr (.inr h)
theorem insU_lt (x : Int) : ∀ l : List Int, l.Pairwise (· < ·) → (insU x l).Pairwise (· < ·)
  | [], _ => by simp [insU]
  | y :: ys, h => by
    obtain ⟨h1, h2⟩ := List.pairwise_cons.mp h
    unfold insU
    split
    · rename_i hx
      refine List.pairwise_cons.mpr ⟨fun z hz => ?_, h⟩
      rcases List.mem_cons.mp hz with rfl | hz
      · exact hx
      · exact Int.lt_trans hx (h1 z hz)
    · split
      · exact h
      · rename_i a b
        refine List.pairwise_cons.mpr ⟨fun z hz => ?_, insU_lt x ys h2⟩
        rcases (insU_mem x z ys).mp hz with rfl | hz
        · omega
        · exact h1 z hz
theorem uniqI_mem (k : Int) : ∀ ns : List Int, k ∈ uniqI ns ↔ k ∈ ns
  | [] => by simp [uniqI]
  | n :: ns => by
    show k ∈ insU n (uniqI ns) ↔ _
    rw [insU_mem, uniqI_mem k ns, List.mem_cons]
theorem uniqI_lt : ∀ ns : List Int, (uniqI ns).Pairwise (· < ·)
  | [] => List.Pairwise.nil
  | n :: ns => insU_lt n _ (uniqI_lt ns)
theorem uniqI_one {ns ks : List Int} (h : ks.Pairwise (· < ·)) (m : ∀ k, k ∈ ks ↔ k ∈ ns) : ks = uniqI ns := by
  refine List.Perm.eq_of_pairwise (le := (· < ·)) (fun a b _ _ h1 h2 => by omega) h (uniqI_lt ns) ?_
  refine (List.perm_ext_iff_of_nodup (h.imp fun x => by omega) ((uniqI_lt ns).imp fun x => by omega)).mpr fun k => ?_
  rw [m k, uniqI_mem]
def gSortSet : D → Option D
  | .list ds => if ds.length ≤ 4000 then (nums ds).map fun ns => .list ((uniqI ns).map .int) else none
  | _ => none
def tSortSet (K : PySem.W.Frag) (t : TE) : TE := fun σ H Q => t σ H fun x H1 => ∃ a ns, x = .ref a ∧ SqL K H1 a (ns.map V.int) ∧ ns.length ≤ 4000 ∧ ∀ p, H1 p = none → Q (.ref p) (upd H1 p (.lst ((uniqI ns).map V.int)))
section
variable {X : Cx} {e : Expr} {g : M Pl} {t : TE} {p p2 pos pos2 : Pos}
theorem pe_sortSet (hc : X.calm = true) (hg : Gl X "sorted") (hm : X.mg "sorted" = none) (hg2 : Gl X "set") (hm2 : X.mg "set" = none) (h : PE X e t) (n1 : starEach [e] X.env = (false, eval e X.env) :: starEach [] X.env := by rfl)
    (n2 : starEach [.Call (.Name "set" p2) [e] [] pos2] X.env = (false, eval (.Call (.Name "set" p2) [e] [] pos2) X.env) :: starEach [] X.env := by rfl) :
    PE X (.Call (.Name "sorted" p) [.Call (.Name "set" p2) [e] [] pos2] [] pos) (tSortSet X.K t) := by
  refine ⟨fun pins s σ H Q I hq => ?_⟩
  have hset : wpAny (model X.prog X.w) X.A (eval (.Call (.Name "set" p2) [e] [] pos2) X.env) (fun u s2 => ∃ a ns H1 L c, u = .ref a ∧ SetR X.w s2.heap a (fun j => decide (j ∈ ns)) c ∧ c ≤ ns.length ∧ ns.length ≤ 4000 ∧ L2.Inv X pins σ H1 s2 ∧ L = ns ∧
      ∀ p, H1 p = none → Q (.ref p) (upd H1 p (.lst ((uniqI ns).map V.int)))) X.xe s := by
    refine Call_ (ld_blt I hg2 hm2 (show bootBuiltins ("set" : Str) = some (.type "set") from by decide +kernel) (PyProof.Rows.callWith_type1 (one_arg h I hq (fun v s2 x H2 I2 rx q => ?_) n1) n1))
    obtain ⟨a, ns, rfl, sq, hl, q⟩ := q
    cases (show v = Value.ref a from rx)
    obtain ⟨its, rv, pt, hz⟩ := I2.list sq
    have hi : IntsAre its.toArray.toList ns := ints_of_vals rv
    exact set_of_list ns (I2.ok.hd hc) pt.isList hi (by unfold scanBound; omega) fun h' tk c R1 hcn k => ⟨_, ns, H2, ns, c, rfl, R1, hcn, hl, I2.kept k, rfl, q⟩
  refine Call_ (ld_blt I hg hm (show bootBuiltins ("sorted" : Str) = some (.builtin "sorted") from by decide +kernel) (PyProof.Rows.callWith_builtin1 (args_cons (thn hset fun u s2 hu => args_nil ?_) n2) n2))
  obtain ⟨a, ns, H1, _, c, rfl, R1, hcn, hl, I1, _, q⟩ := hu
  refine sorted_set_any R1 (I1.ok.hd hc) (by rw [sizeLine_eq]; omega) fun s' p' us cc ks keep gens os big hp rv hlen hlt hmem => ?_
  have eks : ks = uniqI ns := uniqI_one hlt fun k => by rw [hmem k, decide_eq_true_eq]
  subst eks
  have new : ObjOk X.prog X.w (upd H1 p' (.lst ((uniqI ns).map V.int))) s'.heap p' (.lst ((uniqI ns).map V.int)) := ⟨by rw [List.length_map, hlen, sizeLine_eq]; omega, us, cc, rv, hp⟩
  have I2 : L2.Inv X pins σ (upd H1 p' (.lst ((uniqI ns).map V.int))) s' := I1.call' (ch := []) os (Un.laid keep big (I1.hok.fresh big)) (I1.hok.laid keep big new) (by rw [gens]; exact I1.bare) (fun _ z => nomatch z)
  exact ⟨.ref p', _, I2, rfl, q p' (I1.hok.fresh big)⟩
theorem pf_sortSet (hc : X.calm = true) (hg : Gl X "sorted") (hm : X.mg "sorted" = none) (hg2 : Gl X "set") (hm2 : X.mg "set" = none) (h : PP X e g) (n1 : starEach [e] X.env = (false, eval e X.env) :: starEach [] X.env := by rfl)
    (n2 : starEach [.Call (.Name "set" p2) [e] [] pos2] X.env = (false, eval (.Call (.Name "set" p2) [e] [] pos2) X.env) :: starEach [] X.env := by rfl) :
    PF X (.Call (.Name "sorted" p) [.Call (.Name "set" p2) [e] [] pos2] [] pos) (mFr (mUn gSortSet g)) := by
  obtain ⟨t, h, r⟩ := h
  refine ⟨_, pe_sortSet hc hg hm hg2 hm2 h n1 n2, fun C G σ H ρ Q hK S d ρ' hf q => ?_⟩
  obtain ⟨d', ρ0, hf0, h0⟩ := bnd_ok hf
  cases h0
  obtain ⟨pl, ρ1, h1, hf1⟩ := bnd_ok hf0
  obtain ⟨dd, ρ2, h2, hf2⟩ := bnd_ok hf1
  obtain ⟨hz, rfl⟩ := ofO_ok hf2
  refine r C G σ H ρ _ hK S pl ρ1 h1 fun v G1 H1 g1 S1 o => ?_
  obtain ⟨sh, rfl⟩ := look_ok S1 o h2
  cases sh with
  | @lst a xs ds hA rA =>
    have hz : (if ds.length ≤ 4000 then (nums ds).map fun ns => PyData.list ((uniqI ns).map .int) else none) = some d' := hz
    by_cases hl : ds.length ≤ 4000
    · rw [if_pos hl] at hz
      cases qd : nums ds with
      | none => rw [qd] at hz; cases hz
      | some ns =>
        rw [qd] at hz
        cases hz
        have e := nums_ok qd rA
        subst e
        refine ⟨a, ns, rfl, .inl (.inl hA), ?_, fun p hp => ?_⟩
        · rw [← rA.length, List.length_map] at hl; exact hl
        · have w : Grow G1 H1 G1 (upd H1 p (.lst ((uniqI ns).map V.int))) := Grow.newF S1.gh hp
          exact q _ _ _ g1 (S1.grow w) (fresh_ok S1 hp w (.lst upd_same (RpA.ints _)))
    · rw [if_neg hl] at hz; cases hz
  | _ => cases hz
end
end PL
/-! PL25: zip of three lists. -/
namespace PL
open PySem PySem.Spec PyProof.Rows L2
variable [Kap]
def Itz3 (K : PySem.W.Frag) (a b c : Addr) : It :=
  ⟨fun i H => ∃ (xs ys zs : List V) (x y z : V), SqL K H a xs ∧ SqL K H b ys ∧ SqL K H c zs ∧ xs[i]? = some x ∧ ys[i]? = some y ∧ zs[i]? = some z,
    fun i H v H' => ∃ T x y z, v = .ref T ∧ H T = none ∧ H' = upd H T (.tup [x, y, z]) ∧ (∀ xs, SqL K H a xs → xs[i]? = some x) ∧ (∀ ys, SqL K H b ys → ys[i]? = some y) ∧ ∀ zs, SqL K H c zs → zs[i]? = some z,
    fun i H => ∃ xs ys zs : List V, SqL K H a xs ∧ SqL K H b ys ∧ SqL K H c zs ∧ i ≤ xs.length ∧ i ≤ ys.length ∧ i ≤ zs.length ∧ (i = xs.length ∨ i = ys.length ∨ i = zs.length)⟩
theorem turn_zip3 {P : Program} {w : World} {K : PySem.W.Frag} {elts : List Expr} {kk : Nat} {tpos : Pos} {a b c z TI TO i1 i2 i3 : Addr} (D : ZipSep3 z TI TO i1 i2 i3 [i1, a] [i2, b] [i3, c]) :
    Turn P w K (.Tuple elts kk tpos) (Itz3 K a b c) [z, TI, TO, i1, i2, i3] z (fun i h => IsZip h z TI TO .none ∧ IsTupOf3 h TI (.ref i1) (.ref i2) (.ref i3) ∧ (∃ x y u, IsTupOf3 h TO x y u) ∧ h.IsListIter i1 a i ∧ h.IsListIter i2 b i ∧ h.IsListIter i3 c i) where
  mem := by simp
  obj := fun i h st q hq => by
    obtain ⟨hz, hTI, ⟨x, y, u, hTO⟩, ⟨o1, e1, _, d1⟩, ⟨o2, e2, _, d2⟩, ⟨o3, e3, _, d3⟩⟩ := st
    have e' : q = z ∨ q = TI ∨ q = TO ∨ q = i1 ∨ q = i2 ∨ q = i3 := by simpa using hq
    rcases e' with r | r | r | r | r | r
    · rw [r]; exact ⟨_, hz, fun v q => nomatch q⟩
    · rw [r]; exact ⟨_, hTI, fun v q => nomatch q⟩
    · rw [r]; exact ⟨_, hTO, fun v q => nomatch q⟩
    · rw [r]; exact ⟨o1, e1, fun v q => by rw [d1] at q; cases q⟩
    · rw [r]; exact ⟨o2, e2, fun v q => by rw [d2] at q; cases q⟩
    · rw [r]; exact ⟨o3, e3, fun v q => by rw [d3] at q; cases q⟩
  keep := fun i h h' st k => by
    obtain ⟨hz, hTI, ⟨x, y, u, hTO⟩, h1, h2, h3⟩ := st
    exact ⟨k z (by simp) _ hz, k TI (by simp) _ hTI, ⟨x, y, u, k TO (by simp) _ hTO⟩, h1.at fun o q => k i1 (by simp) o q, h2.at fun o q => k i2 (by simp) o q, h3.at fun o q => k i3 (by simp) o q⟩
  item := by
    intro X hP hw hK hc i pins s σ H E I hf st hg
    subst hP hw hK
    obtain ⟨hz, hTI, ⟨x0, y0, u0, hTO⟩, h1, h2, h3⟩ := st
    obtain ⟨xs, ys, zs, x, y, u, hqx, hqy, hqu, hx, hy, hu⟩ := hg
    obtain ⟨its, rv, p, _⟩ := I.list hqx
    obtain ⟨its2, rv2, p2, _⟩ := I.list hqy
    obtain ⟨its3, rv3, p3, _⟩ := I.list hqu
    obtain ⟨w1, hw1, rw1⟩ := rv.get hx
    obtain ⟨w2, hw2, rw2⟩ := rv2.get hy
    obtain ⟨w3, hw3, rw3⟩ := rv3.get hu
    have hh : X.A.in1.handled = none := I.ok.hd hc
    have n1 : a ≠ i1 := fun e => by
      obtain ⟨o, e1, c1, _⟩ := h1
      obtain ⟨o', e2, c2, _⟩ := p.isList
      rw [e, e1] at e2; cases e2
      rw [c1] at c2; simp at c2
    have n2 : b ≠ i2 := fun e => by
      obtain ⟨o, e1, c1, _⟩ := h2
      obtain ⟨o', e2, c2, _⟩ := p2.isList
      rw [e, e1] at e2; cases e2
      rw [c1] at c2; simp at c2
    have n3 : c ≠ i3 := fun e => by
      obtain ⟨o, e1, c1, _⟩ := h3
      obtain ⟨o', e2, c2, _⟩ := p3.isList
      rw [e, e1] at e2; cases e2
      rw [c1] at c2; simp at c2
    have l1 : i < its.toArray.size := by
      have := (List.getElem?_eq_some_iff.mp hw1).1
      simpa using this
    have l2 : i < its2.toArray.size := by
      have := (List.getElem?_eq_some_iff.mp hw2).1
      simpa using this
    have l3 : i < its3.toArray.size := by
      have := (List.getElem?_eq_some_iff.mp hw3).1
      simpa using this
    have hzl : z < s.heap.objs.size := Heap.lt_size hz
    refine wpAny_pyNext_zipD3_item D (Draws.list hh i1 a n1 its.toArray) (Draws.list hh i2 b n2 its2.toArray) (Draws.list hh i3 c n3 its3.toArray) hz hTI hTO ⟨h1, p.isList⟩ ⟨h2, p2.isList⟩ ⟨h3, p3.isList⟩ l1 l2 l3 fun x1 x2 x3 h' tk q1 q2 q3 z' TO' h1' h2' h3' hT hsz hk => ?_
    have e1 : x1 = w1 := by
      have q : its.toArray[i]? = some x1 := q1
      rw [show its.toArray[i]? = its[i]? from by simp, hw1] at q
      exact (Option.some.inj q).symm
    have e2 : x2 = w2 := by
      have q : its2.toArray[i]? = some x2 := q2
      rw [show its2.toArray[i]? = its2[i]? from by simp, hw2] at q
      exact (Option.some.inj q).symm
    have e3 : x3 = w3 := by
      have q : its3.toArray[i]? = some x3 := q3
      rw [show its3.toArray[i]? = its3[i]? from by simp, hw3] at q
      exact (Option.some.inj q).symm
    subst e1; subst e2; subst e3
    refine ⟨_, rfl, wpAny_letOwnedTupleGo_zip (s := { s with heap := h', toks := tk }) z' fun h'' z'' sb => ?_⟩
    have hT2 : h''.get? s.heap.objs.size = some { cls := .type "tuple", data := .seq #[x1, x2, x3] } := (sb.2 _ (Nat.ne_of_gt hzl)).trans hT
    have new : ObjOk X.prog X.w (upd H s.heap.objs.size (.tup [x, y, u])) h'' s.heap.objs.size (.tup [x, y, u]) :=
      ⟨by show 3 ≤ sizeLine; decide, [x1, x2, x3], .cons rw1 (.cons rw2 (.cons rw3 .nil)), ⟨_, hT2, rfl, _, rfl⟩⟩
    have I1 : Inv X pins σ (upd H s.heap.objs.size (.tup [x, y, u])) { s with heap := h'', toks := tk } :=
      I.turnedNew (t' := tk) (ch := [z, TI, TO, i1, i2, i3]) (fun q o hb e => (sb.2 q (fun q' => hb (by simp [q']))).trans (hk q o (fun q' => hb (by simp [q'])) (fun q' => hb (by simp [q'])) (fun q' => hb (by simp [q'])) (fun q' => hb (by simp [q'])) (fun q' => hb (by simp [q'])) e)) hf (Nat.le_refl _) new
    refine ⟨.ref s.heap.objs.size, _, I1, rfl, ⟨_, x, y, u, rfl, I.hok.fresh (Nat.le_refl _), rfl, fun l hl => by rw [I.list_inj hl hqx]; exact hx, fun l hl => by rw [I.list_inj hl hqy]; exact hy, fun l hl => by rw [I.list_inj hl hqu]; exact hu⟩, ⟨z'', ?_, ⟨x1, x2, x3, ?_⟩, ?_, ?_, ?_⟩, fun q hcm => ?_⟩
    · exact (sb.2 _ D.TIz).trans (hk _ _ D.TIz D.TITO D.TIi1 D.TIi2 D.TIi3 hTI)
    · exact (sb.2 _ D.TOz).trans TO'
    · exact h1'.1.at fun o q => (sb.2 _ D.zi1.symm).trans q
    · exact h2'.1.at fun o q => (sb.2 _ D.zi2.symm).trans q
    · exact h3'.1.at fun o q => (sb.2 _ D.zi3.symm).trans q
    · have hlt : q < s.heap.objs.size := by
        have e' : q = z ∨ q = TI ∨ q = TO ∨ q = i1 ∨ q = i2 ∨ q = i3 := by simpa using hcm
        rcases e' with r | r | r | r | r | r
        · rw [r]; exact hzl
        · rw [r]; exact Heap.lt_size hTI
        · rw [r]; exact Heap.lt_size hTO
        · rw [r]; obtain ⟨_, e1, _⟩ := h1; exact Heap.lt_size e1
        · rw [r]; obtain ⟨_, e2, _⟩ := h2; exact Heap.lt_size e2
        · rw [r]; obtain ⟨_, e3, _⟩ := h3; exact Heap.lt_size e3
      rw [upd_ne (Nat.ne_of_lt hlt)]
      exact (hf q hcm).1
  done := by
    intro X hP hw hK hc i pins s σ H E I hf st hg
    subst hP hw hK
    obtain ⟨hz, hTI, ⟨x0, y0, u0, hTO⟩, h1, h2, h3⟩ := st
    obtain ⟨xs, ys, zs, hqx, hqy, hqu, k1, k2, k3, hend⟩ := hg
    obtain ⟨its, rv, p, _⟩ := I.list hqx
    obtain ⟨its2, rv2, p2, _⟩ := I.list hqy
    obtain ⟨its3, rv3, p3, _⟩ := I.list hqu
    have hh : X.A.in1.handled = none := I.ok.hd hc
    have n1 : a ≠ i1 := fun e => by
      obtain ⟨o, e1, c1, _⟩ := h1
      obtain ⟨o', e2, c2, _⟩ := p.isList
      rw [e, e1] at e2; cases e2
      rw [c1] at c2; simp at c2
    have n2 : b ≠ i2 := fun e => by
      obtain ⟨o, e1, c1, _⟩ := h2
      obtain ⟨o', e2, c2, _⟩ := p2.isList
      rw [e, e1] at e2; cases e2
      rw [c1] at c2; simp at c2
    have n3 : c ≠ i3 := fun e => by
      obtain ⟨o, e1, c1, _⟩ := h3
      obtain ⟨o', e2, c2, _⟩ := p3.isList
      rw [e, e1] at e2; cases e2
      rw [c1] at c2; simp at c2
    have l1 := rv.length
    have l2 := rv2.length
    have l3 := rv3.length
    exact wpAny_pyNext_zipD3_end D (Draws.list hh i1 a n1 its.toArray) (Draws.list hh i2 b n2 its2.toArray) (Draws.list hh i3 c n3 its3.toArray) hz hTI hTO ⟨h1, p.isList⟩ ⟨h2, p2.isList⟩ ⟨h3, p3.isList⟩
      (by simp; omega) (by simp; omega) (by simp; omega) (by simp; omega) fun h' tk hk => ⟨rfl, I.turnedL (t' := tk) (ch := [z, TI, TO, i1, i2, i3]) (fun q o hb e =>
      hk q o (fun q' => hb (by simp [q'])) (fun q' => hb (by simp [q'])) (fun q' => hb (by simp [q'])) (fun q' => hb (by simp [q'])) (fun q' => hb (by simp [q'])) e) hf⟩
  self := fun A i s Q E st h => wpAny_pyIter_zip st.1 h
def iZip3 (K : PySem.W.Frag) (ta : TA) : TI := fun σ H R => ta σ H fun vs H1 => ∃ a b c xs ys zs, vs = [.ref a, .ref b, .ref c] ∧ SqL K H1 a xs ∧ SqL K H1 b ys ∧ SqL K H1 c zs ∧ R (Itz3 K a b c) H1
theorem pi_zip3 {X : Cx} {e e2 e3 : Expr} {ta : TA} {p pos tpos : Pos} {elts : List Expr} {kk : Nat} (hg : Gl X "zip") (hm : X.mg "zip" = none) (ha : PA X [e, e2, e3] ta)
    (hs : starEach [e, e2, e3] X.env = (false, eval e X.env) :: starEach [e2, e3] X.env := by rfl) (hpl : (backTo pos (starEach [e2, e3] X.env)).any (·.1) = false := by rfl) :
    PI X (.Tuple elts kk tpos) (.Call (.Name "zip" p) [e, e2, e3] [] pos) (iZip3 X.K ta) := by
  refine ⟨fun pins s σ H R I h => ?_⟩
  refine Call_ (ld_blt I hg hm PyProof.Rows.boot_zip (PyProof.Rows.callWith_type1 (thn (ha.run pos pins s σ H _ I h) fun us s1 ⟨vs, H1, I1, r1, q1⟩ => ?_) hs hpl))
  obtain ⟨a, b, c, xs, ys, zs, ex, hqx, hqy, hqu, q⟩ := q1
  subst ex
  cases r1 with
  | cons r rr =>
    cases rr with
    | cons r' rr =>
      cases rr with
      | cons r'' rr =>
      cases rr
      cases r
      cases r'
      cases r''
      obtain ⟨its, rv, p1, _⟩ := I1.list hqx
      obtain ⟨its2, rv2, p2, _⟩ := I1.list hqy
      obtain ⟨its3, rv3, p3, _⟩ := I1.list hqu
      refine zip_begins3 (begins_list a its.toArray) (begins_list b its2.toArray) (begins_list c its3.toArray) p1.isList p2.isList p3.isList fun h' hz hTI hTO g1 g2 g3 hsz hk => wpAny_pyIter_zip hz ?_
      have I2 : Inv X pins σ H1 { s1 with heap := h' } := I1.kept (t' := s1.toks) hk
      have la : a < s1.heap.objs.size := p1.lt
      have lb : b < s1.heap.objs.size := p2.lt
      have lc : c < s1.heap.objs.size := p3.lt
      have S := zip_sep3 (N := s1.heap.objs.size) (fp1 := [a]) (fp2 := [b]) (fp3 := [c]) (by simpa using la) (by simpa using lb) (by simpa using lc)
      refine ⟨s1.heap.objs.size + 5, [s1.heap.objs.size + 5, s1.heap.objs.size + 3, s1.heap.objs.size + 4, s1.heap.objs.size, s1.heap.objs.size + 1, s1.heap.objs.size + 2], _, _, H1, rfl, I2, turn_zip3 S, ⟨hz, hTI, ⟨_, _, _, hTO⟩, ⟨_, g1, rfl, rfl⟩, ⟨_, g2, rfl, rfl⟩, ⟨_, g3, rfl, rfl⟩⟩, fun d hd => ?_, q⟩
      have e' : d = s1.heap.objs.size + 5 ∨ d = s1.heap.objs.size + 3 ∨ d = s1.heap.objs.size + 4 ∨ d = s1.heap.objs.size ∨ d = s1.heap.objs.size + 1 ∨ d = s1.heap.objs.size + 2 := by simpa using hd
      have hle : s1.heap.objs.size ≤ d := by
        rcases e' with z | z | z | z | z | z
        · rw [z]; exact Nat.le_add_right _ _
        · rw [z]; exact Nat.le_add_right _ _
        · rw [z]; exact Nat.le_add_right _ _
        · rw [z]; exact Nat.le_refl _
        · rw [z]; exact Nat.le_add_right _ _
        · rw [z]; exact Nat.le_add_right _ _
      exact I1.fpOk hle (I1.hok.fresh hle)
def z3 : List D → List D → List D → List D
  | a :: as, b :: bs, c :: cs => .tuple [a, b, c] :: z3 as bs cs
  | _, _, _ => []
theorem z3_len : ∀ as bs cs : List D, (z3 as bs cs).length = min (min as.length bs.length) cs.length
  | [], _, _ => by simp [z3]
  | _ :: _, [], _ => by simp [z3]
  | _ :: _, _ :: _, [] => by simp [z3]
  | a :: as, b :: bs, c :: cs => by simp only [z3, List.length_cons, z3_len as bs cs]; omega
theorem z3_get : ∀ {as bs cs : List D} {i : Nat} {d : D}, (z3 as bs cs)[i]? = some d → ∃ a b c, as[i]? = some a ∧ bs[i]? = some b ∧ cs[i]? = some c ∧ d = .tuple [a, b, c]
  | [], _, _, _, _, h => by simp [z3] at h
  | _ :: _, [], _, _, _, h => by simp [z3] at h
  | _ :: _, _ :: _, [], _, _, h => by simp [z3] at h
  | a :: as, b :: bs, c :: cs, 0, d, h => by simp [z3] at h; exact ⟨a, b, c, rfl, rfl, rfl, h.symm⟩
  | a :: as, b :: bs, c :: cs, i + 1, d, h => by
    have h' : (z3 as bs cs)[i]? = some d := by simpa [z3] using h
    simpa using z3_get h'
theorem JOk.zip3 {K : PySem.W.Frag} {B G1 : Hp} {a b c : Addr} {xs ys zs : List V} {ds es fs : List D} (s1 : ∀ G H, Same B H → Same G1 G → Same G H → SqL K H a xs) (r1 : RpA G1 xs ds) (s2 : ∀ G H, Same B H → Same G1 G → Same G H → SqL K H b ys) (r2 : RpA G1 ys es)
    (s3 : ∀ G H, Same B H → Same G1 G → Same G H → SqL K H c zs) (r3 : RpA G1 zs fs) : JOk (Itz3 K a b c) B G1 (z3 ds es fs) where
  go := fun i G H q g gh hi => by
    rw [z3_len] at hi
    obtain ⟨v, hv, _⟩ := r1.get (List.getElem?_eq_getElem (show i < ds.length by omega))
    obtain ⟨u, hu, _⟩ := r2.get (List.getElem?_eq_getElem (show i < es.length by omega))
    obtain ⟨t, ht, _⟩ := r3.get (List.getElem?_eq_getElem (show i < fs.length by omega))
    exact ⟨xs, ys, zs, v, u, t, s1 G H q g gh, s2 G H q g gh, s3 G H q g gh, hv, hu, ht⟩
  yld := fun i G H x H' d q g gh hd hy => by
    obtain ⟨T, x', y', u', rfl, hT, rfl, f1, f2, f3⟩ := hy
    obtain ⟨d1, d2, d3, q1, q2, q3, rfl⟩ := z3_get hd
    obtain ⟨v, hv, rv⟩ := r1.get q1
    obtain ⟨u, hu, ru⟩ := r2.get q2
    obtain ⟨t, ht, rt⟩ := r3.get q3
    have e1 := f1 xs (s1 G _ q g gh)
    rw [hv] at e1; cases e1
    have e2 := f2 ys (s2 G _ q g gh)
    rw [hu] at e2; cases e2
    have e3 := f3 zs (s3 G _ q g gh)
    rw [ht] at e3; cases e3
    have w := Grow.new (o := .tup [x', y', u']) gh hT
    exact ⟨_, w, .tup upd_same (.cons (rv.mono (g.trans w.g)) (.cons (ru.mono (g.trans w.g)) (.one (rt.mono (g.trans w.g)))))⟩
  stop := fun G H q g gh => ⟨xs, ys, zs, s1 G H q g gh, s2 G H q g gh, s3 G H q g gh, by rw [z3_len, r1.length]; omega, by rw [z3_len, r2.length]; omega, by rw [z3_len, r3.length]; omega, by rw [z3_len, r1.length, r2.length, r3.length]; omega⟩
def mZip3 (f g h : M Pl) : M (List D) := bnd f fun p => bnd g fun q => bnd h fun r => bnd (seqAt p) fun ds => bnd (seqAt q) fun es => bnd (seqAt r) fun fs => if (!ds.1 && !es.1 && !fs.1) = true then ret (z3 ds.2 es.2 fs.2) else fun _ => .stuck
theorem pit_zip3 {X : Cx} {a b c : Expr} {ga gb gc : M Pl} {p pos tpos : Pos} {elts : List Expr} {kk : Nat} (hg : Gl X "zip") (hm : X.mg "zip" = none) (h : PP X a ga) (h2 : PP X b gb) (h3 : PP X c gc)
    (hs : starEach [a, b, c] X.env = (false, eval a X.env) :: starEach [b, c] X.env := by rfl) (hs2 : starEach [b, c] X.env = (false, eval b X.env) :: starEach [c] X.env := by rfl) (hs3 : starEach [c] X.env = (false, eval c X.env) :: starEach [] X.env := by rfl) (hpl : (backTo pos (starEach [b, c] X.env)).any (·.1) = false := by rfl) :
    PIt X (.Tuple elts kk tpos) (.Call (.Name "zip" p) [a, b, c] [] pos) (mZip3 ga gb gc) := by
  obtain ⟨t, h, r⟩ := h
  obtain ⟨u, h2, r2⟩ := h2
  obtain ⟨v, h3, r3⟩ := h3
  refine ⟨_, pi_zip3 hg hm (pa_cons h (pa_cons h2 (pa_cons h3 pa_nil hs3) hs2) hs) hs hpl, fun C G σ H ρ R hK S ds ρ' hf q => ?_⟩
  obtain ⟨p1, ρ1, k1, hf⟩ := bnd_ok hf
  obtain ⟨p2, ρ2, k2, hf⟩ := bnd_ok hf
  obtain ⟨p3, ρ3, k3, hf⟩ := bnd_ok hf
  obtain ⟨d1, ρ4, k4, hf⟩ := bnd_ok hf
  obtain ⟨d2, ρ5, k5, hf⟩ := bnd_ok hf
  obtain ⟨d3, ρ6, k6, hf⟩ := bnd_ok hf
  by_cases hk : (!d1.1 && !d2.1 && !d3.1) = true
  · simp only [hk, if_true] at hf
    cases hf
    simp only [Bool.and_eq_true, Bool.not_eq_true'] at hk
    obtain ⟨⟨b1, b2⟩, b3⟩ := hk
    refine r C G σ H ρ _ hK S p1 ρ1 k1 fun v1 G1 H1 g1 S1 o => ?_
    refine r2 C G1 σ H1 ρ1 _ hK S1 p2 ρ2 k2 fun v2 G2 H2 g2 S2 o2 => ?_
    refine r3 C G2 σ H2 ρ2 _ hK S2 p3 ρ3 k3 fun v3 G3 H3 g3 S3 o3 => ?_
    obtain ⟨⟨a1, xs, rfl, rr, z⟩, rfl⟩ := seqAt_ok S3 ((o.mono g2).mono g3) k4
    obtain ⟨⟨a2, ys, rfl, rr2, z2⟩, rfl⟩ := seqAt_ok S3 (o2.mono g3) k5
    obtain ⟨⟨a3, zs, rfl, rr3, z3⟩, rfl⟩ := seqAt_ok S3 o3 k6
    rw [hK] at z z2 z3
    have l1 : ∀ G H, Same C.B H → Same G3 G → Same G H → SqL X.K H a1 xs := z.elim (fun y => y.2) fun y => by rw [b1] at y; cases y.1
    have l2 : ∀ G H, Same C.B H → Same G3 G → Same G H → SqL X.K H a2 ys := z2.elim (fun y => y.2) fun y => by rw [b2] at y; cases y.1
    have l3 : ∀ G H, Same C.B H → Same G3 G → Same G H → SqL X.K H a3 zs := z3.elim (fun y => y.2) fun y => by rw [b3] at y; cases y.1
    exact ⟨a1, a2, a3, xs, ys, zs, rfl, l1 G3 H3 S3.bh (Same.refl _) S3.gh, l2 G3 H3 S3.bh (Same.refl _) S3.gh, l3 G3 H3 S3.bh (Same.refl _) S3.gh, q _ G3 H3 ((g1.trans g2).trans g3) S3 (JOk.zip3 l1 rr l2 rr2 l3 rr3)⟩
  · simp only [hk] at hf
    cases hf
def zip3P (d e f : D) : Option (List D) := match d, e, f with
  | .list xs, .list ys, .list zs => some (z3 xs ys zs)
  | _, _, _ => none
theorem zip3P_ok {f g h : M Pl} {ρ ρ1 ρ2 ρ3 : Env} {p q r : Pl} {d e c : D} {zs : List D} (h1 : f ρ = .ok p ρ1) (h2 : g ρ1 = .ok q ρ2) (h3 : h ρ2 = .ok r ρ3)
    (h4 : seqAt p ρ3 = ofO (itemsD d) ρ3) (h5 : seqAt q ρ3 = ofO (itemsD e) ρ3) (h6 : seqAt r ρ3 = ofO (itemsD c) ρ3) (hz : zip3P d e c = some zs) : mZip3 f g h ρ = .ok zs ρ3 := by
  unfold zip3P at hz
  unfold mZip3
  rw [bnd_eq h1, bnd_eq h2, bnd_eq h3]
  cases d <;> cases e <;> cases c <;> cases hz
  rw [bnd_eq (show seqAt p ρ3 = .ok (false, _) ρ3 from h4), bnd_eq (show seqAt q ρ3 = .ok (false, _) ρ3 from h5), bnd_eq (show seqAt r ρ3 = .ok (false, _) ρ3 from h6)]
  rfl
end PL
/-! PL26: an object of one's own is but looked at for a while (a list that is gone through and changed later). -/
namespace PL
open PySem PySem.Spec PyProof.Rows L2
variable [Kap]
def pinM {α : Type} (i : Nat) (f : M α) : M α := fun ρ => match ρ[i]? with
  | some (.own d) => match f (ρ.set i (.bor d)) with
    | .ok a ρ' => match ρ'[i]? with
      | some (.bor _) => .ok a (ρ'.set i (.own d))
      | _ => .stuck
    | .stuck => .stuck
  | some (.io d) => match f (ρ.set i (.bor d)) with
    | .ok a ρ' => match ρ'[i]? with
      | some (.bor _) => .ok a (ρ'.set i (.io d))
      | _ => .stuck
    | .stuck => .stuck
  | _ => f ρ
def Ctx.pin (C : Ctx) (i : Nat) (a : Addr) (o : HO) (G : Hp) (d : D) : Ctx :=
  { K := C.K, G0 := G, B := upd C.B a o, A := fun b => C.A b ∧ b ≠ a, P := fun j => if j = i then some (.ref a) else C.P j, S := fun j => if j = i then .bor d else C.S j }
section
variable {C : Ctx} {G H : Hp} {σ : L2.St} {ρ : Env}
theorem pin_in (S : StOk C G σ H ρ) {i : Nat} {s : Sl} {d : D} (e : ρ[i]? = some s) (hs : s = .own d ∨ s = .io d) :
    ∃ a o, σ[i]? = some (some (.ref a)) ∧ H a = some o ∧ G a = none ∧ C.B a = none ∧ Own σ ρ i a ∧ StOk (C.pin i a o G d) G σ H (ρ.set i (.bor d)) := by
  have hi : i < ρ.length := (List.getElem?_eq_some_iff.mp e).1
  obtain ⟨oo, e1, k⟩ := S.sl i s e
  have kk : ∃ a, oo = some (.ref a) ∧ Sh G H (.ref a) d ∧ G a = none ∧ C.B a = none := by
    rcases hs with rfl | rfl
    · obtain ⟨a, h1, h2, h3, h4, _⟩ := k; exact ⟨a, h1, h2, h3, h4⟩
    · obtain ⟨a, h1, h2, h3, h4, _⟩ := k; exact ⟨a, h1, h2, h3, h4⟩
  obtain ⟨a, rfl, sh, ga, ba⟩ := kk
  have ho : ownK s = true := by rcases hs with rfl | rfl <;> rfl
  have ow : Own σ ρ i a := ⟨e1, s, e, ho⟩
  cases hH : H a with
  | none => exact absurd hH sh.tracked
  | some o =>
  refine ⟨a, o, e1, hH, ga, ba, ow, ?_⟩
  have bb : Same C.B (upd C.B a o) := fun b u q => by rw [upd_ne (ne_of_none q ba)]; exact q
  have bh : Same (upd C.B a o) H := fun b u q => by
    by_cases hb : b = a
    · subst hb; rw [upd_same] at q; cases q; exact hH
    · rw [upd_ne hb] at q; exact S.bh b u q
  have sub : ∀ {j : Nat} {b : Addr}, Own σ (ρ.set i (.bor d)) j b → j ≠ i ∧ Own σ ρ j b := fun {j b} ⟨x, s', y, z⟩ => by
    by_cases hj : j = i
    · subst hj
      rw [List.getElem?_set_self hi] at y
      cases y; cases z
    · rw [List.getElem?_set_ne (fun z => hj z.symm)] at y
      exact ⟨hj, x, s', y, z⟩
  have dist : ∀ {j : Nat} {s' : Sl} {b : Addr}, j ≠ i → ρ[j]? = some s' → ownK s' = true → σ[j]? = some (some (.ref b)) → b ≠ a := fun {j s' b} hj q kx hb z => by
    subst z
    exact hj (S.ds j i b ⟨hb, s', q, kx⟩ ow)
  refine ⟨S.gh, bh, Same.refl _, fun b q => ⟨S.fr b q, fun z => by subst z; rw [hH] at q; cases q⟩, fun b q => .inl q, fun j v q => ?_, by rw [List.length_set]; exact S.len, fun j s' q => ?_, fun j k b hj hk => S.ds j k b (sub hj).2 (sub hk).2⟩
  · show BorOk C.K G (upd C.B a o) v (if j = i then .bor d else C.S j)
    by_cases hj : j = i
    · rw [if_pos hj]
      have q' : (if j = i then some (V.ref a) else C.P j) = some v := q
      rw [if_pos hj] at q'
      cases q'
      exact sh.at (Same.refl _) fun b hb u hu => by cases hb; rw [upd_same]; rw [hH] at hu; exact hu
    · rw [if_neg hj]
      have q' : (if j = i then some (V.ref a) else C.P j) = some v := q
      rw [if_neg hj] at q'
      exact BorOk.mono S.g0 bb (S.wf j v q')
  · by_cases hj : j = i
    · subst hj
      rw [List.getElem?_set_self hi] at q
      cases q
      exact ⟨_, e1, _, rfl, if_pos rfl, if_pos rfl⟩
    · rw [List.getElem?_set_ne (fun z => hj z.symm)] at q
      obtain ⟨o', e2, k'⟩ := S.sl j s' q
      refine ⟨o', e2, ?_⟩
      cases s' with
      | un => trivial
      | val d' => exact k'
      | own d' =>
        obtain ⟨b, rfl, h1, h2, h3, h4⟩ := k'
        have hb := dist hj q rfl e2
        exact ⟨b, rfl, h1, h2, by show upd C.B a o b = none; rw [upd_ne hb]; exact h3, h4, hb⟩
      | io d' =>
        obtain ⟨b, rfl, h1, h2, h3, h4⟩ := k'
        have hb := dist hj q rfl e2
        exact ⟨b, rfl, h1, h2, by show upd C.B a o b = none; rw [upd_ne hb]; exact h3, (if_neg hj).trans h4⟩
      | bor d' => obtain ⟨v, h1, h2, h3⟩ := k'; exact ⟨v, h1, (if_neg hj).trans h2, (if_neg hj).trans h3⟩
      | scr ns => obtain ⟨v, h1, h2, h3⟩ := k'; exact ⟨v, h1, (if_neg hj).trans h2, (if_neg hj).trans h3⟩
      | exc n => exact k'
theorem pin_out (S : StOk C G σ H ρ) {i : Nat} {s : Sl} {d : D} (e : ρ[i]? = some s) (hs : s = .own d ∨ s = .io d) {a : Addr} {o : HO} (ev : σ[i]? = some (some (.ref a))) (ho : H a = some o)
    {σ' : L2.St} {G' H' : Hp} {ρ' : Env} {d' : D} (S' : StOk (C.pin i a o G d) G' σ' H' ρ') (g : Same G G') (e' : ρ'[i]? = some (.bor d')) :
    StOk C G' σ' H' (ρ'.set i s) ∧ G' a = none := by
  have hi : i < ρ'.length := (List.getElem?_eq_some_iff.mp e').1
  have k := S.get e ev
  have kk : Sh G H (.ref a) d ∧ G a = none ∧ C.B a = none := by
    rcases hs with rfl | rfl
    · obtain ⟨b, h1, h2, h3, h4, _⟩ := k; cases h1; exact ⟨h2, h3, h4⟩
    · obtain ⟨b, h1, h2, h3, h4, _⟩ := k; cases h1; exact ⟨h2, h3, h4⟩
  obtain ⟨sh, ga, ba⟩ := kk
  have bb : Same C.B (upd C.B a o) := fun b u q => by rw [upd_ne (ne_of_none q ba)]; exact q
  have ga' : G' a = none := by
    cases q : G' a with
    | none => rfl
    | some u =>
      rcases S'.ga a (ne_none_of q) with z | z
      · exact absurd ga z
      · exact absurd rfl z.2
  have hH' : H' a = some o := S'.bh a o upd_same
  obtain ⟨_, e2, v', rfl, z2, z3⟩ := S'.sl i _ e'
  have z2' : (if i = i then some (V.ref a) else C.P i) = some v' := z2
  rw [if_pos rfl] at z2'
  cases z2'
  have sh' : Sh G' H' (.ref a) d := sh.at g fun b hb u hu => by cases hb; rw [ho] at hu; cases hu; exact hH'
  have sub : ∀ {j : Nat} {b : Addr}, j ≠ i → Own σ' (ρ'.set i s) j b → Own σ' ρ' j b := fun {j b} hj ⟨x, s', y, z⟩ => by
    rw [List.getElem?_set_ne (fun z => hj z.symm)] at y
    exact ⟨x, s', y, z⟩
  have away : ∀ {j : Nat} {b : Addr}, j ≠ i → Own σ' (ρ'.set i s) j b → b ≠ a := fun {j b} hj h z => by
    subst z
    have := (Own.tracked S' (sub hj h)).2.2
    rw [show (C.pin i b o G d).B b = some o from upd_same] at this
    cases this
  refine ⟨⟨S'.gh, bb.trans S'.bh, S.g0.trans g, fun b q => (S'.fr b q).1, fun b q => (S'.ga b q).elim (S.ga b) fun z => .inr z.1, S.wf, by rw [List.length_set]; exact S'.len, fun j s' q => ?_, fun j k b hj hk => ?_⟩, ga'⟩
  · by_cases hj : j = i
    · subst hj
      rw [List.getElem?_set_self hi] at q
      cases q
      refine ⟨_, e2, ?_⟩
      rcases hs with rfl | rfl
      · obtain ⟨b, h1, _, _, _, h5⟩ := k; cases h1; exact ⟨a, rfl, sh', ga', ba, h5⟩
      · obtain ⟨b, h1, _, _, _, h5⟩ := k; cases h1; exact ⟨a, rfl, sh', ga', ba, h5⟩
    · rw [List.getElem?_set_ne (fun z => hj z.symm)] at q
      obtain ⟨o', e3, k'⟩ := S'.sl j s' q
      refine ⟨o', e3, ?_⟩
      have bo : ∀ {b : Addr}, (C.pin i a o G d).B b = none → C.B b = none := fun {b} z => bb.free z
      cases s' with
      | un => trivial
      | val d' => exact k'
      | own d' => obtain ⟨b, h1, h2, h3, h4, h5⟩ := k'; exact ⟨b, h1, h2, h3, bo h4, h5.1⟩
      | io d' => obtain ⟨b, h1, h2, h3, h4, h5⟩ := k'; exact ⟨b, h1, h2, h3, bo h4, (if_neg hj).symm.trans h5⟩
      | bor d' => obtain ⟨v, h1, h2, h3⟩ := k'; exact ⟨v, h1, (if_neg hj).symm.trans h2, (if_neg hj).symm.trans h3⟩
      | scr ns => obtain ⟨v, h1, h2, h3⟩ := k'; exact ⟨v, h1, (if_neg hj).symm.trans h2, (if_neg hj).symm.trans h3⟩
      | exc n => exact k'
  · by_cases h1 : j = i
    · by_cases h2 : k = i
      · rw [h1, h2]
      · have z := away h2 hk
        subst h1
        obtain ⟨x, _⟩ := hj
        rw [e2] at x
        cases x
        exact absurd rfl z
    · by_cases h2 : k = i
      · have z := away h1 hj
        subst h2
        obtain ⟨x, _⟩ := hk
        rw [e2] at x
        cases x
        exact absurd rfl z
      · exact S'.ds j k b (sub h1 hj) (sub h2 hk)
/-- what comes of a place that was but looked at -/
theorem pin_okR (S : StOk C G σ H ρ) {i : Nat} {s : Sl} {d : D} (e : ρ[i]? = some s) (hs : s = .own d ∨ s = .io d) {a : Addr} {o : HO} (ev : σ[i]? = some (some (.ref a))) (ho : H a = some o)
    {σ' : L2.St} {G' H' : Hp} {ρ' : Env} {d' : D} (S' : StOk (C.pin i a o G d) G' σ' H' ρ') (g : Same G G') (e' : ρ'[i]? = some (.bor d')) {v : V} {r : Rv} (h : okR (C.pin i a o G d) G' σ' H' ρ' v r) : okR C G' σ' H' (ρ'.set i s) v r := by
  cases r with
  | pl p => exact h
  | fr d0 =>
    obtain ⟨b, rfl, h1, h2, h3, h4, h5⟩ := h
    have ba : C.B a = none := by
      have k := S.get e ev
      rcases hs with rfl | rfl
      · obtain ⟨b, h1, h2, h3, h4, _⟩ := k; cases h1; exact h4
      · obtain ⟨b, h1, h2, h3, h4, _⟩ := k; cases h1; exact h4
    have bb : Same C.B (upd C.B a o) := fun b u q => by rw [upd_ne (ne_of_none q ba)]; exact q
    have hi : i < ρ'.length := (List.getElem?_eq_some_iff.mp e').1
    obtain ⟨_, e2, v', rfl, z2, z3⟩ := S'.sl i _ e'
    have z2' : (if i = i then some (V.ref a) else C.P i) = some v' := z2
    rw [if_pos rfl] at z2'
    cases z2'
    refine ⟨b, rfl, h1, h2, bb.free h3, h4.1, fun j ⟨x, s', y, z⟩ => ?_⟩
    by_cases hj : j = i
    · subst hj
      rw [e2] at x
      cases x
      exact h4.2 rfl
    · rw [List.getElem?_set_ne (fun z => hj z.symm)] at y
      exact h5 j ⟨x, s', y, z⟩
end
theorem pinM_inv {α : Type} {i : Nat} {f : M α} {ρ ρ2 : Env} {x : α} (h : pinM i f ρ = .ok x ρ2) :
    f ρ = .ok x ρ2 ∨ ∃ s d d' ρ', ρ[i]? = some s ∧ (s = .own d ∨ s = .io d) ∧ f (ρ.set i (.bor d)) = .ok x ρ' ∧ ρ'[i]? = some (.bor d') ∧ ρ2 = ρ'.set i s := by
  unfold pinM at h
  split at h
  · rename_i d q
    split at h
    · rename_i y ρ' q2
      split at h
      · rename_i d' q3
        cases h
        exact .inr ⟨_, d, d', ρ', q, .inl rfl, q2, q3, rfl⟩
      · cases h
    · cases h
  · rename_i d q
    split at h
    · rename_i y ρ' q2
      split at h
      · rename_i d' q3
        cases h
        exact .inr ⟨_, d, d', ρ', q, .inr rfl, q2, q3, rfl⟩
      · cases h
    · cases h
  · exact .inl h
section
variable {K : PySem.W.Frag} {i : Nat}
theorem rdV_pin {t : TE} {f : M D} (r : RdV K t f) : RdV K t (pinM i f) := by
  intro C G σ H ρ Q hK S d ρ2 hf q
  rcases pinM_inv hf with h | ⟨s, d0, d', ρ', e, hs, h, e', rfl⟩
  · exact r C G σ H ρ Q hK S d ρ2 h q
  · obtain ⟨a, o, ev, ho, ga, ba, ow, S1⟩ := pin_in S e hs
    exact r (C.pin i a o G d0) G σ H _ Q hK S1 d ρ' h fun v G' H' g S' o' => q v G' H' g (pin_out S e hs ev ho S' g e').1 o'
theorem rdP_pin {t : TE} {f : M Pl} (r : RdP K t f) : RdP K t (pinM i f) := by
  intro C G σ H ρ Q hK S d ρ2 hf q
  rcases pinM_inv hf with h | ⟨s, d0, d', ρ', e, hs, h, e', rfl⟩
  · exact r C G σ H ρ Q hK S d ρ2 h q
  · obtain ⟨a, o, ev, ho, ga, ba, ow, S1⟩ := pin_in S e hs
    exact r (C.pin i a o G d0) G σ H _ Q hK S1 d ρ' h fun v G' H' g S' o' => q v G' H' g (pin_out S e hs ev ho S' g e').1 o'
theorem rdF_pin {t : TE} {f : M Rv} (r : RdF K t f) : RdF K t (pinM i f) := by
  intro C G σ H ρ Q hK S d ρ2 hf q
  rcases pinM_inv hf with h | ⟨s, d0, d', ρ', e, hs, h, e', rfl⟩
  · exact r C G σ H ρ Q hK S d ρ2 h q
  · obtain ⟨a, o, ev, ho, ga, ba, ow, S1⟩ := pin_in S e hs
    exact r (C.pin i a o G d0) G σ H _ Q hK S1 d ρ' h fun v G' H' g S' o' => q v G' H' g (pin_out S e hs ev ho S' g e').1 (pin_okR S e hs ev ho S' g e' o')
theorem rdT_pin {t : TT} {f : M Bool} (r : RdT K t f) : RdT K t (pinM i f) := by
  intro C G σ H ρ Q hK S d ρ2 hf q
  rcases pinM_inv hf with h | ⟨s, d0, d', ρ', e, hs, h, e', rfl⟩
  · exact r C G σ H ρ Q hK S d ρ2 h q
  · obtain ⟨a, o, ev, ho, ga, ba, ow, S1⟩ := pin_in S e hs
    exact r (C.pin i a o G d0) G σ H _ Q hK S1 d ρ' h fun G' H' g S' => q G' H' g (pin_out S e hs ev ho S' g e').1
theorem rdS_pin {t : TS} {f : M Fl} (r : RdS K t f) : RdS K t (pinM i f) := by
  intro C G σ H ρ D hK S fl ρ2 hf q
  rcases pinM_inv hf with h | ⟨s, d0, d', ρ', e, hs, h, e', rfl⟩
  · exact r C G σ H ρ D hK S fl ρ2 h q
  · obtain ⟨a, o, ev, ho, ga, ba, ow, S1⟩ := pin_in S e hs
    refine r (C.pin i a o G d0) G σ H _ D hK S1 fl ρ' h fun σ' G' H' g S' => ?_
    have z := q σ' G' H' g (pin_out S e hs ev ho S' g e').1
    cases fl with
    | nx => exact z
    | bk => exact z
    | ct => exact z
    | rt rr => exact fun v o' => z v (pin_okR S e hs ev ho S' g e' o')
end
section
variable {X : Cx} {e : Expr} {st : Stmt} {sts : List Stmt}
theorem pv_pin (i : Nat) {f : M D} (h : PV X e f) : PV X e (pinM i f) := let ⟨t, h, r⟩ := h; ⟨t, h, rdV_pin r⟩
theorem pp_pin (i : Nat) {f : M Pl} (h : PP X e f) : PP X e (pinM i f) := let ⟨t, h, r⟩ := h; ⟨t, h, rdP_pin r⟩
theorem pf_pin (i : Nat) {f : M Rv} (h : PF X e f) : PF X e (pinM i f) := let ⟨t, h, r⟩ := h; ⟨t, h, rdF_pin r⟩
theorem ptt_pin (i : Nat) {f : M Bool} (h : PTt X e f) : PTt X e (pinM i f) := let ⟨t, h, r⟩ := h; ⟨t, h, rdT_pin r⟩
theorem pwt_pin (i : Nat) {f : M Bool} (h : PWt X e f) : PWt X e (pinM i f) := let ⟨t, h, r⟩ := h; ⟨t, h, rdT_pin r⟩
theorem pst_pin (i : Nat) {f : M Fl} (h : PSt X st f) : PSt X st (pinM i f) := let ⟨t, h, r⟩ := h; ⟨t, h, rdS_pin r⟩
end
/-- for the soundness of what is written without places -/
theorem pin_ok {α : Type} {i : Nat} {f : M α} {ρ ρ' : Env} {d d' : D} {x : α} (e : ρ[i]? = some (.own d)) (h : f (ρ.set i (.bor d)) = .ok x ρ') (e' : ρ'[i]? = some (.bor d')) : pinM i f ρ = .ok x (ρ'.set i (.own d)) := by
  unfold pinM
  simp only [e, h, e']
theorem pin_okI {α : Type} {i : Nat} {f : M α} {ρ ρ' : Env} {d d' : D} {x : α} (e : ρ[i]? = some (.io d)) (h : f (ρ.set i (.bor d)) = .ok x ρ') (e' : ρ'[i]? = some (.bor d')) : pinM i f ρ = .ok x (ρ'.set i (.io d)) := by
  unfold pinM
  simp only [e, h, e']
end PL
/-! PL27: dict(list of pairs), {k: v for ..}, with numbers as keys. -/
namespace PL
open PySem PySem.Spec PyProof.Rows L2 RT RZ
variable [Kap]
def pairD : D → Option (Int × D)
  | .tuple [.int i, d] => some (i, d)
  | _ => none
def pairsD : List D → Option (List (Int × D))
  | [] => some []
  | x :: r => (pairD x).bind fun p => (pairsD r).map fun ps => p :: ps
def mergeD (ks : List (D × D)) (ps : List (Int × D)) : List (D × D) := ps.foldl (fun a p => putD a p.1 p.2) ks
def gDictP : List D → Option D
  | [.list ds] => (pairsD ds).map fun ps => .dict (mergeD [] ps)
  | _ => none
theorem pairD_inv {x : D} {p : Int × D} (h : pairD x = some p) : x = .tuple [.int p.1, p.2] := by
  unfold pairD at h
  split at h
  · cases h; rfl
  · cases h
theorem pairsD_app : ∀ {xs ys : List D} {ps : List (Int × D)}, pairsD (xs ++ ys) = some ps → ∃ p q, pairsD xs = some p ∧ pairsD ys = some q ∧ ps = p ++ q
  | [], ys, ps, h => ⟨[], ps, rfl, h, rfl⟩
  | x :: xs, ys, ps, h => by
    simp only [List.cons_append, pairsD] at h
    cases h1 : pairD x with
    | none => rw [h1] at h; cases h
    | some p0 =>
      rw [h1] at h
      cases h2 : pairsD (xs ++ ys) with
      | none => rw [h2] at h; cases h
      | some ps2 =>
        rw [h2] at h
        cases h
        obtain ⟨p, q, e1, e2, rfl⟩ := pairsD_app h2
        exact ⟨p0 :: p, q, by simp [pairsD, h1, e1], e2, rfl⟩
theorem pairsD_len : ∀ {xs : List D} {ps : List (Int × D)}, pairsD xs = some ps → ps.length = xs.length
  | [], ps, h => by cases h; rfl
  | x :: xs, ps, h => by
    simp only [pairsD] at h
    cases h1 : pairD x with
    | none => rw [h1] at h; cases h
    | some p0 =>
      rw [h1] at h
      cases h2 : pairsD xs with
      | none => rw [h2] at h; cases h
      | some ps2 => rw [h2] at h; cases h; simp [pairsD_len h2]
theorem putD_len (ks : List (D × D)) (i : Int) (d : D) : (putD ks i d).length ≤ ks.length + 1 := by
  unfold putD
  split
  · simp
  · simp
theorem mergeD_len : ∀ (ps : List (Int × D)) (ks : List (D × D)), (mergeD ks ps).length ≤ ks.length + ps.length
  | [], ks => by simp [mergeD]
  | p :: ps, ks => by
    have := mergeD_len ps (putD ks p.1 p.2)
    have := putD_len ks p.1 p.2
    simp only [mergeD, List.foldl_cons, List.length_cons] at *
    omega
inductive RpP (G : Hp) : List (Key × V) → List (Int × D) → Prop
  | nil : RpP G [] []
  | cons {i : Int} {v : V} {d : D} {kvs : List (Key × V)} {ps : List (Int × D)} : Rp G v d → RpP G kvs ps → RpP G ((.inl i, v) :: kvs) ((i, d) :: ps)
theorem RpP.merge {G : Hp} : ∀ {kvs : List (Key × V)} {ps : List (Int × D)} {es : List (Key × V)} {ks : List (D × D)}, RpP G kvs ps → RpK G es ks → RpK G (mergeK es kvs) (mergeD ks ps)
  | _, _, _, _, .nil, r => r
  | _, _, es, ks, .cons (i := i) (v := v) (d := d) (kvs := kvs) (ps := ps) rv rr, r => by
    show RpK G (mergeK (putK es (.inl i) v) kvs) (mergeD (putD ks i d) ps)
    exact RpP.merge rr (put_rpk i rv r)
theorem pairs_rp {K : PySem.W.Frag} {G H : Hp} (gh : Same G H) : ∀ {xs : List V} {ds : List D} {ps : List (Int × D)}, RpA G xs ds → pairsD ds = some ps →
    ∃ (as : List Addr) (kvs : List (Key × V)), xs = as.map V.ref ∧ Paired (fun p kv => SqT K H p [kV kv.1, kv.2]) as kvs ∧ RpP G kvs ps
  | _, _, _, .nil, h => by cases h; exact ⟨[], [], rfl, .nil, .nil⟩
  | _, _, _, .cons (d := d) (ds := ds) r rr, h => by
    simp only [pairsD] at h
    cases h1 : pairD d with
    | none => rw [h1] at h; cases h
    | some p0 =>
      rw [h1] at h
      cases h2 : pairsD ds with
      | none => rw [h2] at h; cases h
      | some ps2 =>
        rw [h2] at h
        cases h
        obtain ⟨as, kvs, rfl, q1, q2⟩ := pairs_rp (K := K) gh rr h2
        have e := pairD_inv h1
        subst e
        cases r with
        | @tup a ys _ ha r =>
          cases r with
          | cons r1 r2 => cases r2 with
            | cons r2 r3 =>
              cases r3
              cases r1
              exact ⟨a :: as, (.inl p0.1, _) :: kvs, rfl, .cons (.inl (.inl (gh _ _ ha))) q1, .cons r2 q2⟩
section
variable {X : Cx} {e : Expr} {es : List Expr} {pos p : Pos} {gs : M (List Pl)}
theorem pf_dictP (hc : X.calm = true) (hg : Gl X "dict") (hm : X.mg "dict" = none) (ha : PPs X (e :: es) gs) (he : starEach (e :: es) X.env = (false, eval e X.env) :: starEach es X.env := by rfl) (hpl : (backTo pos (starEach es X.env)).any (·.1) = false := by rfl) :
    PF X (.Call (.Name "dict" p) (e :: es) [] pos) (mFr (mN gDictP gs)) := pf_bT (call_dictP hc) (fun G H vs ds z Q gh s hg q => by
  cases s with
  | nil => cases hg
  | cons h r => cases r with
    | cons _ _ => cases h <;> cases hg
    | nil => cases h with
      | @lst a xs ds h r =>
        simp only [gDictP] at hg
        cases h2 : pairsD ds with
        | none => rw [h2] at hg; cases hg
        | some ps =>
          rw [h2] at hg
          cases hg
          obtain ⟨as, kvs, rfl, q1, q2⟩ := pairs_rp (K := X.K) gh r h2
          exact ⟨a, as, kvs, rfl, .inl (.inl h), q1, fun l hl => q l _ hl (Grow.newF gh hl) (.dct upd_same (q2.merge .nil))⟩
      | _ => cases hg) hg hm PyProof.Rows.boot_dict ha (he := he) (hpl := hpl)
end
/-! ### {k: v for ..} -/
def mPr (fk fe : M D) : M D := mTup (mCons fk (mCons fe mNil))
def mDc (fi : M (List D)) (t : D → M Unit) (vs : List Nat) (c : M Bool) (fk fe : M D) : M Rv := bnd (mLc fi t vs c (mPr fk fe)) fun r => match r with
  | .fr d => bnd (ofO (gDictP [d])) fun z => ret (.fr z)
  | _ => fun _ => .stuck
theorem lcGo_ext {t : D → M Unit} {vs : List Nat} {c : M Bool} {fe : M D} : ∀ {ds acc out : List D} {ρ ρ' : Env}, lcGo t vs c fe acc ds ρ = .ok out ρ' → ∃ more, out = acc ++ more
  | [], acc, out, ρ, ρ', h => by cases h; exact ⟨[], by simp⟩
  | d :: ds, acc, out, ρ, ρ', h => by
    obtain ⟨_, ρ1, h1, h⟩ := bnd_ok h
    obtain ⟨k, ρ2, h2, h⟩ := bnd_ok h
    cases k with
    | true =>
      rw [if_pos rfl] at h
      obtain ⟨y, ρ3, h3, h⟩ := bnd_ok h
      split at h
      · obtain ⟨more, rfl⟩ := lcGo_ext h
        exact ⟨y :: more, by simp⟩
      · cases h
    | false =>
      rw [if_neg Bool.false_ne_true] at h
      exact lcGo_ext h
theorem mPr_ok {fk fe : M D} {ρ ρ' : Env} {y : D} (h : mPr fk fe ρ = .ok y ρ') : ∃ k d ρ1, fk ρ = .ok k ρ1 ∧ fe ρ1 = .ok d ρ' ∧ y = .tuple [k, d] := by
  obtain ⟨ds, ρ1, h1, h2⟩ := bnd_ok h
  obtain ⟨k, ρ2, h3, h4⟩ := bnd_ok h1
  obtain ⟨qs, ρ3, h5, h6⟩ := bnd_ok h4
  cases h6
  obtain ⟨d, ρ4, h7, h8⟩ := bnd_ok h5
  obtain ⟨qs2, ρ5, h9, h10⟩ := bnd_ok h8
  cases h10
  cases h9
  split at h2
  · cases h2; exact ⟨k, d, ρ2, h3, h7, rfl⟩
  · cases h2
section
variable {X : Cx} {tg kx vx iter c : Expr} {ifs : List Expr} {scope : Scope} {own : List (Str × Nat)} {pos : Pos} {fk fe : M D}
theorem rd_dc {wi : TI} {fi : M (List D)} {t : D → M Unit} {ts vs : List Nat} {mc : M Bool} (hts : ∀ i ∈ ts, i ∈ vs) (hi : RdI X.K wi fi) : RdF X.K (tDc wi (TGv X.K ts t) (TTv X.K mc) (TV X.K fk) (TV X.K fe) vs) (mDc fi t vs mc fk fe) := by
  intro C G σ H ρ Q hK S r0 ρ'0 hf0 q
  obtain ⟨r, ρ', hf, hz⟩ := bnd_ok hf0
  obtain ⟨ds, ρ1, h1, hf2⟩ := bnd_ok hf
  refine hi C G σ H ρ _ hK S ds ρ1 h1 fun J G1 H1 g1 S1 JJ E hE => ?_
  cases hl : lcGo t vs mc (mPr fk fe) [] ds (wipeE ρ1 vs) with
  | stuck => rw [hl] at hf2; cases hf2
  | ok accF ρF =>
    rw [hl] at hf2
    cases hf2
    obtain ⟨z, ρz, hz1, hz2⟩ := bnd_ok (show bnd (ofO (gDictP [.list accF])) (fun z => ret (.fr z)) (restE ρ1 ρF vs) = .ok r0 ρ'0 from hz)
    obtain ⟨hgd, rfl⟩ := ofO_ok hz1
    cases hz2
    cases hpF : pairsD accF with
    | none => simp only [gDictP, hpF] at hgd; cases hgd
    | some psF =>
    simp only [gDictP, hpF] at hgd
    cases hgd
    have hBE : C.B E = none := S1.bh.free hE
    have hGE : ∀ {G2 : Hp} {σ2 : L2.St} {H2 : Hp} {ρ2 : Env} {o : HO}, StOk (C.with E o) G2 σ2 H2 ρ2 → G2 E = none := fun {G2 σ2 H2 ρ2 o} S2 => by
      cases q : G2 E with
      | none => rfl
      | some u =>
        rcases S2.ga E (ne_none_of q) with z | z
        · exact absurd (S1.gh.free hE |> S1.g0.free) z
        · exact absurd rfl z.2
    refine ⟨fun i mm H2 => i + mm = ds.length ∧ ∃ G2 ρ2 accV acc ps, Same G1 G2 ∧ StOk (C.with E (.dK accV)) G2 (L2.wipe σ vs) H2 ρ2 ∧ pairsD acc = some ps ∧ RpK G2 accV (mergeD [] ps) ∧ lcGo t vs mc (mPr fk fe) acc (ds.drop i) ρ2 = .ok accF ρF,
      ⟨ds.length, by omega, G1, _, [], [], [], Same.refl _, (S1.enter hE (.dK [])).wipe vs, rfl, .nil, by simpa using hl⟩, fun i mm H2 ⟨hm, G2, ρ2, accV, acc, ps, g2, S2, hps, ra, h2⟩ => ?_⟩
    by_cases hlt : i < ds.length
    · have gh2 := S2.gh
      have bh2 : Same C.B H2 := (same_new hBE).trans S2.bh
      refine .inr ⟨JJ.go i G2 H2 bh2 g2 gh2 hlt, fun H3 => ∃ G3 ρ3 accV3 acc3 ps3, Same G1 G3 ∧ StOk (C.with E (.dK accV3)) G3 (L2.wipe σ vs) H3 ρ3 ∧ pairsD acc3 = some ps3 ∧ RpK G3 accV3 (mergeD [] ps3) ∧ lcGo t vs mc (mPr fk fe) acc3 (ds.drop (i + 1)) ρ3 = .ok accF ρF,
        fun H3 ⟨G3, ρ3, accV3, acc3, ps3, z1, z2, z3, z4, z5⟩ => ⟨mm - 1, by omega, by omega, G3, ρ3, accV3, acc3, ps3, z1, z2, z3, z4, z5⟩, fun y H3 hy => ?_⟩
      have ed : ds[i]? = some ds[i] := List.getElem?_eq_getElem hlt
      obtain ⟨G3, w, ry⟩ := JJ.yld i G2 H2 y H3 _ bh2 g2 gh2 ed hy
      have S3 := S2.grow w
      rw [List.drop_eq_getElem_cons hlt] at h2
      obtain ⟨uu, ρ3, h3, h4⟩ := bnd_ok h2
      refine ⟨C.with E (.dK accV), G3, _, _, ρ3, hK, S3, ry, h3, fun σ4 S4 w4 => ⟨(w4 vs hts).trans wipe_wipe, ?_⟩⟩
      obtain ⟨kk, ρ5, h5, h6⟩ := bnd_ok h4
      refine ⟨C.with E (.dK accV), G3, _, kk, ρ5, hK, S4, h5, fun G5 H5 g5 S5 => ?_⟩
      have ww : L2.wipe σ4 vs = L2.wipe σ vs := (w4 vs hts).trans wipe_wipe
      cases kk with
      | true =>
        show (if true = true then _ else _); rw [if_pos rfl]
        rw [if_pos rfl] at h6
        obtain ⟨yd, ρ6, h7, h8⟩ := bnd_ok h6
        obtain ⟨kd, dd, ρk, hk1, hk2, rfl⟩ := mPr_ok h7
        by_cases hac : acc.length < 100000
        · rw [if_pos hac] at h8
          have h8' : lcGo t vs mc (mPr fk fe) (acc ++ [.tuple [kd, dd]]) (ds.drop (i + 1)) (wipeE ρ6 vs) = .ok accF ρF := h8
          obtain ⟨more, em⟩ := lcGo_ext h8'
          rw [em] at hpF
          obtain ⟨pa, pb, ea, eb, _⟩ := pairsD_app hpF
          obtain ⟨pc, pd, ec, ed', rfl⟩ := pairsD_app ea
          rw [hps] at ec; cases ec
          have hpd : ∃ n, kd = .int n ∧ pd = [(n, dd)] := by
            simp only [pairsD] at ed'
            cases h9 : pairD (.tuple [kd, dd]) with
            | none => rw [h9] at ed'; cases ed'
            | some p0 =>
              rw [h9] at ed'
              cases ed'
              have := pairD_inv h9
              injection this with this
              injection this with e1 e2
              injection e2 with e2 e3
              subst e1; subst e2
              exact ⟨p0.1, rfl, rfl⟩
          obtain ⟨n, rfl, rfl⟩ := hpd
          refine ⟨C.with E (.dK accV), G5, _, .int n, ρk, hK, S5, hk1, fun v6 G6 H6 g6 S6 r6 => ?_⟩
          cases r6
          refine ⟨C.with E (.dK accV), G6, _, dd, ρ6, hK, S6, hk2, fun v7 G7 H7 g7 S7 r7 => ?_⟩
          have hH7 : H7 E = some (.dK accV) := S7.bh E _ upd_same
          have gg : Same G2 G7 := ((w.g.trans g5).trans g6).trans g7
          have hle : accV.length < 100000 := by
            rw [len_rpk ra]
            have := mergeD_len ps []
            have := pairsD_len hps
            simp at *
            omega
          refine ⟨accV, .inl n, rfl, hH7, line_lt hle, G7, wipeE ρ6 vs, putK accV (.inl n) v7, _, _, g2.trans gg, ?_, ea, ?_, h8'⟩
          · have S8 := S7.step (o' := .dK (putK accV (.inl n) v7)) (hGE S7) S1.wf hBE
            rw [← ww]
            exact S8.wipe vs
          · have := put_rpk n r7 (RpK.mono gg ra)
            rw [show mergeD [] (ps ++ [(n, dd)]) = putD (mergeD [] ps) n dd from by simp [mergeD, List.foldl_append]]
            exact this
        · rw [if_neg hac] at h8
          cases h8
      | false =>
        show (if false = true then _ else _); rw [if_neg Bool.false_ne_true]
        rw [if_neg Bool.false_ne_true] at h6
        refine ⟨G5, wipeE ρ5 vs, accV, acc, ps, g2.trans (w.g.trans g5), ?_, hps, RpK.mono (w.g.trans g5) ra, h6⟩
        rw [← ww]
        exact S5.wipe vs
    · have hi' : i = ds.length := by omega
      rw [List.drop_eq_nil_of_le (by omega)] at h2
      cases h2
      rw [hps] at hpF
      cases hpF
      have gh2 := S2.gh
      have bh2 : Same C.B H2 := (same_new hBE).trans S2.bh
      refine .inl ⟨by rw [hi']; exact JJ.stop G2 H2 bh2 g2 gh2, ?_⟩
      have S3 : StOk C G2 (L2.wipe σ vs) H2 _ := S2.exit S1.wf hBE
      have S4 := S1.rest S3 g2
      refine q _ G2 H2 (g1.trans g2) S4 ⟨E, rfl, .dct (S2.bh E _ upd_same) ra, hGE S2, hBE, S1.fr E hE, fun j hj => ?_⟩
      obtain ⟨z1, s, z2, z3⟩ := hj
      by_cases hjv : j ∈ vs
      · have := restE_in hjv z2
        subst this
        rw [keepS_own] at z3; cases z3
      · rw [restE_out hjv] at z2
        obtain ⟨_, _, z4⟩ := Own.tracked S2 (i := j) (a := E) ⟨by rw [wipe_get hjv]; exact z1, s, z2, z3⟩
        have z5 : upd C.B E (.dK accV) E = none := z4
        rw [upd_same] at z5; cases z5
theorem pf_dc {fi : M (List D)} {t : D → M Unit} {ts : List Nat} (hc : X.calm = true) (hN : X.N.Nodup) (hi : PIt X tg iter fi) (ok : BlkOk X.N X.env.scope scope own)
    (hg : ∀ (s : Shared) (H : Hp) (C : Addr) (cl : List (Str × Addr)) (fp : List Addr), PGt (X.blk s H scope (compEnvC scope cl C X.env) fp) tg ts t)
    (hk : ∀ (s : Shared) (H : Hp) (C : Addr) (cl : List (Str × Addr)) (fp : List Addr), PV (X.blk s H scope (compEnvC scope cl C X.env) fp) kx fk)
    (he : ∀ (s : Shared) (H : Hp) (C : Addr) (cl : List (Str × Addr)) (fp : List Addr), PV (X.blk s H scope (compEnvC scope cl C X.env) fp) vx fe) (hs : ∀ x, foldedSetIterable iter X.env x = pure x := by intro _; rfl)
    (hts : ∀ i ∈ ts, i ∈ own.map (·.2) := by decide) :
    PF X (.DictComp kx vx [⟨tg, iter, [], 0⟩] scope pos) (mDc fi t (own.map (·.2)) mYes fk fe) := by
  obtain ⟨wi, hi, ri⟩ := hi
  exact ⟨_, pe_dc (g := TGv X.K ts t) (tt := TTv X.K mYes) (tk := TV X.K fk) (tv := TV X.K fe) hc hN hi ok (fun s H C cl fp => pg_uni (hg s H C cl fp)) (fun _ _ _ _ _ => pts_yes) (fun s H C cl fp => pv_uni (hk s H C cl fp)) (fun s H C cl fp => pv_uni (he s H C cl fp)) hs, rd_dc hts ri⟩
theorem pf_dcIf {fi : M (List D)} {t : D → M Unit} {ts : List Nat} {mc : M Bool} (hc : X.calm = true) (hN : X.N.Nodup) (hi : PIt X tg iter fi) (ok : BlkOk X.N X.env.scope scope own)
    (hg : ∀ (s : Shared) (H : Hp) (C : Addr) (cl : List (Str × Addr)) (fp : List Addr), PGt (X.blk s H scope (compEnvC scope cl C X.env) fp) tg ts t)
    (ht : ∀ (s : Shared) (H : Hp) (C : Addr) (cl : List (Str × Addr)) (fp : List Addr), PTt (X.blk s H scope (compEnvC scope cl C X.env) fp) c mc)
    (hk : ∀ (s : Shared) (H : Hp) (C : Addr) (cl : List (Str × Addr)) (fp : List Addr), PV (X.blk s H scope (compEnvC scope cl C X.env) fp) kx fk)
    (he : ∀ (s : Shared) (H : Hp) (C : Addr) (cl : List (Str × Addr)) (fp : List Addr), PV (X.blk s H scope (compEnvC scope cl C X.env) fp) vx fe) (hs : ∀ x, foldedSetIterable iter X.env x = pure x := by intro _; rfl)
    (hts : ∀ i ∈ ts, i ∈ own.map (·.2) := by decide) :
    PF X (.DictComp kx vx [⟨tg, iter, [c], 0⟩] scope pos) (mDc fi t (own.map (·.2)) mc fk fe) := by
  obtain ⟨wi, hi, ri⟩ := hi
  exact ⟨_, pe_dc (g := TGv X.K ts t) (tt := TTv X.K mc) (tk := TV X.K fk) (tv := TV X.K fe) hc hN hi ok (fun s H C cl fp => pg_uni (hg s H C cl fp)) (fun s H C cl fp => pts_one (pt_uni (ht s H C cl fp))) (fun s H C cl fp => pv_uni (hk s H C cl fp)) (fun s H C cl fp => pv_uni (he s H C cl fp)) hs, rd_dc hts ri⟩
end
end PL
namespace PL
variable [Kap]
theorem mDc_ok {fi : M (List D)} {t : D → M Unit} {vs : List Nat} {c : M Bool} {fk fe : M D} {xs : List D} {z : D} {ρ ρ' : Env} (h : mLc fi t vs c (mTup (mCons fk (mCons fe mNil))) ρ = .ok (.fr (.list xs)) ρ') (hz : gDictP [.list xs] = some z) : mDc fi t vs c fk fe ρ = .ok (.fr z) ρ' := by
  unfold mDc
  rw [bnd_eq (show mLc fi t vs c (mPr fk fe) ρ = .ok (.fr (.list xs)) ρ' from h)]
  simp only [hz]
  rfl
end PL
/-! PL28: what a call tells of things without lists in them has new lists only; what is told so may be changed and forgotten. -/
namespace PL
open PySem PySem.Spec PyProof.Rows L2 RT RZ
variable [Kap]
/-! ### no list in it -/
mutual
def nol : D → Bool
  | .list _ => false
  | .dict _ => false
  | .tuple ds => nolA ds
  | _ => true
def nolA : List D → Bool
  | [] => true
  | d :: ds => nol d && nolA ds
end
/-- no list within its items -/
def nolE : D → Bool
  | .list ds => nolA ds
  | .tuple ds => nolA ds
  | .dict _ => false
  | _ => true
def dropL (G : Hp) : Hp := fun a => match G a with
  | some (.tup xs) => some (.tup xs)
  | _ => none
theorem dropL_same (G : Hp) : Same (dropL G) G := fun a o h => by
  unfold dropL at h
  split at h
  · rename_i xs q; cases h; exact q
  · cases h
theorem dropL_tup {G : Hp} {a : Addr} {xs : List V} (h : G a = some (.tup xs)) : dropL G a = some (.tup xs) := by
  unfold dropL; rw [h]
theorem dropL_lst {G : Hp} {a : Addr} {o : HO} (h : dropL G a = some o) : ∃ xs, o = .tup xs := by
  unfold dropL at h
  split at h
  · cases h; exact ⟨_, rfl⟩
  · cases h
mutual
theorem Rp.drop {G : Hp} : ∀ {v : V} {d : D}, Rp G v d → nol d = true → Rp (dropL G) v d
  | _, _, .non, _ => .non
  | _, _, .bl b, _ => .bl b
  | _, _, .int i, _ => .int i
  | _, _, .str x, _ => .str x
  | _, _, .lst h r, n => by simp [nol] at n
  | _, _, .tup h r, n => .tup (dropL_tup h) (RpA.drops r (by simpa [nol] using n))
  | _, _, .dct h r, n => by simp [nol] at n
theorem RpA.drops {G : Hp} : ∀ {vs : List V} {ds : List D}, RpA G vs ds → nolA ds = true → RpA (dropL G) vs ds
  | _, _, .nil, _ => .nil
  | _, _, .cons h r, n => by
    simp only [nolA, Bool.and_eq_true] at n
    exact .cons (Rp.drop h n.1) (RpA.drops r n.2)
end
theorem Sh.drop {G H : Hp} {v : V} {d : D} (h : Sh G H v d) (n : nolE d = true) : Sh (dropL G) H v d := by
  cases h with
  | non => exact .non
  | bl b => exact .bl b
  | int i => exact .int i
  | str x => exact .str x
  | lst h r => exact .lst h (r.drops n)
  | tup h r => exact .tup h (r.drops n)
  | dct h r => cases n
def nolS : Sl → Bool
  | .val d => nol d
  | .own _ => false
  | .io d => nolE d
  | .bor d => nolE d
  | .exc _ => false
  | _ => true
open Classical in
/-- lists (and dicts) elsewhere than at N left out -/
noncomputable def cutN (N : Addr → Prop) (G : Hp) : Hp := fun a => match G a with
  | some (.lst xs) => if N a then some (.lst xs) else none
  | some (.dK es) => if N a then some (.dK es) else none
  | o => o
theorem cutN_same {N : Addr → Prop} {G : Hp} : Same (cutN N G) G := fun a o h => by
  unfold cutN at h
  split at h
  · rename_i xs q
    split at h
    · cases h; exact q
    · cases h
  · rename_i xs q
    split at h
    · cases h; exact q
    · cases h
  · exact h
theorem cutN_at {N : Addr → Prop} {G : Hp} {a : Addr} (h : N a) : cutN N G a = G a := by
  unfold cutN
  split
  · rename_i xs q; rw [if_pos h, q]
  · rename_i xs q; rw [if_pos h, q]
  · rfl
theorem cutN_tup {N : Addr → Prop} {G : Hp} {a : Addr} {xs : List V} (h : G a = some (.tup xs)) : cutN N G a = some (.tup xs) := by
  unfold cutN
  rw [h]
theorem cutN_lst {N : Addr → Prop} {G : Hp} {a : Addr} {xs : List V} (h : cutN N G a = some (.lst xs)) : N a ∧ G a = some (.lst xs) := by
  have g := cutN_same _ _ h
  refine ⟨?_, g⟩
  unfold cutN at h
  rw [g] at h
  simp only at h
  split at h
  · assumption
  · cases h
theorem cutN_mono {N : Addr → Prop} {G G' : Hp} (e : Same G G') : Same (cutN N G) (cutN N G') := fun a o h => by
  have g := cutN_same _ _ h
  have g' := e _ _ g
  unfold cutN at h ⊢
  rw [g] at h
  rw [g']
  exact h
/-- the callee's frozen objects, as ours: its lists are new -/
theorem same_newL {N : Addr → Prop} {G G' : Hp} (e : Same G G') (h : ∀ a o, G a = some o → (∃ xs, o = .tup xs) ∨ N a) : Same G (cutN N G') := fun a o q => by
  rcases h a o q with ⟨xs, rfl⟩ | n
  · exact cutN_tup (e _ _ q)
  · rw [cutN_at n]; exact e _ _ q
theorem Sh.full {G H G2 : Hp} {a : Addr} {d : D} (h : Sh G H (.ref a) d) (e : Same G G2) (k : ∀ o, H a = some o → G2 a = some o) : Rp G2 (.ref a) d := by
  cases h with
  | lst h r => exact .lst (k _ h) (r.mono e)
  | tup h r => exact .tup (k _ h) (r.mono e)
  | dct h r => exact .dct (k _ h) (r.mono e)
/-! ### readings of new things -/
def RdN (K : PySem.W.Frag) (t : TE) (f : M D) : Prop := ∀ (C : Ctx) (G : Hp) (σ : L2.St) (H : Hp) (ρ : Env) (Q : VK), C.K = K → StOk C G σ H ρ → ∀ (d : D) (ρ' : Env), f ρ = .ok d ρ' →
  (∀ (v : V) (G' H' : Hp), Same G G' → StOk C G' σ H' ρ' → Rp (cutN C.A G') v d → Q v H') → t σ H Q
def RdNs (K : PySem.W.Frag) (t : TA) (f : M (List D)) : Prop := ∀ (C : Ctx) (G : Hp) (σ : L2.St) (H : Hp) (ρ : Env) (Q : List V → Hp → Prop), C.K = K → StOk C G σ H ρ → ∀ (ds : List D) (ρ' : Env), f ρ = .ok ds ρ' →
  (∀ (vs : List V) (G' H' : Hp), Same G G' → StOk C G' σ H' ρ' → RpA (cutN C.A G') vs ds → Q vs H') → t σ H Q
def PN (X : Cx) (e : Expr) (f : M D) : Prop := ∃ t, PE X e t ∧ RdN X.K t f
def PNs (X : Cx) (es : List Expr) (f : M (List D)) : Prop := ∃ t, PA X es t ∧ RdNs X.K t f
def mLstZ (f : M (List D)) : M D := bnd f fun ds => if ds.length ≤ 100000 then ret (.list ds) else fun _ => .stuck
section
variable {X : Cx} {e : Expr} {es : List Expr} {pos : Pos} {f : M D} {fs : M (List D)}
theorem pns_nil : PNs X [] mNil := ⟨_, pa_nil, fun C G σ H ρ Q hK S d ρ' hf q => by cases hf; exact q [] G H (Same.refl _) S .nil⟩
theorem pns_cons (h : PN X e f) (hr : PNs X es fs) (hs : starEach (e :: es) X.env = (false, eval e X.env) :: starEach es X.env := by rfl) : PNs X (e :: es) (mCons f fs) := by
  obtain ⟨t, h, r⟩ := h
  obtain ⟨u, hr, rr⟩ := hr
  refine ⟨_, pa_cons h hr hs, fun C G σ H ρ Q hK S ds ρ' hf q => ?_⟩
  obtain ⟨d, ρ1, h1, hf⟩ := bnd_ok hf
  obtain ⟨ds', ρ2, h2, hf⟩ := bnd_ok hf
  cases hf
  refine r C G σ H ρ _ hK S d ρ1 h1 fun v G1 H1 g1 S1 o1 => ?_
  exact rr C G1 σ H1 ρ1 _ hK S1 ds' _ h2 fun vs G2 H2 g2 S2 o2 => q _ G2 H2 (g1.trans g2) S2 (.cons (o1.mono (cutN_mono g2)) o2)
theorem pn_lst (h : PNs X es fs) : PN X (.List es pos) (mLstZ fs) := by
  obtain ⟨t, h, r⟩ := h
  refine ⟨_, pe_lst h, fun C G σ H ρ Q hK S d ρ' hf q => ?_⟩
  obtain ⟨ds, ρ1, h1, hf⟩ := bnd_ok hf
  by_cases hl : ds.length ≤ 100000
  · rw [if_pos hl] at hf
    cases hf
    refine r C G σ H ρ _ hK S ds _ h1 fun vs G1 H1 g1 S1 o1 => ⟨by rw [o1.length]; exact line_of hl, fun p hp => ?_⟩
    have w : Grow G1 H1 (upd G1 p (.lst vs)) (upd H1 p (.lst vs)) := Grow.new S1.gh hp
    refine q _ _ _ (g1.trans w.g) (S1.grow w) (.lst ?_ (o1.mono (cutN_mono w.g)))
    rw [cutN_at (S1.fr p hp)]
    exact upd_same
  · rw [if_neg hl] at hf
    cases hf
end
/-! ### a call of things without lists in them -/
def chkN (ms : List Md) (ps : List Pl) : M Unit := fun ρ => match argSs ρ ms ps with
  | some ss => if ss.all nolS = true then .ok () ρ else .stuck
  | none => .stuck
def mNew (ms : List Md) (nl : Nat) (body : M Fl) (fs : M (List Pl)) : M D := bnd fs fun ps => bnd (chkN ms ps) fun _ => mFz (callAt ms nl body ps)
section
variable {C : Ctx} {G H : Hp} {σ : L2.St} {ρ : Env} {vs : List V} {ps : List Pl} {ms : List Md} {ss : Env}
noncomputable def callD (C : Ctx) (G H : Hp) (σ : L2.St) (vs : List V) (ms : List Md) (ps : List Pl) (ss : Env) : Ctx := { callC C G H σ vs ms ps ss with G0 := dropL G }
theorem all_nolS (h : ss.all nolS = true) {i : Nat} {s : Sl} (e : ss[i]? = some s) : nolS s = true := List.all_eq_true.mp h s (List.mem_of_getElem? e)
theorem call_startD (S : StOk (callC C G H σ vs ms ps ss) G (vs.map some) H ss) (hn : ss.all nolS = true) : StOk (callD C G H σ vs ms ps ss) (dropL G) (vs.map some) H ss := by
  have dm := dropL_same G
  refine ⟨dm.trans S.gh, S.bh, Same.refl _, S.fr, fun a q => .inl q, fun i v q => ?_, S.len, fun i s e => ?_, S.ds⟩
  · have w := S.wf i v q
    show BorOk C.K (dropL G) _ v (ss.getD i .un)
    have w' : BorOk C.K G (callC C G H σ vs ms ps ss).B v (ss.getD i .un) := w
    cases e : ss[i]? with
    | none =>
      rw [List.getD_eq_getElem?_getD, e]
      trivial
    | some s =>
      have n := all_nolS hn e
      rw [List.getD_eq_getElem?_getD, e] at w' ⊢
      cases s with
      | bor d => exact Sh.drop w' n
      | scr ns => exact w'
      | _ => trivial
  · have n := all_nolS hn e
    obtain ⟨o, e1, k⟩ := S.sl i s e
    refine ⟨o, e1, ?_⟩
    cases s with
    | un => trivial
    | val d => obtain ⟨v, h1, r⟩ := k; exact ⟨v, h1, r.drop n⟩
    | own d => cases n
    | io d =>
      obtain ⟨a, h1, r, h2, h3, h4⟩ := k
      refine ⟨a, h1, r.drop n, ?_, h3, h4⟩
      exact dm.free h2
    | bor d => exact k
    | scr ns => exact k
    | exc n' => cases n
def unH (G G' : Hp) : Hp := fun a => match G a with
  | some o => some o
  | none => G' a
theorem unH_l {G G' : Hp} : Same G (unH G G') := fun a o h => by unfold unH; rw [h]
theorem unH_r {G G' H : Hp} (h1 : Same G H) (h2 : Same G' H) : Same G' (unH G G') := fun a o h => by
  unfold unH
  cases q : G a with
  | none => exact h
  | some u =>
    have := h1 _ _ q
    rw [h2 _ _ h] at this
    cases this; rfl
theorem unH_ne {G G' : Hp} {a : Addr} (h : unH G G' a ≠ none) : G a ≠ none ∨ (G a = none ∧ G' a ≠ none) := by
  unfold unH at h
  cases q : G a with
  | none => rw [q] at h; exact .inr ⟨rfl, h⟩
  | some u => exact .inl (by intro z; cases z)
theorem unH_none {G G' : Hp} {a : Addr} (h1 : G a = none) (h2 : G' a = none) : unH G G' a = none := by unfold unH; rw [h1]; exact h2
theorem call_raise (S : StOk C G σ H ρ) (ha : argSs ρ ms ps = some ss) (S0 : StOk (callC C G H σ vs ms ps ss) G (vs.map some) H ss) {G' H' : Hp} {σ' : L2.St} {ρ' : Env} (S' : StOk (callD C G H σ vs ms ps ss) G' σ' H' ρ') :
    StOk (callC C G H σ vs ms ps ss) (unH G G') σ' H' ρ' ∧ Same G H' ∧ ∀ a o, G' a = some o → (∃ xs, o = .tup xs) ∨ H a = none := by
  have hGH : Same G H' := fun a o q => by
    have b : (callC C G H σ vs ms ps ss).B a = H a := if_neg fun h => by
      obtain ⟨j, _, ow⟩ := IoA.own ha h
      rw [(Own.tracked S ow).2.1] at q; cases q
    exact S'.bh a o (show (callC C G H σ vs ms ps ss).B a = some o by rw [b]; exact S.gh _ _ q)
  have r : Same G' (unH G G') := unH_r hGH S'.gh
  have low : ∀ {a : Addr}, (callC C G H σ vs ms ps ss).B a = none → G a = none := fun {a} q => by
    cases z : G a with
    | none => rfl
    | some o =>
      have b : (callC C G H σ vs ms ps ss).B a = H a := if_neg fun h => by
        obtain ⟨j, _, ow⟩ := IoA.own ha h
        rw [(Own.tracked S ow).2.1] at z; cases z
      rw [b, S.gh _ _ z] at q; cases q
  refine ⟨⟨fun a o q => ?_, S'.bh, unH_l, S'.fr, fun a q => ?_, S0.wf, S'.len, fun i s e => ?_, S'.ds⟩, hGH, fun a o q => ?_⟩
  · unfold unH at q
    cases z : G a with
    | none => rw [z] at q; exact S'.gh a o q
    | some u => rw [z] at q; cases q; exact hGH _ _ z
  · rcases unH_ne q with z | ⟨z, y⟩
    · exact .inl z
    · rcases S'.ga a y with w | w
      · exact .inl fun t => w ((dropL_same G).free t)
      · exact .inr w
  · obtain ⟨o, e1, k⟩ := S'.sl i s e
    refine ⟨o, e1, ?_⟩
    cases s with
    | un => trivial
    | val d => obtain ⟨v, h1, q⟩ := k; exact ⟨v, h1, q.mono r⟩
    | own d => obtain ⟨a, h1, q, h2, h3, h4⟩ := k; exact ⟨a, h1, q.mono r (Same.refl _), unH_none (low h3) h2, h3, h4⟩
    | io d => obtain ⟨a, h1, q, h2, h3, h4⟩ := k; exact ⟨a, h1, q.mono r (Same.refl _), unH_none (low h3) h2, h3, h4⟩
    | bor d => exact k
    | scr ns => exact k
    | exc n => obtain ⟨v, h1, q⟩ := k; exact ⟨v, h1, (r _ _ q)⟩
  · rcases S'.ga a (ne_none_of q) with w | w
    · cases z : dropL G a with
      | none => exact absurd z w
      | some u =>
        obtain ⟨xs, rfl⟩ := dropL_lst z
        have h1 := S'.g0 a _ z
        rw [q] at h1
        exact .inl ⟨xs, Option.some.inj h1⟩
    · exact .inr w
end
section
variable {X : Cx} {e : Expr} {es : List Expr} {pos p : Pos} {x : Str} {k : Nat} {f : Addr} {fd : FuncData} {ps : List Str} {np nl : Nat} {m : M Fl} {ms : List Md} {fs : M (List Pl)}
theorem rd_new {E : XK} {t : TA} (ra : RdPs X.K t fs) (hl : ms.length = np) : RdN X.K (tCall (spD X.K np nl m) [] E t) (mNew ms nl m fs) := by
  intro C G σ H ρ Q hK S d0 ρ2 hf q
  obtain ⟨pl, ρ1, h1, hf2⟩ := bnd_ok hf
  refine ra C G σ H ρ _ hK S pl ρ1 h1 fun vs G1 H1 g1 S1 o => ?_
  obtain ⟨_, ρ1', hc, hf3⟩ := bnd_ok hf2
  obtain ⟨r', ρ3, hca, hf4⟩ := bnd_ok hf3
  unfold chkN at hc
  cases ha2 : argSs ρ1 ms pl with
  | none => rw [ha2] at hc; cases hc
  | some ss =>
  rw [ha2] at hc
  simp only at hc
  by_cases hn : ss.all nolS = true
  · rw [if_pos hn] at hc
    cases hc
    unfold callAt at hca
    by_cases ap : apart ms pl = true
    · rw [if_pos ap, ha2] at hca
      simp only at hca
      cases hev : evalD ms nl m ss with
      | none => rw [hev] at hca; cases hca
      | some ro =>
        rw [hev] at hca
        simp only at hca
        obtain ⟨r, ρ', hrun, hres, hout⟩ := evalD_inv hev
        obtain ⟨r2, outs⟩ := ro
        simp only at hca hres hout
        cases hbk0 : backIo ρ1 ms pl outs with
        | none => rw [hbk0] at hca; cases hca
        | some ρ4 =>
          rw [hbk0] at hca
          cases hca
          have hbk : backIo ρ1 ms pl ρ' = some ρ3 := by
            rw [hout, backIo_take (argSs_len ha2).1] at hbk0
            exact hbk0
          obtain ⟨l1, l2⟩ := argSs_len ha2
          have S0 := call_start S1 o ap ha2
          refine ⟨callD C G1 H1 σ vs ms pl ss, ss, r, ρ', by rw [List.append_nil, o.len, ← l1, hl], hK, ?_, hrun, fun v G' σ' H' g S' rok => ?_⟩
          · rw [List.append_nil]
            exact call_startD S0 hn
          · obtain ⟨S'', hGH, hnew⟩ := call_raise S1 ha2 S0 S'
            have S2 := call_end S1 o ap ha2 S'' unH_l hbk
            have r2s : Same G' (unH G1 G') := unH_r hGH S'.gh
            have hA : ∀ a, H1 a = none → C.A a := fun a h => S1.fr a h
            have cutS : ∀ {G9 : Hp}, Same (unH G1 G') G9 → Same G' (cutN C.A G9) := fun {G9} e9 => same_newL (Same.trans r2s e9) fun a o z => (hnew a o z).imp id (hA a)
            have fresh : ∀ {a : Addr} {d : D}, v = .ref a → Sh G' H' (.ref a) d → G' a = none → H1 a = none → d = d0 → ρ2 = ρ3 → Q v H' := fun {a d} ea sh gn hn ed er => by
              subst ed; subst er; subst ea
              have gn2 : unH G1 G' a = none := unH_none (S1.gh.free hn) gn
              obtain ⟨G9, y1, y2, y3⟩ := S2.freezeF (sh.mono r2s (Same.refl _)) gn2 (S1.fr a hn) (fun j ow => by
                obtain ⟨z1, s, z2, z3⟩ := ow
                have ap' := ap
                unfold apart at ap'
                simp only [Bool.and_eq_true, decide_eq_true_eq] at ap'
                have : ∃ s0, ρ1[j]? = some s0 ∧ ownK s0 = true := by
                  by_cases hj : j ∈ ios ms pl
                  · obtain ⟨i, d, s, s', h1, h2, h3, h4, h5, h6⟩ := backIo_in hbk ap'.1 hj
                    refine ⟨s, h4, ?_⟩
                    rcases h6 with ⟨_, rfl, _⟩ | ⟨_, rfl, _⟩ <;> rfl
                  · rw [backIo_out hbk hj] at z2
                    exact ⟨s, z2, z3⟩
                obtain ⟨s0, w1, w2⟩ := this
                exact (Own.tracked S1 ⟨z1, s0, w1, w2⟩).1 hn)
              refine q _ G9 H' (g1.trans (unH_l.trans y1)) y2 (sh.full (cutS y1) fun o ho => ?_)
              rw [cutN_at (hA a hn)]
              have t := y3.tracked
              cases z : G9 a with
              | none => exact absurd z t
              | some u =>
                have := y2.gh _ _ z
                rw [ho] at this
                cases this; rfl
            have old : ∀ {d : D}, Rp G' v d → d = d0 → ρ2 = ρ3 → Q v H' := fun {d} rr ed er => by
              subst ed; subst er
              exact q v (unH G1 G') H' (g1.trans unH_l) S2 (rr.mono (cutS (Same.refl _)))
            cases r with
            | fr d =>
              cases hres
              obtain ⟨a, ea, sh, gn, _, aa, _⟩ := rok
              cases hf4
              exact fresh ea sh gn aa rfl rfl
            | pl p =>
              cases p with
              | val d => cases hres; cases hf4; exact old rok rfl rfl
              | slot j =>
                have hv : σ'[j]? = some (some v) := rok
                simp only [resR] at hres
                cases qq : ρ'[j]? with
                | none => rw [qq] at hres; cases hres
                | some s =>
                  rw [qq] at hres
                  have kk := S'.get qq hv
                  cases s with
                  | un => cases hres
                  | io d => cases hres
                  | scr ns => cases hres
                  | exc n => cases hres
                  | val d => cases hres; cases hf4; obtain ⟨w, e, rr⟩ := kk; cases e; exact old rr rfl rfl
                  | own d =>
                    cases hres
                    cases hf4
                    obtain ⟨a, e, sh, gn, _, aa⟩ := kk
                    exact fresh (Option.some.inj e) sh gn aa rfl rfl
                  | bor d =>
                    simp only at hres
                    by_cases hat : atom d = true
                    · rw [if_pos hat] at hres
                      cases hres
                      cases hf4
                      obtain ⟨w, e, p1, p2⟩ := kk
                      cases e
                      exact old ((S'.bor p1 p2).atom hat G') rfl rfl
                    · rw [if_neg hat] at hres
                      cases hres
    · rw [if_neg ap] at hca
      cases hca
  · rw [if_neg hn] at hc
    cases hc
end
end PL
namespace PL
open PySem PySem.Spec PyProof.Rows L2 RT RZ
variable [Kap]
section
variable {X : Cx} {e : Expr} {es : List Expr} {pos p : Pos} {x : Str} {k : Nat} {f : Addr} {fd : FuncData} {ps : List Str} {np nl : Nat} {m : M Fl} {ms : List Md} {fs : M (List Pl)}
theorem pn_callG (F : FnG X.prog X.w X.K X.mg X.base k f fd ps (spD X.K np nl m)) (hG : X.A.guards = some []) (hr : Room k X.A) (hg : Gl X x) (hm : X.mg x = some (.ref f)) (hk : PySem.W.keepIn X.K (.ref f) = true) (hb : Binds X.K fd ps []) (ha : PPs X (e :: es) fs) (hl : ms.length = np)
    (hdb : (x == ("__debug__" : Str)) = false := by decide) (he : starEach (e :: es) X.env = (false, eval e X.env) :: starEach es X.env := by rfl) (hpl : (backTo pos (starEach es X.env)).any (·.1) = false := by rfl) :
    PN X (.Call (.Name x p) (e :: es) [] pos) (mNew ms nl m fs) := by
  obtain ⟨t, ha, ra⟩ := ha
  exact ⟨_, pe_callG F hG hr hg hm hk hb ha hdb he hpl, rd_new ra hl⟩
end
end PL
/-! PL29: a stretch of statements in which something new is told, looked at, changed in place, and forgotten. -/
namespace PL
open PySem PySem.Spec PyProof.Rows L2 RT RZ
variable [Kap]
/-! ### what stands before is but looked at -/
def blkS : Sl → Sl
  | .val d => .bor d
  | .own d => .bor d
  | .io d => .bor d
  | .exc _ => .un
  | s => s
/-- behind it: s0 as it was, s2 as it is -/
def flatL : D → Bool
  | .list ds => ds.all atom
  | _ => false
def exS (s0 s2 : Sl) : Sl := match s2 with
  | .val d => if atom d = true then .val d else .un
  | .own d => if flatL d = true then .own d else .un
  | .bor _ => s0
  | .scr _ => s0
  | _ => .un
def exE : Env → Env → Env
  | s :: ss, t :: ts => exS s t :: exE ss ts
  | _, _ => []
theorem blkS_ne {d : D} {s : Sl} (h : blkS (.val d) = s) : s = .val d ∨ s = .bor d := .inr h.symm
theorem exE_get : ∀ {a b : Env} {i : Nat} {s : Sl}, (exE a b)[i]? = some s → ∃ s0 s2, a[i]? = some s0 ∧ b[i]? = some s2 ∧ s = exS s0 s2
  | [], _, _, _, h => by simp [exE] at h
  | _ :: _, [], _, _, h => by simp [exE] at h
  | s :: ss, t :: ts, 0, _, h => by simp [exE] at h; exact ⟨s, t, rfl, rfl, h.symm⟩
  | s :: ss, t :: ts, i + 1, r, h => by
    have h' : (exE ss ts)[i]? = some r := by simpa [exE] using h
    simpa using exE_get h'
theorem exE_len : ∀ {a b : Env}, a.length = b.length → (exE a b).length = a.length
  | [], [], _ => rfl
  | _ :: _, _ :: _, h => by simp [exE]; exact exE_len (by simpa using h)
def blkC (C : Ctx) (G H : Hp) (σ : L2.St) (ρ : Env) : Ctx := { K := C.K, G0 := G, B := H, A := fun a => H a = none, P := fun k => (σ[k]?).join, S := fun k => (ρ.map blkS).getD k .un }
section
variable {C : Ctx} {G H : Hp} {σ : L2.St} {ρ : Env}
theorem blk_in (S : StOk C G σ H ρ) : StOk (blkC C G H σ ρ) G σ H (ρ.map blkS) := by
  have noOwn : ∀ {i : Nat} {a : Addr}, ¬ Own σ (ρ.map blkS) i a := fun {i a} ⟨_, s, y, z⟩ => by
    rw [List.getElem?_map] at y
    cases q : ρ[i]? with
    | none => rw [q] at y; cases y
    | some s0 =>
      rw [q] at y
      have y : blkS s0 = s := Option.some.inj y
      subst y
      cases s0 with
      | val d => rcases blkS_ne (d := d) rfl with e | e <;> rw [e] at z <;> cases z
      | _ => cases z
  have bor : ∀ {i : Nat} {v : V} {s0 : Sl} {d : D}, ρ[i]? = some s0 → σ[i]? = some (some v) → blkS s0 = .bor d → Sh G H v d := fun {i v s0 d} q hv hb => by
    have k := S.get q hv
    cases s0 with
    | un => cases hb
    | scr ns => cases hb
    | exc n => cases hb
    | val d' =>
      rcases blkS_ne hb with e | e
      · cases e
      · cases e; obtain ⟨_, z, r⟩ := k; cases z; exact r.sh S.gh
    | own d' => cases hb; obtain ⟨a, z, r, _⟩ := k; cases z; exact r
    | io d' => cases hb; obtain ⟨a, z, r, _⟩ := k; cases z; exact r
    | bor d' => cases hb; obtain ⟨_, z, p1, p2⟩ := k; cases z; exact S.bor p1 p2
  refine ⟨S.gh, Same.refl _, Same.refl _, fun a q => q, fun a q => .inl q, fun i v q => ?_, by rw [List.length_map]; exact S.len, fun i s e => ?_, fun i j a hi _ => absurd hi noOwn⟩
  · have q' : (σ[i]?).join = some v := q
    have hv : σ[i]? = some (some v) := by
      cases z : σ[i]? with
      | none => rw [z] at q'; cases q'
      | some o => rw [z] at q'; cases o with
        | none => cases q'
        | some w => cases q'; rfl
    show BorOk C.K G H v ((ρ.map blkS).getD i .un)
    rw [List.getD_eq_getElem?_getD, List.getElem?_map]
    cases z : ρ[i]? with
    | none => trivial
    | some s0 =>
      show BorOk C.K G H v (blkS s0)
      cases hb : blkS s0 with
      | bor d => exact bor z hv hb
      | scr ns =>
        have : s0 = .scr ns := by
          cases s0 with
          | val d' => rcases blkS_ne hb with e | e <;> cases e
          | scr ns' => cases hb; rfl
          | _ => cases hb
        subst this
        obtain ⟨_, z1, p1, p2⟩ := S.get z hv
        cases z1
        have w := S.wf i v p1
        rw [p2] at w
        obtain ⟨a, ea, sq⟩ := w
        exact ⟨a, ea, Same.seq S.bh sq⟩
      | _ => trivial
  · rw [List.getElem?_map] at e
    cases z : ρ[i]? with
    | none => rw [z] at e; cases e
    | some s0 =>
      rw [z] at e
      have e : blkS s0 = s := Option.some.inj e
      have hS : (blkC C G H σ ρ).S i = s := by
        show (ρ.map blkS).getD i .un = s
        rw [List.getD_eq_getElem?_getD, List.getElem?_map, z]
        exact e
      obtain ⟨o, e1, k⟩ := S.sl i s0 z
      refine ⟨o, e1, ?_⟩
      have hP : ∀ v, o = some v → (blkC C G H σ ρ).P i = some v := fun v hv => by
        show (σ[i]?).join = some v
        rw [e1, hv]; rfl
      cases s0 with
      | un => subst e; trivial
      | val d' =>
        rcases blkS_ne e with z | z
        · subst z; exact k
        · subst z; obtain ⟨v, hv, _⟩ := k; exact ⟨v, hv, hP v hv, hS⟩
      | own d' => subst e; obtain ⟨a, hv, _⟩ := k; exact ⟨_, hv, hP _ hv, hS⟩
      | io d' => subst e; obtain ⟨a, hv, _⟩ := k; exact ⟨_, hv, hP _ hv, hS⟩
      | bor d' => subst e; obtain ⟨v, hv, _⟩ := k; exact ⟨v, hv, hP v hv, hS⟩
      | scr ns => subst e; obtain ⟨v, hv, _⟩ := k; exact ⟨v, hv, hP v hv, hS⟩
      | exc n => subst e; trivial
theorem atomsA {G G' : Hp} : ∀ {vs : List V} {ds : List D}, RpA G vs ds → ds.all atom = true → RpA G' vs ds
  | _, _, .nil, _ => .nil
  | _, _, .cons (d := d) h r, n => by
    rw [List.all_cons, Bool.and_eq_true] at n
    refine .cons ?_ (atomsA r n.2)
    have a := n.1
    cases h with
    | non => exact .non
    | bl b => exact .bl b
    | int i => exact .int i
    | str x => exact .str x
    | lst h r => cases a
    | tup h r => cases a
    | dct h r => cases a
/-- some lists of what is new were changed in place -/
structure Jk (N : Addr → Prop) (G H Hx : Hp) : Prop where
  at_ : ∀ a, Hx a = H a ∨ (N a ∧ G a ≠ none ∧ Hx a ≠ none) ∨ H a = none
theorem Jk.refl {N : Addr → Prop} {G H : Hp} : Jk N G H H := ⟨fun _ => .inl rfl⟩
/-- the context in which what is told stands at i -/
def toldC (C1 : Ctx) (G1 : Hp) (i : Nat) (v : V) (d : D) : Ctx := { K := C1.K, G0 := G1, B := unH C1.B G1, A := C1.A, P := fun k => if k = i then some v else C1.P k, S := fun k => if k = i then .bor d else C1.S k }
theorem told_in {C1 : Ctx} {G1 H1 : Hp} {ρ1 : Env} (S : StOk C1 G1 σ H1 ρ1) {i : Nat} {v : V} {d : D} (hi : i < ρ1.length) (r : Rp G1 v d) : StOk (toldC C1 G1 i v d) G1 (σ.set i (some v)) H1 (ρ1.set i (.bor d)) := by
  have hs : i < σ.length := by rw [S.len]; exact hi
  have bs : Same C1.B (unH C1.B G1) := unH_l
  have gb : Same G1 (unH C1.B G1) := unH_r S.bh S.gh
  have sub : ∀ {j : Nat} {b : Addr}, Own (σ.set i (some v)) (ρ1.set i (.bor d)) j b → j ≠ i ∧ Own σ ρ1 j b := fun {j b} ⟨x, s', y, z⟩ => by
    by_cases hj : j = i
    · subst hj
      rw [List.getElem?_set_self hi] at y
      cases y; cases z
    · rw [List.getElem?_set_ne (fun z => hj z.symm)] at x y
      exact ⟨hj, x, s', y, z⟩
  refine ⟨S.gh, fun a o q => ?_, Same.refl _, S.fr, fun a q => .inl q, fun j w q => ?_, by rw [List.length_set, List.length_set]; exact S.len, fun j s q => ?_, fun j k b hj hk => S.ds j k b (sub hj).2 (sub hk).2⟩
  · have q' : unH C1.B G1 a = some o := q
    unfold unH at q'
    cases z : C1.B a with
    | some u => rw [z] at q'; cases q'; exact S.bh a _ z
    | none => rw [z] at q'; exact S.gh a o q'
  · show BorOk C1.K G1 (unH C1.B G1) w (if j = i then .bor d else C1.S j)
    have q' : (if j = i then some v else C1.P j) = some w := q
    by_cases hj : j = i
    · rw [if_pos hj] at q' ⊢
      cases q'
      exact r.sh gb
    · rw [if_neg hj] at q' ⊢
      exact BorOk.mono S.g0 bs (S.wf j w q')
  · by_cases hj : j = i
    · subst hj
      rw [List.getElem?_set_self hi] at q
      cases q
      exact ⟨_, List.getElem?_set_self hs, v, rfl, if_pos rfl, if_pos rfl⟩
    · rw [List.getElem?_set_ne (fun z => hj z.symm)] at q ⊢
      obtain ⟨o, e1, k⟩ := S.sl j s q
      refine ⟨o, e1, ?_⟩
      have bn : ∀ {b : Addr}, C1.B b = none → G1 b = none → (toldC C1 G1 i v d).B b = none := fun {b} h1 h2 => unH_none h1 h2
      cases s with
      | un => trivial
      | val d' => exact k
      | own d' => obtain ⟨b, h1, h2, h3, h4, h5⟩ := k; exact ⟨b, h1, h2, h3, bn h4 h3, h5⟩
      | io d' => obtain ⟨b, h1, h2, h3, h4, h5⟩ := k; exact ⟨b, h1, h2, h3, bn h4 h3, (if_neg hj).trans h5⟩
      | bor d' => obtain ⟨w, h1, h2, h3⟩ := k; exact ⟨w, h1, (if_neg hj).trans h2, (if_neg hj).trans h3⟩
      | scr ns => obtain ⟨w, h1, h2, h3⟩ := k; exact ⟨w, h1, (if_neg hj).trans h2, (if_neg hj).trans h3⟩
      | exc n => exact k
/-- and back: what stood before stands -/
theorem blk_out (S : StOk C G σ H ρ) {G1 : Hp} {i : Nat} {v : V} {d : D} {σ2 : L2.St} {G2 H2 Hx : Hp} {ρ2 : Env} (g1 : Same G G1) (hG1 : ∀ a, G1 a ≠ none → G a ≠ none ∨ H a = none) (S2 : StOk (toldC (blkC C G H σ ρ) G1 i v d) G2 σ2 H2 ρ2) (g : Same G1 G2) (J : Jk (fun a => H a = none) G2 H2 Hx) {σx : L2.St} (js : List Nat)
    (hl : σx.length = σ2.length) (hx : ∀ k, k ∉ js → k ≠ i → σx[k]? = σ2[k]?) (hlen : ρ2.length = ρ.length) :
    StOk C G σx Hx (wipeE ((exE ρ ρ2).set i .un) js) := by
  have old : ∀ {a : Addr} {o : HO}, H a = some o → Hx a = some o := fun {a o} q => by
    have h2 : H2 a = some o := S2.bh a o (show unH H G1 a = some o from unH_l a o q)
    rcases J.at_ a with z | ⟨z, _⟩ | z
    · rw [z]; exact h2
    · rw [q] at z; cases z
    · rw [h2] at z; cases z
  have untr : ∀ {a : Addr}, Hx a = none → H a = none := fun {a} q => by
    cases z : H a with
    | none => rfl
    | some o => rw [old z] at q; cases q
  have flat : ∀ {a : Addr} {d : D}, Sh G2 H2 (.ref a) d → G2 a = none → flatL d = true → Sh G Hx (.ref a) d := fun {a d} sh gn f => by
    have hxa : Hx a = H2 a := (J.at_ a).elim id fun z => z.elim (fun z => absurd gn z.2.1) fun z => absurd z sh.tracked
    cases sh with
    | lst h r => exact .lst (by rw [hxa]; exact h) (atomsA r f)
    | tup h r => cases f
    | dct h r => cases f
  have lenE : (exE ρ ρ2).length = ρ.length := exE_len hlen.symm
  have wget : ∀ {js : List Nat} {e : Env} {k : Nat} {s : Sl}, (wipeE e js)[k]? = some s → s = .un ∨ (k ∉ js ∧ e[k]? = some s) := by
    intro js
    induction js with
    | nil => intro e k s h; exact .inr ⟨by simp, h⟩
    | cons j js ih =>
      intro e k s h
      have h' : ((wipeE e js).set j .un)[k]? = some s := h
      by_cases hk : k = j
      · subst hk
        have hlt : k < (wipeE e js).length := by
          have := (List.getElem?_eq_some_iff.mp h').1
          rwa [List.length_set] at this
        rw [List.getElem?_set_self hlt] at h'
        cases h'; exact .inl rfl
      · rw [List.getElem?_set_ne (fun z => hk z.symm)] at h'
        rcases ih h' with z | ⟨z1, z2⟩
        · exact .inl z
        · exact .inr ⟨by simp [hk, z1], z2⟩
  have get : ∀ {k : Nat} {s : Sl}, (wipeE ((exE ρ ρ2).set i .un) js)[k]? = some s → s = .un ∨ (k ≠ i ∧ σx[k]? = σ2[k]? ∧ ∃ s0 s2, ρ[k]? = some s0 ∧ ρ2[k]? = some s2 ∧ s = exS s0 s2) := fun {k s} h => by
    rcases wget h with z | ⟨z1, z2⟩
    · exact .inl z
    · by_cases hk : k = i
      · subst hk
        have hlt : k < (exE ρ ρ2).length := by
          have := (List.getElem?_eq_some_iff.mp z2).1
          rwa [List.length_set] at this
        rw [List.getElem?_set_self hlt] at z2
        cases z2; exact .inl rfl
      · rw [List.getElem?_set_ne (fun z => hk z.symm)] at z2
        exact .inr ⟨hk, hx k z1 hk, exE_get z2⟩
  -- what is looked at is as it was
  have back : ∀ {k : Nat} {s0 s2 : Sl}, k ≠ i → ρ[k]? = some s0 → ρ2[k]? = some s2 → (∃ d, s2 = .bor d) ∨ (∃ ns, s2 = .scr ns) → σ2[k]? = σ[k]? := fun {k s0 s2} hk q0 q2 hs => by
    obtain ⟨o, e1, kk⟩ := S2.sl k s2 q2
    have : ∃ w, o = some w ∧ (toldC (blkC C G H σ ρ) G1 i v d).P k = some w := by
      rcases hs with ⟨d', rfl⟩ | ⟨ns, rfl⟩
      · obtain ⟨w, h1, h2, _⟩ := kk; exact ⟨w, h1, h2⟩
      · obtain ⟨w, h1, h2, _⟩ := kk; exact ⟨w, h1, h2⟩
    obtain ⟨w, rfl, hP⟩ := this
    have hP' : (if k = i then some v else (σ[k]?).join) = some w := hP
    rw [if_neg hk] at hP'
    rw [e1]
    cases z : σ[k]? with
    | none => rw [z] at hP'; cases hP'
    | some o => rw [z] at hP'; cases o with
      | none => cases hP'
      | some u => cases hP'; rfl
  have sOf : ∀ {k : Nat} {s0 s2 : Sl}, k ≠ i → ρ[k]? = some s0 → ρ2[k]? = some s2 → (∃ d, s2 = .bor d) ∨ (∃ ns, s2 = .scr ns) → blkS s0 = s2 := fun {k s0 s2} hk q0 q2 hs => by
    obtain ⟨o, e1, kk⟩ := S2.sl k s2 q2
    have : (toldC (blkC C G H σ ρ) G1 i v d).S k = s2 := by
      rcases hs with ⟨d', rfl⟩ | ⟨ns, rfl⟩
      · obtain ⟨w, h1, _, h3⟩ := kk; exact h3
      · obtain ⟨w, h1, _, h3⟩ := kk; exact h3
    have this' : (if k = i then .bor d else (ρ.map blkS).getD k .un) = s2 := this
    rw [if_neg hk, List.getD_eq_getElem?_getD, List.getElem?_map, q0] at this'
    exact this'
  -- kinds of own things
  have kind : ∀ {k : Nat} {a : Addr}, Own σx (wipeE ((exE ρ ρ2).set i .un) js) k a → (Own σ ρ k a ∧ H a ≠ none) ∨ (Own σ2 ρ2 k a ∧ H a = none) := fun {k a} ⟨x, s, y, z⟩ => by
    rcases get y with rfl | ⟨hk, ex, s0, s2, q0, q2, rfl⟩
    · cases z
    · rw [ex] at x
      cases s2 with
      | un => cases z
      | io d' => cases z
      | val d' =>
        have : exS s0 (.val d') = .val d' ∨ exS s0 (.val d') = .un := by
          by_cases ha : atom d' = true
          · exact .inl (if_pos ha)
          · exact .inr (if_neg ha)
        rcases this with e | e <;> rw [e] at z <;> cases z
      | own d' =>
        refine .inr ⟨⟨x, _, q2, rfl⟩, ?_⟩
        obtain ⟨b, eb, _, _, _, aa⟩ := S2.get q2 x
        cases eb
        exact aa
      | bor d' =>
        have e := back hk q0 q2 (.inl ⟨_, rfl⟩)
        rw [e] at x
        have ow : Own σ ρ k a := ⟨x, s0, q0, z⟩
        exact .inl ⟨ow, (Own.tracked S ow).1⟩
      | scr ns =>
        have e := back hk q0 q2 (.inr ⟨_, rfl⟩)
        rw [e] at x
        have ow : Own σ ρ k a := ⟨x, s0, q0, z⟩
        exact .inl ⟨ow, (Own.tracked S ow).1⟩
      | exc n => cases z
  have wlen : ∀ {js : List Nat} {e : Env}, (wipeE e js).length = e.length := by
    intro js
    induction js with
    | nil => intro e; rfl
    | cons j js ih => intro e; show ((wipeE e js).set j .un).length = _; rw [List.length_set]; exact ih
  refine ⟨fun a o q => old (S.gh a o q), fun a o q => old (S.bh a o q), S.g0, fun a q => S.fr a (untr q), S.ga, S.wf, by rw [wlen, List.length_set, lenE, hl, S2.len, hlen], fun k s q => ?_, fun j k a hj hk => ?_⟩
  · have hlt : k < σx.length := by
      have := (List.getElem?_eq_some_iff.mp q).1
      rw [wlen, List.length_set, lenE] at this
      rw [hl, S2.len, hlen]; exact this
    rcases get q with rfl | ⟨hk, ex, s0, s2, q0, q2, rfl⟩
    · exact ⟨σx[k], List.getElem?_eq_getElem hlt, trivial⟩
    · obtain ⟨o, e1, kk⟩ := S2.sl k s2 q2
      rw [ex]
      cases s2 with
      | un => exact ⟨o, e1, trivial⟩
      | io d' => exact ⟨o, e1, trivial⟩
      | val d' =>
        refine ⟨o, e1, ?_⟩
        show SlOk C G Hx k o (if atom d' = true then .val d' else .un)
        by_cases ha : atom d' = true
        · rw [if_pos ha]
          obtain ⟨w, h1, r⟩ := kk
          exact ⟨w, h1, (r.sh (Same.refl _)).atom ha G⟩
        · rw [if_neg ha]; trivial
      | own d' =>
        refine ⟨o, e1, ?_⟩
        show SlOk C G Hx k o (if flatL d' = true then .own d' else .un)
        by_cases hf : flatL d' = true
        · rw [if_pos hf]
          obtain ⟨a, h1, sh, gn, _, aa⟩ := kk
          have aa : H a = none := aa
          exact ⟨a, h1, flat sh gn hf, S.gh.free aa, S.bh.free aa, S.fr a aa⟩
        · rw [if_neg hf]; trivial
      | bor d' =>
        rw [back hk q0 q2 (.inl ⟨_, rfl⟩)]
        obtain ⟨o', e2, k0⟩ := S.sl k s0 q0
        refine ⟨o', e2, ?_⟩
        show SlOk C G Hx k o' s0
        cases s0 with
        | un => trivial
        | val d2 => exact k0
        | own d2 => obtain ⟨a, h1, sh, h2, h3, h4⟩ := k0; exact ⟨a, h1, sh.at (Same.refl _) fun b hb u hu => by cases hb; exact old hu, h2, h3, h4⟩
        | io d2 => obtain ⟨a, h1, sh, h2, h3, h4⟩ := k0; exact ⟨a, h1, sh.at (Same.refl _) fun b hb u hu => by cases hb; exact old hu, h2, h3, h4⟩
        | bor d2 => exact k0
        | scr ns => exact k0
        | exc n => exact k0
      | scr ns =>
        rw [back hk q0 q2 (.inr ⟨_, rfl⟩)]
        obtain ⟨o', e2, k0⟩ := S.sl k s0 q0
        refine ⟨o', e2, ?_⟩
        have := sOf hk q0 q2 (.inr ⟨_, rfl⟩)
        show SlOk C G Hx k o' s0
        cases s0 with
        | scr ns' => exact k0
        | val d2 => rcases blkS_ne this with e | e <;> cases e
        | _ => cases this
      | exc n => exact ⟨o, e1, trivial⟩
  · rcases kind hj with ⟨h1, h2⟩ | ⟨h1, h2⟩
    · rcases kind hk with ⟨h3, h4⟩ | ⟨h3, h4⟩
      · exact S.ds j k a h1 h3
      · exact absurd h4 h2
    · rcases kind hk with ⟨h3, h4⟩ | ⟨h3, h4⟩
      · exact absurd h2 h4
      · exact S2.ds j k a h1 h3
end
end PL
/-! PL30: statements that change in place what was told anew. -/
namespace PL
open PySem PySem.Spec PyProof.Rows L2 RT RZ
variable [Kap]
/-! ### the head of a list of statements -/
def PCut (X : Cx) (sts rest : List Stmt) (f : M Fl) : Prop := ∃ t : TS, (∀ u, PSs X rest u → PSs X sts (tSeq t u)) ∧ RdS X.K t f
def RdJ (K : PySem.W.Frag) (i : Nat) (t : TS) (js : List Nat) (j : D → Bool) : Prop := ∀ (N : Addr → Prop) (G : Hp) (σ : L2.St) (H : Hp) (Z : Ends) (v : V) (d : D), Same G H → (∀ k ∈ js, k < σ.length) → σ[i]? = some (some v) → Rp (cutN N G) v d → j d = true →
  (∀ (Hx : Hp) (σx : L2.St), Jk N G H Hx → σx.length = σ.length → (∀ k, k ∉ js → σx[k]? = σ[k]?) → Z.nx σx Hx) → t Z σ H
def PJ (X : Cx) (i : Nat) (st : Stmt) (js : List Nat) (j : D → Bool) : Prop := ∃ t, PS X st t ∧ RdJ X.K i t js j
def mJunk (i : Nat) (fE : M D) (m : M Fl) (js : List Nat) (j : D → Bool) (k : M Fl) : M Fl := fun ρ => match fE (ρ.map blkS) with
  | .stuck => .stuck
  | .ok d ρ1 => if i < ρ1.length then match m (ρ1.set i (.bor d)) with
      | .ok .nx ρ2 => match ρ2[i]? with
        | some (.bor _) => if j d = true ∧ ρ2.length = ρ.length ∧ js.all (fun k => decide (k < ρ2.length)) = true then k (wipeE ((exE ρ ρ2).set i .un) js) else .stuck
        | _ => .stuck
      | .ok (.rt (.pl (.val b))) ρ2 => if atom b = true ∧ ρ2.length = ρ.length then .ok (.rt (.pl (.val b))) ((exE ρ ρ2).set i .un) else .stuck
      | _ => .stuck
    else .stuck
section
variable {X : Cx} {e : Expr} {st : Stmt} {sts rest : List Stmt} {pos pos' : Pos} {x : Str} {f g m k : M Fl} {fE : M D}
theorem pcut_nil : PCut X rest rest mSkip := ⟨tNext, fun u h => h, fun C G σ H ρ D hK S fl ρ' hf q => by cases hf; exact q σ G H (Same.refl _) S⟩
theorem pcut_cons (h : PSt X st f) (h2 : PCut X sts rest g) : PCut X (st :: sts) rest (mSeq f g) := by
  obtain ⟨t, h, r⟩ := h
  obtain ⟨u, h2, r2⟩ := h2
  refine ⟨tSeq t u, fun w hw => (show PSs X (st :: sts) (tSeq t (tSeq u w)) from pss_cons h (h2 w hw)), fun C G σ H ρ D hK S fl ρ' hf q => ?_⟩
  obtain ⟨f1, ρ1, h1, hf2⟩ := bnd_ok hf
  refine r C G σ H ρ _ hK S f1 ρ1 h1 fun σ1 G1 H1 g1 S1 => ?_
  cases f1 with
  | nx => exact r2 C G1 σ1 H1 ρ1 D hK S1 fl ρ' hf2 fun σ2 G2 H2 g2 S2 => q σ2 G2 H2 (g1.trans g2) S2
  | rt w => cases hf2; exact q σ1 G1 H1 g1 S1
  | bk => cases hf2; exact q σ1 G1 H1 g1 S1
  | ct => cases hf2; exact q σ1 G1 H1 g1 S1
theorem psts_junk {i : Nat} {js : List Nat} {j : D → Bool} {st2 : Stmt} (hN : X.N.Nodup) (h : PN X e fE) (hm : PCut X sts (st2 :: rest) m) (hj : PJ X i st2 js j) (hr : PSts X rest k)
    (hi : X.N[i]? = some x := by rfl) (hx : Loc X.env.scope x := by first | exact Or.inl rfl | exact Or.inr rfl) (hs : swapsWith e (some (.Name x pos')) pos.line X.env = pure false := by rfl)
    (hf : X.fn x = true ∨ X.env.scope.names.lookup x = some .local := by first | exact .inl rfl | exact .inr rfl | assumption) :
    PSts X (.Assign [.Name x pos'] e pos :: sts) (mJunk i fE m js j k) := by
  obtain ⟨te, h, r⟩ := h
  obtain ⟨tm, hm, rm⟩ := hm
  obtain ⟨tj, hj, rj⟩ := hj
  obtain ⟨tk, hr, rk⟩ := hr
  refine ⟨_, pss_cons (ps_set hN hi hx h hs hf) (hm _ (pss_cons hj hr)), fun C G σ H ρ D hK S fl ρ' hf q => ?_⟩
  unfold mJunk at hf
  cases hE : fE (ρ.map blkS) with
  | stuck => rw [hE] at hf; cases hf
  | ok d ρ1 =>
  rw [hE] at hf
  try simp only at hf
  by_cases hl : i < ρ1.length
  · rw [if_pos hl] at hf
    have S0 := blk_in S
    refine r (blkC C G H σ ρ) G σ H _ _ hK S0 d ρ1 hE fun v G1 H1 g1 S1 rn => ?_
    have S1' := told_in S1 hl (rn.mono cutN_same)
    show tSeq tm (tSeq tj tk) D (σ.set i (some v)) H1
    have hG1 : ∀ a, G1 a ≠ none → G a ≠ none ∨ H a = none := fun a z => S1.ga a z
    cases hm2 : m (ρ1.set i (.bor d)) with
    | stuck => rw [hm2] at hf; cases hf
    | ok f2 ρ2 =>
    rw [hm2] at hf
    try simp only at hf
    refine rm (toldC (blkC C G H σ ρ) G1 i v d) G1 _ H1 _ _ hK S1' f2 ρ2 hm2 fun σ2 G2 H2 g2 S2 => ?_
    cases f2 with
    | nx =>
      try simp only at hf
      cases hb : ρ2[i]? with
      | none => rw [hb] at hf; cases hf
      | some s2 =>
        rw [hb] at hf
        cases s2 with
        | bor d' =>
          try simp only at hf
          by_cases hj2 : j d = true ∧ ρ2.length = ρ.length ∧ js.all (fun k => decide (k < ρ2.length)) = true
          · rw [if_pos hj2] at hf
            obtain ⟨o, e1, w, rfl, hP, _⟩ := S2.sl i _ hb
            have hP' : (if i = i then some v else (σ[i]?).join) = some w := hP
            rw [if_pos rfl] at hP'
            cases hP'
            have rn2 : Rp (cutN (fun a => H a = none) G2) v d := rn.mono (cutN_mono g2)
            refine rj (fun a => H a = none) G2 σ2 H2 _ v d S2.gh (fun k hk => by rw [S2.len]; simpa using List.all_eq_true.mp hj2.2.2 k hk) e1 rn2 hj2.1 fun Hx σx J lx ax => ?_
            have S3 := blk_out S g1 hG1 S2 g2 J js lx (fun k hk _ => ax k hk) hj2.2.1
            exact rk C G σx Hx _ D hK S3 fl ρ' hf fun σ4 G4 H4 g4 S4 => q σ4 G4 H4 g4 S4
          · rw [if_neg hj2] at hf
            cases hf
        | _ => cases hf
    | bk => cases hf
    | ct => cases hf
    | rt w =>
      cases w with
      | fr d2 => cases hf
      | pl p =>
        cases p with
        | slot z => cases hf
        | val b =>
          try simp only at hf
          by_cases hb : atom b = true ∧ ρ2.length = ρ.length
          · rw [if_pos hb] at hf
            cases hf
            have S3 := blk_out S g1 hG1 S2 g2 Jk.refl [] rfl (fun k _ _ => rfl) hb.2
            have z := q σ2 G H2 (Same.refl _) S3
            intro u hu
            exact z u ((Rp.sh (Same.refl _) (show Rp G2 u b from hu)).atom hb.1 G)
          · rw [if_neg hb] at hf
            cases hf
  · rw [if_neg hl] at hf
    cases hf
end
/-! ### the statements -/
/-- arguments that are constants -/
def RdK (t : TA) : Prop := ∀ (σ : L2.St) (H : Hp) (Q : List V → Hp → Prop), (∀ v H', Same H H' → Q [v] H') → t σ H Q
def PKc (X : Cx) (es : List Expr) : Prop := ∃ t, PA X es t ∧ RdK t
section
variable {X : Cx} {e a b : Expr} {es : List Expr} {pos : Pos}
def RdK1 (t : TE) : Prop := ∀ (σ : L2.St) (H : Hp) (Q : VK), (∀ v H', Same H H' → Q v H') → t σ H Q
def PK (X : Cx) (e : Expr) : Prop := ∃ t, PE X e t ∧ RdK1 t
def PKA (X : Cx) (es : List Expr) (n : Nat) : Prop := ∃ t, PA X es t ∧ ∀ (σ : L2.St) (H : Hp) (Q : List V → Hp → Prop), (∀ vs H', vs.length = n → Same H H' → Q vs H') → t σ H Q
theorem pk_int {i : Int} {j : Nat} : PK X (.Constant (.int i) j pos) := ⟨_, pe_int, fun σ H Q q => q _ H (Same.refl _)⟩
theorem pk_non {j : Nat} : PK X (.Constant .none j pos) := ⟨_, pe_non, fun σ H Q q => q _ H (Same.refl _)⟩
theorem pk_bl {b : Bool} {j : Nat} : PK X (.Constant (.bool b) j pos) := ⟨_, pe_bl, fun σ H Q q => q _ H (Same.refl _)⟩
theorem pka_nil : PKA X [] 0 := ⟨_, pa_nil, fun σ H Q q => q [] H rfl (Same.refl _)⟩
theorem pka_cons {n : Nat} (h : PK X e) (hr : PKA X es n) (hs : starEach (e :: es) X.env = (false, eval e X.env) :: starEach es X.env := by rfl) : PKA X (e :: es) (n + 1) := by
  obtain ⟨t, h, r⟩ := h
  obtain ⟨u, hr, rr⟩ := hr
  refine ⟨_, pa_cons h hr hs, fun σ H Q q => ?_⟩
  refine r σ H _ fun v H1 g1 => ?_
  exact rr σ H1 _ fun vs H2 hl g2 => q _ H2 (by simp [hl]) (Same.trans g1 g2)
theorem pk_tup {x1} {n : Nat} (h : PKA X es n) (hn : n ≤ 100000 := by decide) : PK X (.Tuple es x1 pos) := by
  obtain ⟨t, h, r⟩ := h
  refine ⟨_, pe_tup h, fun σ H Q q => ?_⟩
  exact r σ H _ fun vs H1 hl g1 => ⟨by rw [hl]; exact line_of hn, fun p hp => q _ _ (Same.trans g1 (same_new hp))⟩
theorem pkc_one (h : PK X e) (hs : starEach [e] X.env = (false, eval e X.env) :: starEach [] X.env := by rfl) : PKc X [e] := by
  obtain ⟨t, h, r⟩ := h
  refine ⟨_, pa_cons h pa_nil hs, fun σ H Q q => ?_⟩
  exact r σ H _ fun v H1 g1 => q v H1 g1
end
/-- told[c], a list -/
def jAt (c : Nat) (d : D) : Bool := match d with
  | .list ds => match ds[c]? with
    | some (.list es) => decide (es.length < 100000)
    | _ => false
  | .tuple ds => match ds[c]? with
    | some (.list es) => decide (es.length < 100000)
    | _ => false
  | _ => false
section
variable {X : Cx} {e arg : Expr} {pos pos' p1 apos cpos sp : Pos} {x : Str} {i : Nat}
theorem jk_upd {N : Addr → Prop} {G H H' : Hp} {a : Addr} {o : HO} (g : Same H H') (hN : N a) (hG : G a ≠ none) : Jk N G H (upd H' a o) := ⟨fun b => by
  by_cases hb : b = a
  · subst hb
    exact .inr (.inl ⟨hN, hG, by rw [upd_same]; intro z; cases z⟩)
  · rw [upd_ne hb]
    cases z : H b with
    | none => exact .inr (.inr rfl)
    | some u => exact .inl (by rw [g _ _ z])⟩
theorem pj_app {c : Int} {jc : Nat} (n : Nat) (ha : PKc X [arg]) (hc : c = (n : Int) := by rfl) (hN : X.N[i]? = some x := by rfl) (hv : Vis X.env.scope x := by first | exact Or.inl rfl | exact Or.inr (Or.inl rfl) | exact Or.inr (Or.inr rfl)) (hd : (x == ("__debug__" : Str)) = false := by decide)
    (hcd : (x == ("__classdict__" : Str)) = false := by decide) (hpx : PlainIx (.Constant (.int c) jc p1) := by intro _ _; rfl)
    (hbase : attributeBase (.Subscript (.Name x pos') (.Constant (.int c) jc p1) sp) "append" X.env (eval (.Subscript (.Name x pos') (.Constant (.int c) jc p1) sp) X.env) = eval (.Subscript (.Name x pos') (.Constant (.int c) jc p1) sp) X.env := by rfl)
    (hfew : ((backTo cpos (starEach [arg] X.env)).all (fun x => !x.1) && (backToKw cpos (keywordEach [] X.env)).all (fun x => x.1.isSome)
      && decide (([arg] : List Expr).length + ([] : List Keyword).length + (if ([] : List Keyword).isEmpty then 0 else 1) < 30)) = true := by rfl)
    (hline : (apos.endLine == cpos.line) = true := by rfl) (hs : starEach [arg] X.env = (false, eval arg X.env) :: starEach [] X.env := by rfl) (hplain : (backTo cpos (starEach [] X.env)).any (·.1) = false := by rfl)
    (hsw : swapsWith (.Call (.Attribute (.Subscript (.Name x pos') (.Constant (.int c) jc p1) sp) "append" apos) [arg] [] cpos) none pos.line X.env = pure false := by rfl) :
    PJ X i (.Expr (.Call (.Attribute (.Subscript (.Name x pos') (.Constant (.int c) jc p1) sp) "append" apos) [arg] [] cpos) pos) [] (jAt n) := by
  obtain ⟨t, ha, ra⟩ := ha
  refine ⟨_, ps_expr (pe_bm PySem.F.plainAttrs_list PySem.F.slot_list_append PySem.F.type_list_append mt_append (pe_ix ix_seq (pe_var hN hv hd hcd) pe_int hpx) ha hbase hfew hline hs hplain) hsw, fun N G σ H D v d gh _ ev rn hj q => ?_⟩
  subst hc
  have core : ∀ (ds : List PL.D) (vs : List V) (es : List PL.D), RpA (cutN N G) vs ds → ds[n]? = some (.list es) → es.length < 100000 → ∀ (R : Hp → VK → Prop), True := fun _ _ _ _ _ _ _ => trivial
  have fin : ∀ (ds : List PL.D) (vs : List V) (es : List PL.D), RpA (cutN N G) vs ds → ds[n]? = some (.list es) → es.length < 100000 → ∃ w, atI vs (n : Int) = some w ∧ (tyV X.K "list" w H ∧ t σ H fun xs H2 => rAppend w xs H2 fun _ H3 => D.nx σ H3) := by
    intro ds vs es r hd hl
    obtain ⟨w, hw, rw1⟩ := r.get hd
    refine ⟨w, atI_nat hw, ?_⟩
    cases rw1 with
    | @lst a ys _ h1 h2 =>
      obtain ⟨hNa, hGa⟩ := cutN_lst h1
      have hHa := gh _ _ hGa
      refine ⟨.inl ⟨rfl, ys, .inl (.inl hHa)⟩, ?_⟩
      refine ra σ H _ fun u H' g => ?_
      exact ⟨a, ys, u, rfl, rfl, g _ _ hHa, by rw [h2.length]; exact line_lt hl, q _ σ (jk_upd g hNa (ne_none_of hGa)) rfl fun _ _ => rfl⟩
  refine ⟨v, ev, ?_⟩
  unfold jAt at hj
  cases rn with
  | @lst T xs ds h1 h2 =>
    simp only at hj
    split at hj
    · rename_i es hd
      obtain ⟨w, e1, e2⟩ := fin ds xs es h2 hd (by simpa using hj)
      exact .inl ⟨T, xs, (n : Int), w, rfl, rfl, .inl (.inl (gh _ _ (cutN_same _ _ h1))), e1, e2⟩
    · cases hj
  | @tup T xs ds h1 h2 =>
    simp only at hj
    split at hj
    · rename_i es hd
      obtain ⟨w, e1, e2⟩ := fin ds xs es h2 hd (by simpa using hj)
      exact .inr (.inl ⟨T, xs, (n : Int), w, rfl, rfl, .inl (.inl (gh _ _ (cutN_same _ _ h1))), e1, e2⟩)
    · cases hj
  | _ => cases hj
end
end PL
/-! PL31: for x in told: x.append(..); x.reverse() -/
namespace PL
open PySem PySem.Spec PyProof.Rows L2 RT RZ
variable [Kap]
mutual
theorem Rp.det {G : Hp} : ∀ {v : V} {d e : D}, Rp G v d → Rp G v e → d = e
  | _, _, _, .non, .non => rfl
  | _, _, _, .bl _, .bl _ => rfl
  | _, _, _, .int _, .int _ => rfl
  | _, _, _, .str _, .str _ => rfl
  | _, _, _, .lst h r, .lst h2 r2 => by rw [h] at h2; cases h2; rw [RpA.det r r2]
  | _, _, _, .lst h r, .tup h2 r2 => by rw [h] at h2; cases h2
  | _, _, _, .lst h r, .dct h2 r2 => by rw [h] at h2; cases h2
  | _, _, _, .tup h r, .lst h2 r2 => by rw [h] at h2; cases h2
  | _, _, _, .tup h r, .tup h2 r2 => by rw [h] at h2; cases h2; rw [RpA.det r r2]
  | _, _, _, .tup h r, .dct h2 r2 => by rw [h] at h2; cases h2
  | _, _, _, .dct h r, .lst h2 r2 => by rw [h] at h2; cases h2
  | _, _, _, .dct h r, .tup h2 r2 => by rw [h] at h2; cases h2
  | _, _, _, .dct h r, .dct h2 r2 => by rw [h] at h2; cases h2; rw [RpK.det r r2]
theorem RpA.det {G : Hp} : ∀ {vs : List V} {ds es : List D}, RpA G vs ds → RpA G vs es → ds = es
  | _, _, _, .nil, .nil => rfl
  | _, _, _, .cons h r, .cons h2 r2 => by rw [Rp.det h h2, RpA.det r r2]
theorem RpK.det {G : Hp} : ∀ {vs : List (Key × V)} {ds es : List (D × D)}, RpK G vs ds → RpK G vs es → ds = es
  | _, _, _, .nil, .nil => rfl
  | _, _, _, .cons h r, .cons h2 r2 => by rw [Rp.det h h2, RpK.det r r2]
end
/-- statements that change but the list x stands for -/
def RdB (jx n : Nat) (t : TS) : Prop := ∀ (Z : Ends) (σ : L2.St) (H : Hp) (a : Addr) (ys : List V), σ[jx]? = some (some (V.ref a)) → H a = some (.lst ys) → ys.length + n ≤ 100000 →
  (∀ (H' : Hp) (zs : List V), (∀ b, b ≠ a → H b ≠ none → H' b = H b) → H' a = some (.lst zs) → zs.length ≤ ys.length + n → Z.nx σ H') → t Z σ H
def PB (X : Cx) (jx n : Nat) (sts : List Stmt) : Prop := ∃ t, PSs X sts t ∧ RdB jx n t
section
variable {X : Cx} {arg e tg : Expr} {st : Stmt} {sts : List Stmt} {pos pos' p1 apos cpos tpos : Pos} {x y : Str} {i jx n : Nat}
theorem pb_nil : PB X jx 0 [] := ⟨_, pss_nil, fun Z σ H a ys ex hH hl q => q H ys (fun _ _ _ => rfl) hH (Nat.le_refl _)⟩
theorem pb_app (ha : PKc X [arg]) (hr : PB X jx n sts) (hN : X.N[jx]? = some x := by rfl) (hv : Vis X.env.scope x := by first | exact Or.inl rfl | exact Or.inr (Or.inl rfl) | exact Or.inr (Or.inr rfl)) (hd : (x == ("__debug__" : Str)) = false := by decide)
    (hcd : (x == ("__classdict__" : Str)) = false := by decide)
    (hbase : attributeBase (.Name x p1) "append" X.env (eval (.Name x p1) X.env) = eval (.Name x p1) X.env := by rfl)
    (hfew : ((backTo cpos (starEach [arg] X.env)).all (fun x => !x.1) && (backToKw cpos (keywordEach [] X.env)).all (fun x => x.1.isSome)
      && decide (([arg] : List Expr).length + ([] : List Keyword).length + (if ([] : List Keyword).isEmpty then 0 else 1) < 30)) = true := by rfl)
    (hline : (apos.endLine == cpos.line) = true := by rfl) (hs : starEach [arg] X.env = (false, eval arg X.env) :: starEach [] X.env := by rfl) (hplain : (backTo cpos (starEach [] X.env)).any (·.1) = false := by rfl)
    (hsw : swapsWith (.Call (.Attribute (.Name x p1) "append" apos) [arg] [] cpos) none pos.line X.env = pure false := by rfl) :
    PB X jx (n + 1) (.Expr (.Call (.Attribute (.Name x p1) "append" apos) [arg] [] cpos) pos :: sts) := by
  obtain ⟨t, ha, ra⟩ := ha
  obtain ⟨u, hr, rr⟩ := hr
  refine ⟨_, pss_cons (ps_expr (pe_bm PySem.F.plainAttrs_list PySem.F.slot_list_append PySem.F.type_list_append mt_append (pe_var hN hv hd hcd) ha hbase hfew hline hs hplain) hsw) hr, fun Z σ H a ys ex hH hl q => ?_⟩
  refine ⟨.ref a, ex, .inl ⟨rfl, ys, .inl (.inl hH)⟩, ?_⟩
  refine ra σ H _ fun w H1 g => ?_
  refine ⟨a, ys, w, rfl, rfl, g _ _ hH, line_lt (by omega), ?_⟩
  refine rr Z σ _ a (ys ++ [w]) ex upd_same (by simp; omega) fun H' zs k1 k2 k3 => q H' zs (fun b hb hn => ?_) k2 (by simp at k3; omega)
  have e1 : H1 b = H b := by
    cases z : H b with
    | none => exact absurd z hn
    | some o => exact g _ _ z
  rw [k1 b hb (by rw [upd_ne hb, e1]; exact hn), upd_ne hb, e1]
theorem pb_rev (hr : PB X jx n sts) (hN : X.N[jx]? = some x := by rfl) (hv : Vis X.env.scope x := by first | exact Or.inl rfl | exact Or.inr (Or.inl rfl) | exact Or.inr (Or.inr rfl)) (hd : (x == ("__debug__" : Str)) = false := by decide)
    (hcd : (x == ("__classdict__" : Str)) = false := by decide)
    (hbase : attributeBase (.Name x p1) "reverse" X.env (eval (.Name x p1) X.env) = eval (.Name x p1) X.env := by rfl)
    (hline : (apos.endLine == cpos.line) = true := by rfl) (hsw : swapsWith (.Call (.Attribute (.Name x p1) "reverse" apos) [] [] cpos) none pos.line X.env = pure false := by rfl) :
    PB X jx n (.Expr (.Call (.Attribute (.Name x p1) "reverse" apos) [] [] cpos) pos :: sts) := by
  obtain ⟨u, hr, rr⟩ := hr
  refine ⟨_, pss_cons (ps_expr (pe_bm0 PySem.F.plainAttrs_list PySem.F.slot_list_reverse PySem.F.type_list_reverse mt_reverse (pe_var hN hv hd hcd) hbase hline) hsw) hr, fun Z σ H a ys ex hH hl q => ?_⟩
  refine ⟨.ref a, ex, .inl ⟨rfl, ys, .inl (.inl hH)⟩, a, ys, rfl, rfl, hH, ?_⟩
  refine rr Z σ _ a ys.reverse ex upd_same (by simpa using hl) fun H' zs k1 k2 k3 => q H' zs (fun b hb hn => ?_) k2 (by simpa using k3)
  rw [k1 b hb (by rw [upd_ne hb]; exact hn), upd_ne hb]
/-- told, a list of lists -/
def jAll (n : Nat) (d : D) : Bool := match d with
  | .list ds => decide (ds.length ≤ 100) && ds.all fun e => match e with
    | .list es => decide (es.length + 100 * n ≤ 90000)
    | _ => false
  | _ => false
theorem pj_for (hp : PassesOwn (model X.prog X.w) X.A X.env X.xe) (hc : X.calm = true) (hb : PB X jx n sts) (hne : jx ≠ i) (hNd : X.N.Nodup) (hN : X.N[i]? = some x := by rfl) (hv : Vis X.env.scope x := by first | exact Or.inl rfl | exact Or.inr (Or.inl rfl) | exact Or.inr (Or.inr rfl)) (hd : (x == ("__debug__" : Str)) = false := by decide)
    (hcd : (x == ("__classdict__" : Str)) = false := by decide) (hNy : X.N[jx]? = some y := by rfl) (hly : Loc X.env.scope y := by first | exact Or.inl rfl | exact Or.inr rfl) (hfy : X.fn y = true ∨ X.env.scope.names.lookup y = some .local := by first | exact .inl rfl | exact .inr rfl | assumption)
    (hs : ∀ z, foldedSetIterable (.Name x p1) X.env z = pure z := by intro _; rfl) : PJ X i (.For (.Name y tpos) (.Name x p1) sts [] pos) [jx] (jAll n) := by
  obtain ⟨tb, hb, rb⟩ := hb
  refine ⟨_, ps_for hp hc (pi_seq (pe_var hN hv hd hcd)) (pg_name hNd hNy hly hfy) hb hs, fun N G σ H Z v d gh lj ev rn hj q => ?_⟩
  unfold jAll at hj
  cases rn with
  | @lst T xs ds h1 h2 =>
    simp only [Bool.and_eq_true, decide_eq_true_eq, List.all_eq_true] at hj
    obtain ⟨hl, hj⟩ := hj
    have hx := h2.length
    have hHT : H T = some (.lst xs) := gh _ _ (cutN_same _ _ h1)
    -- each item is a list that isn't T
    have item : ∀ k, k < xs.length → ∃ a ys, xs[k]? = some (V.ref a) ∧ N a ∧ G a = some (.lst ys) ∧ ys.length + 100 * n ≤ 90000 ∧ a ≠ T := by
      intro k hk
      have hw := List.getElem?_eq_getElem hk
      generalize xs[k] = w at hw
      obtain ⟨e, he, re⟩ := h2.get' hw
      have hm := hj e (List.mem_of_getElem? he)
      cases re with
      | @lst a ys es g1 g2 =>
        simp only [decide_eq_true_eq] at hm
        obtain ⟨hNa, hGa⟩ := cutN_lst g1
        refine ⟨a, ys, hw, hNa, hGa, by rw [g2.length]; exact hm, fun z => ?_⟩
        subst z
        have h3 : PyData.list es = PyData.list ds := Rp.det (.lst g1 g2) (.lst h1 h2)
        have hmem := List.mem_of_getElem? he
        rw [h3] at hmem
        have := List.sizeOf_lt_of_mem hmem
        simp at this
        omega
      | _ => cases hm
    have jl : jx < σ.length := lj jx (by simp)
    refine ⟨_, ev, T, rfl, .inl ⟨xs, .inl (.inl hHT), ?_⟩⟩
    refine ⟨fun m mm σ' H' => m + mm = xs.length ∧ σ'.length = σ.length ∧ (∀ k, k ∉ [jx] → σ'[k]? = σ[k]?) ∧ H' T = some (.lst xs) ∧ Jk N G H H' ∧ (∀ (k : Nat) (a : Addr), xs[k]? = some (V.ref a) → ∃ zs, H' a = some (.lst zs) ∧ zs.length + 100 * n ≤ 90000 + m * n),
      ⟨xs.length, by omega, rfl, fun _ _ => rfl, hHT, Jk.refl, fun k a ha => ?_⟩, fun m mm σ' H' ⟨hm, s1, s2, hT, J, hz⟩ => ?_⟩
    · obtain ⟨a', ys, e1, _, e3, e4, _⟩ := item k (List.getElem?_eq_some_iff.mp ha).1
      rw [ha] at e1; cases e1
      exact ⟨ys, gh _ _ e3, by omega⟩
    · by_cases hlt : m < xs.length
      · obtain ⟨a, ys, e1, e2, e3, e4, e5⟩ := item m hlt
        refine .inr ⟨⟨xs, _, .inl (.inl hT), e1⟩, fun σ3 H3 => σ3.length = σ.length ∧ (∀ k, k ∉ [jx] → σ3[k]? = σ[k]?) ∧ H3 T = some (.lst xs) ∧ Jk N G H H3 ∧ (∀ (k : Nat) (a : Addr), xs[k]? = some (V.ref a) → ∃ zs, H3 a = some (.lst zs) ∧ zs.length + 100 * n ≤ 90000 + (m + 1) * n),
          fun σ3 H3 ⟨r1, r2, r3, r4, r5⟩ => ⟨mm - 1, by omega, by omega, r1, r2, r3, r4, r5⟩, fun w H3 hy => ?_⟩
        obtain ⟨rfl, fy⟩ := hy
        have ew := fy xs (.inl (.inl hT))
        rw [e1] at ew
        cases ew
        obtain ⟨zs, hzs, hzl⟩ := hz m a e1
        have mn : m * n + n ≤ 100 * n := by
          have : (m + 1) * n ≤ 100 * n := Nat.mul_le_mul_right n (by omega)
          rw [Nat.succ_mul] at this
          exact this
        refine rb _ _ _ a zs (by rw [List.getElem?_set_self (by rw [s1]; exact jl)]) hzs (by omega) fun H4 us k1 k2 k3 => ⟨by rw [List.length_set]; exact s1, fun k hk => ?_, ?_, ⟨fun b => ?_⟩, fun k b hb => ?_⟩
        · have hkj : k ≠ jx := by simpa using hk
          rw [List.getElem?_set_ne (fun z => hkj z.symm)]
          exact s2 k hk
        · rw [k1 T (fun z => e5 z.symm) (by rw [hT]; intro z; cases z)]
          exact hT
        · by_cases hb : b = a
          · subst hb
            exact .inr (.inl ⟨e2, ne_none_of e3, by rw [k2]; intro z; cases z⟩)
          · rcases J.at_ b with z | ⟨z1, z2, z3⟩ | z
            · cases hHb : H b with
              | none => exact .inr (.inr rfl)
              | some o =>
                refine .inl ?_
                rw [k1 b hb (by rw [z, hHb]; intro y; cases y), z, hHb]
            · refine .inr (.inl ⟨z1, z2, ?_⟩)
              rw [k1 b hb z3]; exact z3
            · exact .inr (.inr z)
        · have sm : (m + 1) * n = m * n + n := Nat.succ_mul m n
          by_cases hba : b = a
          · subst hba
            exact ⟨us, k2, by omega⟩
          · obtain ⟨zs2, q1, q2⟩ := hz k b hb
            exact ⟨zs2, by rw [k1 b hba (by rw [q1]; intro y; cases y)]; exact q1, by omega⟩
      · have hme : m = xs.length := by omega
        exact .inl ⟨⟨xs, .inl (.inl hT), by omega⟩, q H' σ' J s1 s2⟩
  | _ => cases hj
end
end PL
/-! PL32: the same, for what is written without places. -/
namespace PL
open PySem PySem.Spec L2
variable [Kap]
section
variable {α β : Type} (ρ : Env) (d : D) (ds : List D)
@[simp] theorem q_mLstZ (f : M (List D)) : mLstZ f ρ = bnd f (fun ds => if ds.length ≤ 100000 then PL.ret (.list ds) else fun _ => .stuck) ρ := Eq.trans rfl rfl
@[simp] theorem q_mNew (ms : List Md) (nl : Nat) (body : M Fl) (fs : M (List Pl)) : mNew ms nl body fs ρ = bnd fs (fun ps => bnd (chkN ms ps) fun _ => mFz (callAt ms nl body ps)) ρ := Eq.trans rfl rfl
def rChk (ρ : Env) : Option Env → R Unit
  | some ss => if ss.all nolS = true then .ok () ρ else .stuck
  | none => .stuck
@[simp] theorem q_chkN (ms : List Md) (ps : List Pl) : chkN ms ps ρ = rChk ρ (argSs ρ ms ps) := by
  unfold chkN rChk
  cases argSs ρ ms ps <;> rfl
@[simp] theorem r_chk (ss : Env) : rChk ρ (some ss) = if ss.all nolS = true then .ok () ρ else .stuck := Eq.trans rfl rfl
@[simp] theorem q_nolS_v : nolS (.val d) = nol d := rfl
@[simp] theorem q_nolS_b : nolS (.bor d) = nolE d := rfl
@[simp] theorem q_nolS_i : nolS (.io d) = nolE d := rfl
@[simp] theorem q_nolS_s (ns : List Int) : nolS (.scr ns) = true := rfl
@[simp] theorem q_blk_v : blkS (.val d) = .bor d := rfl
@[simp] theorem q_blk_o : blkS (.own d) = .bor d := rfl
@[simp] theorem q_blk_i : blkS (.io d) = .bor d := rfl
@[simp] theorem q_blk_b : blkS (.bor d) = .bor d := rfl
@[simp] theorem q_blk_u : blkS .un = .un := rfl
@[simp] theorem q_blk_s (ns : List Int) : blkS (.scr ns) = .scr ns := rfl
@[simp] theorem q_blk_ov (g : Bool) : blkS (ovS g d) = .bor d := by cases g <;> rfl
@[simp] theorem q_exE_n : exE [] [] = [] := rfl
@[simp] theorem q_exE_c (s t : Sl) (ss ts : Env) : exE (s :: ss) (t :: ts) = exS s t :: exE ss ts := rfl
@[simp] theorem q_exS_b (s : Sl) : exS s (.bor d) = s := rfl
@[simp] theorem q_exS_u (s : Sl) : exS s .un = .un := rfl
@[simp] theorem q_exS_s (s : Sl) (ns : List Int) : exS s (.scr ns) = s := rfl
end
def gNolE (d : D) : Option Unit := if nolE d = true then some () else none
def gNol (d : D) : Option Unit := if nol d = true then some () else none
theorem gNolE_eq {d : D} {u : Unit} (h : gNolE d = some u) : nolE d = true := by
  unfold gNolE at h; split at h
  · assumption
  · cases h
theorem gNol_eq {d : D} {u : Unit} (h : gNol d = some u) : nol d = true := by
  unfold gNol at h; split at h
  · assumption
  · cases h
def jP (j : D → Bool) (d : D) : Option Unit := if j d = true then some () else none
theorem jP_eq {j : D → Bool} {d : D} {u : Unit} (h : jP j d = some u) : j d = true := by
  unfold jP at h; split at h
  · assumption
  · cases h
theorem run_junk {i : Nat} {fE : M D} {m k : M Fl} {js : List Nat} {j : D → Bool} {ρ ρb ρ1 : Env} {d : D} {Q : Fl → Env → Prop} (hb : ρ.map blkS = ρb) (hE : fE ρb = .ok d ρ1) (hl : i < ρ1.length)
    (hm : Run m (ρ1.set i (.bor d)) (fun fl ρ2 => (fl = .nx ∧ (∃ z, ρ2[i]? = some (.bor z)) ∧ j d = true ∧ ρ2.length = ρ.length ∧ js.all (fun k => decide (k < ρ2.length)) = true ∧ Run k (wipeE ((exE ρ ρ2).set i .un) js) Q) ∨
      (∃ b, fl = .rt (.pl (.val b)) ∧ atom b = true ∧ ρ2.length = ρ.length ∧ Q (.rt (.pl (.val b))) ((exE ρ ρ2).set i .un)))) : Run (mJunk i fE m js j k) ρ Q := by
  obtain ⟨fl, ρ2, e, q⟩ := hm
  rcases q with ⟨rfl, ⟨z, hz⟩, hj, h1, h2, fl', ρ', e', q'⟩ | ⟨b, rfl, ha, h1, q'⟩
  · refine ⟨fl', ρ', ?_, q'⟩
    unfold mJunk
    rw [hb, hE]
    simp only [hl, if_true, e, hz, hj, h1, true_and]
    rw [if_pos (by rw [← h1]; exact h2)]
    exact e'
  · refine ⟨_, _, ?_, q'⟩
    unfold mJunk
    rw [hb, hE]
    simp only [hl, if_true, e, ha, h1, true_and]
end PL
/-! (a, b, ..) = a list of that length -/
namespace L2
open PySem PySem.Spec PySem.Calls PyProof PyProof.Rows PySem.W
section
variable {X : Cx} {pos : Pos}
def gLstT (K : PySem.W.Frag) (n : Nat) (t : TGs) : TG := fun v σ H Q => ∃ a xs, v = .ref a ∧ SqL K H a xs ∧ xs.length = n ∧ t xs σ H Q
theorem pg_lstT {es : List Expr} {k : Nat} {t : TGs} {n : Nat} (hc : X.calm = true) (h : PGs X es t)
    (hn : (assignEach es X.env).length = n := by rfl) (hst : (assignEach es X.env).findIdx? (·.1) = none := by rfl) : PG X (.Tuple es k pos) (gLstT X.K n t) := by
  refine ⟨fun pins s σ H v u Q I r hw => ?_⟩
  obtain ⟨a, xs, e1, hq, hl, hw⟩ := hw
  subst e1
  cases r
  obtain ⟨its, rv, ht, hz⟩ := I.list hq
  have hlen : its.toArray.size = n := by rw [List.size_toArray, ← hl]; exact rv.length.symm
  rw [assign_Tuple]
  refine wpAny_bind (wpAny_standAt ?_)
  unfold unpack
  rw [hn, hst, ← hlen]
  refine wpAny_bind (wpAny_holding (PySem.W.kun_itemsOf (I.ok.hd hc) (let ⟨o, n, e, c, _, da⟩ := ht; ⟨o, e, c, n, da⟩) fun h' hx => ?_))
  have I1 : Inv X pins σ H { s with heap := h' } := I.kept (t' := s.toks) fun b o e => hx b o (Nat.ne_of_lt (Heap.lt_size e)) e
  exact h.run pins _ σ H xs _ Q I1 (by simpa using rv) hw
end
end L2
namespace PL
open PySem PySem.Spec L2
variable [Kap]
def tLst (u : List D → M Unit) : D → M Unit
  | .list ds => u ds
  | _ => fun _ => .stuck
section
variable {X : Cx} {es : List Expr} {pos : Pos}
theorem pgt_lst {n : Nat} {kk : Nat} {u : List D → M Unit} {ts : List Nat} (hc : X.calm = true) (h : PGts X es ts u) (hn : (assignEach es X.env).length = n := by rfl) (hl : ∀ ds ρ ρ', u ds ρ = .ok () ρ' → ds.length = n)
    (hst : (assignEach es X.env).findIdx? (·.1) = none := by rfl) : PGt X (.Tuple es kk pos) ts (tLst u) := by
  obtain ⟨g, h, r⟩ := h
  refine ⟨_, pg_lstT hc h hn hst, fun C G σ H ρ v d Q hK S rr ρ' hm q => ?_⟩
  cases rr with
  | @lst a xs ds ha hr => exact ⟨a, xs, rfl, Or.inl (Or.inl (S.gh _ _ ha)), by rw [hr.length]; exact hl ds ρ ρ' hm, r C G σ H ρ xs ds Q hK S hr ρ' hm q⟩
  | _ => cases hm
end
def lst2 : D → Option (D × D)
  | .list [a, b] => some (a, b)
  | _ => none
def lst3 : D → Option (D × D × D)
  | .list [a, b, c] => some (a, b, c)
  | _ => none
theorem lst2_eq {d a b : D} (h : lst2 d = some (a, b)) : d = .list [a, b] := by
  unfold lst2 at h
  split at h
  · cases h; rfl
  · cases h
theorem lst3_eq {d a b c : D} (h : lst3 d = some (a, b, c)) : d = .list [a, b, c] := by
  unfold lst3 at h
  split at h
  · cases h; rfl
  · cases h
@[simp] theorem q_tLst (u : List D → M Unit) (ds : List D) : tLst u (.list ds) = u ds := rfl
theorem tL2 {d a b : D} (h : lst2 d = some (a, b)) (u : List D → M Unit) : tLst u d = u [a, b] := by rw [lst2_eq h]; rfl
theorem tL3 {d a b c : D} (h : lst3 d = some (a, b, c)) (u : List D → M Unit) : tLst u d = u [a, b, c] := by rw [lst3_eq h]; rfl
end PL
namespace PL
open PySem PySem.Spec L2
variable [Kap]
/-! x in l, x not in l, of a list -/
def gIn (d e : D) : Option D := match e with
  | .list ds => if (SeqAt.shaped d && SeqAt.shaped (.list ds)) = true then some (.bool (ds.any fun z => PyData.eqv z d)) else none
  | _ => none
def gNotIn (d e : D) : Option D := match e with
  | .list ds => if (SeqAt.shaped d && SeqAt.shaped (.list ds)) = true then some (.bool (!ds.any fun z => PyData.eqv z d)) else none
  | _ => none
theorem pop_in {K : PySem.W.Frag} : POpV (rInD K) gIn := by
  intro G H x y d e z Q gh s1 s2 hg q
  unfold gIn at hg
  split at hg
  · rename_i ds
    by_cases h : (SeqAt.shaped d && SeqAt.shaped (.list ds)) = true
    · rw [if_pos h] at hg; cases hg
      rw [Bool.and_eq_true] at h
      exact ⟨d, ds, s1.dp gh (SeqAt.canLay_of_shaped h.1), s2.dp gh (SeqAt.canLay_of_shaped h.2), h.1, h.2, q _ G H (Grow.refl gh) (.bl _)⟩
    · rw [if_neg h] at hg; cases hg
  · cases hg
theorem pop_notIn {K : PySem.W.Frag} : POpV (rNotInD K) gNotIn := by
  intro G H x y d e z Q gh s1 s2 hg q
  unfold gNotIn at hg
  split at hg
  · rename_i ds
    by_cases h : (SeqAt.shaped d && SeqAt.shaped (.list ds)) = true
    · rw [if_pos h] at hg; cases hg
      rw [Bool.and_eq_true] at h
      exact ⟨d, ds, s1.dp gh (SeqAt.canLay_of_shaped h.1), s2.dp gh (SeqAt.canLay_of_shaped h.2), h.1, h.2, q _ G H (Grow.refl gh) (.bl _)⟩
    · rw [if_neg h] at hg; cases hg
  · cases hg
section
variable {X : Cx} {a b : Expr} {pos : Pos} {ga gb : M Pl}
theorem pt_in (hu : X.A.units + 65 < cLine) (ha : PP X a ga) (hb : PP X b gb) (hm : behindInMarks .In b = false := by rfl) : PTt X (.Compare a [.In] [b] pos) (mB (mOp gIn ga gb)) := pt_cmp' (op_inD hu) pop_in ha hb hm
theorem pt_notin (hu : X.A.units + 65 < cLine) (ha : PP X a ga) (hb : PP X b gb) (hm : behindInMarks .NotIn b = false := by rfl) : PTt X (.Compare a [.NotIn] [b] pos) (mB (mOp gNotIn ga gb)) := pt_cmp' (op_notInD hu) pop_notIn ha hb hm
theorem pv_in (hu : X.A.units + 65 < cLine) (ha : PP X a ga) (hb : PP X b gb) (hm : behindInMarks .In b = false := by rfl) : PV X (.Compare a [.In] [b] pos) (mOp gIn ga gb) := pv_cmp (op_inD hu) pop_in ha hb hm
theorem pv_notin (hu : X.A.units + 65 < cLine) (ha : PP X a ga) (hb : PP X b gb) (hm : behindInMarks .NotIn b = false := by rfl) : PV X (.Compare a [.NotIn] [b] pos) (mOp gNotIn ga gb) := pv_cmp (op_notInD hu) pop_notIn ha hb hm
end
end PL
namespace PL
open PySem PySem.Spec L2 RT RZ
variable [Kap]
/-! [e for t in i if c for t1 in i1 if c1]: what the second goes through must not stand in what is borrowed -/
def RdI0 (K : PySem.W.Frag) (wi : TI) (f : M (List D)) : Prop := ∀ (C : Ctx) (G : Hp) (σ : L2.St) (H : Hp) (ρ : Env) (R : It → Hp → Prop), C.K = K → StOk C G σ H ρ → ∀ (ds : List D) (ρ' : Env), f ρ = .ok ds ρ' →
  (∀ (J : It) (G' H' : Hp), Same G G' → StOk C G' σ H' ρ' → JOk J (fun _ => none) G' ds → R J H') → wi σ H R
def PIt0 (X : Cx) (tg e : Expr) (f : M (List D)) : Prop := ∃ wi, PI X tg e wi ∧ RdI0 X.K wi f
def TIv (K : PySem.W.Frag) (f : M (List D)) : TI := fun σ H R => ∃ (C : Ctx) (G : Hp) (ρ : Env) (ds : List D) (ρ' : Env), C.K = K ∧ StOk C G σ H ρ ∧ f ρ = .ok ds ρ' ∧
  ∀ (J : It) (G' H' : Hp), Same G G' → StOk C G' σ H' ρ' → JOk J (fun _ => none) G' ds → R J H'
theorem pi_uni {X : Cx} {tg e : Expr} {f : M (List D)} (h : PIt0 X tg e f) : PI X tg e (TIv X.K f) := by
  obtain ⟨t, h, r⟩ := h
  exact ⟨fun pins s σ H R I ⟨C, G, ρ, ds, ρ', hK, S, hf, q⟩ => h.run pins s σ H R I (r C G σ H ρ R hK S ds ρ' hf q)⟩
section
variable {X : Cx} {tg a e : Expr} {p pos : Pos} {fa : M D} {g : M Pl}
theorem pit0_rng1 (hg : Gl X "range") (hm : X.mg "range" = none) (h : PV X a fa) (hs : starEach [a] X.env = [(false, eval a X.env)] := by rfl) : PIt0 X tg (.Call (.Name "range" p) [a] [] pos) (mRng1 fa) := by
  obtain ⟨t, h, r⟩ := h
  refine ⟨_, pi_range1 hg hm (pa_cons h pa_nil hs) hs, fun C G σ H ρ R hK S ds ρ' hf q => ?_⟩
  obtain ⟨d, ρ1, h1, hf2⟩ := bnd_ok hf
  refine r C G σ H ρ _ hK S d ρ1 h1 fun v G1 H1 g1 S1 o => ?_
  cases o with
  | int n =>
    by_cases hn : small62 n = true
    · simp only [hn, if_true] at hf2
      cases hf2
      simp only [small62, Bool.and_eq_true, decide_eq_true_eq] at hn
      refine ⟨n, rfl, hn.1, hn.2, ?_⟩
      have := JOk.rng (B := fun _ => none) (G1 := G1) (lo := 0) (hi := n)
      rw [Int.sub_zero] at this
      exact q _ G1 H1 g1 S1 this
    · simp only [hn, if_false] at hf2
      cases hf2
  | _ => cases hf2
end
def lc2Go (t : D → M Unit) (vs : List Nat) (c : M Bool) (fi1 : M (List D)) (t1 : D → M Unit) (vs1 : List Nat) (c1 : M Bool) (fe : M D) : List D → List D → M (List D)
  | acc, [] => ret acc
  | acc, d :: ds => bnd (t d) fun _ => bnd c fun k => if k = true then bnd fi1 fun ds1 => bnd (fun ρ => lcGo t1 vs1 c1 fe acc ds1 (wipeE ρ vs1)) fun acc' => fun ρ => lc2Go t vs c fi1 t1 vs1 c1 fe acc' ds (wipeE ρ vs)
    else fun ρ => lc2Go t vs c fi1 t1 vs1 c1 fe acc ds (wipeE ρ vs)
def mLc2 (fi : M (List D)) (t : D → M Unit) (vs : List Nat) (c : M Bool) (fi1 : M (List D)) (t1 : D → M Unit) (vs1 : List Nat) (c1 : M Bool) (fe : M D) : M Rv := bnd fi fun ds => fun ρ1 => match lc2Go t vs c fi1 t1 vs1 c1 fe [] ds (wipeE ρ1 vs) with
  | .ok acc ρ2 => .ok (.fr (.list acc)) (restE ρ1 ρ2 vs)
  | .stuck => .stuck
section
variable {X : Cx}
theorem rd_lc2 {wi : TI} {fi fi1 : M (List D)} {t t1 : D → M Unit} {ts ts1 vs vs1 : List Nat} {mc mc1 : M Bool} {fe : M D} (hts : ∀ i ∈ ts, i ∈ vs) (hts1 : ∀ i ∈ ts1, i ∈ vs1) (hv : ∀ i ∈ vs1, i ∈ vs) (hi : RdI X.K wi fi) :
    RdF X.K (tLc2 wi (TGv X.K ts t) (TTv X.K mc) (TIv X.K fi1) (TGv X.K ts1 t1) (TTv X.K mc1) (TV X.K fe) vs vs1) (mLc2 fi t vs mc fi1 t1 vs1 mc1 fe) := by
  intro C G σ H ρ Q hK S r ρ' hf q
  obtain ⟨ds, ρ1, h1, hf2⟩ := bnd_ok hf
  refine hi C G σ H ρ _ hK S ds ρ1 h1 fun J G1 H1 g1 S1 JJ E hE => ?_
  cases hl : lc2Go t vs mc fi1 t1 vs1 mc1 fe [] ds (wipeE ρ1 vs) with
  | stuck => rw [hl] at hf2; cases hf2
  | ok accF ρF =>
    rw [hl] at hf2
    cases hf2
    have hBE : C.B E = none := S1.bh.free hE
    have hGE : ∀ {G2 : Hp} {σ2 : L2.St} {H2 : Hp} {ρ2 : Env} {o : HO}, StOk (C.with E o) G2 σ2 H2 ρ2 → G2 E = none := fun {G2 σ2 H2 ρ2 o} S2 => by
      cases q : G2 E with
      | none => rfl
      | some u =>
        rcases S2.ga E (ne_none_of q) with z | z
        · exact absurd (S1.gh.free hE |> S1.g0.free) z
        · exact absurd rfl z.2
    let Goal : Nat → Hp → Prop := fun i H3 => ∃ G3 ρ3 accV3 acc3, Same G1 G3 ∧ StOk (C.with E (.lst accV3)) G3 (L2.wipe σ vs) H3 ρ3 ∧ RpA G3 accV3 acc3 ∧ lc2Go t vs mc fi1 t1 vs1 mc1 fe acc3 (ds.drop i) ρ3 = .ok accF ρF
    refine ⟨fun i mm H2 => i + mm = ds.length ∧ Goal i H2,
      ⟨ds.length, by omega, G1, _, [], [], Same.refl _, (S1.enter hE (.lst [])).wipe vs, .nil, by simpa using hl⟩, fun i mm H2 ⟨hm, G2, ρ2, accV, acc, g2, S2, ra, h2⟩ => ?_⟩
    by_cases hlt : i < ds.length
    · have gh2 := S2.gh
      have bh2 : Same C.B H2 := (same_new hBE).trans S2.bh
      refine .inr ⟨JJ.go i G2 H2 bh2 g2 gh2 hlt, Goal (i + 1),
        fun H3 z => ⟨mm - 1, by omega, by omega, z⟩, fun y H3 hy => ?_⟩
      have ed : ds[i]? = some ds[i] := List.getElem?_eq_getElem hlt
      obtain ⟨G3, w, ry⟩ := JJ.yld i G2 H2 y H3 _ bh2 g2 gh2 ed hy
      have S3 := S2.grow w
      rw [List.drop_eq_getElem_cons hlt] at h2
      obtain ⟨uu, ρ3, h3, h4⟩ := bnd_ok h2
      refine ⟨C.with E (.lst accV), G3, _, _, ρ3, hK, S3, ry, h3, fun σ4 S4 w4 => ⟨(w4 vs hts).trans wipe_wipe, ?_⟩⟩
      obtain ⟨kk, ρ5, h5, h6⟩ := bnd_ok h4
      refine ⟨C.with E (.lst accV), G3, _, kk, ρ5, hK, S4, h5, fun G5 H5 g5 S5 => ?_⟩
      have ww : L2.wipe σ4 vs = L2.wipe σ vs := (w4 vs hts).trans wipe_wipe
      cases kk with
      | true =>
        show (if true = true then _ else _); rw [if_pos rfl]
        rw [if_pos rfl] at h6
        obtain ⟨ds1, ρ6, h7, h8⟩ := bnd_ok h6
        refine ⟨C.with E (.lst accV), G5, _, ds1, ρ6, hK, S5, h7, fun J1 G6 H6 g6 S6 JJ1 => ?_⟩
        obtain ⟨accI, ρI, hI, hR⟩ := bnd_ok h8
        have gg6 : Same G2 G6 := (w.g.trans g5).trans g6
        let W1 : Nat → Nat → Hp → Prop := fun j nn H7 => j + nn = ds1.length ∧ ∃ G7 ρ7 accV7 acc7, Same G6 G7 ∧ StOk (C.with E (.lst accV7)) G7 (L2.wipe σ4 vs1) H7 ρ7 ∧ RpA G7 accV7 acc7 ∧ lcGo t1 vs1 mc1 fe acc7 (ds1.drop j) ρ7 = .ok accI ρI
        refine ⟨W1, ⟨ds1.length, by omega, G6, wipeE ρ6 vs1, accV, acc, Same.refl _, S6.wipe vs1, ra.mono gg6, by simpa using hI⟩, fun j nn H7 ⟨hm7, G7, ρ7, accV7, acc7, g7, S7, ra7, h9⟩ => ?_⟩
        by_cases hlt1 : j < ds1.length
        · have gh7 := S7.gh
          have b0 : Same (fun _ => none) H7 := fun a u z => by cases z
          refine .inr ⟨JJ1.go j G7 H7 b0 g7 gh7 hlt1, fun H8 => ∃ G7 ρ7 accV7 acc7, Same G6 G7 ∧ StOk (C.with E (.lst accV7)) G7 (L2.wipe σ4 vs1) H8 ρ7 ∧ RpA G7 accV7 acc7 ∧ lcGo t1 vs1 mc1 fe acc7 (ds1.drop (j + 1)) ρ7 = .ok accI ρI,
            fun H8 z => ⟨nn - 1, by omega, by omega, z⟩, fun y1 H8 hy1 => ?_⟩
          have ed1 : ds1[j]? = some ds1[j] := List.getElem?_eq_getElem hlt1
          obtain ⟨G8, w8, ry8⟩ := JJ1.yld j G7 H7 y1 H8 _ b0 g7 gh7 ed1 hy1
          have S8 := S7.grow w8
          rw [List.drop_eq_getElem_cons hlt1] at h9
          obtain ⟨uu1, ρ8, k3, k4⟩ := bnd_ok h9
          refine ⟨C.with E (.lst accV7), G8, _, _, ρ8, hK, S8, ry8, k3, fun σ9 S9 w9 => ⟨(w9 vs1 hts1).trans wipe_wipe, ?_⟩⟩
          obtain ⟨kk1, ρ9, k5, k6⟩ := bnd_ok k4
          refine ⟨C.with E (.lst accV7), G8, _, kk1, ρ9, hK, S9, k5, fun G10 H10 g10 S10 => ?_⟩
          have ww1 : L2.wipe σ9 vs1 = L2.wipe σ4 vs1 := (w9 vs1 hts1).trans wipe_wipe
          cases kk1 with
          | true =>
            show (if true = true then _ else _); rw [if_pos rfl]
            obtain ⟨yd, ρ11, k7, k8⟩ := bnd_ok k6
            refine ⟨C.with E (.lst accV7), G10, _, yd, ρ11, hK, S10, k7, fun v11 G11 H11 g11 S11 r11 => ?_⟩
            have hH11 : H11 E = some (.lst accV7) := S11.bh E _ upd_same
            have gg : Same G7 G11 := (w8.g.trans g10).trans g11
            by_cases hac : acc7.length < 100000
            · rw [if_pos hac] at k8
              refine ⟨accV7, hH11, by rw [ra7.length]; exact line_lt hac, G11, wipeE ρ11 vs1, accV7 ++ [v11], acc7 ++ [yd], g7.trans gg, ?_, (ra7.mono gg).append (.one r11), k8⟩
              have S12 := S11.step (o' := .lst (accV7 ++ [v11])) (hGE S11) S1.wf hBE
              rw [← ww1]
              exact S12.wipe vs1
            · rw [if_neg hac] at k8
              cases k8
          | false =>
            show (if false = true then _ else _); rw [if_neg Bool.false_ne_true]
            rw [if_neg Bool.false_ne_true] at k6
            refine ⟨G10, wipeE ρ9 vs1, accV7, acc7, g7.trans (w8.g.trans g10), ?_, ra7.mono (w8.g.trans g10), k6⟩
            rw [← ww1]
            exact S10.wipe vs1
        · have hj : j = ds1.length := by omega
          rw [List.drop_eq_nil_of_le (by omega)] at h9
          cases h9
          have b0 : Same (fun _ => none) H7 := fun a u z => by cases z
          refine .inl ⟨by rw [hj]; exact JJ1.stop G7 H7 b0 g7 S7.gh, G7, wipeE ρI vs, accV7, accI, g2.trans (gg6.trans g7), ?_, ra7, hR⟩
          have S13 := S7.wipe vs
          rw [wipe_sub hv, ww] at S13
          exact S13
      | false =>
        show (if false = true then _ else _); rw [if_neg Bool.false_ne_true]
        rw [if_neg Bool.false_ne_true] at h6
        refine ⟨G5, wipeE ρ5 vs, accV, acc, g2.trans (w.g.trans g5), ?_, ra.mono (w.g.trans g5), h6⟩
        rw [← ww]
        exact S5.wipe vs
    · have hi' : i = ds.length := by omega
      rw [List.drop_eq_nil_of_le (by omega)] at h2
      cases h2
      have gh2 := S2.gh
      have bh2 : Same C.B H2 := (same_new hBE).trans S2.bh
      refine .inl ⟨by rw [hi']; exact JJ.stop G2 H2 bh2 g2 gh2, ?_⟩
      have S3 : StOk C G2 (L2.wipe σ vs) H2 _ := S2.exit S1.wf hBE
      have S4 := S1.rest S3 g2
      refine q _ G2 H2 (g1.trans g2) S4 ⟨E, rfl, .lst (S2.bh E _ upd_same) ra, hGE S2, hBE, S1.fr E hE, fun j hj => ?_⟩
      obtain ⟨z1, s, z2, z3⟩ := hj
      by_cases hjv : j ∈ vs
      · have := restE_in hjv z2
        subst this
        rw [keepS_own] at z3; cases z3
      · rw [restE_out hjv] at z2
        obtain ⟨_, _, z4⟩ := Own.tracked S2 (i := j) (a := E) ⟨by rw [wipe_get hjv]; exact z1, s, z2, z3⟩
        have z5 : upd C.B E (.lst accV) E = none := z4
        rw [upd_same] at z5; cases z5
variable {elt tg iter tg1 iter1 : Expr} {ifs ifs1 : List Expr} {scope : Scope} {own : List (Str × Nat)} {pos : Pos} {fe : M D}
theorem pf_lc2 {fi fi1 : M (List D)} {t t1 : D → M Unit} {ts ts1 vs1 : List Nat} {mc mc1 : M Bool} (hc : X.calm = true) (hN : X.N.Nodup) (hi : PIt X tg iter fi) (ok : BlkOk X.N X.env.scope scope own)
    (hg : ∀ (s : Shared) (H : Hp) (C : Addr) (cl : List (Str × Addr)) (fp : List Addr), PGt (X.blk s H scope (compEnvC scope cl C X.env) fp) tg ts t)
    (ht : ∀ (s : Shared) (H : Hp) (C : Addr) (cl : List (Str × Addr)) (fp : List Addr), PTs (X.blk s H scope (compEnvC scope cl C X.env) fp) ifs (TTv X.K mc))
    (hi1 : ∀ (s : Shared) (H : Hp) (C : Addr) (cl : List (Str × Addr)) (fp : List Addr), PIt0 (X.blk s H scope (compEnvC scope cl C X.env) fp) tg1 iter1 fi1)
    (hg1 : ∀ (s : Shared) (H : Hp) (C : Addr) (cl : List (Str × Addr)) (fp : List Addr), PGt (X.blk s H scope (compEnvC scope cl C X.env) fp) tg1 ts1 t1)
    (ht1 : ∀ (s : Shared) (H : Hp) (C : Addr) (cl : List (Str × Addr)) (fp : List Addr), PTs (X.blk s H scope (compEnvC scope cl C X.env) fp) ifs1 (TTv X.K mc1))
    (he : ∀ (s : Shared) (H : Hp) (C : Addr) (cl : List (Str × Addr)) (fp : List Addr), PV (X.blk s H scope (compEnvC scope cl C X.env) fp) elt fe) (hs : ∀ x, foldedSetIterable iter X.env x = pure x := by intro _; rfl) (hs1 : ∀ env x, foldedSetIterable iter1 env x = pure x := by intro _ _; rfl)
    (hts : ∀ i ∈ ts, i ∈ own.map (·.2) := by decide) (hts1 : ∀ i ∈ ts1, i ∈ vs1 := by decide) (hv : ∀ i ∈ vs1, i ∈ own.map (·.2) := by decide) :
    PF X (.ListComp elt [⟨tg, iter, ifs, 0⟩, ⟨tg1, iter1, ifs1, 0⟩] scope pos) (mLc2 fi t (own.map (·.2)) mc fi1 t1 vs1 mc1 fe) := by
  obtain ⟨wi, hi, ri⟩ := hi
  exact ⟨_, pe_lc2 (g := TGv X.K ts t) (tt := TTv X.K mc) (wi1 := TIv X.K fi1) (g1 := TGv X.K ts1 t1) (tt1 := TTv X.K mc1) (te := TV X.K fe) (vs1 := vs1) hc hN hi ok hv (fun s H C cl fp => pg_uni (hg s H C cl fp)) ht (fun s H C cl fp => pi_uni (hi1 s H C cl fp)) (fun s H C cl fp => pg_uni (hg1 s H C cl fp)) ht1 (fun s H C cl fp => pv_uni (he s H C cl fp)) hs hs1, rd_lc2 hts hts1 hv ri⟩
end
end PL
namespace PL
open PySem PySem.Spec L2 RT RZ
variable [Kap]
/-! two fors: the lists of the inner ones, one behind another -/
def catP (f : D → Option (List D)) : List D → Option (List D)
  | [] => some []
  | x :: xs => (f x).bind fun y => (catP f xs).bind fun ys => some (y ++ ys)
def catT (f : D → Option (List D)) (xs : List D) : Option (List D) := (catP f xs).bind fun ys => if ys.length ≤ 100000 then some ys else none
theorem lcGo_len {t : D → M Unit} {vs : List Nat} {c : M Bool} {fe : M D} : ∀ (xs acc : List D) (ρ ρ' : Env) (out : List D), lcGo t vs c fe acc xs ρ = .ok out ρ' → acc.length ≤ out.length
  | [], acc, ρ, ρ', out, h => by cases h; exact Nat.le_refl _
  | x :: xs, acc, ρ, ρ', out, h => by
    obtain ⟨u, ρ1, h1, h2⟩ := bnd_ok h
    obtain ⟨k, ρ2, h3, h4⟩ := bnd_ok h2
    cases k with
    | true =>
      obtain ⟨y, ρ3, h5, h6⟩ := bnd_ok h4
      by_cases hl : acc.length < 100000
      · rw [if_pos hl] at h6
        have := lcGo_len xs _ _ _ _ h6
        rw [List.length_append, List.length_singleton] at this
        omega
      · rw [if_neg hl] at h6; cases h6
    | false =>
      rw [if_neg Bool.false_ne_true] at h4
      exact lcGo_len xs _ _ _ _ h4
theorem lcGo_acc {t : D → M Unit} {vs : List Nat} {c : M Bool} {fe : M D} (pre : List D) : ∀ (xs acc : List D) (ρ ρ' : Env) (out : List D), lcGo t vs c fe acc xs ρ = .ok out ρ' → pre.length + out.length ≤ 100000 → lcGo t vs c fe (pre ++ acc) xs ρ = .ok (pre ++ out) ρ'
  | [], acc, ρ, ρ', out, h, _ => by cases h; rfl
  | x :: xs, acc, ρ, ρ', out, h, hp => by
    obtain ⟨u, ρ1, h1, h2⟩ := bnd_ok h
    obtain ⟨k, ρ2, h3, h4⟩ := bnd_ok h2
    show bnd (t x) _ ρ = _
    rw [bnd_eq h1, bnd_eq h3]
    cases k with
    | true =>
      obtain ⟨y, ρ3, h5, h6⟩ := bnd_ok h4
      by_cases hl : acc.length < 100000
      · rw [if_pos hl] at h6
        have := lcGo_len xs _ _ _ _ h6
        rw [List.length_append, List.length_singleton] at this
        rw [if_pos rfl, bnd_eq h5, if_pos (by rw [List.length_append]; omega)]
        have := lcGo_acc pre xs _ _ _ _ h6 hp
        rw [← List.append_assoc] at this
        exact this
      · rw [if_neg hl] at h6; cases h6
    | false =>
      rw [if_neg Bool.false_ne_true] at h4 ⊢
      exact lcGo_acc pre xs _ _ _ _ h4 hp
theorem wipeE_set {ρ : Env} {s : Sl} : ∀ {vs : List Nat} {v : Nat}, v ∈ vs → wipeE (ρ.set v s) vs = wipeE ρ vs
  | [], _, h => by cases h
  | w :: vs, v, h => by
    show (wipeE (ρ.set v s) vs).set w .un = (wipeE ρ vs).set w .un
    by_cases hv : v ∈ vs
    · rw [wipeE_set hv]
    · have e : v = w := (List.mem_cons.mp h).elim id fun z => absurd z hv
      subst e
      have out : ∀ (us : List Nat) (r : Env), v ∉ us → wipeE (r.set v s) us = (wipeE r us).set v s := by
        intro us
        induction us with
        | nil => intro r _; rfl
        | cons u us ih =>
          intro r hu
          show (wipeE (r.set v s) us).set u .un = ((wipeE r us).set u .un).set v s
          rw [ih r fun z => hu (List.mem_cons_of_mem _ z), List.set_comm _ _ fun z => hu (by rw [z]; exact List.mem_cons_self)]
      rw [out vs ρ hv, List.set_set]
theorem wipeE_rest {ρ1 ρ2 : Env} {vs : List Nat} : ∀ {ws : List Nat}, (∀ i ∈ ws, i ∈ vs) → wipeE (restE ρ1 ρ2 ws) vs = wipeE ρ2 vs
  | [], _ => rfl
  | w :: ws, h => by
    show wipeE ((restE ρ1 ρ2 ws).set w _) vs = _
    rw [wipeE_set (h w List.mem_cons_self), wipeE_rest fun i hi => h i (List.mem_cons_of_mem _ hi)]
theorem catP_run {t t1 : D → M Unit} {vs vs1 : List Nat} {c1 : M Bool} {fi1 : M (List D)} {fe : M D} {f : D → Option (List D)} (I : Env → Prop) (hv : ∀ i ∈ vs1, i ∈ vs)
    (hb : ∀ x ρ y, I ρ → f x = some y → ∃ ρ1 ρ2 ρ3, t x ρ = .ok () ρ1 ∧ mYes ρ1 = .ok true ρ2 ∧ mLc fi1 t1 vs1 c1 fe ρ2 = .ok (.fr (.list y)) ρ3 ∧ I (wipeE ρ3 vs)) :
    ∀ (xs acc : List D) (ρ : Env) (out : List D), I ρ → catP f xs = some out → acc.length + out.length ≤ 100000 → ∃ ρ', lc2Go t vs mYes fi1 t1 vs1 c1 fe acc xs ρ = .ok (acc ++ out) ρ' ∧ I ρ'
  | [], acc, ρ, out, hi, h, _ => by cases h; exact ⟨ρ, by rw [List.append_nil]; rfl, hi⟩
  | x :: xs, acc, ρ, out, hi, h, hl => by
    obtain ⟨y, h1, h2⟩ := ob h
    obtain ⟨ys, h3, h4⟩ := ob h2
    cases h4
    obtain ⟨ρ1, ρ2, ρ3, e1, e2, e3, hi'⟩ := hb x ρ y hi h1
    obtain ⟨ds1, ρ4, k1, k2⟩ := bnd_ok e3
    rw [List.length_append] at hl
    cases k3 : lcGo t1 vs1 c1 fe [] ds1 (wipeE ρ4 vs1) with
    | stuck => rw [k3] at k2; cases k2
    | ok out1 ρ5 =>
      rw [k3] at k2
      cases k2
      rw [wipeE_rest hv] at hi'
      have k4 := lcGo_acc acc ds1 [] _ _ _ k3 (by omega)
      rw [List.append_nil] at k4
      obtain ⟨ρ6, e6, hi6⟩ := catP_run I hv hb xs (acc ++ y) _ ys hi' h3 (by rw [List.length_append]; omega)
      refine ⟨ρ6, ?_, hi6⟩
      show bnd (t x) _ ρ = _
      rw [bnd_eq e1, bnd_eq e2, if_pos rfl, bnd_eq k1]
      show bnd (fun ρ => lcGo t1 vs1 c1 fe acc ds1 (wipeE ρ vs1)) _ ρ4 = _
      have key : ∀ (F : M (List D)) (g : List D → M (List D)) (a : List D) (r : Env), F ρ4 = .ok a r → bnd F g ρ4 = g a r := fun F g a r h => bnd_eq h
      refine Eq.trans (key (fun ρ => lcGo t1 vs1 c1 fe acc ds1 (wipeE ρ vs1)) _ _ _ k4) ?_
      rw [List.append_assoc] at e6
      exact e6
theorem catT_run {t t1 : D → M Unit} {vs vs1 : List Nat} {c1 : M Bool} {fi fi1 : M (List D)} {fe : M D} {f : D → Option (List D)} (I : Env → Prop) (hv : ∀ i ∈ vs1, i ∈ vs)
    {ρ0 ρ1 : Env} {xs : List D} {out : List D} (h0 : fi ρ0 = .ok xs ρ1) (hi : I (wipeE ρ1 vs)) (h : catT f xs = some out)
    (hb : ∀ x ρ y, I ρ → f x = some y → ∃ ρ1 ρ2 ρ3, t x ρ = .ok () ρ1 ∧ mYes ρ1 = .ok true ρ2 ∧ mLc fi1 t1 vs1 c1 fe ρ2 = .ok (.fr (.list y)) ρ3 ∧ I (wipeE ρ3 vs)) :
    ∃ ρ', mLc2 fi t vs mYes fi1 t1 vs1 c1 fe ρ0 = .ok (.fr (.list out)) (restE ρ1 ρ' vs) ∧ I ρ' := by
  obtain ⟨ys, h1, h2⟩ := ob h
  by_cases hl : ys.length ≤ 100000
  · rw [if_pos hl] at h2
    cases h2
    obtain ⟨ρ', e, q⟩ := catP_run I hv hb xs [] _ out hi h1 (by simpa using hl)
    refine ⟨ρ', ?_, q⟩
    show bnd fi _ ρ0 = _
    rw [bnd_eq h0]
    have e' : lc2Go t vs mYes fi1 t1 vs1 c1 fe [] xs (wipeE ρ1 vs) = .ok out ρ' := e
    show (match lc2Go t vs mYes fi1 t1 vs1 c1 fe [] xs (wipeE ρ1 vs) with
      | .ok acc ρ2 => R.ok (Rv.fr (.list acc)) (restE ρ1 ρ2 vs)
      | .stuck => .stuck) = _
    rw [e']
  · rw [if_neg hl] at h2; cases h2
end PL
namespace PL
open PySem PySem.Spec L2 RT RZ
variable [Kap]
section
variable {X : Cx} {elt tg iter tg1 iter1 : Expr} {ifs ifs1 : List Expr} {scope : Scope} {own : List (Str × Nat)} {pos : Pos} {fe : M D}
theorem pst_setLc2 {i : Nat} {y : Str} {py spos : Pos} {fi fi1 : M (List D)} {t t1 : D → M Unit} {ts ts1 vs1 : List Nat} {mc mc1 : M Bool} (hc : X.calm = true) (hN : X.N.Nodup) (hy : X.N[i]? = some y) (hyl : X.env.scope.names.lookup y = some .local)
    (hsw : swapsWith (.ListComp elt [⟨tg, iter, ifs, 0⟩, ⟨tg1, iter1, ifs1, 0⟩] scope pos) (some (.Name y py)) spos.line X.env = pure true) (hi : PIt X tg iter fi) (ok : BlkOk X.N X.env.scope scope own)
    (hg : ∀ (s : Shared) (H : Hp) (C : Addr) (cl : List (Str × Addr)) (fp : List Addr), PGt (X.blk s H scope (compEnvC scope cl C X.env) fp) tg ts t)
    (ht : ∀ (s : Shared) (H : Hp) (C : Addr) (cl : List (Str × Addr)) (fp : List Addr), PTs (X.blk s H scope (compEnvC scope cl C X.env) fp) ifs (TTv X.K mc))
    (hi1 : ∀ (s : Shared) (H : Hp) (C : Addr) (cl : List (Str × Addr)) (fp : List Addr), PIt0 (X.blk s H scope (compEnvC scope cl C X.env) fp) tg1 iter1 fi1)
    (hg1 : ∀ (s : Shared) (H : Hp) (C : Addr) (cl : List (Str × Addr)) (fp : List Addr), PGt (X.blk s H scope (compEnvC scope cl C X.env) fp) tg1 ts1 t1)
    (ht1 : ∀ (s : Shared) (H : Hp) (C : Addr) (cl : List (Str × Addr)) (fp : List Addr), PTs (X.blk s H scope (compEnvC scope cl C X.env) fp) ifs1 (TTv X.K mc1))
    (he : ∀ (s : Shared) (H : Hp) (C : Addr) (cl : List (Str × Addr)) (fp : List Addr), PV (X.blk s H scope (compEnvC scope cl C X.env) fp) elt fe) (hs : ∀ x, foldedSetIterable iter X.env x = pure x := by intro _; rfl) (hs1 : ∀ env x, foldedSetIterable iter1 env x = pure x := by intro _ _; rfl)
    (hts : ∀ i ∈ ts, i ∈ own.map (·.2) := by decide) (hts1 : ∀ i ∈ ts1, i ∈ vs1 := by decide) (hv : ∀ i ∈ vs1, i ∈ own.map (·.2) := by decide) :
    PSt X (.Assign [.Name y py] (.ListComp elt [⟨tg, iter, ifs, 0⟩, ⟨tg1, iter1, ifs1, 0⟩] scope pos) spos) (mSet i (mLc2 fi t (own.map (·.2)) mc fi1 t1 vs1 mc1 fe)) := by
  obtain ⟨wi, hi, ri⟩ := hi
  exact ⟨_, ps_setLc2 (g := TGv X.K ts t) (tt := TTv X.K mc) (wi1 := TIv X.K fi1) (g1 := TGv X.K ts1 t1) (tt1 := TTv X.K mc1) (te := TV X.K fe) (vs1 := vs1) hc hN hy hyl hsw hi ok hv (fun s H C cl fp => pg_uni (hg s H C cl fp)) ht (fun s H C cl fp => pi_uni (hi1 s H C cl fp)) (fun s H C cl fp => pg_uni (hg1 s H C cl fp)) ht1 (fun s H C cl fp => pv_uni (he s H C cl fp)) hs hs1, rd_set (rd_lc2 hts hts1 hv ri)⟩
end
end PL
set_option maxHeartbeats 2000000
/-! PL36: list(zip(a, b)). -/
namespace PL
open PySem PySem.Spec L2 PyProof.Rows
variable [Kap]
theorem no_len_zip : typeLookup (.type "zip") "__len__" = pure none := am_miss_of_fast (by decide +kernel)
theorem no_hint_zip : typeLookup (.type "zip") "__length_hint__" = pure none := am_miss_of_fast (by decide +kernel)
structure ZMade (xs ys : Array Value) (lo : Addr) (h : Heap) (ts : List Addr) : Prop where
  inc : List.Pairwise (fun a b : Addr => a < b) ts
  over : ∀ t ∈ ts, lo < t
  at_ : ∀ (j : Nat) (t : Addr), ts[j]? = some t → ∃ x y, xs[j]? = some x ∧ ys[j]? = some y ∧ IsPair h t x y
def ZSt (h : Heap) (z TI TO i1 i2 l1 l2 S : Addr) (xs ys : Array Value) (i : Nat) : Prop :=
  IsPair h TI (.ref i1) (.ref i2) ∧ h.IsListIter i1 l1 i ∧ h.IsListIter i2 l2 i ∧ h.IsList l1 xs ∧ h.IsList l2 ys ∧
    ((IsZip h z TI TO .none ∧ ∃ a b, IsPair h TO a b) ∨ ∃ T f oT, IsZipHeld h z TI TO T f ∧ h.get? T = some oT ∧ T ≠ z ∧ T ≠ i1 ∧ T ≠ i2 ∧ T ≠ S)
theorem ZSt.off {h h' : Heap} {z TI TO i1 i2 l1 l2 S : Addr} {xs ys : Array Value} {i : Nat} (st : ZSt h z TI TO i1 i2 l1 l2 S xs ys i) (hl : ∀ b ∈ [z, TI, TO, i1, i2, l1, l2], b ≠ S)
    (k : ∀ b o, b ≠ S → h.get? b = some o → h'.get? b = some o) : ZSt h' z TI TO i1 i2 l1 l2 S xs ys i := by
  obtain ⟨p, q1, q2, m1, m2, zz⟩ := st
  refine ⟨k _ _ (hl TI (by simp)) p, q1.at fun o e => k _ o (hl i1 (by simp)) e, q2.at fun o e => k _ o (hl i2 (by simp)) e, m1.at fun o e => k _ o (hl l1 (by simp)) e, m2.at fun o e => k _ o (hl l2 (by simp)) e, ?_⟩
  rcases zz with ⟨a1, a, b, a2⟩ | ⟨T, f, oT, a1, a2, r1, r2, r3, r4⟩
  · exact .inl ⟨k _ _ (hl z (by simp)) a1, a, b, k _ _ (hl TO (by simp)) a2⟩
  · exact .inr ⟨T, f, oT, k _ _ (hl z (by simp)) a1, k _ _ r4 a2, r1, r2, r3, r4⟩
section
variable {P : Program} {w : World} {A : Around} {E : Value → Shared → Prop} {s : Shared} {z TI TO i1 i2 l1 l2 S : Addr} {xs ys : Array Value} {i : Nat}
theorem zst_item {Q : Option Value → Shared → Prop} (D : ZipApart z TI TO i1 i2 l1 l2) (st : ZSt s.heap z TI TO i1 i2 l1 l2 S xs ys i) (hS : S < s.heap.objs.size) (h1 : i < xs.size) (h2 : i < ys.size)
    (q : ∀ h', ZSt h' z TI TO i1 i2 l1 l2 S xs ys (i + 1) → IsPair h' s.heap.objs.size xs[i] ys[i] → s.heap.objs.size < h'.objs.size → (∀ c o, c ∉ [z, TO, i1, i2] → s.heap.get? c = some o → h'.get? c = some o) → Q (some (.ref s.heap.objs.size)) { s with heap := h' }) :
    wpAny (model P w) A (pyNext (.ref z)) Q E s := by
  obtain ⟨p, q1, q2, m1, m2, zz⟩ := st
  have lt : ∀ {c o}, s.heap.get? c = some o → s.heap.objs.size ≠ c := fun e => Nat.ne_of_gt (Heap.lt_size e)
  have n1 : s.heap.objs.size ≠ i1 := let ⟨_, e, _⟩ := q1; lt e
  have n2 : s.heap.objs.size ≠ i2 := let ⟨_, e, _⟩ := q2; lt e
  have x1 := Array.getElem?_eq_getElem h1
  have x2 := Array.getElem?_eq_getElem h2
  rcases zz with ⟨hz, a, b, hTO⟩ | ⟨T, f, oT, hz, hT, r1, r2, r3, r4⟩
  · refine wpAny_pyNext_zip_item D hz p hTO q1 q2 m1 m2 x1 x2 fun h' a1 a2 a3 a4 a5 a6 hk => ?_
    exact q h' ⟨hk _ _ D.TIz D.TITO D.TIi1 D.TIi2 p, a3, a4, m1.at fun o e => hk _ o D.l1z D.l1TO D.l1i1 D.l1i2 e, m2.at fun o e => hk _ o D.l2z D.l2TO D.l2i1 D.l2i2 e, .inr ⟨_, false, _, a1, a5, lt hz, n1, n2, Nat.ne_of_gt hS⟩⟩ a5 (by omega)
      fun c o hc e => hk c o (fun x => hc (by simp [x])) (fun x => hc (by simp [x])) (fun x => hc (by simp [x])) (fun x => hc (by simp [x])) e
  · refine wpAny_pyNext_zip_item_held D hz hT p q1 q2 m1 m2 x1 x2 fun h' a1 a3 a4 a5 a6 hk => ?_
    exact q h' ⟨hk _ _ D.TIz D.TIi1 D.TIi2 p, a3, a4, m1.at fun o e => hk _ o D.l1z D.l1i1 D.l1i2 e, m2.at fun o e => hk _ o D.l2z D.l2i1 D.l2i2 e, .inr ⟨T, true, oT, a1, hk _ _ r1 r2 r3 hT, r1, r2, r3, r4⟩⟩ a5 (by omega)
      fun c o hc e => hk c o (fun x => hc (by simp [x])) (fun x => hc (by simp [x])) (fun x => hc (by simp [x])) e
theorem zst_done {Q : Option Value → Shared → Prop} (hh : A.handled = none) (D : ZipApart z TI TO i1 i2 l1 l2) (st : ZSt s.heap z TI TO i1 i2 l1 l2 S xs ys i) (h : xs.size ≤ i ∨ ys.size ≤ i)
    (q : ∀ h', (∀ c o, c ∉ [z, TO, i1, i2] → s.heap.get? c = some o → h'.get? c = some o) → Q none { s with heap := h' }) : wpAny (model P w) A (pyNext (.ref z)) Q E s := by
  obtain ⟨p, q1, q2, m1, m2, zz⟩ := st
  have he : xs[i]? = none ∨ ys[i]? = none := h.imp (fun h => Array.getElem?_eq_none h) fun h => Array.getElem?_eq_none h
  rcases zz with ⟨hz, a, b, hTO⟩ | ⟨T, f, oT, hz, hT, r1, r2, r3, r4⟩
  · exact wpAny_pyNext_zip_end hh D hz p hTO q1 q2 m1 m2 he fun h' hk => q h' fun c o hc e => hk c o (fun x => hc (by simp [x])) (fun x => hc (by simp [x])) (fun x => hc (by simp [x])) (fun x => hc (by simp [x])) e
  · exact wpAny_pyNext_zip_end_held hh D hz hT p q1 q2 m1 m2 he fun h' hk => q h' fun c o hc e => hk c o (fun x => hc (by simp [x])) (fun x => hc (by simp [x])) (fun x => hc (by simp [x])) e
end
section
variable {P : Program} {w : World} {A : Around} {s : Shared} {z TI TO i1 i2 l1 l2 S : Addr} {xs ys : Array Value} {R : Result → Shared → Prop}
/-- the same list, growing -/
abbrev LstObj (h : Heap) (S : Addr) (acc : Array Value) (c : Nat) : Prop := h.get? S = some { cls := .type "list", dict := none, data := .seq acc c, slots := #[] }
theorem z_loop (hh : A.handled = none) (D : ZipApart z TI TO i1 i2 l1 l2) (lo : ∀ b ∈ [z, TI, TO, i1, i2, l1, l2], b < S) (n : Nat) (en : n = min xs.size ys.size) (hn : n ≤ sizeLine) (res : Value) {h₁ : Heap}
    (fin : ∀ h' tk acc c ts, (∀ b o, b ≠ S → b ∉ [z, TO, i1, i2] → h₁.get? b = some o → h'.get? b = some o) → LstObj h' S acc c → ts.length = n → ZMade xs ys S h' ts → acc.toList = ts.map Value.ref → R (.ok (.ret res)) { s with heap := h', toks := tk }) :
    ∀ (k i : Nat) (h : Heap) (tk c : Nat) (acc : Array Value) (ts : List Addr), n - i = k → i ≤ n → ZSt h z TI TO i1 i2 l1 l2 S xs ys i → (∀ b o, b ≠ S → b ∉ [z, TO, i1, i2] → h₁.get? b = some o → h.get? b = some o) →
      LstObj h S acc c → acc.toList = ts.map Value.ref → ts.length = i → ZMade xs ys S h ts → codeAny (model P w) A (.builtin "list.extend.loop" ⟨[.ref S, .ref z, res], []⟩) R { s with heap := h, toks := tk } := by
  have ne : ∀ b ∈ [z, TI, TO, i1, i2, l1, l2], b ≠ S := fun b hb => Nat.ne_of_lt (lo b hb)
  have sub : ∀ b ∈ [z, TO, i1, i2], b ∈ [z, TI, TO, i1, i2, l1, l2] := fun b hb => by
    simp only [List.mem_cons, List.not_mem_nil, or_false] at hb ⊢
    rcases hb with e | e | e | e
    · exact .inl e
    · exact .inr (.inr (.inl e))
    · exact .inr (.inr (.inr (.inl e)))
    · exact .inr (.inr (.inr (.inr (.inl e))))
  have Sn : S ∉ [z, TO, i1, i2] := fun e => ne S (sub S e) rfl
  have hi_n : ∀ t, S < t → t ∉ [z, TO, i1, i2] := fun t ht e => Nat.lt_asymm ht (lo t (sub t e))
  intro k
  induction k with
  | zero =>
    intro i h tk c acc ts hk hi st kp hS ha hl g
    refine codeAny_builtin PySem.F.entry_extend_loop ?_
    rw [Around.under_plainId PySem.F.plain_extend_loop _]
    show wpAny _ A.in1 (pyNext (.ref z) >>= _) _ _ _
    refine wpAny_bind (zst_done (s := { s with heap := h, toks := tk }) (A := A.in1) hh D st (by omega) fun h' he => wpAny_pure ?_)
    refine fin h' tk acc c ts (fun b o b1 b2 e => he b o b2 (kp b o b1 b2 e)) (he S _ Sn hS) (by omega) ⟨g.inc, g.over, fun j t ht => ?_⟩ ha
    obtain ⟨x, y, e1, e2, e3⟩ := g.at_ j t ht
    exact ⟨x, y, e1, e2, he t _ (hi_n t (g.over t (List.mem_of_getElem? ht))) e3⟩
  | succ k ih =>
    intro i h tk c acc ts hk hi st kp hS ha hl g
    have h1 : i < xs.size := by omega
    have h2 : i < ys.size := by omega
    have hz : acc.size = i := by rw [← Array.length_toList, ha, List.length_map, hl]
    have hSl : S < h.objs.size := Heap.lt_size hS
    refine codeAny_builtin PySem.F.entry_extend_loop ?_
    rw [Around.under_plainId PySem.F.plain_extend_loop _]
    show wpAny _ A.in1 (pyNext (.ref z) >>= _) _ _ _
    refine wpAny_bind (zst_item (s := { s with heap := h, toks := tk }) D st hSl h1 h2 fun h' st' hT hlt he => ?_)
    dsimp only at hT he hlt ⊢
    have hS' : LstObj h' S acc c := he S _ Sn hS
    have up : ∀ b o, b ≠ S → h'.get? b = some o → (h'.update S (Obj.mapSeq fun a => a.push (Value.ref h.objs.size))).get? b = some o := fun b o hb e => (Heap.get?_update_other _ _ (Ne.symm hb)).trans e
    show wpAny _ A.in1 (updateSeq S (fun a => a.push (Value.ref h.objs.size)) >>= _) _ _ _
    refine wpAny_bind (wpAny_updateSeq hS' rfl (wpAny_pure ⟨plainId_quiet PySem.F.plain_extend_loop _, ih (i + 1) _ tk _ (acc.push (Value.ref h.objs.size)) (ts ++ [h.objs.size]) (by omega) (by omega) (st'.off ne up) (fun b o b1 b2 e => up b o b1 (he b o b2 (kp b o b1 b2 e)))
      (Heap.get?_update_self _ hS' rfl) (by rw [Array.toList_push, ha, List.map_append]; rfl) (by rw [List.length_append, hl]; rfl) ⟨?_, ?_, ?_⟩⟩) (by rw [hz]; omega) (by show (acc.push (Value.ref h.objs.size)).size ≤ sizeLine + 1; rw [Array.size_push, hz]; omega))
    · refine List.pairwise_append.mpr ⟨g.inc, List.pairwise_singleton _ _, fun a am b bm => ?_⟩
      obtain ⟨j, hj⟩ := List.mem_iff_getElem?.mp am
      obtain ⟨x, y, _, _, e3⟩ := g.at_ j a hj
      rw [List.mem_singleton.mp bm]
      exact Heap.lt_size e3
    · intro t ht
      rcases List.mem_append.mp ht with e | e
      · exact g.over t e
      · rw [List.mem_singleton.mp e]; exact hSl
    · intro j t hj
      rcases Nat.lt_trichotomy j ts.length with q | q | q
      · rw [List.getElem?_append_left q] at hj
        obtain ⟨x, y, e1, e2, e3⟩ := g.at_ j t hj
        have o1 := g.over t (List.mem_of_getElem? hj)
        exact ⟨x, y, e1, e2, up t _ (Nat.ne_of_gt o1) (he t _ (hi_n t o1) e3)⟩
      · subst q
        have e : h.objs.size = t := by simpa using hj
        subst e
        subst hl
        exact ⟨_, _, Array.getElem?_eq_getElem h1, Array.getElem?_eq_getElem h2, up _ _ (Nat.ne_of_gt hSl) hT⟩
      · have hx : (ts ++ [h.objs.size])[j]? = none := List.getElem?_eq_none (by rw [List.length_append, List.length_singleton]; omega)
        rw [hx] at hj; cases hj
end
section
variable {P : Program} {w : World} {A : Around} {E : Value → Shared → Prop} {s : Shared} {z TI TO i1 i2 l1 l2 : Addr} {xs ys : Array Value}
theorem z_init {R : Result → Shared → Prop} {S : Addr} (hh : A.handled = none) (D : ZipApart z TI TO i1 i2 l1 l2) (st : ZSt s.heap z TI TO i1 i2 l1 l2 S xs ys 0) (hz : IsZip s.heap z TI TO .none) (lo : ∀ b ∈ [z, TI, TO, i1, i2, l1, l2], b < S)
    (hn : min xs.size ys.size ≤ sizeLine) (hS : s.heap.get? S = some { cls := .type "list", data := .seq #[] })
    (fin : ∀ h' tk acc c ts, (∀ b o, b ≠ S → b ∉ [z, TO, i1, i2] → s.heap.get? b = some o → h'.get? b = some o) → LstObj h' S acc c → ts.length = min xs.size ys.size → ZMade xs ys S h' ts → acc.toList = ts.map Value.ref → R (.ok (.ret .none)) { s with heap := h', toks := tk }) :
    wpAny (model P w) A.in1 (Builtin.«list.__init__» ⟨[.ref S, .ref z], []⟩)
      (fun fin s' => match fin with | .done f => R (.ok f) s' | .again c' => c'.quiet = true ∧ codeAny (model P w) A c' R s') (fun e s' => R (.error e) s') s := by
  have ne : ∀ b ∈ [z, TI, TO, i1, i2, l1, l2], b ≠ S := fun b hb => Nat.ne_of_lt (lo b hb)
  show wpAny _ _ (do let old ← Builtin.List.listItems (.ref S); Builtin.List.listUpdate (.ref S) (fun _ => #[]); letGo old.toList.reverse; Builtin.List.listExtendWith (.ref S) (.ref z) .none) _ _ s
  refine wpAny_bind ?_
  unfold Builtin.List.listItems
  refine wpAny_bind (wpAny_seqItems hS rfl (wpAny_pure ?_))
  show wpAny _ _ (updateSeq S (fun _ => #[]) >>= fun _ => letGo (#[] : Array Value).toList.reverse >>= fun _ => Builtin.List.listExtendWith (.ref S) (.ref z) .none) _ _ s
  refine wpAny_bind (wpAny_updateSeq hS rfl ?_)
  have hS2 := Heap.get?_update_self (Obj.mapSeq (fun _ => (#[] : Array Value))) hS rfl
  have oth : ∀ b o, b ≠ S → s.heap.get? b = some o → (s.heap.update S (Obj.mapSeq (fun _ => (#[] : Array Value)))).get? b = some o :=
    fun b o hb e => (Heap.get?_update_other _ _ (Ne.symm hb)).trans e
  have hz2 := oth z _ (ne z (by simp)) hz
  refine wpAny_bind (wpAny_letGo ?_)
  unfold Builtin.List.listExtendWith
  refine wpAny_bind (wpAny_typeOf (T := "zip") ⟨_, hz2, rfl⟩ ?_)
  have c1 : Builtin.List.listSameRef (.ref S) (.ref z) = false := by simp [Builtin.List.listSameRef, Ne.symm (ne z (by simp))]
  have c2 : (Value.type "zip" == Value.type "list") = false := by decide
  have c3 : (Value.type "zip" == Value.type "tuple") = false := by decide
  simp only [c1, c2, c3, Bool.or_false, Bool.false_eq_true, if_false]
  refine wpAny_bind (wpAny_pyIter_zip hz2 ?_)
  refine wpAny_bind (wpAny_holding ?_)
  unfold Builtin.List.listLengthHint
  refine wpAny_bind (wpAny_specialOf (T := "zip") ⟨_, hz2, rfl⟩ no_len_zip ?_)
  show wpAny _ A.in1 (specialOf (Value.ref z) (Str.ofString "__length_hint__") >>= _) _ _ _
  refine wpAny_bind (wpAny_specialOf (T := "zip") ⟨_, hz2, rfl⟩ no_hint_zip ?_)
  refine wpAny_pure ?_
  show wpAny _ A.in1 (rule "list.extend.makes-room" >>= fun _ => Builtin.List.listTouch (.ref S) >>= fun _ =>
    again (.builtin "list.extend.loop" ⟨[.ref S, .ref z, .none], []⟩)) _ _ _
  refine wpAny_bind (wpAny_rule ?_)
  refine wpAny_bind ?_
  show wpAny _ _ (updateSeq S (fun a => a.push .none) >>= fun _ => updateSeq S fun a => a.pop) _ _ _
  refine wpAny_bind (wpAny_updateSeq hS2 rfl ?_)
  have hS3 := Heap.get?_update_self (Obj.mapSeq fun a => a.push Value.none) hS2 rfl
  refine wpAny_updateSeq (hz := by seq_fits) hS3 rfl ?_
  have hS4 := Heap.get?_update_self (Obj.mapSeq fun a => a.pop) hS3 rfl
  have oth4 : ∀ b o, b ≠ S → s.heap.get? b = some o → (((s.heap.update S (Obj.mapSeq (fun _ => (#[] : Array Value)))).update S (Obj.mapSeq fun a => a.push Value.none)).update S (Obj.mapSeq fun a => a.pop)).get? b = some o :=
    fun b o hb e => (Heap.get?_update_other _ _ (Ne.symm hb)).trans ((Heap.get?_update_other _ _ (Ne.symm hb)).trans (oth b o hb e))
  refine wpAny_pure ⟨plainId_quiet PySem.F.plain_extend_loop _, z_loop (s := s) (h₁ := s.heap) hh D lo _ rfl hn .none fin _ 0 _ _ _ #[] [] rfl (Nat.zero_le _) (st.off ne oth4) (fun b o hb _ e => oth4 b o hb e) hS4 rfl rfl ⟨List.Pairwise.nil, (fun _ ha => nomatch ha), fun j t hj => by simp at hj⟩⟩
/-- list(z): z a zip of two lists that nothing was drawn from -/
theorem z_call {Q : Value → Shared → Prop} (hh : A.handled = none) (D : ZipApart z TI TO i1 i2 l1 l2) (hz : IsZip s.heap z TI TO .none) (p : IsPair s.heap TI (.ref i1) (.ref i2)) (hTO : ∃ a b, IsPair s.heap TO a b) (q1 : s.heap.IsListIter i1 l1 0) (q2 : s.heap.IsListIter i2 l2 0)
    (m1 : s.heap.IsList l1 xs) (m2 : s.heap.IsList l2 ys) (hn : min xs.size ys.size ≤ sizeLine)
    (fin : ∀ h' tk acc c ts, (∀ b o, b ∉ [z, TO, i1, i2] → s.heap.get? b = some o → h'.get? b = some o) → LstObj h' s.heap.objs.size acc c → ts.length = min xs.size ys.size → ZMade xs ys s.heap.objs.size h' ts → acc.toList = ts.map Value.ref → Q (.ref s.heap.objs.size) { s with heap := h', toks := tk }) :
    wpAny (model P w) A (call (.type "list") [.ref z]) Q E s := by
  refine callType_codes (Q₁ := fun obj s₁ => obj = .ref s.heap.objs.size ∧ s₁ = { s with heap := s.heap.push { cls := .type "list", data := .seq #[] } }) PySem.F.called_list (PySem.F.typeCall_list_1 _) PySem.F.entry_list_init
    (code_list_new _ ⟨rfl, rfl⟩) fun obj s₁ h₁ => ?_
  obtain ⟨rfl, rfl⟩ := h₁
  have hS : (s.heap.push { cls := .type "list", data := .seq #[] }).get? s.heap.objs.size = some { cls := .type "list", data := .seq #[] } := Heap.get?_push_size _ rfl
  have lo : ∀ b ∈ [z, TI, TO, i1, i2, l1, l2], b < s.heap.objs.size := fun b hb => by
    obtain ⟨a, c, hTO⟩ := hTO
    simp only [List.mem_cons, List.not_mem_nil, or_false] at hb
    rcases hb with e | e | e | e | e | e | e
    · rw [e]; exact Heap.lt_size hz
    · rw [e]; exact Heap.lt_size p
    · rw [e]; exact Heap.lt_size hTO
    · rw [e]; obtain ⟨_, e1, _⟩ := q1; exact Heap.lt_size e1
    · rw [e]; obtain ⟨_, e1, _⟩ := q2; exact Heap.lt_size e1
    · rw [e]; obtain ⟨_, e1, _⟩ := m1; exact Heap.lt_size e1
    · rw [e]; obtain ⟨_, e1, _⟩ := m2; exact Heap.lt_size e1
  have pu : ∀ b o, s.heap.get? b = some o → (s.heap.push { cls := .type "list", data := .seq #[] }).get? b = some o := fun b o e => Heap.get?_push_of_some _ e
  have st : ZSt (s.heap.push { cls := .type "list", data := .seq #[] }) z TI TO i1 i2 l1 l2 s.heap.objs.size xs ys 0 := by
    obtain ⟨a, c, hTO⟩ := hTO
    exact ⟨pu _ _ p, q1.at fun o e => pu _ o e, q2.at fun o e => pu _ o e, m1.at fun o e => pu _ o e, m2.at fun o e => pu _ o e, .inl ⟨pu _ _ hz, a, c, pu _ _ hTO⟩⟩
  refine ⟨⟨_, hS, rfl⟩, PySem.F.args_list_init_2 _ _, z_init (A := A.in1) hh D st (pu _ _ hz) lo hn hS fun h' tk acc c ts hk hS' hl hG hacc => ?_⟩
  exact ⟨rfl, fin h' tk acc c ts (fun b o hb e => hk b o (Nat.ne_of_lt (Heap.lt_size e)) hb (pu b o e)) hS' hl hG hacc⟩
end
/-! ### what is tracked then -/
def putV : Hp → List Addr → List (V × V) → Hp
  | H, t :: ts, q :: qs => putV (upd H t (.tup [q.1, q.2])) ts qs
  | H, _, _ => H
theorem putV_ne {b : Addr} : ∀ (ts : List Addr) (qs : List (V × V)) (H : Hp), b ∉ ts → putV H ts qs b = H b
  | [], _, _, _ => by unfold putV; rfl
  | _ :: _, [], _, _ => rfl
  | t :: ts, q :: qs, H, h => by
    have h1 : b ∉ ts := fun e => h (List.mem_cons_of_mem _ e)
    have h2 : b ≠ t := fun e => h (by rw [e]; exact List.mem_cons_self)
    show putV (upd H t (.tup [q.1, q.2])) ts qs b = H b
    rw [putV_ne ts qs _ h1, upd_ne h2]
theorem putV_get : ∀ (ts : List Addr) (qs : List (V × V)) (H : Hp) {j : Nat} {t : Addr} {q : V × V}, ts.Nodup → ts[j]? = some t → qs[j]? = some q → putV H ts qs t = some (.tup [q.1, q.2])
  | [], _, _, _, _, _, _, h, _ => by simp at h
  | _ :: _, [], _, _, _, _, _, _, h => by simp at h
  | u :: ts, r :: qs, H, 0, t, q, hn, h1, h2 => by
    have e1 : u = t := by simpa using h1
    have e2 : r = q := by simpa using h2
    subst e1 e2
    show putV (upd H u (.tup [r.1, r.2])) ts qs u = _
    rw [putV_ne ts qs _ (List.nodup_cons.mp hn).1, upd_same]
  | u :: ts, r :: qs, H, j + 1, t, q, hn, h1, h2 => putV_get ts qs (upd H u (.tup [r.1, r.2])) (List.nodup_cons.mp hn).2 (by simpa using h1) (by simpa using h2)
theorem putV_grow : ∀ (ts : List Addr) (qs : List (V × V)) (G H : Hp), Same G H → (∀ t ∈ ts, H t = none) → ts.Nodup → Grow G H (putV G ts qs) (putV H ts qs)
  | [], qs, G, H, e, _, _ => by
    have e1 : putV G [] qs = G := by unfold putV; rfl
    have e2 : putV H [] qs = H := by unfold putV; rfl
    rw [e1, e2]; exact Grow.refl e
  | t :: ts, [], G, H, e, _, _ => Grow.refl e
  | t :: ts, q :: qs, G, H, e, hn, nd => by
    have w := Grow.new (o := HO.tup [q.1, q.2]) e (hn t List.mem_cons_self)
    refine w.trans (putV_grow ts qs _ _ w.gh (fun u hu => ?_) (List.nodup_cons.mp nd).2)
    rw [upd_ne (fun z => (List.nodup_cons.mp nd).1 (by rw [← z]; exact hu))]
    exact hn u (List.mem_cons_of_mem _ hu)
theorem vals_ref : ∀ ts : List Addr, Vals (ts.map V.ref) (ts.map Value.ref)
  | [] => .nil
  | _ :: ts => .cons rfl (vals_ref ts)
def rLz (K : PySem.W.Frag) : List V → Hp → VK → Prop := fun vs H Q => ∃ a b xs ys, vs = [.ref a, .ref b] ∧ SqL K H a xs ∧ SqL K H b ys ∧
  ∀ p ts, H p = none → (∀ t ∈ ts, H t = none) → p ∉ ts → ts.Nodup → ts.length = (xs.zip ys).length → Q (.ref p) (upd (putV H ts (xs.zip ys)) p (.lst (ts.map V.ref)))
section
variable {X : Cx}
theorem zl_laid {pins : List (Addr × Obj)} {σ : L2.St} {H : Hp} {s : Shared} {h' : Heap} {tk : Nat} {xs ys : List V} {us ws : List Value} {acc : Array Value} {c : Nat} {S : Addr} {ts : List Addr} (I : Inv X pins σ H s) (hS : s.heap.objs.size ≤ S) (hz : (xs.zip ys).length ≤ sizeLine) (v1 : Vals xs us) (v2 : Vals ys ws)
    (hk : ∀ b o, s.heap.get? b = some o → h'.get? b = some o) (hl : LstObj h' S acc c) (ln : ts.length = (xs.zip ys).length) (g : ZMade us.toArray ws.toArray S h' ts) (ha : acc.toList = ts.map Value.ref) :
    H S = none ∧ (∀ t ∈ ts, H t = none) ∧ S ∉ ts ∧ ts.Nodup ∧ Inv X pins σ (upd (putV H ts (xs.zip ys)) S (.lst (ts.map V.ref))) { s with heap := h', toks := tk } := by
  have Sn : S ∉ ts := fun z => Nat.lt_irrefl _ (g.over _ z)
  have nd : ts.Nodup := List.Pairwise.imp (fun {a b} (h : a < b) => Nat.ne_of_lt h) g.inc
  have nS : H S = none := I.hok.fresh hS
  have nT : ∀ t ∈ ts, H t = none := fun t ht => I.hok.fresh (Nat.le_trans hS (Nat.le_of_lt (g.over t ht)))
  refine ⟨nS, nT, Sn, nd, ?_⟩
  have off : ∀ b, b ∉ ts → b ≠ S → (upd (putV H ts (xs.zip ys)) S (.lst (ts.map V.ref))) b = H b := fun b b1 b2 => by rw [upd_ne b2, putV_ne ts _ _ b1]
  have low : ∀ b o, s.heap.get? b = some o → b ∉ ts ∧ b ≠ S := fun b o e => by
    have q := Heap.lt_size e
    exact ⟨fun z => absurd (g.over b z) (by have := q; intro r; exact absurd (Nat.lt_of_lt_of_le q (Nat.le_trans hS (Nat.le_of_lt r))) (Nat.lt_irrefl _)), Nat.ne_of_lt (Nat.lt_of_lt_of_le q hS)⟩
  have kp : ∀ b u, H b = some u → (upd (putV H ts (xs.zip ys)) S (.lst (ts.map V.ref))) b = some u := fun b u e => by
    rw [off b (fun z => by rw [nT b z] at e; cases e) (fun z => by rw [z, nS] at e; cases e)]
    exact e
  refine I.call' (ch := []) rfl ⟨fun b o q _ _ _ => hk b o q, fun b o q _ _ _ => ⟨o.slots, hk b o q⟩, fun b o q n _ => ?_, fun b o q _ => ⟨o, hk b o q⟩, fun b l q => kp b _ q, fun b o u q => kp b _ q, fun b ps q => ⟨#[], by rw [kp b _ q]; simp⟩⟩ (fun b u q => ?_) I.bare fun b z => by simp at z
  · obtain ⟨z1, z2⟩ := low b o q
    rw [off b z1 z2]
    exact n
  · by_cases hb2 : b = S
    · subst hb2
      rw [upd_same] at q
      cases q
      refine ⟨by rw [List.length_map]; omega, acc.toList, c, by rw [ha]; exact vals_ref ts, ?_⟩
      rw [Array.toArray_toList]
      exact hl
    · by_cases hb : b ∈ ts
      · obtain ⟨j, hj⟩ := List.mem_iff_getElem?.mp hb
        have hlt : j < (xs.zip ys).length := by rw [← ln]; exact (List.getElem?_eq_some_iff.mp hj).1
        obtain ⟨q0, hq0⟩ : ∃ q0, (xs.zip ys)[j]? = some q0 := ⟨_, List.getElem?_eq_getElem hlt⟩
        rw [upd_ne hb2, putV_get ts _ H nd hj hq0] at q
        cases q
        obtain ⟨x, y, f1, f2, f3⟩ := g.at_ j b hj
        obtain ⟨q1, q2⟩ := List.getElem?_zip_eq_some.mp hq0
        obtain ⟨u1, hu1, r1⟩ := v1.get q1
        obtain ⟨u2, hu2, r2⟩ := v2.get q2
        have g1 : us[j]? = some x := by simpa using f1
        have g2 : ws[j]? = some y := by simpa using f2
        rw [hu1] at g1; cases g1
        rw [hu2] at g2; cases g2
        exact ⟨by show 2 ≤ sizeLine; decide, [x, y], .cons r1 (.cons r2 .nil), ⟨_, f3, rfl, _, rfl⟩⟩
      · rw [off b hb hb2] at q
        exact (I.hok b u q).stay (fun d v _ y => hk d v y) (fun d y => kp d _ y) fun d l y => kp d _ y
/-- list(zip(e, e2)) -/
theorem pe_listZip {e e2 : Expr} {ta : TA} {p p2 pos pos2 : Pos} (hc : X.calm = true) (hgl : Gl X "list") (hml : X.mg "list" = none) (hg : Gl X "zip") (hm : X.mg "zip" = none) (ha : PA X [e, e2] ta)
    (hs0 : starEach [.Call (.Name "zip" p) [e, e2] [] pos] X.env = (false, eval (.Call (.Name "zip" p) [e, e2] [] pos) X.env) :: starEach [] X.env := by rfl)
    (hs : starEach [e, e2] X.env = (false, eval e X.env) :: starEach [e2] X.env := by rfl) (hpl : (backTo pos (starEach [e2] X.env)).any (·.1) = false := by rfl) :
    PE X (.Call (.Name "list" p2) [.Call (.Name "zip" p) [e, e2] [] pos] [] pos2) (tCB (rLz X.K) ta) := by
  refine ⟨fun pins s σ H Q I hq => ?_⟩
  refine wpAny_Call_Name_kw (ld_blt I hgl hml PyProof.Rows.boot_list ?_)
  refine PyProof.Rows.callWith_type1 ?_ hs0 rfl
  rw [hs0]
  show wpAny _ _ (spliced ((false, eval (.Call (.Name "zip" p) [e, e2] [] pos) X.env) :: backTo pos2 (starEach [] X.env))) _ _ s
  refine Calls.spliced_cons ?_
  refine Call_ (ld_blt I hg hm PyProof.Rows.boot_zip (PyProof.Rows.callWith_type1 (thn (ha.run pos pins s σ H _ I hq) fun us s1 ⟨vs, H1, I1, r1, q1⟩ => ?_) hs hpl))
  obtain ⟨a, b, xs, ys, ex, hqx, hqy, q⟩ := q1
  subst ex
  cases r1 with
  | cons r rr =>
    cases rr with
    | cons r' rr =>
      cases rr
      cases r
      cases r'
      obtain ⟨its, v1, p1, z1⟩ := I1.list hqx
      obtain ⟨its2, v2, p3, z2⟩ := I1.list hqy
      have l1 := v1.length
      have l2 := v2.length
      refine call_zip_2 p1.isList p3.isList fun h' hz hTI hTO h1 h2 hsz hk => ?_
      refine Calls.spliced_nil ?_
      refine z_call (s := { s1 with heap := h' }) (I1.ok.hd hc) (PySem.W.ktu_apart s1.heap.objs.size a b p1.lt p3.lt) hz hTI ⟨_, _, hTO⟩ h1 h2 (p1.isList.at fun o x => hk _ o x) (p3.isList.at fun o x => hk _ o x) (Nat.le_trans (Nat.min_le_left _ _) (by rw [List.size_toArray, ← l1]; exact z1)) fun h2' tk acc c ts k2 hl ln g hacc => ?_
      have n4 : ∀ b o, s1.heap.get? b = some o → b ∉ [s1.heap.objs.size + 4, s1.heap.objs.size + 3, s1.heap.objs.size, s1.heap.objs.size + 1] := fun b o x hb => by
        have q := Heap.lt_size x
        simp only [List.mem_cons, List.not_mem_nil, or_false] at hb
        have no : ∀ j : Nat, b = s1.heap.objs.size + j → False := fun j e => by
          rw [e] at q
          exact absurd (Nat.lt_of_le_of_lt (Nat.le_add_right _ j) q) (Nat.lt_irrefl _)
        rcases hb with e | e | e | e
        · exact no 4 e
        · exact no 3 e
        · exact no 0 e
        · exact no 1 e
      have lz : (xs.zip ys).length = min its.toArray.size its2.toArray.size := by rw [List.length_zip, List.size_toArray, List.size_toArray, l1, l2]
      obtain ⟨f1, f2, f3, f4, J⟩ := zl_laid (tk := tk) I1 (S := h'.objs.size) (by omega) (by rw [List.length_zip]; omega) v1 v2 (fun b o x => k2 b o (n4 b o x) (hk b o x)) hl (by rw [lz]; exact ln) g hacc
      exact ⟨.ref _, _, J, rfl, q _ ts f1 f2 f3 f4 (by rw [lz]; exact ln)⟩
end
/-! ### read over data -/
def gZipL : List D → Option D
  | [.list ds, .list es] => some (.list ((ds.zip es).map fun q => .tuple [q.1, q.2]))
  | _ => none
theorem putV_rp {G : Hp} : ∀ {ts : List Addr} {xs ys : List V} {ds es : List D} (G0 : Hp), Same G G0 → (∀ t ∈ ts, G0 t = none) → ts.Nodup → ts.length = (xs.zip ys).length → RpA G xs ds → RpA G ys es →
    RpA (putV G0 ts (xs.zip ys)) (ts.map V.ref) ((ds.zip es).map fun q => PyData.tuple [q.1, q.2])
  | [], [], _, _, _, G0, _, _, _, _, .nil, _ => by simpa using RpA.nil
  | [], _ :: _, [], _, _, G0, _, _, _, _, .cons _ _, .nil => by simpa using RpA.nil
  | [], _ :: _, _ :: _, _, _, G0, _, _, _, h, .cons _ _, .cons _ _ => by simp at h
  | _ :: _, [], _, _, _, G0, _, _, _, h, .nil, _ => by simp at h
  | _ :: _, _ :: _, [], _, _, G0, _, _, _, h, .cons _ _, .nil => by simp at h
  | t :: ts, x :: xs, y :: ys, d :: ds, e :: es, G0, sg, hn, nd, h, .cons r1 r2, .cons s1 s2 => by
    obtain ⟨nt, nd'⟩ := List.nodup_cons.mp nd
    have w : Same G0 (upd G0 t (.tup [x, y])) := fun b u q => by rw [upd_ne (ne_of_none q (hn t List.mem_cons_self))]; exact q
    have hn' : ∀ u ∈ ts, upd G0 t (.tup [x, y]) u = none := fun u hu => by rw [upd_ne (fun z => nt (by rw [← z]; exact hu))]; exact hn u (List.mem_cons_of_mem _ hu)
    have ih := putV_rp (ts := ts) (upd G0 t (.tup [x, y])) (sg.trans w) hn' nd' (by simpa using h) r2 s2
    have gr := putV_grow ts (xs.zip ys) (upd G0 t (.tup [x, y])) (upd G0 t (.tup [x, y])) (Same.refl _) hn' nd'
    refine .cons (.tup (xs := [x, y]) ?_ (.cons (r1.mono ((sg.trans w).trans gr.g)) (.cons (s1.mono ((sg.trans w).trans gr.g)) .nil))) ih
    exact putV_get (t :: ts) ((x, y) :: xs.zip ys) G0 (j := 0) nd rfl rfl
section
variable {X : Cx} {a b : Expr} {gs : M (List Pl)} {p p2 pos pos2 : Pos}
theorem rd_zipL {t : TA} (ha : RdPs X.K t gs) : RdF X.K (tCB (rLz X.K) t) (mFr (mN gZipL gs)) := by
  intro C G σ H ρ Q hK S d ρ' hf q
  obtain ⟨d', ρ0, hf0, h0⟩ := bnd_ok hf
  cases h0
  obtain ⟨ps, ρ1, h1, hf2⟩ := bnd_ok hf0
  refine ha C G σ H ρ _ hK S ps ρ1 h1 fun vs G1 H1 g1 S1 o1 => ?_
  obtain ⟨ds, ρ2, h2, hf3⟩ := bnd_ok hf2
  obtain ⟨s, rfl⟩ := lookAll_ok S1 o1 h2
  obtain ⟨e, rfl⟩ := ofO_ok hf3
  cases s with
  | nil => cases e
  | cons h r =>
    cases r with
    | nil => cases h <;> cases e
    | cons h' r =>
      cases r with
      | cons _ _ => cases h <;> cases h' <;> cases e
      | nil =>
        cases h with
        | @lst a1 xs ds1 l1 r1 =>
          cases h' with
          | @lst a2 ys ds2 l2 r2 =>
            cases e
            refine ⟨a1, a2, xs, ys, rfl, .inl (.inl l1), .inl (.inl l2), fun p ts hp ht np nd ln => ?_⟩
            have w := putV_grow ts (xs.zip ys) G1 H1 S1.gh ht nd
            have hp' : putV H1 ts (xs.zip ys) p = none := by rw [putV_ne ts _ _ np]; exact hp
            have w2 := Grow.newF (o := HO.lst (ts.map V.ref)) w.gh hp'
            refine q _ (putV G1 ts (xs.zip ys)) _ (g1.trans w.g) ((S1.grow w).grow w2) (fresh_ok (S1.grow w) hp' w2 (.lst upd_same ?_))
            exact putV_rp G1 (Same.refl _) (fun t h => S1.gh.free (ht t h)) nd ln r1 r2
          | _ => cases e
        | _ => cases h' <;> cases e
theorem pf_listZip (hc : X.calm = true) (hgl : Gl X "list") (hml : X.mg "list" = none) (hg : Gl X "zip") (hm : X.mg "zip" = none) (ha : PPs X [a, b] gs)
    (hs0 : starEach [.Call (.Name "zip" p) [a, b] [] pos] X.env = (false, eval (.Call (.Name "zip" p) [a, b] [] pos) X.env) :: starEach [] X.env := by rfl)
    (hs : starEach [a, b] X.env = (false, eval a X.env) :: starEach [b] X.env := by rfl) (hpl : (backTo pos (starEach [b] X.env)).any (·.1) = false := by rfl) :
    PF X (.Call (.Name "list" p2) [.Call (.Name "zip" p) [a, b] [] pos] [] pos2) (mFr (mN gZipL gs)) := by
  obtain ⟨t, ha, ra⟩ := ha
  exact ⟨_, pe_listZip hc hgl hml hg hm ha hs0 hs hpl, rd_zipL ra⟩
end
end PL
set_option maxHeartbeats 2000000
/-! PL37: what is raised: statements, calls, defs; try .. except X as e. -/
namespace PL
open PySem PySem.Spec PyProof.Rows L2
variable [Kap]
/-- what is raised, and the names then -/
abbrev MX := Env → Option (Str × Env)
def mxNo : MX := fun _ => none
def mxSeq (a : M Fl) (ga gb : MX) : MX := fun ρ => match ga ρ with
  | some r => some r
  | none => match a ρ with
    | .ok .nx ρ1 => gb ρ1
    | _ => none
def mxIf (c : M Bool) (ga gb : MX) : MX := fun ρ => match c ρ with
  | .ok k ρ1 => if k = true then ga ρ1 else gb ρ1
  | .stuck => none
def mxRaise (n : Str) : MX := fun ρ => some (n, ρ)
def evalX (ms : List Md) (nl : Nat) (g : MX) (ss : Env) : Option (Str × Env) := match g (ss ++ List.replicate nl .un) with
  | some (n, ρ') => some (n, ρ'.take ms.length)
  | none => none
def callX (ms : List Md) (nl : Nat) (g : MX) (ps : List Pl) : MX := fun ρ => if apart ms ps = true then match argSs ρ ms ps with
    | some ss => match evalX ms nl g ss with
      | some (n, ρ') => match backIo ρ ms ps ρ' with
        | some ρ2 => some (n, ρ2)
        | none => none
      | none => none
    | none => none
  else none
def mxCall (ms : List Md) (nl : Nat) (g : MX) (fs : M (List Pl)) : MX := fun ρ => match fs ρ with
  | .ok ps ρ1 => callX ms nl g ps ρ1
  | .stuck => none
/-! ### readings -/
def RdXS (K : PySem.W.Frag) (W : WX) (t : TS) (g : MX) : Prop := ∀ (C : Ctx) (G : Hp) (σ : L2.St) (H : Hp) (ρ : Env) (D : Ends), C.K = K → StOk C G σ H ρ → ∀ (n : Str) (ρ' : Env), g ρ = some (n, ρ') →
  (∀ (σ' : L2.St) (G' H' : Hp), Same G G' → StOk C G' σ' H' ρ' → W (.ref (Kap.κ n)) none σ' H') → t D σ H
def RdXE (K : PySem.W.Frag) (W : WX) (t : TE) (g : MX) : Prop := ∀ (C : Ctx) (G : Hp) (σ : L2.St) (H : Hp) (ρ : Env) (Q : VK), C.K = K → StOk C G σ H ρ → ∀ (n : Str) (ρ' : Env), g ρ = some (n, ρ') →
  (∀ (G' H' : Hp), Same G G' → StOk C G' σ H' ρ' → W (.ref (Kap.κ n)) none σ H') → t σ H Q
def PStX (X : Cx) (st : Stmt) (f : M Fl) (g : MX) : Prop := ∀ W : WX, Takes X W → ∃ t, PS X st t ∧ RdS X.K t f ∧ RdXS X.K W t g
def PStsX (X : Cx) (st : List Stmt) (f : M Fl) (g : MX) : Prop := ∀ W : WX, Takes X W → ∃ t, PSs X st t ∧ RdS X.K t f ∧ RdXS X.K W t g
def PFX (X : Cx) (e : Expr) (f : M Rv) (g : MX) : Prop := ∀ W : WX, Takes X W → ∃ t, PE X e t ∧ RdF X.K t f ∧ RdXE X.K W t g
theorem no_x {g : MX} {K : PySem.W.Frag} {W : WX} {t : TS} (h : ∀ ρ, g ρ = none) : RdXS K W t g := fun C G σ H ρ D hK S n ρ' e q => by rw [h] at e; cases e
section
variable {X : Cx} {e c : Expr} {st : Stmt} {sts us : List Stmt} {m m1 m2 : M Fl} {g g1 g2 : MX} {mc : M Bool} {k : M Rv} {pos pos' : Pos} {x : Str}
theorem pstx_of (h : PSt X st m) : PStX X st m mxNo := fun W tk => let ⟨t, h, r⟩ := h; ⟨t, h, r, no_x fun _ => rfl⟩
theorem pstsx_nil : PStsX X [] mSkip mxNo := fun W tk => let ⟨t, h, r⟩ := psts_nil (X := X); ⟨t, h, r, no_x fun _ => rfl⟩
theorem pstsx_of (h : PSts X sts m) : PStsX X sts m mxNo := fun W tk => let ⟨t, h, r⟩ := h; ⟨t, h, r, no_x fun _ => rfl⟩
theorem pstsx_nox (h : PSts X.nox sts m) : PStsX X sts m mxNo := fun W tk => let ⟨t, h, r⟩ := h; ⟨t, h.nox, r, no_x fun _ => rfl⟩
theorem pstx_nox (h : PSt X.nox st m) : PStX X st m mxNo := fun W tk => let ⟨t, h, r⟩ := h; ⟨t, ⟨fun pins s σ H D I hw => wpAny_mono (h.run pins s σ H D (I.wish _) hw) (fun _ _ q => SP.unwish q) fun _ _ z => False.elim z⟩, r, no_x fun _ => rfl⟩
theorem pstsx_one (h : PStX X st m g) : PStsX X [st] m g := fun W tk => by
  obtain ⟨t, h, r, rx⟩ := h W tk
  exact ⟨t, pss_one h, r, rx⟩
theorem pstsx_cons (h : PStX X st m1 g1) (h2 : PStsX X sts m2 g2) : PStsX X (st :: sts) (mSeq m1 m2) (mxSeq m1 g1 g2) := fun W tk => by
  obtain ⟨t, h, r, rx⟩ := h W tk
  obtain ⟨u, h2, r2, rx2⟩ := h2 W tk
  refine ⟨_, pss_cons h h2, fun C G σ H ρ D hK S fl ρ' hf q => ?_, fun C G σ H ρ D hK S n ρ' e q => ?_⟩
  · obtain ⟨f1, ρ1, h1, hf2⟩ := bnd_ok hf
    refine r C G σ H ρ _ hK S f1 ρ1 h1 fun σ1 G1 H1 e1 S1 => ?_
    cases f1 with
    | nx => exact r2 C G1 σ1 H1 ρ1 D hK S1 fl ρ' hf2 fun σ2 G2 H2 e2 S2 => q σ2 G2 H2 (e1.trans e2) S2
    | rt w => cases hf2; exact q σ1 G1 H1 e1 S1
    | bk => cases hf2; exact q σ1 G1 H1 e1 S1
    | ct => cases hf2; exact q σ1 G1 H1 e1 S1
  · show t { D with nx := u D } σ H
    unfold mxSeq at e
    cases z : g1 ρ with
    | some w => rw [z] at e; obtain ⟨n', ρ2⟩ := w; cases e; exact rx C G σ H ρ _ hK S n ρ' z q
    | none =>
      rw [z] at e
      cases y : m1 ρ with
      | stuck => rw [y] at e; cases e
      | ok fl ρ1 =>
        rw [y] at e
        cases fl with
        | nx => exact r C G σ H ρ _ hK S .nx ρ1 y fun σ1 G1 H1 e1 S1 => rx2 C G1 σ1 H1 ρ1 D hK S1 n ρ' e fun σ2 G2 H2 e2 S2 => q σ2 G2 H2 (e1.trans e2) S2
        | rt w => cases e
        | bk => cases e
        | ct => cases e
theorem pstx_if (hc : PTt X c mc) (ha : PStsX X sts m1 g1) (hb : PStsX X us m2 g2) : PStX X (.If c sts us pos) (mIf mc m1 m2) (mxIf mc g1 g2) := fun W tk => by
  obtain ⟨t, hc, rc⟩ := hc
  obtain ⟨u, ha, ra, xa⟩ := ha W tk
  obtain ⟨w, hb, rb, xb⟩ := hb W tk
  refine ⟨_, ps_if hc ha hb, fun C G σ H ρ D hK S fl ρ' hf q => ?_, fun C G σ H ρ D hK S n ρ' e q => ?_⟩
  · obtain ⟨k, ρ1, h1, hf2⟩ := bnd_ok hf
    refine rc C G σ H ρ _ hK S k ρ1 h1 fun G1 H1 e1 S1 => ?_
    cases k with
    | true => rw [if_pos rfl]; exact ra C G1 σ H1 ρ1 D hK S1 fl ρ' hf2 fun σ2 G2 H2 e2 S2 => q σ2 G2 H2 (e1.trans e2) S2
    | false => rw [if_neg Bool.false_ne_true]; exact rb C G1 σ H1 ρ1 D hK S1 fl ρ' hf2 fun σ2 G2 H2 e2 S2 => q σ2 G2 H2 (e1.trans e2) S2
  · unfold mxIf at e
    cases y : mc ρ with
    | stuck => rw [y] at e; cases e
    | ok k ρ1 =>
      rw [y] at e
      refine rc C G σ H ρ _ hK S k ρ1 y fun G1 H1 e1 S1 => ?_
      cases k with
      | true => rw [if_pos rfl]; exact xa C G1 σ H1 ρ1 D hK S1 n ρ' e fun σ2 G2 H2 e2 S2 => q σ2 G2 H2 (e1.trans e2) S2
      | false => rw [if_neg Bool.false_ne_true]; exact xb C G1 σ H1 ρ1 D hK S1 n ρ' e fun σ2 G2 H2 e2 S2 => q σ2 G2 H2 (e1.trans e2) S2
/-- raise n('m') -/
theorem pstx_raise {n msg : Str} {j : Nat} {p p2 : Pos} {bmB : List Value} {B newId initId : String} (hc : X.calm = true) (F : ExcBaseFacts B newId initId bmB) (q : PySem.W.excIn X.K (Kap.κ n) bmB newId = true) (gC : X.mg n = some (.ref (Kap.κ n)))
    (kC : PySem.W.keepIn X.K (.ref (Kap.κ n)) = true) (r1 : PySem.W.subIn X.K (.ref (Kap.κ n)) (.type "BaseException") = some true) (r2 : PySem.W.typeIn X.K (.ref (Kap.κ n)) = some (.type "type")) (hg : Gl X n)
    (hdb : (n == ("__debug__" : Str)) = false := by decide) : PStX X (.Raise (some (.Call (.Name n p) [.Constant (.str msg) j p2] [] pos)) none pos') mNever (mxRaise n) := fun W tk =>
  ⟨_, ps_raise hc tk (pmk_own F q gC kC (raises_own r1 r2) hg hdb), (fun C G σ H ρ D hK S fl ρ' hf q => by cases hf), fun C G σ H ρ D hK S n' ρ' e q => by cases e; exact q σ G H (Same.refl _) S⟩
theorem pstx_drop (h : PFX X e k g) (hs : swapsWith e none pos.line X.env = pure false := by rfl) : PStX X (.Expr e pos) (mDrop (mFz k)) g := fun W tk => by
  obtain ⟨t, h, r, rx⟩ := h W tk
  obtain ⟨t2, h2, r2⟩ : PV X e (mFz k) := pv_of ⟨t, h, r⟩
  refine ⟨_, ps_expr h hs, fun C G σ H ρ D hK S fl ρ' hf q => ?_, fun C G σ H ρ D hK S n ρ' e q => ?_⟩
  · obtain ⟨w, ρ1, h1, hf2⟩ := bnd_ok hf
    cases hf2
    obtain ⟨d', ρ2, h3, h4⟩ := bnd_ok h1
    refine r C G σ H ρ _ hK S d' ρ2 h3 fun v G1 H1 e1 S1 o => ?_
    show D.nx σ H1
    have hv : ∃ G2, Same G1 G2 ∧ StOk C G2 σ H1 ρ' := by
      cases d' with
      | fr d2 => cases h4; exact ⟨G1, Same.refl _, S1⟩
      | pl p =>
        cases p with
        | val d => cases h4; exact ⟨G1, Same.refl _, S1⟩
        | slot i => obtain ⟨G2, f1, f2, _⟩ := mGet_ok S1 o h4; exact ⟨G2, f1, f2⟩
    obtain ⟨G2, f1, S2⟩ := hv
    exact q σ G2 H1 (e1.trans f1) S2
  · exact rx C G σ H ρ _ hK S n ρ' e fun G1 H1 e1 S1 => q σ G1 H1 e1 S1
theorem pstx_set {i : Nat} (hN : X.N.Nodup) (h : PFX X e k g) (hi : X.N[i]? = some x := by rfl) (hx : Loc X.env.scope x := by first | exact Or.inl rfl | exact Or.inr rfl) (hs : swapsWith e (some (.Name x pos')) pos.line X.env = pure false := by rfl)
    (hf : X.fn x = true ∨ X.env.scope.names.lookup x = some .local := by first | exact .inl rfl | exact .inr rfl | assumption) : PStX X (.Assign [.Name x pos'] e pos) (mSet i k) g := fun W tk => by
  obtain ⟨t, h, r, rx⟩ := h W tk
  exact ⟨_, ps_set hN hi hx h hs hf, rd_set r, fun C G σ H ρ D hK S n ρ' e q => rx C G σ H ρ _ hK S n ρ' e fun G1 H1 e1 S1 => q σ G1 H1 e1 S1⟩
theorem pstx_ret (h : PFX X e k g) : PStX X (.Return (some e) pos) (mRet k) g := fun W tk => by
  obtain ⟨t, h, r, rx⟩ := h W tk
  refine ⟨_, ps_ret h, fun C G σ H ρ D hK S fl ρ' hf q => ?_, fun C G σ H ρ D hK S n ρ' e q => rx C G σ H ρ _ hK S n ρ' e fun G1 H1 e1 S1 => q σ G1 H1 e1 S1⟩
  obtain ⟨w, ρ1, h1, hf2⟩ := bnd_ok hf
  cases hf2
  exact r C G σ H ρ _ hK S w _ h1 fun v G1 H1 e1 S1 o => q σ G1 H1 e1 S1 v o
end
/-! ### defs that may raise -/
def spDX (K : PySem.W.Frag) (np nl : Nat) (body : M Fl) (g : MX) : Sp := fun vs H Q E => spD K np nl body vs H Q E ∨ ∃ (C : Ctx) (ss : Env) (n : Str) (ρ' : Env), vs.length = np ∧ C.K = K ∧ StOk C C.G0 (vs.map some) H ss ∧ g (ss ++ List.replicate nl .un) = some (n, ρ') ∧
  ∀ (G' : Hp) (σ' : L2.St) (H' : Hp), Same C.G0 G' → StOk C G' σ' H' ρ' → E (.ref (Kap.κ n)) none H'
structure FnGX (P : Program) (w : World) (K : PySem.W.Frag) (mg : Str → Option Value) (base : Heap) (k : Nat) (f : Addr) (fd : FuncData) (ps : List Str) (sp : Sp) : Prop where
  len : ∀ (vs : List V) (H : Hp) (Q : VK) (E : XK), sp vs H Q E → vs.length = ps.length
  go : ∀ (A : Around), A.guards = some [] → ∀ (outer : List PySem.Env) (s : Shared) (H : Hp) (args : Args) (us : List Value) (vs : List V) (Q : VK) (E : XK), Room k A → Env0 P w K mg base A outer s H →
    BindsTo s fd args (ps.zip us) → Vals vs us → sp vs H Q E → codeAny (model P w) A (.call (.ref f) args) (CR (L2.CX P w) outer P w H s Q E) s
section
variable {P : Program} {w : World} {K : PySem.W.Frag} {mg : Str → Option Value} {base : Heap} {k : Nat} {N ps : List Str} {x qual : Str} {st : Stmt} {f : Addr} {fd : FuncData} {m : M Fl} {g : MX}
theorem fnGX_pl {np nl : Nat} (F : Fun K x qual st f fd) (Sc : FnScope N ps (defScope st)) (hn : N.length = np + nl) (hp : ps.length = np)
    (hb : ∀ (cdv : Value) (A : Around) (outer : List PySem.Env) (s : Shared) (H : Hp) (E : XK), A.guards = some [] → Room k (A.deeper (PyProof.Rows.envOfC qual (defScope st) s.heap.objs.size f cdv)) →
      PStsX (cxOf (L2.CX P w) P w K mg base N qual (defScope st) f cdv A outer s H E) (defBody st) m g) : FnGX P w K mg base (k + 1) f fd ps (spDX K np nl m g) := by
  obtain ⟨oc, od, kV, doc, pm, an, cdv, ct, osl, rfl, lk, hcd⟩ := F.ex
  have len : ∀ (vs : List V) (H : Hp) (Q : VK) (E : XK), spDX K np nl m g vs H Q E → vs.length = ps.length := fun vs H Q E h => by
    rcases h with ⟨_, _, _, _, hl, _⟩ | ⟨_, _, _, _, hl, _⟩
    · rw [hl, hp]
    · rw [hl, hp]
  refine ⟨len, fun A hG outer s H args us vs Q E hr e0 hbi r hsp => ?_⟩
  have hl := len _ _ _ _ hsp
  have KX : K.In s.heap := e0.mod.kin.keeps fun b o e => (e0.bs b o e).1
  have lim : s.heap.NoLimit := e0.mod.nolimit.keeps fun b o e => (e0.bs b o e).1
  have kinds : ∀ y ∈ ps.zip us, (defScope st).names.lookup y.1 = some .local ∨ ((defScope st).names.lookup y.1 = some .cell ∧ ((cellsFrom (s.heap.objs.size + 1) (defScope st).names []).lookup y.1).isSome = true) := by
    rintro ⟨nm, v⟩ hy
    rcases Sc.par nm (List.of_mem_zip hy).1 with q | q
    · exact Or.inl q
    · exact Or.inr ⟨q, PySem.W.cellsFrom_some _ _ _ (.inl q)⟩
  refine codeAny_call_function hr.depth (KX _ _ lk) rfl Sc.co Sc.gen rfl (PySem.W.codeRec_of KX hcd) (hbi _ _ _ _ ?_)
  refine PySem.wpAny_newFunctionEnv_cells Sc.kind kinds ?_
  intro env he s1 x1
  subst he
  refine ⟨lim.keeps x1.toInCall.keep, codeAny_func ?_⟩
  have tk : Takes (cxOf (L2.CX P w) P w K mg base N qual (defScope st) f cdv A outer s H E) (fun cls d _ H' => E cls d H') := takes_of rfl rfl rfl rfl
  obtain ⟨t, ht, rt, rx⟩ := hb cdv A outer s H E hG (hr.deeper _) (fun cls d _ H' => E cls d H') tk
  have est : L2.start N vs = vs.map some ++ List.replicate nl none := by
    have hl' : vs.length = np := by rw [hl, hp]
    unfold L2.start
    rw [hn, hl', Nat.add_sub_cancel_left]
  have hq : t { nx := fun _ H' => Q .non H', rt := Q } (L2.start N vs) H := by
    rw [est]
    rcases hsp with ⟨C, ss, rr, ρ', _, hK, S0, hrun, q⟩ | ⟨C, ss, n, ρ', _, hK, S0, hrun, q⟩
    · have S1 := S0.more nl
      unfold runD at hrun
      cases hm : m (ss ++ List.replicate nl .un) with
      | stuck => rw [hm] at hrun; cases hrun
      | ok fl ρ1 =>
        rw [hm] at hrun
        cases fl with
        | rt r1 => cases hrun; exact rt C C.G0 _ H _ _ hK S1 _ _ hm fun σ' G' H' e S' v o => q v G' σ' H' e S' o
        | nx => cases hrun; exact rt C C.G0 _ H _ _ hK S1 _ _ hm fun σ' G' H' e S' => q .non G' σ' H' e S' .non
        | bk => cases hrun
        | ct => cases hrun
    · exact rx C C.G0 _ H _ _ hK (S0.more nl) n ρ' hrun fun σ' G' H' e S' => q G' σ' H' e S'
  have I : Inv (cxOf (L2.CX P w) P w K mg base N qual (defScope st) f cdv A outer s H E) [] (L2.start N vs) H s1 := inv_start Sc hr.hd e0 hl r x1
  have run := ht.run [] s1 (L2.start N vs) H _ I hq
  refine wpAny_mono run ?_ fun e s' hs => hs
  intro fl s' hs
  cases fl with
  | brk => obtain ⟨_, _, _, q⟩ := hs; exact q.elim
  | cont => obtain ⟨_, _, _, q⟩ := hs; exact q.elim
  | next => obtain ⟨σ', H', J, q⟩ := hs; exact ⟨V.non, H', J.os, J.bare, J.base, J.hok, rfl, q⟩
  | ret u => obtain ⟨v, σ', H', J, rv, q⟩ := hs; exact ⟨v, H', J.os, J.bare, J.base, J.hok, rv, q⟩
end
/-- a call of such a def -/
def tCallW (sp : Sp) (W : WX) (t : TA) : TE := fun σ H Q => t σ H fun vs H1 => sp vs H1 Q fun cls d H' => W cls d σ H'
section
variable {X : Cx} {e : Expr} {es : List Expr} {pos p : Pos} {x : Str} {k : Nat} {f : Addr} {fd : FuncData} {ps : List Str} {np nl : Nat} {m : M Fl} {g : MX} {ms : List Md} {fs : M (List Pl)}
theorem pe_callW {sp : Sp} {t : TA} {W : WX} (F : FnGX X.prog X.w X.K X.mg X.base k f fd ps sp) (tk : Takes X W) (hG : X.A.guards = some []) (hr : Room k X.A) (hg : Gl X x) (hm : X.mg x = some (.ref f)) (hk : PySem.W.keepIn X.K (.ref f) = true) (hb : Binds X.K fd ps []) (ha : PA X (e :: es) t)
    (hdb : (x == ("__debug__" : Str)) = false := by decide) (he : starEach (e :: es) X.env = (false, eval e X.env) :: starEach es X.env := by rfl) (hpl : (backTo pos (starEach es X.env)).any (·.1) = false := by rfl) :
    PE X (.Call (.Name x p) (e :: es) [] pos) (tCallW sp W t) := by
  constructor
  intro pins s σ H Q I h
  refine PySem.wpAny_Call_Name_kw (ld_glob I hg hm ?_ hdb)
  refine PySem.W.callWith_K (h₀ := X.base) I.ok.mod.kin hk (thn (ha.run pos pins s σ H _ I h) ?_) he hpl
  rintro us s1 ⟨vs, H1, I1, r, q⟩
  refine ⟨I1.kIn, ?_⟩
  have hl : us.length = ps.length := by rw [← r.length]; exact F.len _ _ _ _ q
  have hb' := hb s1 us I1.kIn (by rw [List.append_nil]; exact hl)
  rw [List.append_nil] at hb'
  refine wpAny_call (codeAny_mono (F.go X.A hG X.stack s1 H1 ⟨us, []⟩ us vs Q _ hr I1.env0 hb' r q) ?_)
  intro r s' hq
  cases r with
  | error e => exact passAt tk σ pins H1 s1 e s' I1 hq
  | ok fl =>
    cases fl with
    | ret u => exact I1.after hq
    | next => exact False.elim hq
    | brk => exact False.elim hq
    | cont => exact False.elim hq
def TAps (K : PySem.W.Frag) (fs : M (List Pl)) : TA := fun σ H Q => ∃ (C : Ctx) (G : Hp) (ρ : Env) (ps : List Pl) (ρ' : Env), C.K = K ∧ StOk C G σ H ρ ∧ fs ρ = .ok ps ρ' ∧ ∀ (vs : List V) (G' H' : Hp), Same G G' → StOk C G' σ H' ρ' → okPs G' σ vs ps → Q vs H'
theorem taps_rd {K : PySem.W.Frag} : RdPs K (TAps K fs) fs := fun C G σ H ρ Q hK S d ρ' hf q => ⟨C, G, ρ, d, ρ', hK, S, hf, q⟩
theorem taps_pa (h : PPs X es fs) : PA X es (TAps X.K fs) := by
  obtain ⟨t, h, r⟩ := h
  exact ⟨fun pos pins s σ H Q I ⟨C, G, ρ, d, ρ', hK, S, hf, q⟩ => h.run pos pins s σ H Q I (r C G σ H ρ Q hK S d ρ' hf q)⟩
theorem pfx_callG (F : FnGX X.prog X.w X.K X.mg X.base k f fd ps (spDX X.K np nl m g)) (hG : X.A.guards = some []) (hr : Room k X.A) (hg : Gl X x) (hm : X.mg x = some (.ref f)) (hk : PySem.W.keepIn X.K (.ref f) = true) (hb : Binds X.K fd ps []) (ha : PPs X (e :: es) fs) (hl : ms.length = np)
    (hdb : (x == ("__debug__" : Str)) = false := by decide) (he : starEach (e :: es) X.env = (false, eval e X.env) :: starEach es X.env := by rfl) (hpl : (backTo pos (starEach es X.env)).any (·.1) = false := by rfl) :
    PFX X (.Call (.Name x p) (e :: es) [] pos) (mCall ms nl m fs) (mxCall ms nl g fs) := fun W tk => by
  refine ⟨_, pe_callW F tk hG hr hg hm hk hb (taps_pa ha) hdb he hpl, fun C G σ H ρ Q hK S d ρ' hf q => ?_, fun C G σ H ρ Q hK S n ρ' ex q => ?_⟩
  · obtain ⟨C2, G2, ρ2, pl, ρ3, k1, k2, k3, k4⟩ := rd_call (E := L2.E0) (np := np) (taps_rd (K := X.K) (fs := fs)) hl C G σ H ρ Q hK S d ρ' hf q
    refine ⟨C2, G2, ρ2, pl, ρ3, k1, k2, k3, fun vs G' H' e1 S1 o => ?_⟩
    have z : spD X.K np nl m (vs ++ []) H' Q L2.E0 := k4 vs G' H' e1 S1 o
    rw [List.append_nil] at z
    exact .inl z
  · unfold mxCall at ex
    cases hf : fs ρ with
    | stuck => rw [hf] at ex; cases ex
    | ok pl ρ1 =>
      rw [hf] at ex
      refine ⟨C, G, ρ, pl, ρ1, hK, S, hf, fun vs G1 H1 e1 S1 o => .inr ?_⟩
      dsimp only at ex
      unfold callX at ex
      by_cases ap : apart ms pl = true
      · rw [if_pos ap] at ex
        cases ha2 : argSs ρ1 ms pl with
        | none => rw [ha2] at ex; cases ex
        | some ss =>
          rw [ha2] at ex
          dsimp only at ex
          unfold evalX at ex
          cases hgx : g (ss ++ List.replicate nl .un) with
          | none => rw [hgx] at ex; cases ex
          | some w =>
            obtain ⟨n', ρ2⟩ := w
            rw [hgx] at ex
            dsimp only at ex
            cases hbk0 : backIo ρ1 ms pl (ρ2.take ms.length) with
            | none => rw [hbk0] at ex; cases ex
            | some ρ3 =>
              rw [hbk0] at ex
              cases ex
              obtain ⟨l1, l2⟩ := argSs_len ha2
              have hbk : backIo ρ1 ms pl ρ2 = some ρ' := by
                rw [backIo_take l1] at hbk0
                exact hbk0
              exact ⟨callC C G1 H1 σ vs ms pl ss, ss, n, ρ2, by rw [o.len, ← l1, hl], hK, call_start S1 o ap ha2, hgx, fun G' σ' H' e2 S' => q G' H' (e1.trans e2) (call_end S1 o ap ha2 S' e2 hbk)⟩
      · rw [if_neg ap] at ex
        cases ex
end
end PL
set_option maxHeartbeats 2000000
/-! PL38: try: body, except x as n: suite; the exception stays known. -/
namespace PL
open PySem PySem.Spec PyProof.Rows L2
variable [Kap]
section
variable {X : Cx} {pins : List (Addr × Obj)} {σ : L2.St} {H : Hp} {s : Shared}
/-- an object that was there untracked is tracked -/
theorem inv_track {a : Addr} {o : HO} (I : Inv X pins σ H s) (n0 : X.s_0.heap.get? a = none) (na : H a = none) (nL : a ≠ X.env.locals) (nC : ∀ x c, X.env.cells.lookup x = some c → c ≠ a) (nP : ∀ p ∈ X.pn ++ pins, p.1 ≠ a)
    (new : ObjOk X.prog X.w (upd H a o) s.heap a o) : Inv X pins σ (upd H a o) s := by
  have ne : ∀ {b : Addr} {u : HO}, H b = some u → b ≠ a := fun {b u} q z => by rw [z, na] at q; cases q
  have ne0 : ∀ {b : Addr} {u : Obj}, X.s_0.heap.get? b = some u → b ≠ a := fun {b u} q z => by rw [z, n0] at q; cases q
  refine ⟨I.ok, I.os, I.bare, ⟨I.base.keep, I.base.slot, fun b u q n hb => ?_, I.base.there, fun b l q => ?_, fun b u v q => ?_, fun b l q => ?_⟩, I.loc, I.cell, ?_, fun x c q => ?_, fun p hp => ?_, fun b u q => ?_, I.len⟩
  · rw [upd_ne (ne0 q)]; exact I.base.free b u q n hb
  · have z := I.base.tups b l q
    rw [upd_ne (ne z)]; exact z
  · have z := I.base.frzs b u v q
    rw [upd_ne (ne z)]; exact z
  · obtain ⟨more, z⟩ := I.base.tbls b l q
    exact ⟨more, by rw [upd_ne (ne z)]; exact z⟩
  · rw [upd_ne (Ne.symm nL)]; exact I.free
  · rw [upd_ne (nC x c q)]; exact I.freeC x c q
  · obtain ⟨e1, e2, e3⟩ := I.pin p hp
    exact ⟨e1, by rw [upd_ne (nP p hp)]; exact e2, e3⟩
  · by_cases hb : b = a
    · subst hb
      rw [upd_same] at q
      cases q
      exact new
    · rw [upd_ne hb] at q
      refine (I.hok b u q).stay (fun c v _ y => y) (fun c y => ?_) fun c l y => ?_
      · rw [upd_ne (ne y)]; exact y
      · rw [upd_ne (ne y)]; exact y
/-- the suite's context, the exception tracked -/
abbrev hotX (X : Cx) (a : Addr) (pn : List (Addr × Obj)) : Cx := X.suite a pn
theorem inv_hot (I : Inv X pins σ H s) (a : Addr) : Inv (hotX X a (X.pn ++ pins)) [] σ H s :=
  ⟨I.ok.suite _ _, I.os, I.bare, I.base, I.loc, I.cell, I.free, I.freeC, fun p hp => I.pin p (by rw [List.append_nil] at hp; exact hp), I.hok, I.len⟩
theorem inv_cold {a : Addr} {pn' : List (Addr × Obj)} (I : Inv (hotX X a (X.pn ++ pins)) pn' σ H s) (ok : X.Ok) : Inv X pins σ H s :=
  ⟨ok, I.os, I.bare, I.base, I.loc, I.cell, I.free, I.freeC, fun p hp => I.pin p (List.mem_append_left _ hp), I.hok, I.len⟩
theorem exT_ok {P : Program} {w : World} {H : Hp} {h : Heap} {k a : Addr} {oe : Obj} {vs : Array Value} (e : h.get? a = some oe) (z : Zc (.ref k) none oe) (d : oe.data = .fields vs) : ObjOk P w H h a (ExT k a) :=
  ⟨⟨oe, vs, e, z, d⟩, ⟨oe, e⟩, fun h1 h2 ⟨o1, v1, e1, z1, d1⟩ kp => ⟨o1, v1, kp _ e1, z1, d1⟩⟩
end
/-- what the clause wishes of an exception of the body -/
def wTrk (K : PySem.W.Frag) (c : Value) (i : Nat) (ts : TS) (D : Ends) : WX := fun cls d σ H =>
  ∃ k : Addr, cls = .ref k ∧ d = none ∧ PySem.W.exmOne K cls c = some true ∧ ∀ a, H a = none → ts { nx := fun σ' H' => D.nx (σ'.set i none) H', rt := fun _ _ => False, bk := fun _ _ => False, ct := fun _ _ => False } (σ.set i (some (.ref a))) (upd H a (ExT k a))
section
variable {X : Cx} {x n : Str} {c : Value} {i : Nat} {body suite : List Stmt} {b₀ : Stmt} {np pos pos' : Pos} {tb : WX → TS} {ts : TS}
theorem ps_tryT (hs : X.stack = X.env :: X.outer) (hex : X.ex = []) (hf : X.env.frame = some X.env.locals) (hN : X.N.Nodup) (hi : X.N[i]? = some n) (hln : X.env.kindOf n = some .local) (hc : Names X x c)
    (hb : ∀ (W : WX) (pn : List (Addr × Obj)) (xe : Value → Shared → Prop), Takes (X.tr pn xe) W → PassesOwn (model X.prog X.w) X.A X.env xe → PSs (X.tr pn xe) body (tb W))
    (hsu : ∀ (a : Addr) (pn : List (Addr × Obj)), PSs (hotX X a pn) (b₀ :: suite) ts) :
    PS X (.Try body [.ExceptHandler (some (.Name x np)) (some n) (b₀ :: suite) pos'] [] [] pos) (fun D σ H => tb (wTrk X.K c i ts D) D σ H) := by
  refine ⟨fun pins s σ H D I h => ?_⟩
  have ok := I.ok
  have frs_ : X.A.frames = some (X.env :: X.outer) := by rw [ok.frames, hs]
  have lc : Loc X.env.scope n := .inl hln
  refine wpAny_Try_except (wpAny_mono ((hb (wTrk X.K c i ts D) (X.pn ++ pins) (fun e s₁ => wpAny (model X.prog X.w) X.A (noteFrame e X.env) (fun _ s₂ => wpAny (model X.prog X.w) X.A (setFlight e none) (fun _ s₃ =>
    wpAny (model X.prog X.w) X.A (handleBy e X.env [.ExceptHandler (some (.Name x np)) (some n) (b₀ :: suite) pos']) (SP X pins D) X.xe s₃) X.xe s₂) X.xe s₁) (fun u s' xx => ?_) PassesOwn.looking).run [] s σ H D (I.toTry _) h) (fun fl s1 sp => ?_) fun e s1 he => he)
  · obtain ⟨a, B, sI, pins', σ', H', cls, d, rfl, J', nb, up, sky, na, os, ag, k, rfl, rfl, ex, yes⟩ := xx
    have J : Inv X pins σ' H' sI := J'.ofTry ok
    rw [show X.stack = X.env :: X.outer from hs] at sky
    show wpAny (model X.prog X.w) X.A (noteFrame (.ref a) X.env) _ _ _
    have nB : B.get? a = none := by
      rcases sky with ⟨_, z, _⟩ | z | z
      · exact z
      · exact z.2.1
      · exact z.2.1
    refine Sky.land Zc.steady frs_ hf sky fun h3 fl3 up3 => ?_
    have J3 : Inv X pins σ' H' { s' with heap := h3 } := J.landed nb fl3.1 (up.trans up3) os ag
    obtain ⟨oe3, vs3, he3, hz3, hd3⟩ := fl3.there
    have nfr : a ∉ frs (X.env :: X.outer) := fun hm => by
      obtain ⟨_, o', e', hnf⟩ := fl3.2.2.1.mem hm
      rw [he3] at e'
      cases e'
      exact hnf _ hd3
    have nL : a ≠ X.env.locals := fun z => nfr (List.mem_filterMap.mpr ⟨X.env, List.mem_cons_self, by rw [hf, z]⟩)
    have nF : a ∉ X.fs := fun hm => by
      obtain ⟨e, he, q⟩ := List.mem_filterMap.mp hm
      exact nfr (List.mem_filterMap.mpr ⟨e, List.mem_cons_of_mem _ he, q⟩)
    have nI : sI.heap.get? a = none := by
      cases z : sI.heap.get? a with
      | none => rfl
      | some o =>
        have y := nb a o z (by rw [hs]; exact nfr)
        rw [nB] at y
        cases y
    have n0 : X.s_0.heap.get? a = none := by
      cases z : X.s_0.heap.get? a with
      | none => rfl
      | some o =>
        obtain ⟨o', y⟩ := J.base.there a o z (by rw [hex]; exact fun q => nomatch q)
        rw [nI] at y
        cases y
    have nC : ∀ y c, X.env.cells.lookup y = some c → c ≠ a := fun y c q z => by
      obtain ⟨v, o, e, _⟩ := J.cell y c q
      rw [z, nI] at e
      cases e
    have nP : ∀ p ∈ X.pn ++ pins, p.1 ≠ a := fun p hp z => by
      have e := (J.pin p hp).1
      rw [z, nI] at e
      cases e
    have S3 := J3.suite he3 hd3 na nL nF
    refine wpAny_handleBy_cons (codeAny_handlers_test ?_) (by intro q; cases q)
    have LT : PySem.W.Looks (model X.prog X.w) h3 (typeOf (.ref a)) (.ref k) := fun A Q E s kk q => wpAny_typeOf_ref (kk _ _ he3) (by rw [hz3.1]; exact q)
    have LM := PySem.W.exm_one (M := model X.prog X.w) (J3.kIn) LT ex
    have test : ∀ {Q : Value → Shared → Prop} {E : Value → Shared → Prop}, Q c { s' with heap := h3 } → wpAny (model X.prog X.w) (X.A.mark (some (.ref a))) (eval (.Name x np) X.env) Q E { s' with heap := h3 } := fun {Q E} q => by
      obtain ⟨hg, hdbg, hm | ⟨hm, hv, hnn⟩⟩ := hc
      · exact ld_glob (X := X.suite a ((a, oe3) :: (X.pn ++ pins))) S3 hg hm q hdbg
      · exact ld_blt (X := X.suite a ((a, oe3) :: (X.pn ++ pins))) S3 hg hm hv q hnn hdbg
    refine test (LM.here (codeAny_handlers_suite_as (HandSPX.lands_againZ fl3 fun h4 fl4 up4 => ?_)))
    have J4 : Inv X pins σ' H' { s' with heap := h4 } := J.landed nb fl4.1 ((up.trans up3).trans up4) os ag
    obtain ⟨oe4, vs4, he4, hz4, hd4⟩ := fl4.there
    have S4 := inv_hot (inv_track (o := ExT k a) J4 n0 na nL nC nP (exT_ok he4 hz4 hd4)) a
    refine store_ok (X := hotX X a (X.pn ++ pins)) (v := .ref a) S4 hN hi lc rfl (fun s5 S5 => ?_) (.inr hln)
    refine wpAny_mono ((hsu a (X.pn ++ pins)).run [] s5 _ _ _ S5 (yes a na)) (fun f s6 sp => ?_) fun _ _ z => False.elim z
    cases f with
    | next =>
      obtain ⟨σ6, H6, S6, q6⟩ := sp
      exact gone_ok (inv_cold S6 ok) hN hi hln fun s7 J7 => ⟨_, _, J7, q6⟩
    | brk => obtain ⟨_, _, _, z⟩ := sp; exact z.elim
    | cont => obtain ⟨_, _, _, z⟩ := sp; exact z.elim
    | ret u => obtain ⟨_, _, _, _, _, z⟩ := sp; exact z.elim
  · cases fl with
    | next => obtain ⟨σ', H', J', q⟩ := sp; exact wpAny_execs_nil ⟨σ', H', J'.ofTry ok, q⟩
    | brk => obtain ⟨σ', H', J', q⟩ := sp; exact ⟨σ', H', J'.ofTry ok, q⟩
    | cont => obtain ⟨σ', H', J', q⟩ := sp; exact ⟨σ', H', J'.ofTry ok, q⟩
    | ret u => obtain ⟨v, σ', H', J', r, q⟩ := sp; exact ⟨v, σ', H', J'.ofTry ok, r, q⟩
end
end PL
set_option maxHeartbeats 2000000
/-! PL39: try, read over data; isinstance of an exception; a name that holds one. -/
namespace PL
open PySem PySem.Spec PyProof.Rows L2
variable [Kap]
def TSv (K : PySem.W.Frag) (f : M Fl) : TS := fun D σ H => ∃ (C : Ctx) (G : Hp) (ρ : Env) (fl : Fl) (ρ' : Env), C.K = K ∧ StOk C G σ H ρ ∧ f ρ = .ok fl ρ' ∧ ∀ (σ' : L2.St) (G' H' : Hp), Same G G' → StOk C G' σ' H' ρ' → endAt D C G' σ' H' ρ' fl
def TSx (K : PySem.W.Frag) (f : M Fl) (g : MX) (W : WX) : TS := fun D σ H => TSv K f D σ H ∨ ∃ (C : Ctx) (G : Hp) (ρ : Env) (n : Str) (ρ' : Env), C.K = K ∧ StOk C G σ H ρ ∧ g ρ = some (n, ρ') ∧ ∀ (σ' : L2.St) (G' H' : Hp), Same G G' → StOk C G' σ' H' ρ' → W (.ref (Kap.κ n)) none σ' H'
theorem psts_uni {X : Cx} {sts : List Stmt} {f : M Fl} (h : PSts X sts f) : PSs X sts (TSv X.K f) := by
  obtain ⟨t, h, r⟩ := h
  exact ⟨fun pins s σ H D I ⟨C, G, ρ, fl, ρ', hK, S, hf, q⟩ => h.run pins s σ H D I (r C G σ H ρ D hK S fl ρ' hf q)⟩
theorem pstsx_uni {X : Cx} {sts : List Stmt} {f : M Fl} {g : MX} {W : WX} (h : PStsX X sts f g) (tk : Takes X W) : PSs X sts (TSx X.K f g W) := by
  obtain ⟨t, h, r, rx⟩ := h W tk
  refine ⟨fun pins s σ H D I hh => ?_⟩
  rcases hh with ⟨C, G, ρ, fl, ρ', hK, S, hf, q⟩ | ⟨C, G, ρ, n, ρ', hK, S, hf, q⟩
  · exact h.run pins s σ H D I (r C G σ H ρ D hK S fl ρ' hf q)
  · exact h.run pins s σ H D I (rx C G σ H ρ D hK S n ρ' hf q)
def mTry (ns : List Str) (m : M Fl) (g : MX) (i : Nat) (h : M Fl) : M Fl := fun ρ => match g ρ with
  | some r => if (decide (r.1 ∈ ns) && decide (i < r.2.length)) = true then match h (r.2.set i (.exc r.1)) with
      | .ok fl ρ2 => (match fl with
        | .nx => .ok .nx (ρ2.set i .un)
        | _ => .stuck)
      | .stuck => .stuck
    else .stuck
  | none => m ρ
section
variable {X : Cx} {x n : Str} {i : Nat} {body suite : List Stmt} {b₀ : Stmt} {np pos pos' : Pos} {m h : M Fl} {g : MX} {ns : List Str}
theorem StOk.gone {C : Ctx} {G H : Hp} {σ : L2.St} {ρ : Env} (S : StOk C G σ H ρ) (i : Nat) : StOk C G (σ.set i none) H (ρ.set i .un) := S.wipe [i]
theorem pst_try {c : Value} (hs : X.stack = X.env :: X.outer) (hex : X.ex = []) (hf : X.env.frame = some X.env.locals) (hN : X.N.Nodup) (hi : X.N[i]? = some n) (hln : X.env.kindOf n = some .local) (hc : Names X x c) (cat : ∀ k ∈ ns, PySem.W.exmOne X.K (.ref (Kap.κ k)) c = some true)
    (hb : ∀ (pn : List (Addr × Obj)) (xe : Value → Shared → Prop), PStsX (X.tr pn xe) body m g) (hsu : ∀ (a : Addr) (pn : List (Addr × Obj)), PSts (hotX X a pn) (b₀ :: suite) h) :
    PSt X (.Try body [.ExceptHandler (some (.Name x np)) (some n) (b₀ :: suite) pos'] [] [] pos) (mTry ns m g i h) := by
  refine ⟨_, ps_tryT (tb := TSx X.K m g) (ts := TSv X.K h) hs hex hf hN hi hln hc (fun W pn xe tk _ => pstsx_uni (hb pn xe) tk) (fun a pn => psts_uni (hsu a pn)), fun C G σ H ρ D hK S fl ρ' hm q => ?_⟩
  unfold mTry at hm
  cases hg : g ρ with
  | none =>
    rw [hg] at hm
    exact .inl ⟨C, G, ρ, fl, ρ', hK, S, hm, q⟩
  | some r =>
    obtain ⟨k, ρ1⟩ := r
    rw [hg] at hm
    dsimp only at hm
    by_cases hk : (decide (k ∈ ns) && decide (i < ρ1.length)) = true
    · rw [if_pos hk] at hm
      rw [Bool.and_eq_true, decide_eq_true_eq, decide_eq_true_eq] at hk
      refine .inr ⟨C, G, ρ, k, ρ1, hK, S, hg, fun σ1 G1 H1 e1 S1 => ⟨Kap.κ k, rfl, rfl, cat k hk.1, fun a na => ?_⟩⟩
      cases hh : h (ρ1.set i (.exc k)) with
      | stuck => rw [hh] at hm; cases hm
      | ok f2 ρ2 =>
        rw [hh] at hm
        cases f2 with
        | nx =>
          cases hm
          have w := Grow.new (o := ExT (Kap.κ k) a) S1.gh na
          have S2 := (S1.grow w).put (s := .exc k) (v := .ref a) hk.2 ⟨a, rfl, upd_same⟩ fun z => nomatch z
          exact ⟨C, _, _, .nx, ρ2, hK, S2, hh, fun σ2 G2 H2 e2 S3 => q _ G2 H2 ((e1.trans w.g).trans e2) (S3.gone i)⟩
        | rt r => cases hm
        | bk => cases hm
        | ct => cases hm
    · rw [if_neg hk] at hm
      cases hm
end
/-! ### classes as values, isinstance -/
inductive Cn where
  | own (n : Str) | blt (t : String)
def Cn.v : Cn → V
  | .own n => .ref (Kap.κ n)
  | .blt t => .ty t
def Cn.u : Cn → Value
  | .own n => .ref (Kap.κ n)
  | .blt t => .type t
theorem Cn.cls : ∀ c : Cn, ClsV c.v c.u
  | .own n => .own _
  | .blt t => .ty t
theorem Cn.all : ∀ cs : List Cn, Paired ClsV (cs.map Cn.v) (cs.map Cn.u)
  | [] => .nil
  | c :: cs => .cons c.cls (Cn.all cs)
section
variable {X : Cx} {x : Str} {pos : Pos} {e : Expr} {es : List Expr}
theorem pe_cn {n : Str} (hg : Gl X n) (hm : X.mg n = some (.ref (Kap.κ n))) (hd : (n == ("__debug__" : Str)) = false := by decide) : PE X (.Name n pos) (tC (Cn.own n).v) := pe_glob hg hm rfl hd
theorem pe_cb {T : Str} {u : String} (hg : Gl X T) (hm : X.mg T = none) (hv : bootBuiltins T = some (.type u)) (hn : T ≠ "__name__" := by decide) (hd : (T == ("__debug__" : Str)) = false := by decide) : PE X (.Name T pos) (tC (Cn.blt u).v) := pe_bltn hg hm hv rfl hn hd
def tCns (cs : List Cn) : TA := fun _ H Q => Q (cs.map Cn.v) H
theorem pa_cn0 : PA X [] (tCns []) := ⟨fun pos pins s σ H Q I h => pa_nil.run pos pins s σ H Q I h⟩
theorem pa_cn {c : Cn} {cs : List Cn} (h : PE X e (tC c.v)) (hr : PA X es (tCns cs)) (hs : starEach (e :: es) X.env = (false, eval e X.env) :: starEach es X.env := by rfl) : PA X (e :: es) (tCns (c :: cs)) :=
  ⟨fun pos pins s σ H Q I q => (pa_cons h hr hs).run pos pins s σ H Q I q⟩
/-- the object that stands at a tracked exception -/
theorem exT_kit {k a : Addr} {pins : List (Addr × Obj)} {σ : L2.St} {H : Hp} {s : Shared} (I : Inv X pins σ H s) (C : ExcC X.K k) (ha : H a = some (ExT k a)) : ∃ P : Heap → Prop, PySem.W.KitX X.K (.ref a) (.ref k) P ∧ P s.heap := by
  obtain ⟨oe, vs, e, ⟨z1, z2⟩, d⟩ := (I.hok a _ ha).1
  refine ⟨fun h => PySem.W.InstAt h a oe k none, PySem.W.handS_kitx_exc C.hg C.hk C.hs C.hd C.ha C.hn C.ht C.hm, ?_⟩
  obtain ⟨oc, od, oda, osl⟩ := oe
  dsimp only at z1 z2 d
  subst z1 z2 d
  exact ⟨e, rfl, rfl, trivial⟩
def rIsX (K : PySem.W.Frag) : List V → Hp → VK → Prop := fun xs H Q => ∃ (a k : Addr) (c : V) (u : Value) (b : Bool), xs = [.ref a, c] ∧ ClsV c u ∧ ExcC K k ∧ H a = some (ExT k a) ∧ PySem.W.kitOne K (.ref k) u = some b ∧ Q (.bl b) H
def rIsXT (K : PySem.W.Frag) : List V → Hp → VK → Prop := fun xs H Q => ∃ (a k tp : Addr) (cs : List V) (us : List Value) (b : Bool), xs = [.ref a, .ref tp] ∧ H tp = some (.tup cs) ∧ Paired ClsV cs us ∧ ExcC K k ∧ H a = some (ExT k a) ∧ PySem.W.kitAny K (.ref k) us = some b ∧ Q (.bl b) H
theorem call_isX : CallR X (.builtin "isinstance") (rIsX X.K) := by
  intro pins s σ H xs us Q I r h
  obtain ⟨a, k, c, u, b, rfl, kc, C, ha, e, q⟩ := h
  obtain ⟨u1, u2, rfl, r1, r2⟩ := vals2 r
  cases (show u1 = Value.ref a from r1)
  have e2 := kc.eq r2
  subst e2
  obtain ⟨P, Z, p⟩ := exT_kit I C ha
  exact PySem.W.kia_one Z I.kIn p e (fun z => nomatch z) fun tk => ⟨.bl b, H, I.tok tk, rfl, q⟩
theorem call_isXT : CallR X (.builtin "isinstance") (rIsXT X.K) := by
  intro pins s σ H xs us Q I r h
  obtain ⟨a, k, tp, cs, ws, b, rfl, hT, kc, C, ha, e, q⟩ := h
  obtain ⟨u1, u2, rfl, r1, r2⟩ := vals2 r
  cases (show u1 = Value.ref a from r1)
  cases (show u2 = Value.ref tp from r2)
  obtain ⟨P, Z, p⟩ := exT_kit I C ha
  obtain ⟨_, its, rv, o, h1, h2, n, h3⟩ := (show ObjOk X.prog X.w H s.heap tp (.tup cs) from I.hok tp _ hT)
  have e3 := ClsV.all kc rv
  subst e3
  obtain ⟨oc, od, dt, sl⟩ := o
  simp only at h2 h3
  subst h2 h3
  exact PySem.W.kia_tup Z I.kIn p h1 e (fun z => nomatch z) fun tk => ⟨.bl b, H, I.tok tk, rfl, q⟩
end
/-- the table's answer, of a name that holds an exception or None -/
def mIsX (i : Nat) (tb : List (Str × Bool)) : M D := fun ρ => match ρ[i]? with
  | some (.exc n) => (match tb.lookup n with
    | some b => .ok (.bool b) ρ
    | none => .stuck)
  | some (.val .none) => .ok (.bool false) ρ
  | _ => .stuck
def mNoneX (i : Nat) : M D := fun ρ => match ρ[i]? with
  | some (.exc _) => .ok (.bool false) ρ
  | some (.val .none) => .ok (.bool true) ρ
  | _ => .stuck
def mSomeX (i : Nat) : M D := fun ρ => match ρ[i]? with
  | some (.exc _) => .ok (.bool true) ρ
  | some (.val .none) => .ok (.bool false) ρ
  | _ => .stuck
/-- i is given what j holds: an exception -/
def mSetX (i j : Nat) : M Fl := fun ρ => match ρ[j]? with
  | some (.exc n) => if i < ρ.length then .ok .nx (ρ.set i (.exc n)) else .stuck
  | _ => .stuck
theorem lookup_mem {tb : List (Str × Bool)} {n : Str} {b : Bool} (h : tb.lookup n = some b) : (n, b) ∈ tb := by
  induction tb with
  | nil => cases h
  | cons q r ih =>
    obtain ⟨m, c⟩ := q
    rw [List.lookup_cons] at h
    by_cases e : n = m
    · subst e
      rw [beq_self_eq_true] at h
      cases h
      exact List.mem_cons_self
    · rw [show (n == m) = false from beq_false_of_ne e] at h
      exact List.mem_cons_of_mem _ (ih h)
/-- what the classes cs answer of the exceptions of tb, and of None -/
structure IsTab (K : PySem.W.Frag) (cs : List Cn) (tb : List (Str × Bool)) : Prop where
  own : ∀ q ∈ tb, ExcC K (Kap.κ q.1) ∧ PySem.W.kitAny K (.ref (Kap.κ q.1)) (cs.map Cn.u) = some q.2
  non : PySem.W.kitAny K (.type "NoneType") (cs.map Cn.u) = some false
theorem kit_one {K : PySem.W.Frag} {t c : Value} {b : Bool} (h : PySem.W.kitAny K t [c] = some b) : PySem.W.kitOne K t c = some b := by
  unfold PySem.W.kitAny at h
  cases z : PySem.W.kitOne K t c with
  | none => rw [z] at h; cases h
  | some q =>
    rw [z] at h
    cases q with
    | true => exact h
    | false => exact h
section
variable {X : Cx} {x : Str} {p p1 p2 pos tpos pos' : Pos} {e : Expr} {es : List Expr} {i : Nat}
theorem x_get {C : Ctx} {G H : Hp} {σ : L2.St} {ρ : Env} (S : StOk C G σ H ρ) {n : Str} (e : ρ[i]? = some (.exc n)) : ∃ a, σ[i]? = some (some (.ref a)) ∧ H a = some (ExT (Kap.κ n) a) := by
  obtain ⟨o, e1, a, rfl, q⟩ := S.sl i _ e
  exact ⟨a, e1, S.gh _ _ q⟩
theorem n_get {C : Ctx} {G H : Hp} {σ : L2.St} {ρ : Env} (S : StOk C G σ H ρ) (e : ρ[i]? = some (.val .none)) : σ[i]? = some (some .non) := by
  obtain ⟨o, e1, v, rfl, q⟩ := S.sl i _ e
  cases q
  exact e1
theorem pv_isX {c : Cn} {tb : List (Str × Bool)} (hg : Gl X "isinstance") (hm : X.mg "isinstance" = none) (hT : PE X e (tC c.v)) (tab : IsTab X.K [c] tb) (hN : X.N[i]? = some x := by rfl)
    (hv : Vis X.env.scope x := by first | exact Or.inl rfl | exact Or.inr (Or.inl rfl) | exact Or.inr (Or.inr rfl)) (hd : (x == ("__debug__" : Str)) = false := by decide) (hcd : (x == ("__classdict__" : Str)) = false := by decide)
    (he : starEach [.Name x p1, e] X.env = (false, eval (.Name x p1) X.env) :: starEach [e] X.env := by rfl) (he2 : starEach [e] X.env = (false, eval e X.env) :: starEach [] X.env := by rfl) (hpl : (backTo pos (starEach [e] X.env)).any (·.1) = false := by rfl) :
    PV X (.Call (.Name "isinstance" p) [.Name x p1, e] [] pos) (mIsX i tb) := by
  have two : CallR X (.builtin "isinstance") (fun xs H Q => rIsX X.K xs H Q ∨ rIsi X.K xs H Q) := fun pins s σ H xs us Q I r h => h.elim (fun h => call_isX pins s σ H xs us Q I r h) fun h => call_isi pins s σ H xs us Q I r h
  refine ⟨_, pe_callB two hg hm PyProof.Rows.boot_isinstance (pa_cons (pe_var hN hv hd hcd) (pa_cons hT pa_nil he2) he) (he := he) (hpl := hpl), fun C G σ H ρ Q hK S d ρ' hf q => ?_⟩
  unfold mIsX at hf
  cases r : ρ[i]? with
  | none => rw [r] at hf; cases hf
  | some s =>
    rw [r] at hf
    cases s with
    | exc n =>
      dsimp only at hf
      cases hl : tb.lookup n with
      | none => rw [hl] at hf; cases hf
      | some b =>
        rw [hl] at hf
        cases hf
        obtain ⟨a, e1, ha⟩ := x_get S r
        obtain ⟨t1, t2⟩ := tab.own _ (lookup_mem hl)
        exact ⟨_, e1, .inl ⟨a, _, _, _, b, rfl, c.cls, t1, ha, kit_one t2, q _ G H (Same.refl _) S (.bl _)⟩⟩
    | val d' =>
      cases d' with
      | none =>
        cases hf
        exact ⟨_, n_get S r, .inr ⟨.non, _, _, _, false, rfl, c.cls, .base .non, kit_one tab.non, q _ G H (Same.refl _) S (.bl _)⟩⟩
      | _ => cases hf
    | _ => cases hf
theorem pv_isXT {cs : List Cn} {tb : List (Str × Bool)} {x1} (hg : Gl X "isinstance") (hm : X.mg "isinstance" = none) (hT : PA X es (tCns cs)) (tab : IsTab X.K cs tb) (hlen : cs.length ≤ 1000) (hN : X.N[i]? = some x := by rfl)
    (hv : Vis X.env.scope x := by first | exact Or.inl rfl | exact Or.inr (Or.inl rfl) | exact Or.inr (Or.inr rfl)) (hd : (x == ("__debug__" : Str)) = false := by decide) (hcd : (x == ("__classdict__" : Str)) = false := by decide)
    (he : starEach [.Name x p1, .Tuple es x1 tpos] X.env = (false, eval (.Name x p1) X.env) :: starEach [.Tuple es x1 tpos] X.env := by rfl) (he2 : starEach [.Tuple es x1 tpos] X.env = (false, eval (.Tuple es x1 tpos) X.env) :: starEach [] X.env := by rfl) (hpl : (backTo pos (starEach [.Tuple es x1 tpos] X.env)).any (·.1) = false := by rfl) :
    PV X (.Call (.Name "isinstance" p) [.Name x p1, .Tuple es x1 tpos] [] pos) (mIsX i tb) := by
  have two : CallR X (.builtin "isinstance") (fun xs H Q => rIsXT X.K xs H Q ∨ rIsiT X.K xs H Q) := fun pins s σ H xs us Q I r h => h.elim (fun h => call_isXT pins s σ H xs us Q I r h) fun h => call_isiT pins s σ H xs us Q I r h
  refine ⟨_, pe_callB two hg hm PyProof.Rows.boot_isinstance (pa_cons (pe_var hN hv hd hcd) (pa_cons (pe_tup hT) pa_nil he2) he) (he := he) (hpl := hpl), fun C G σ H ρ Q hK S d ρ' hf q => ?_⟩
  have sz : (cs.map Cn.v).length ≤ sizeLine := by rw [List.length_map]; exact Nat.le_trans hlen (by decide)
  unfold mIsX at hf
  cases r : ρ[i]? with
  | none => rw [r] at hf; cases hf
  | some s =>
    rw [r] at hf
    cases s with
    | exc n =>
      dsimp only at hf
      cases hl : tb.lookup n with
      | none => rw [hl] at hf; cases hf
      | some b =>
        rw [hl] at hf
        cases hf
        obtain ⟨a, e1, ha⟩ := x_get S r
        obtain ⟨t1, t2⟩ := tab.own _ (lookup_mem hl)
        refine ⟨_, e1, sz, fun tp htp => ?_⟩
        have w := Grow.newF (o := .tup (cs.map Cn.v)) S.gh htp
        exact .inl ⟨a, _, tp, _, _, b, rfl, upd_same, Cn.all cs, t1, w.h _ _ ha, t2, q _ G _ (Same.refl _) (S.grow w) (.bl _)⟩
    | val d' =>
      cases d' with
      | none =>
        cases hf
        refine ⟨_, n_get S r, sz, fun tp htp => ?_⟩
        have w := Grow.newF (o := .tup (cs.map Cn.v)) S.gh htp
        exact .inr ⟨.non, tp, _, _, _, false, rfl, upd_same, Cn.all cs, .base .non, tab.non, q _ G _ (Same.refl _) (S.grow w) (.bl _)⟩
      | _ => cases hf
    | _ => cases hf
/-- i = j, j a name that holds an exception -/
theorem pst_setX {j : Nat} {y : Str} (hN : X.N.Nodup) (hj : X.N[j]? = some y := by rfl) (hi : X.N[i]? = some x := by rfl) (hx : Loc X.env.scope x := by first | exact Or.inl rfl | exact Or.inr rfl) (hvy : Vis X.env.scope y := by first | exact Or.inl rfl | exact Or.inr (Or.inl rfl) | exact Or.inr (Or.inr rfl))
    (hd : (y == ("__debug__" : Str)) = false := by decide) (hcd : (y == ("__classdict__" : Str)) = false := by decide) (hs : swapsWith (.Name y p1) (some (.Name x pos')) pos.line X.env = pure false := by rfl)
    (hf : X.fn x = true ∨ X.env.scope.names.lookup x = some .local := by first | exact .inl rfl | exact .inr rfl | assumption) : PSt X (.Assign [.Name x pos'] (.Name y p1) pos) (mSetX i j) := by
  refine ⟨_, ps_set hN hi hx (pe_var hj hvy hd hcd) hs hf, fun C G σ H ρ D hK S fl ρ' hm q => ?_⟩
  unfold mSetX at hm
  cases r : ρ[j]? with
  | none => rw [r] at hm; cases hm
  | some s =>
    rw [r] at hm
    cases s with
    | exc n =>
      dsimp only at hm
      by_cases hl : i < ρ.length
      · rw [if_pos hl] at hm
        cases hm
        obtain ⟨o, e1, a, rfl, qa⟩ := S.sl j _ r
        exact ⟨_, e1, q _ G H (Same.refl _) (S.put (s := .exc n) (v := .ref a) hl ⟨a, rfl, qa⟩ fun z => nomatch z)⟩
      · rw [if_neg hl] at hm; cases hm
    | _ => cases hm
theorem isN_x {G H : Hp} {σ : L2.St} {ρ : Env} {C : Ctx} (S : StOk C G σ H ρ) {n : Str} (e : ρ[i]? = some (.exc n)) : ∃ v, σ[i]? = some (some v) ∧ decide (v = V.non) = false := by
  obtain ⟨a, e1, _⟩ := x_get S e
  exact ⟨_, e1, rfl⟩
/-- i is None, i is not None: i a name that may hold an exception -/
theorem pv_isNX {k : Nat} {p3 : Pos} (hN : X.N[i]? = some x := by rfl) (hv : Vis X.env.scope x := by first | exact Or.inl rfl | exact Or.inr (Or.inl rfl) | exact Or.inr (Or.inr rfl)) (hd : (x == ("__debug__" : Str)) = false := by decide) (hcd : (x == ("__classdict__" : Str)) = false := by decide) :
    PV X (.Compare (.Name x p1) [.Is] [.Constant .none k p3] pos) (mNoneX i) := by
  refine ⟨_, pe_cmpR (opOr op_isN (opOr op_isBl op_isO)) (pe_var hN hv hd hcd) pe_non (nomark _), fun C G σ H ρ Q hK S d ρ' hf q => ?_⟩
  unfold mNoneX at hf
  cases r : ρ[i]? with
  | none => rw [r] at hf; cases hf
  | some s =>
    rw [r] at hf
    cases s with
    | exc n =>
      cases hf
      obtain ⟨v, e1, e2⟩ := isN_x S r
      refine ⟨v, e1, .inl ⟨rfl, ?_⟩⟩
      rw [e2]
      exact q _ G H (Same.refl _) S (.bl _)
    | val d' =>
      cases d' with
      | none => cases hf; exact ⟨_, n_get S r, .inl ⟨rfl, q _ G H (Same.refl _) S (.bl _)⟩⟩
      | _ => cases hf
    | _ => cases hf
theorem pv_notNX {k : Nat} {p3 : Pos} (hN : X.N[i]? = some x := by rfl) (hv : Vis X.env.scope x := by first | exact Or.inl rfl | exact Or.inr (Or.inl rfl) | exact Or.inr (Or.inr rfl)) (hd : (x == ("__debug__" : Str)) = false := by decide) (hcd : (x == ("__classdict__" : Str)) = false := by decide) :
    PV X (.Compare (.Name x p1) [.IsNot] [.Constant .none k p3] pos) (mSomeX i) := by
  refine ⟨_, pe_cmpR (opOr op_notN (opOr op_notBl op_notO)) (pe_var hN hv hd hcd) pe_non (nomark _), fun C G σ H ρ Q hK S d ρ' hf q => ?_⟩
  unfold mSomeX at hf
  cases r : ρ[i]? with
  | none => rw [r] at hf; cases hf
  | some s =>
    rw [r] at hf
    cases s with
    | exc n =>
      cases hf
      obtain ⟨v, e1, e2⟩ := isN_x S r
      refine ⟨v, e1, .inl ⟨rfl, ?_⟩⟩
      rw [e2]
      exact q _ G H (Same.refl _) S (.bl _)
    | val d' =>
      cases d' with
      | none => cases hf; exact ⟨_, n_get S r, .inl ⟨rfl, q _ G H (Same.refl _) S (.bl _)⟩⟩
      | _ => cases hf
    | _ => cases hf
end
/-! ### the p-level's rules -/
def xcS : Option Str → Sl
  | some n => .exc n
  | none => .val .none
def isXP (tb : List (Str × Bool)) : Option Str → Option D
  | some n => (tb.lookup n).map .bool
  | none => some (.bool false)
section
variable {ρ : Env} {i j : Nat} {c : Option Str} {n : Str}
def rdX : Option Sl → Option (Option Str)
  | some (.exc n) => some (some n)
  | some (.val .none) => some none
  | _ => none
@[simp] theorem q_rdX_c : rdX (some (xcS c)) = some c := by cases c <;> rfl
@[simp] theorem q_rdX_x : rdX (some (.exc n)) = some (some n) := rfl
@[simp] theorem q_rdX_n : rdX (some (.val .none)) = some none := rfl
@[simp] theorem s_isX (tb : List (Str × Bool)) : mIsX i tb ρ = match rdX ρ[i]? with
    | some c => ofO (isXP tb c) ρ
    | none => .stuck := by
  unfold mIsX
  cases ρ[i]? with
  | none => rfl
  | some s =>
    cases s with
    | exc n => simp only [rdX, isXP]; cases tb.lookup n <;> rfl
    | val d => cases d <;> rfl
    | _ => rfl
@[simp] theorem s_noneX : mNoneX i ρ = match rdX ρ[i]? with
    | some c => .ok (.bool c.isNone) ρ
    | none => .stuck := by
  unfold mNoneX
  cases ρ[i]? with
  | none => rfl
  | some s =>
    cases s with
    | val d => cases d <;> rfl
    | _ => rfl
@[simp] theorem s_someX : mSomeX i ρ = match rdX ρ[i]? with
    | some c => .ok (.bool c.isSome) ρ
    | none => .stuck := by
  unfold mSomeX
  cases ρ[i]? with
  | none => rfl
  | some s =>
    cases s with
    | val d => cases d <;> rfl
    | _ => rfl
@[simp] theorem s_setX : mSetX i j ρ = match ρ[j]? with
    | some (.exc n) => if i < ρ.length then .ok .nx (ρ.set i (xcS (some n))) else .stuck
    | _ => .stuck := by
  unfold mSetX
  cases ρ[j]? with
  | none => rfl
  | some s => cases s <;> rfl
end
end PL
/-! PL40: the p-level of what is raised; the law's walk with the classes' addresses. -/
namespace PL
open PySem PySem.Spec L2
/-- a module's name for a class: its address -/
def clsAt (K : PySem.W.Frag) (n : Str) : Addr := match PySem.W.nsIn K mainGlobals n with
  | some (some (.ref a)) => a
  | _ => 0
theorem clsAt_of {K : PySem.W.Frag} {n : Str} {a : Addr} (h : PySem.W.nsIn K mainGlobals n = some (some (.ref a))) : clsAt K n = a := by
  unfold clsAt
  rw [h]
@[reducible] def kapOf (K : PySem.W.Frag) : Kap := ⟨clsAt K⟩
theorem walk_ofGK {l : PySem.W.OpenLaw} {n k nl : Nat} {q : Program} {loose : List Str} {XP : (Str → Option Value) → Heap → Prop} {YP : World → Heap → Prop} {d : DefRec} {K : Params → PySem.W.Frag} {m : M Fl} {x : Str}
    (hn : l.most = some n) (hn2 : n ≤ sizeLine) (hdf : d.params.defaults = []) (hr : Room k callerA)
    (hY : ∀ (w : World) (h : Heap), YP w h → (K w.params).In h)
    (F : ∀ (w : World) (mg : Str → Option Value) (fa : Addr) (h : Heap), (K w.params).In h → h.Ns mainGlobals mg → mg d.name = some (.ref fa) →
      ∃ fd : FuncData, (∀ (s : Shared) (u : Value), BindsTo s fd ⟨[u], []⟩ [(x, u)]) ∧
        ∀ base : Heap, (K w.params).In base → base.Ns mainGlobals mg → FnG l.prog w (K w.params) mg base k fa fd [x] (@spD (kapOf (K w.params)) (K w.params) 1 nl m))
    (run : ∀ ns : List Int, ns.length ≤ n → ∃ ρ, m (.scr ns :: List.replicate nl .un) = .ok (.rt (.pl (.val (.bool true)))) ρ) :
    PySem.W.WalkO q loose XP YP l.row.toRowW d [] (fun f vs => PySem.call f vs) :=
  @walk_ofG ⟨fun _ => 0⟩ l n k q loose XP YP d K (fun w => @spD (kapOf (K w.params)) (K w.params) 1 nl m) x hn hn2 hdf hr hY F fun w H a ns hl _ hS => let ⟨_, h⟩ := run ns hl; @law_true (kapOf (K w.params)) _ _ _ _ _ _ _ hS h
variable [Kap]
/-! ### what is raised, at the p-level -/
def XR (g : MX) (ρ : Env) (o : Option Str) (T : Env → Prop) : Prop := match o with
  | none => g ρ = none
  | some n => ∃ E, g ρ = some (n, E) ∧ T E
def EvX (ms : List Md) (nl : Nat) (g : MX) (ss : Env) (o : Option Str) : Prop := match o with
  | none => evalX ms nl g ss = none
  | some n => ∃ outs, evalX ms nl g ss = some (n, outs) ∧ outs.length = ms.length
def xch {α : Type} (o : Option Str) (A : Option α) (B : Str → Option α) : Option α := match o with
  | none => A
  | some n => B n
theorem xch_n {α : Type} (A : Option α) (B : Str → Option α) : xch none A B = A := rfl
theorem xch_s {α : Type} (n : Str) (A : Option α) (B : Str → Option α) : xch (some n) A B = B n := rfl
def gMem (ns : List Str) (n : Str) : Option Unit := if n ∈ ns then some () else none
theorem gMem_in {ns : List Str} {n : Str} {u : Unit} (h : gMem ns n = some u) : n ∈ ns := by
  unfold gMem at h
  split at h
  · assumption
  · cases h
def notIo : Md → Bool
  | .io => false
  | _ => true
theorem back_noio {ρ : Env} : ∀ {ms : List Md} {ps : List Pl} {outs : List Sl}, ms.all notIo = true → ms.length = ps.length → outs.length = ms.length → backIo ρ ms ps outs = some ρ
  | [], [], [], _, _, _ => rfl
  | m :: ms, p :: ps, o :: outs, h, h1, h2 => by
    rw [List.all_cons, Bool.and_eq_true] at h
    have e : back1 ρ m p o = some ρ := by
      cases m with
      | io => cases h.1
      | _ => rfl
    show (match back1 ρ m p o with
      | some ρ1 => backIo ρ1 ms ps outs
      | none => none) = some ρ
    rw [e]
    exact back_noio h.2 (Nat.succ.inj h1) (Nat.succ.inj h2)
  | [], _ :: _, _, _, h1, _ => by cases h1
  | _ :: _, [], _, _, h1, _ => by cases h1
  | [], [], _ :: _, _, _, h2 => by cases h2
  | _ :: _, _ :: _, [], _, _, h2 => by cases h2
section
variable {ga gb g : MX} {a m hh : M Fl} {c : M Bool} {ρ ρ1 : Env} {o : Option Str} {n : Str} {T : Env → Prop} {ms : List Md} {nl i : Nat} {ss : Env} {fs : M (List Pl)} {ps : List Pl} {ns : List Str} {Q : Fl → Env → Prop}
theorem xr_no : XR mxNo ρ none T := rfl
theorem xr_raise (h : T ρ) : XR (mxRaise n) ρ (some n) T := ⟨ρ, rfl, h⟩
theorem xr_seq_no (e : a ρ = .ok .nx ρ1) (h : XR gb ρ1 o T) : XR (mxSeq a mxNo gb) ρ o T := by
  have z : mxSeq a mxNo gb ρ = gb ρ1 := by unfold mxSeq mxNo; dsimp only; rw [e]
  unfold XR at h ⊢
  rw [z]
  exact h
theorem xr_seq_end (h : XR ga ρ o T) : XR (mxSeq a ga mxNo) ρ o T := by
  cases o with
  | none =>
    show mxSeq a ga mxNo ρ = none
    unfold mxSeq
    rw [show ga ρ = none from h]
    dsimp only
    cases a ρ with
    | stuck => rfl
    | ok fl ρ2 => cases fl <;> rfl
  | some n =>
    obtain ⟨E, e, t⟩ := h
    exact ⟨E, by unfold mxSeq; rw [e], t⟩
theorem xr_seq_x (h : XR ga ρ (some n) T) : XR (mxSeq a ga gb) ρ (some n) T := by
  obtain ⟨E, e, t⟩ := h
  exact ⟨E, by unfold mxSeq; rw [e], t⟩
theorem xr_seq_n {T2 : Env → Prop} (h : XR ga ρ none T2) (e : a ρ = .ok .nx ρ1) (h2 : XR gb ρ1 o T) : XR (mxSeq a ga gb) ρ o T := by
  have z : mxSeq a ga gb ρ = gb ρ1 := by unfold mxSeq; rw [show ga ρ = none from h, e]
  unfold XR at h2 ⊢
  rw [z]
  exact h2
theorem xr_if_t (e : c ρ = .ok true ρ1) (h : XR ga ρ1 o T) : XR (mxIf c ga gb) ρ o T := by
  have z : mxIf c ga gb ρ = ga ρ1 := by unfold mxIf; rw [e]; rfl
  unfold XR at h ⊢
  rw [z]
  exact h
theorem xr_if_f (e : c ρ = .ok false ρ1) (h : XR gb ρ1 o T) : XR (mxIf c ga gb) ρ o T := by
  have z : mxIf c ga gb ρ = gb ρ1 := by unfold mxIf; rw [e]; rfl
  unfold XR at h ⊢
  rw [z]
  exact h
theorem evx_of (h : XR g (ss ++ List.replicate nl .un) o fun E => ms.length ≤ E.length) : EvX ms nl g ss o := by
  cases o with
  | none => show evalX ms nl g ss = none; unfold evalX; rw [show g _ = none from h]
  | some n =>
    obtain ⟨E, e, t⟩ := h
    exact ⟨E.take ms.length, by unfold evalX; rw [e], by rw [List.length_take]; exact Nat.min_eq_left t⟩
theorem xr_call (e : fs ρ = .ok ps ρ1) (ap : apart ms ps = true) (ar : argSs ρ1 ms ps = some ss) (ni : ms.all notIo = true) (h : EvX ms nl g ss o) (t : T ρ1) : XR (mxCall ms nl g fs) ρ o T := by
  have z : mxCall ms nl g fs ρ = callX ms nl g ps ρ1 := by unfold mxCall; rw [e]
  obtain ⟨l1, l2⟩ := argSs_len ar
  cases o with
  | none =>
    show mxCall ms nl g fs ρ = none
    rw [z]
    unfold callX
    rw [if_pos ap, ar]
    dsimp only
    rw [show evalX ms nl g ss = none from h]
  | some n =>
    obtain ⟨outs, e1, e2⟩ := h
    refine ⟨ρ1, ?_, t⟩
    rw [z]
    unfold callX
    rw [if_pos ap, ar]
    dsimp only
    rw [e1]
    dsimp only
    rw [back_noio ni l1 e2]
theorem run_try_n (x : XR g ρ none T) (h : Run m ρ Q) : Run (mTry ns m g i hh) ρ Q := by
  obtain ⟨fl, ρ', e, q⟩ := h
  exact ⟨fl, ρ', by unfold mTry; rw [show g ρ = none from x]; exact e, q⟩
theorem run_try_x (x : XR g ρ (some n) fun E => E = ρ) (hn : n ∈ ns) (hi : i < ρ.length) (h : Run hh (ρ.set i (.exc n)) fun fl ρ' => fl = .nx ∧ Q .nx (ρ'.set i .un)) : Run (mTry ns m g i hh) ρ Q := by
  obtain ⟨E, e1, rfl⟩ := x
  obtain ⟨fl, ρ', e, rfl, q⟩ := h
  refine ⟨.nx, _, ?_, q⟩
  unfold mTry
  rw [e1]
  dsimp only
  rw [if_pos (by rw [decide_eq_true hn, decide_eq_true hi]; rfl), e]
end
/-- the classes' answers, one exception after another -/
theorem isTab0 {K : PySem.W.Frag} {cs : List Cn} (h : PySem.W.kitAny K (.type "NoneType") (cs.map Cn.u) = some false) : IsTab K cs [] := ⟨(fun q hq => nomatch hq), h⟩
theorem isTabC {K : PySem.W.Frag} {cs : List Cn} {n : Str} {b : Bool} {tb : List (Str × Bool)} (h1 : ExcC K (Kap.κ n)) (h2 : PySem.W.kitAny K (.ref (Kap.κ n)) (cs.map Cn.u) = some b) (h : IsTab K cs tb) : IsTab K cs ((n, b) :: tb) :=
  ⟨fun q hq => by
    rcases List.mem_cons.mp hq with e | e
    · rw [e]; exact ⟨h1, h2⟩
    · exact h.own q e, h.non⟩
/-- a if c else b, one's own again -/
theorem pf_ife {X : Cx} {c a b : Expr} {pos : Pos} {mc : M Bool} {ka kb : M Rv} (hc : PTt X c mc) (ha : PF X a ka) (hb : PF X b kb) : PF X (.IfExp c a b pos) (mIf mc ka kb) := by
  obtain ⟨t, hc, rc⟩ := hc
  obtain ⟨u, ha, ra⟩ := ha
  obtain ⟨w, hb, rb⟩ := hb
  refine ⟨_, pe_ifExp hc ha hb, fun C G σ H ρ Q hK S d ρ' hf q => ?_⟩
  obtain ⟨k, ρ1, h1, hf2⟩ := bnd_ok hf
  refine rc C G σ H ρ _ hK S k ρ1 h1 fun G1 H1 g1 S1 => ?_
  cases k with
  | true => rw [if_pos rfl]; exact ra C G1 σ H1 ρ1 Q hK S1 d ρ' hf2 fun v G2 H2 g2 S2 o => q v G2 H2 (g1.trans g2) S2 o
  | false => rw [if_neg Bool.false_ne_true]; exact rb C G1 σ H1 ρ1 Q hK S1 d ρ' hf2 fun v G2 H2 g2 S2 o => q v G2 H2 (g1.trans g2) S2 o
end PL
set_option maxHeartbeats 2000000
/-! PL41: slices of the script. -/
theorem PySem.boot_ValueError : PySem.bootBuiltins "ValueError" = some (.type "ValueError") := by decide +kernel
namespace PL
open PySem PySem.Spec PyProof.Rows L2
variable [Kap]
def mScr (i : Nat) : M D := fun ρ => match ρ[i]? with
  | some (.scr ns) => .ok (.list (ns.map PyData.int)) ρ
  | _ => .stuck
def mSliceS (i : Nat) (lo hi : Option (M D)) : M Rv := bnd (mScr i) fun d => bnd (mOpt lo) fun l => bnd (mOpt hi) fun h => bnd (ofO (sliceD d l h)) fun bz => ret (rvOf bz)
theorem mScr_ok {i : Nat} {ρ ρ' : Env} {d : D} (h : mScr i ρ = .ok d ρ') : ρ' = ρ ∧ ∃ ns, ρ[i]? = some (.scr ns) ∧ d = .list (ns.map PyData.int) := by
  unfold mScr at h
  split at h
  · rename_i ns e
    cases h
    exact ⟨rfl, ns, e, rfl⟩
  · cases h
section
variable {X : Cx} {x : Str} {p1 p2 pos : Pos}
theorem pf_sliceS (i : Nat) {lo hi : Option Expr} {fl fh : Option (M D)} (hl : POt X lo (mOpt fl)) (hh : POt X hi (mOpt fh)) (hN : X.N[i]? = some x := by rfl) (hv : Vis X.env.scope x := by first | exact Or.inl rfl | exact Or.inr (Or.inl rfl) | exact Or.inr (Or.inr rfl)) (hd : (x == ("__debug__" : Str)) = false := by decide)
    (hcd : (x == ("__classdict__" : Str)) = false := by decide) : PF X (.Subscript (.Name x p1) (.Slice lo hi none p2) pos) (mSliceS i fl fh) := by
  obtain ⟨tl, hl, rl⟩ := hl
  obtain ⟨th, hh, rh⟩ := hh
  refine ⟨_, pe_slice sl_list (pe_var hN hv hd hcd) hl hh, fun C G σ H ρ Q hK S d ρ' hf q => ?_⟩
  obtain ⟨dd, ρ1, h1, hf2⟩ := bnd_ok hf
  obtain ⟨rfl, ns, e, rfl⟩ := mScr_ok h1
  obtain ⟨l, ρ2, h2, hf3⟩ := bnd_ok hf2
  obtain ⟨u, ρ3, h3, hf4⟩ := bnd_ok hf3
  obtain ⟨bz, ρ4, h4, hf5⟩ := bnd_ok hf4
  cases hf5
  obtain ⟨es, rfl⟩ := ofO_ok h4
  cases es
  obtain ⟨a, e1, sq⟩ := scr_at S e
  rw [hK] at sq
  refine ⟨_, e1, ?_⟩
  refine rl C G σ H ρ1 _ hK S l ρ2 h2 fun G2 H2 g2 S2 => ?_
  refine rh C G2 σ H2 ρ2 _ hK S2 u _ h3 fun G3 H3 g3 S3 => ?_
  refine ⟨a, _, rfl, Same.seq S3.bh sq, fun p hp => ?_⟩
  have w := Grow.newF (o := .lst (cutV (ns.map V.int) l u)) S3.gh hp
  exact q _ G3 _ (g2.trans g3) (S3.grow w) (fresh_ok S3 hp w (.lst upd_same (cut_rp (RpA.ints ns))))
end
section
variable {ρ : Env} {i : Nat}
@[simp] theorem s_scr : mScr i ρ = match ρ[i]? with
    | some (.scr ns) => .ok (.list (ns.map PyData.int)) ρ
    | _ => .stuck := rfl
@[simp] theorem s_sliceS (lo hi : Option (M D)) : mSliceS i lo hi ρ = bnd (mScr i) (fun d => bnd (mOpt lo) fun l => bnd (mOpt hi) fun h => bnd (ofO (sliceD d l h)) fun bz => PL.ret (rvOf bz)) ρ := rfl
end
end PL
namespace Y
open PySem PySem.Spec L2 PL RT RZ
variable [kp : PL.Kap]
def topS (i : Nat) : Stmt := PySem.Challenge.pw_boastrow_k24_wishes_told.main.body.getD i (.Pass ⟨0, 0, 0, 0⟩)
abbrev s_stretch_to : Stmt := topS 7
theorem sc_stretch_to : FnScope ["first", "beyond"] ["first", "beyond"] (defScope s_stretch_to) := ⟨rfl, rfl, rfl, by decide +kernel, rfl, by decide +kernel, by decide +kernel⟩
abbrev s_wish_behind : Stmt := topS 8
theorem sc_wish_behind : FnScope ["people", "wish", "least", "most"] ["people", "wish"] (defScope s_wish_behind) := ⟨rfl, rfl, rfl, by decide +kernel, rfl, by decide +kernel, by decide +kernel⟩
abbrev s_handed_on : Stmt := topS 9
theorem sc_handed_on : FnScope ["saying", "wish"] ["saying", "wish"] (defScope s_handed_on) := ⟨rfl, rfl, rfl, by decide +kernel, rfl, by decide +kernel, by decide +kernel⟩
abbrev s_companies_within : Stmt := topS 10
theorem sc_companies_within : FnScope ["people", "saying", "least", "most", "first"] ["people", "saying"] (defScope s_companies_within) := ⟨rfl, rfl, rfl, by decide +kernel, rfl, by decide +kernel, by decide +kernel⟩
abbrev s_is_number : Stmt := topS 12
theorem sc_is_number : FnScope ["thing"] ["thing"] (defScope s_is_number) := ⟨rfl, rfl, rfl, by decide +kernel, rfl, by decide +kernel, by decide +kernel⟩
abbrev s_is_row : Stmt := topS 13
theorem sc_is_row : FnScope ["thing", "saying", "least", "most"] ["thing"] (defScope s_is_row) := ⟨rfl, rfl, rfl, by decide +kernel, rfl, by decide +kernel, by decide +kernel⟩
abbrev s_is_saying : Stmt := topS 14
theorem sc_is_saying : FnScope ["thing"] ["thing"] (defScope s_is_saying) := ⟨rfl, rfl, rfl, by decide +kernel, rfl, by decide +kernel, by decide +kernel⟩
abbrev s_need_number : Stmt := topS 15
theorem sc_need_number : FnScope ["thing"] ["thing"] (defScope s_need_number) := ⟨rfl, rfl, rfl, by decide +kernel, rfl, by decide +kernel, by decide +kernel⟩
abbrev s_need_row : Stmt := topS 16
theorem sc_need_row : FnScope ["thing"] ["thing"] (defScope s_need_row) := ⟨rfl, rfl, rfl, by decide +kernel, rfl, by decide +kernel, by decide +kernel⟩
abbrev s_need_place : Stmt := topS 17
theorem sc_need_place : FnScope ["thing", "places"] ["thing", "places"] (defScope s_need_place) := ⟨rfl, rfl, rfl, by decide +kernel, rfl, by decide +kernel, by decide +kernel⟩
abbrev s_wishes : Stmt := topS 19
theorem sc_wishes : FnScope ["row", "many", "out", "saying"] ["row", "many"] (defScope s_wishes) := ⟨rfl, rfl, rfl, by decide +kernel, rfl, by decide +kernel, by decide +kernel⟩
abbrev s_companies : Stmt := topS 20
theorem sc_companies : FnScope ["row", "total"] ["row", "total"] (defScope s_companies) := ⟨rfl, rfl, rfl, by decide +kernel, rfl, by decide +kernel, by decide +kernel⟩
abbrev s_companies_between : Stmt := topS 21
theorem sc_companies_between : FnScope ["row", "least", "most"] ["row", "least", "most"] (defScope s_companies_between) := ⟨rfl, rfl, rfl, by decide +kernel, rfl, by decide +kernel, by decide +kernel⟩
abbrev s_least_from : Stmt := topS 22
theorem sc_least_from : FnScope ["row", "place", "many"] ["row", "place", "many"] (defScope s_least_from) := ⟨rfl, rfl, rfl, by decide +kernel, rfl, by decide +kernel, by decide +kernel⟩
abbrev s_l_jar : Stmt := topS 24
theorem sc_l_jar : FnScope ["_law_script", "_law_k", "_law_cell"] ["_law_script", "_law_k"] (defScope s_l_jar) := ⟨rfl, rfl, rfl, by decide +kernel, rfl, by decide +kernel, by decide +kernel⟩
abbrev s_l_pour : Stmt := topS 25
theorem sc_l_pour : FnScope ["_law_jar_here", "_law_many", "_law_found", "_law_mixed"] ["_law_jar_here", "_law_many"] (defScope s_l_pour) := ⟨rfl, rfl, rfl, by decide +kernel, rfl, by decide +kernel, by decide +kernel⟩
abbrev s_l_number : Stmt := topS 26
theorem sc_l_number : FnScope ["_law_jar_here", "_law_top"] ["_law_jar_here", "_law_top"] (defScope s_l_number) := ⟨rfl, rfl, rfl, by decide +kernel, rfl, by decide +kernel, by decide +kernel⟩
abbrev s_l_saying : Stmt := topS 27
theorem sc_l_saying : FnScope ["_law_jar_here", "_law_top", "_law_least", "_law_most"] ["_law_jar_here", "_law_top"] (defScope s_l_saying) := ⟨rfl, rfl, rfl, by decide +kernel, rfl, by decide +kernel, by decide +kernel⟩
abbrev s_l_row : Stmt := topS 28
theorem sc_l_row : FnScope ["_law_jar_here", "_law_people", "_law_top", "_law_turn"] ["_law_jar_here", "_law_people", "_law_top"] (defScope s_l_row) := ⟨rfl, rfl, rfl, by decide +kernel, rfl, by decide +kernel, by decide +kernel⟩
abbrev s_l_total : Stmt := topS 29
theorem sc_l_total : FnScope ["_law_row_here", "_law_company", "_law_found", "_law_least", "_law_most"] ["_law_row_here", "_law_company"] (defScope s_l_total) := ⟨rfl, rfl, rfl, by decide +kernel, rfl, by decide +kernel, by decide +kernel⟩
abbrev s_l_handed_on : Stmt := topS 30
theorem sc_l_handed_on : FnScope ["_law_row_here", "_law_many", "_law_found", "_law_least", "_law_most", "_law_leans"] ["_law_row_here", "_law_many"] (defScope s_l_handed_on) := ⟨rfl, rfl, rfl, by decide +kernel, rfl, by decide +kernel, by decide +kernel⟩
abbrev s_l_does : Stmt := topS 31
theorem sc_l_does : FnScope ["_law_row_here", "_law_company", "_law_many"] ["_law_row_here", "_law_company", "_law_many"] (defScope s_l_does) := ⟨rfl, rfl, rfl, by decide +kernel, rfl, by decide +kernel, by decide +kernel⟩
abbrev s_l_between : Stmt := topS 32
theorem sc_l_between : FnScope ["_law_row_here", "_law_least", "_law_most", "_law_some", "_law_company"] ["_law_row_here", "_law_least", "_law_most"] (defScope s_l_between) := ⟨rfl, rfl, rfl, by decide +kernel, rfl, by decide +kernel, by decide +kernel⟩
abbrev s_l_small_right : Stmt := topS 33
theorem sc_l_small_right : FnScope ["_law_jar_here", "_law_row_here", "_law_least", "_law_most", "_law_here"] ["_law_jar_here", "_law_row_here"] (defScope s_l_small_right) := ⟨rfl, rfl, rfl, by decide +kernel, rfl, by decide +kernel, by decide +kernel⟩
abbrev s_l_ends_right : Stmt := topS 34
theorem sc_l_ends_right : FnScope ["_law_row_here", "_law_stretch", "_law_least", "_law_most", "_law_spot", "_law_first", "_law_last"] ["_law_row_here", "_law_stretch", "_law_least", "_law_most"] (defScope s_l_ends_right) := ⟨rfl, rfl, rfl, by decide +kernel, rfl, by decide +kernel, by decide +kernel⟩
abbrev s_l_right : Stmt := topS 35
theorem sc_l_right : FnScope ["_law_jar_here", "_law_row_here", "_law_top", "_law_handed", "_law_kept", "_law_many", "_law_due", "_law_turn", "_law_told", "_law_place", "_law_spot", "_law_found", "_law_most"] ["_law_jar_here", "_law_row_here", "_law_top"] (defScope s_l_right) := ⟨rfl, rfl, rfl, by decide +kernel, rfl, by decide +kernel, by decide +kernel⟩
abbrev s_l_changed_right : Stmt := topS 36
theorem sc_l_changed_right : FnScope ["_law_jar_here", "_law_row_here", "_law_held", "_law_turn", "_law_many", "_law_last"] ["_law_jar_here", "_law_row_here"] (defScope s_l_changed_right) := ⟨rfl, rfl, rfl, by decide +kernel, rfl, by decide +kernel, by decide +kernel⟩
abbrev s_law : Stmt := topS 37
theorem sc_law : FnScope ["_law_script", "_law_k", "_law_jar_here", "_law_turn", "_law_row_here"] ["_law_script"] (defScope s_law) := ⟨rfl, rfl, rfl, by decide +kernel, rfl, by decide +kernel, by decide +kernel⟩
def m_stretch_to : M Fl := (mSeq (mIf (mB (mOp gIs (mVar 1) (mPl (mC .none)))) (mRet (mRv (mPl (mTup (mCons (mFz (mRv (mVar 0))) (mCons (mC .none) mNil)))))) mSkip)
    (mSeq (mIf (mB (mOp gLe (mVar 1) (mVar 0))) (mRet (mRv (mPl (mC .none)))) mSkip)
    (mRet (mRv (mPl (mTup (mCons (mFz (mRv (mVar 0))) (mCons (mOp gSub' (mVar 1) (mPl (mC (.int 1)))) mNil))))))))
def mb_wish_behind_1 : M Fl := (mIf (mAnd (mB (mOp gLt (mVar 2) (mVar 1))) (mOr (mB (mOp gIs (mVar 3) (mPl (mC .none)))) (mB (mOp gLe (mVar 1) (mPl (mFz (mOpX gAdd (mVar 3) (mPl (mC (.int 1)))))))))) (mAug 1 gSub' (mPl (mC (.int 1)))) mSkip)
def m_wish_behind : M Fl := (mSeq (mFor (mIter (mVar 0)) (tTupl (tsCons (tName 2) (tsCons (tName 3) tsNil))) mb_wish_behind_1)
    (mRet (mRv (mVar 1))))
def m_handed_on : M Fl := (mRet (mCall [.b, .v] 2 m_wish_behind (mCons (mPl (mFz (mLst (mCons (mFz (mRv (mVar 0))) mNil)))) (mCons (mPl (mFz (mRv (mVar 1)))) mNil))))
def m_companies_within : M Fl := (mSeq (mAsg (tTupl (tsCons (tName 2) (tsCons (tName 3) tsNil))) (mFz (mRv (mVar 1))))
    (mSeq (mSet 4 (mCall [.b, .v] 2 m_wish_behind (mCons (mVar 0) (mCons (mPl (mFz (mRv (mVar 2)))) mNil))))
    (mSeq (mIf (mB (mOp gIs (mVar 3) (mPl (mC .none)))) (mRet (mCall [.v, .b] 0 m_stretch_to (mCons (mPl (mFz (mRv (mVar 4)))) (mCons (mPl (mC .none)) mNil)))) mSkip)
    (mRet (mCall [.v, .b] 0 m_stretch_to (mCons (mPl (mFz (mRv (mVar 4)))) (mCons (mPl (mFz (mCall [.b, .v] 2 m_wish_behind (mCons (mVar 0) (mCons (mPl (mFz (mOpX gAdd (mVar 3) (mPl (mC (.int 1)))))) mNil))))) mNil)))))))
def m_is_number : M Fl := (mRet (mRv (mPl (mAndV (mUn (gIsi ["int"]) (mVar 0)) (mAndV (mNotV (mUn (gIsi ["bool"]) (mVar 0))) (mOp gGe (mVar 0) (mPl (mC (.int 0)))))))))
def mb_is_row_1 : M Fl := (mSeq (mIf (mOr (mNot (mTr (mPl (mUn (gIsi ["tuple"]) (mVar 1))))) (mB (mOp gNe (mPl (mN gLen (mCons (mVar 1) mNil))) (mPl (mC (.int 2)))))) (mRet (mRv (mPl (mC (.bool false))))) mSkip)
    (mSeq (mAsg (tTupl (tsCons (tName 2) (tsCons (tName 3) tsNil))) (mFz (mRv (mVar 1))))
    (mSeq (mIf (mOr (mNot (mTr (mPl (mUn (gIsi ["int"]) (mVar 2))))) (mOr (mB (mOp gLt (mVar 2) (mPl (mC (.int 0))))) (mOr (mB (mOp gIs (mVar 2) (mPl (mC (.bool true))))) (mB (mOp gIs (mVar 2) (mPl (mC (.bool false)))))))) (mRet (mRv (mPl (mC (.bool false))))) mSkip)
    (mIf (mAnd (mB (mOp gNot (mVar 3) (mPl (mC .none)))) (mOr (mNot (mTr (mPl (mUn (gIsi ["int"]) (mVar 3))))) (mOr (mB (mOp gLt (mVar 3) (mVar 2))) (mOr (mB (mOp gIs (mVar 3) (mPl (mC (.bool true))))) (mB (mOp gIs (mVar 3) (mPl (mC (.bool false))))))))) (mRet (mRv (mPl (mC (.bool false))))) mSkip))))
def m_is_row : M Fl := (mSeq (mIf (mNot (mTr (mPl (mUn (gIsi ["list", "tuple"]) (mVar 0))))) (mRet (mRv (mPl (mC (.bool false))))) mSkip)
    (mSeq (mFor (mIter (mVar 0)) (tName 1) mb_is_row_1)
    (mRet (mRv (mPl (mC (.bool true)))))))
def m_is_saying : M Fl := (mRet (mCall [.b] 3 m_is_row (mCons (mPl (mFz (mLst (mCons (mFz (mRv (mVar 0))) mNil)))) mNil)))
def m_need_number : M Fl := (mIf (mNot (mTr (mPl (mFz (mCall [.b] 0 m_is_number (mCons (mVar 0) mNil)))))) mNever mSkip)
def m_need_row : M Fl := (mIf (mNot (mTr (mPl (mFz (mCall [.b] 3 m_is_row (mCons (mVar 0) mNil)))))) mNever mSkip)
def m_need_place : M Fl := (mIf (mOr (mNot (mTr (mPl (mFz (mCall [.b] 0 m_is_number (mCons (mVar 0) mNil)))))) (mB (mOp gGe (mVar 0) (mVar 1)))) mNever mSkip)
def mb_wishes_1 : M Fl := (mDrop (mMut 2 gAppend (mCons (mFz (mCall [.v, .v] 0 m_handed_on (mCons (mPl (mFz (mRv (mVar 3)))) (mCons (mPl (mOp gIx (mVar 2) (mPl (mNegU (mC (.int 1)))))) mNil)))) mNil)))
def m_wishes : M Fl := (mSeq (mDrop (mFz (mCall [.b] 0 m_need_row (mCons (mVar 0) mNil))))
    (mSeq (mDrop (mFz (mCall [.b] 0 m_need_number (mCons (mVar 1) mNil))))
    (mSeq (mSet 2 (mLst (mCons (mFz (mRv (mVar 1))) mNil)))
    (mSeq (mFor (mIter (mVar 0)) (tName 3) mb_wishes_1)
    (mRet (mRv (mVar 2)))))))
def m_companies : M Fl := (mSeq (mDrop (mFz (mCall [.b] 0 m_need_row (mCons (mVar 0) mNil))))
    (mSeq (mDrop (mFz (mCall [.b] 0 m_need_number (mCons (mVar 1) mNil))))
    (mRet (mCall [.b, .v] 3 m_companies_within (mCons (mVar 0) (mCons (mPl (mTup (mCons (mFz (mRv (mVar 1))) (mCons (mFz (mRv (mVar 1))) mNil)))) mNil))))))
def m_companies_between : M Fl := (mSeq (mDrop (mFz (mCall [.b] 0 m_need_row (mCons (mVar 0) mNil))))
    (mSeq (mIf (mNot (mTr (mPl (mFz (mCall [.v] 0 m_is_saying (mCons (mPl (mTup (mCons (mFz (mRv (mVar 1))) (mCons (mFz (mRv (mVar 2))) mNil)))) mNil)))))) mNever mSkip)
    (mRet (mCall [.b, .v] 3 m_companies_within (mCons (mVar 0) (mCons (mPl (mTup (mCons (mFz (mRv (mVar 1))) (mCons (mFz (mRv (mVar 2))) mNil)))) mNil))))))
def m_least_from : M Fl := (mSeq (mDrop (mFz (mCall [.b] 0 m_need_row (mCons (mVar 0) mNil))))
    (mSeq (mDrop (mFz (mCall [.b, .b] 0 m_need_place (mCons (mVar 1) (mCons (mPl (mFz (mOpX gAdd (mPl (mN gLen (mCons (mVar 0) mNil))) (mPl (mC (.int 1)))))) mNil)))))
    (mSeq (mDrop (mFz (mCall [.b] 0 m_need_number (mCons (mVar 2) mNil))))
    (mRet (mCall [.b, .v] 2 m_wish_behind (mCons (mSliceP (mVar 0) (some (mFz (mRv (mVar 1)))) none) (mCons (mPl (mFz (mRv (mVar 2)))) mNil)))))))
def m_l_jar : M Fl := (mSeq (mSet 2 (mRv (mPl (mIf (mB (mOp gLt (mVar 1) (mPl (mLenS 0)))) (mIxS 0 (mFz (mRv (mVar 1)))) (mC (.int 0))))))
    (mRet (mLst (mCons (mN gMax2 (mCons (mPl (mC (.int 0))) (mCons (mPl (mOp gSub' (mVar 2) (mPl (mOp gPow (mPl (mC (.int 10))) (mPl (mC (.int 18))))))) mNil))) (mCons (mFz (mOpX gAdd (mPl (mFz (mOpX gMul (mPl (mOp gMod (mVar 2) (mPl (mFz (mOpX gAdd (mPl (mOp gPow (mPl (mC (.int 10))) (mPl (mC (.int 35))))) (mPl (mC (.int 69)))))))) (mPl (mC (.int 128)))))) (mVar 1))) (mCons (mC (.int 0)) mNil))))))
def m_l_pour : M Fl := (mSeq (mIf (mB (mOp gGt (mPl (mOp gIx (mVar 0) (mPl (mC (.int 0))))) (mPl (mC (.int 0))))) (mSeq (mSet 2 (mRv (mPl (mOp gMod (mPl (mOp gIx (mVar 0) (mPl (mC (.int 0))))) (mVar 1)))))
    (mSeq (mSetIx 0 (mOp gDiv (mPl (mOp gIx (mVar 0) (mPl (mC (.int 0))))) (mVar 1)) (mC (.int 0)))
    (mRet (mRv (mVar 2))))) mSkip)
    (mSeq (mSetIx 0 (mFz (mOpX gAdd (mPl (mOp gIx (mVar 0) (mPl (mC (.int 2))))) (mPl (mC (.int 1))))) (mC (.int 2)))
    (mSeq (mSet 3 (mRv (mPl (mOp gMod (mPl (mOp gPow (mPl (mFz (mOpX gAdd (mPl (mOp gIx (mVar 0) (mPl (mC (.int 1))))) (mPl (mFz (mOpX gMul (mPl (mC (.int 32452843))) (mPl (mOp gIx (mVar 0) (mPl (mC (.int 2))))))))))) (mPl (mC (.int 3))))) (mPl (mFz (mOpX gAdd (mPl (mOp gPow (mPl (mC (.int 10))) (mPl (mC (.int 37))))) (mPl (mC (.int 43))))))))))
    (mSeq (mSet 3 (mRv (mPl (mOp gMod (mPl (mOp gPow (mPl (mFz (mOpX gAdd (mVar 3) (mPl (mFz (mOpX gMul (mPl (mC (.int 49979687))) (mPl (mOp gIx (mVar 0) (mPl (mC (.int 2))))))))))) (mPl (mC (.int 5))))) (mPl (mFz (mOpX gAdd (mPl (mOp gPow (mPl (mC (.int 10))) (mPl (mC (.int 39))))) (mPl (mC (.int 3))))))))))
    (mRet (mRv (mPl (mOp gMod (mPl (mOp gDiv (mVar 3) (mPl (mC (.int 131071))))) (mVar 1)))))))))
def m_l_number : M Fl := (mRet (mRv (mPl (mOp gIx (mPl (mFz (mLst (mCons (mFz (mCall [.io, .b] 2 m_l_pour (mCons (mVar 0) (mCons (mPl (mC (.int 3))) mNil)))) (mCons (mFz (mCall [.io, .b] 2 m_l_pour (mCons (mVar 0) (mCons (mPl (mC (.int 9))) mNil)))) (mCons (mFz (mCall [.io, .b] 2 m_l_pour (mCons (mVar 0) (mCons (mVar 1) mNil)))) mNil)))))) (mPl (mFz (mCall [.io, .b] 2 m_l_pour (mCons (mVar 0) (mCons (mPl (mC (.int 3))) mNil)))))))))
def m_l_saying : M Fl := (mSeq (mSet 2 (mCall [.io, .b] 0 m_l_number (mCons (mVar 0) (mCons (mVar 1) mNil))))
    (mSeq (mSet 3 (mOpX gAdd (mVar 2) (mPl (mFz (mCall [.io, .b] 0 m_l_number (mCons (mVar 0) (mCons (mVar 1) mNil)))))))
    (mRet (mRv (mPl (mTup (mCons (mFz (mRv (mVar 2))) (mCons (mOp gIx (mPl (mFz (mLst (mCons (mFz (mRv (mVar 3))) (mCons (mFz (mRv (mVar 3))) (mCons (mFz (mRv (mVar 3))) (mCons (mFz (mRv (mVar 3))) (mCons (mC .none) mNil)))))))) (mPl (mFz (mCall [.io, .b] 2 m_l_pour (mCons (mVar 0) (mCons (mPl (mC (.int 5))) mNil)))))) mNil))))))))
def m_l_row : M Fl := (mRet (mLc (mRng1 (mFz (mCall [.io, .b] 2 m_l_pour (mCons (mVar 0) (mCons (mPl (mFz (mOpX gAdd (mVar 1) (mPl (mC (.int 1)))))) mNil))))) (tName 3) [3] mYes (mFz (mCall [.io, .b] 2 m_l_saying (mCons (mVar 0) (mCons (mVar 2) mNil))))))
def mb_l_total_1 : M Fl := (mSet 2 (mOpX gAdd (mVar 2) (mPl (mN gInt1 (mCons (mPl (mAndV (mOp gLe (mVar 3) (mVar 2)) (mOrV (mOp gIs (mVar 4) (mPl (mC .none))) (mOp gLe (mVar 2) (mVar 4))))) mNil)))))
def m_l_total : M Fl := (mSeq (mSet 2 (mRv (mPl (mFz (mRv (mVar 1))))))
    (mSeq (mFor (mIter (mPl (mFz (mFr (mUn gRevs (mVar 0)))))) (tTupl (tsCons (tName 3) (tsCons (tName 4) tsNil))) mb_l_total_1)
    (mRet (mRv (mVar 2)))))
def mb_l_handed_on_1 : M Fl := (mSeq (mSet 5 (mRv (mPl (mAndV (mOp gLt (mVar 3) (mPl (mOp gIx (mVar 2) (mPl (mNegU (mC (.int 1))))))) (mOrV (mOp gIs (mVar 4) (mPl (mC .none))) (mOp gLe (mPl (mOp gSub' (mPl (mOp gIx (mVar 2) (mPl (mNegU (mC (.int 1)))))) (mPl (mC (.int 1))))) (mVar 4)))))))
    (mDrop (mMut 2 gAppend (mCons (mOp gSub' (mPl (mOp gIx (mVar 2) (mPl (mNegU (mC (.int 1)))))) (mPl (mN gInt1 (mCons (mVar 5) mNil)))) mNil))))
def m_l_handed_on : M Fl := (mSeq (mSet 2 (mLst (mCons (mFz (mRv (mVar 1))) mNil)))
    (mSeq (mFor (mIter (mVar 0)) (tTupl (tsCons (tName 3) (tsCons (tName 4) tsNil))) mb_l_handed_on_1)
    (mRet (mRv (mVar 2)))))
def m_l_does : M Fl := (mRet (mRv (mPl (mAndV (mOp gGe (mPl (mFz (mCall [.b, .v] 3 m_l_total (mCons (mVar 0) (mCons (mPl (mFz (mRv (mVar 1)))) mNil))))) (mVar 2)) (mOrV (mOp gEq (mVar 1) (mPl (mC (.int 0)))) (mOp gLt (mPl (mFz (mCall [.b, .v] 3 m_l_total (mCons (mVar 0) (mCons (mPl (mOp gSub' (mVar 1) (mPl (mC (.int 1))))) mNil))))) (mVar 2)))))))
def m_l_between : M Fl := (mSeq (mSet 3 (mLc (mRng1 (mC (.int 61))) (tName 4) [4] (mB (mOp gLe (mVar 1) (mPl (mFz (mCall [.b, .v] 3 m_l_total (mCons (mVar 0) (mCons (mPl (mFz (mRv (mVar 4)))) mNil))))))) (mFz (mRv (mVar 4)))))
    (mSeq (mIf (mB (mOp gNot (mVar 2) (mPl (mC .none)))) (mSet 3 (mLc (mIter (mPl (mFz (mRv (mVar 3))))) (tName 4) [4] (mB (mOp gLe (mPl (mFz (mCall [.b, .v] 3 m_l_total (mCons (mVar 0) (mCons (mPl (mFz (mRv (mVar 4)))) mNil))))) (mVar 2))) (mFz (mRv (mVar 4))))) mSkip)
    (mSeq (mIf (mB (mOp gEq (mVar 3) (mPl (mFz (mLst mNil))))) (mRet (mRv (mPl (mC .none)))) mSkip)
    (mRet (mRv (mPl (mTup (mCons (mOp gIx (mVar 3) (mPl (mC (.int 0)))) (mCons (mIf (mB (mOp gIs (mVar 2) (mPl (mC .none)))) (mC .none) (mOp gIx (mVar 3) (mPl (mNegU (mC (.int 1)))))) mNil)))))))))
def mb_l_small_right_1 : M Fl := (mIf (mB (mOp gNe (mPl (mN gRepr (mCons (mPl (mFz (mCall [.b, .v] 0 m_companies (mCons (mVar 1) (mCons (mPl (mFz (mRv (mVar 4)))) mNil))))) mNil))) (mPl (mN gRepr (mCons (mPl (mFz (mCall [.b, .b, .b] 2 m_l_between (mCons (mVar 1) (mCons (mVar 4) (mCons (mVar 4) mNil)))))) mNil))))) (mRet (mRv (mPl (mC (.bool false))))) mSkip)
def m_l_small_right : M Fl := (mSeq (mSet 2 (mCall [.io, .b] 2 m_l_pour (mCons (mVar 0) (mCons (mPl (mC (.int 40))) mNil))))
    (mSeq (mSet 3 (mRv (mPl (mOp gIx (mPl (mFz (mLst (mCons (mFz (mOpX gAdd (mVar 2) (mPl (mFz (mCall [.io, .b] 0 m_l_number (mCons (mVar 0) (mCons (mPl (mC (.int 9))) mNil))))))) (mCons (mC .none) mNil))))) (mPl (mOp gDiv (mPl (mFz (mCall [.io, .b] 2 m_l_pour (mCons (mVar 0) (mCons (mPl (mC (.int 3))) mNil))))) (mPl (mC (.int 2)))))))))
    (mSeq (mIf (mB (mOp gNe (mPl (mN gRepr (mCons (mPl (mFz (mCall [.b, .v, .v] 0 m_companies_between (mCons (mVar 1) (mCons (mPl (mFz (mRv (mVar 2)))) (mCons (mPl (mFz (mRv (mVar 3)))) mNil)))))) mNil))) (mPl (mN gRepr (mCons (mPl (mFz (mCall [.b, .b, .b] 2 m_l_between (mCons (mVar 1) (mCons (mVar 2) (mCons (mVar 3) mNil)))))) mNil))))) (mRet (mRv (mPl (mC (.bool false))))) mSkip)
    (mSeq (mFor (mRng1 (mC (.int 45))) (tName 4) mb_l_small_right_1)
    (mRet (mRv (mPl (mC (.bool true)))))))))
def m_l_ends_right : M Fl := (mSeq (mIf (mB (mOp gIs (mVar 1) (mPl (mC .none)))) (mSeq (mSet 4 (mRv (mPl (mOp gIx (mPl (mFz (mCall [.b, .v] 4 m_l_handed_on (mCons (mVar 0) (mCons (mPl (mFz (mRv (mVar 2)))) mNil))))) (mPl (mNegU (mC (.int 1))))))))
    (mRet (mRv (mPl (mAndV (mOp gNot (mVar 3) (mPl (mC .none))) (mOp gGt (mPl (mFz (mCall [.b, .v] 3 m_l_total (mCons (mVar 0) (mCons (mPl (mFz (mRv (mVar 4)))) mNil))))) (mVar 3))))))) mSkip)
    (mSeq (mAsg (tTupl (tsCons (tName 5) (tsCons (tName 6) tsNil))) (mFz (mRv (mVar 1))))
    (mSeq (mIf (mOr (mB (mOp gLt (mPl (mFz (mCall [.b, .v] 3 m_l_total (mCons (mVar 0) (mCons (mPl (mFz (mRv (mVar 5)))) mNil))))) (mVar 2))) (mAnd (mB (mOp gGt (mVar 5) (mPl (mC (.int 0))))) (mB (mOp gGe (mPl (mFz (mCall [.b, .v] 3 m_l_total (mCons (mVar 0) (mCons (mPl (mOp gSub' (mVar 5) (mPl (mC (.int 1))))) mNil))))) (mVar 2))))) (mRet (mRv (mPl (mC (.bool false))))) mSkip)
    (mSeq (mIf (mOr (mB (mOp gIs (mVar 3) (mPl (mC .none)))) (mB (mOp gIs (mVar 6) (mPl (mC .none))))) (mRet (mRv (mPl (mAndV (mOp gIs (mVar 3) (mPl (mC .none))) (mOp gIs (mVar 6) (mPl (mC .none))))))) mSkip)
    (mRet (mRv (mPl (mAndV (mOp gLe (mVar 5) (mVar 6)) (mAndV (mOp gLe (mPl (mFz (mCall [.b, .v] 3 m_l_total (mCons (mVar 0) (mCons (mPl (mFz (mRv (mVar 6)))) mNil))))) (mVar 3)) (mOp gGt (mPl (mFz (mCall [.b, .v] 3 m_l_total (mCons (mVar 0) (mCons (mPl (mFz (mOpX gAdd (mVar 6) (mPl (mC (.int 1)))))) mNil))))) (mVar 3)))))))))))
def mb_l_right_1 : M Fl := (mSeq (mSet 8 (mCall [.b, .v] 2 m_wishes (mCons (mVar 3) (mCons (mPl (mFz (mRv (mVar 5)))) mNil))))
    (mSeq (mIf (mOr (mNot (mTr (mPl (mUn (gIsi ["list"]) (mVar 8))))) (mOr (mB (mOp gNe (mPl (mN gRepr (mCons (mVar 8) mNil))) (mPl (mN gRepr (mCons (mVar 6) mNil))))) (mNot (mTr (mPl (mFz (mCall [.b, .v, .b] 0 m_l_does (mCons (mVar 1) (mCons (mPl (mOp gIx (mVar 8) (mPl (mNegU (mC (.int 1)))))) (mCons (mVar 5) mNil)))))))))) (mRet (mRv (mPl (mC (.bool false))))) mSkip)
    (mDrop (mMut 8 gAppend (mCons (mC (.int 1)) mNil)))))
def mb_l_right_2 : M Fl := (mSeq (mSet 11 (mCall [.b, .b, .v] 0 m_least_from (mCons (mVar 3) (mCons (mVar 10) (mCons (mPl (mFz (mRv (mVar 5)))) mNil)))))
    (mIf (mOr (mB (mOp gNe (mPl (mN gRepr (mCons (mVar 11) mNil))) (mPl (mN gRepr (mCons (mPl (mOp gIx (mPl (mFz (mCall [.b, .v] 4 m_l_handed_on (mCons (mSliceP (mVar 1) (some (mFz (mRv (mVar 10)))) none) (mCons (mPl (mFz (mRv (mVar 5)))) mNil))))) (mPl (mNegU (mC (.int 1)))))) mNil))))) (mNot (mTr (mPl (mFz (mCall [.b, .v, .b] 0 m_l_does (mCons (mSliceP (mVar 1) (some (mFz (mRv (mVar 10)))) none) (mCons (mPl (mFz (mRv (mVar 11)))) (mCons (mVar 5) mNil))))))))) (mRet (mRv (mPl (mC (.bool false))))) mSkip))
def m_l_right : M Fl := (mSeq (mSet 3 (mRv (mPl (mOp gIx (mPl (mFz (mLst (mCons (mFz (mFr (mN gList (mCons (mVar 1) mNil)))) (mCons (mN gTuple (mCons (mVar 1) mNil)) mNil))))) (mPl (mFz (mCall [.io, .b] 2 m_l_pour (mCons (mVar 0) (mCons (mPl (mC (.int 2))) mNil)))))))))
    (mSeq (mSet 4 (mRv (mPl (mN gRepr (mCons (mVar 3) mNil)))))
    (mSeq (mSet 5 (mCall [.io, .b] 0 m_l_number (mCons (mVar 0) (mCons (mVar 2) mNil))))
    (mSeq (mSet 6 (mCall [.b, .v] 4 m_l_handed_on (mCons (mVar 1) (mCons (mPl (mFz (mRv (mVar 5)))) mNil))))
    (mSeq (mFor (mRng1 (mC (.int 2))) (tName 7) mb_l_right_1)
    (mSeq (mSet 9 (mCall [.io, .b] 2 m_l_pour (mCons (mVar 0) (mCons (mPl (mFz (mOpX gAdd (mPl (mN gLen (mCons (mVar 1) mNil))) (mPl (mC (.int 1)))))) mNil))))
    (mSeq (mFor (mIter (mPl (mFz (mLst (mCons (mC (.int 0)) (mCons (mFz (mRv (mVar 9))) (mCons (mN gLen (mCons (mVar 1) mNil)) mNil))))))) (tName 10) mb_l_right_2)
    (mSeq (mSet 12 (mRv (mPl (mOp gIx (mPl (mFz (mLst (mCons (mFz (mOpX gAdd (mVar 5) (mPl (mFz (mCall [.io, .b] 0 m_l_number (mCons (mVar 0) (mCons (mPl (mFz (mOpX gMul (mPl (mC (.int 5))) (mPl (mOp gPow (mPl (mC (.int 10))) (mPl (mC (.int 29)))))))) mNil))))))) (mCons (mC .none) mNil))))) (mPl (mOp gDiv (mPl (mFz (mCall [.io, .b] 2 m_l_pour (mCons (mVar 0) (mCons (mPl (mC (.int 4))) mNil))))) (mPl (mC (.int 3)))))))))
    (mSeq (mIf (mNot (mTr (mPl (mFz (mCall [.b, .v, .v, .b] 3 m_l_ends_right (mCons (mVar 1) (mCons (mPl (mFz (mCall [.b, .v, .v] 0 m_companies_between (mCons (mVar 3) (mCons (mPl (mFz (mRv (mVar 5)))) (mCons (mPl (mFz (mRv (mVar 12)))) mNil)))))) (mCons (mPl (mFz (mRv (mVar 5)))) (mCons (mVar 12) mNil))))))))) (mRet (mRv (mPl (mC (.bool false))))) mSkip)
    (mRet (mRv (mPl (mAndV (mFz (mCall [.b, .v, .v, .b] 3 m_l_ends_right (mCons (mVar 1) (mCons (mPl (mFz (mCall [.b, .v] 0 m_companies (mCons (mVar 3) (mCons (mPl (mFz (mRv (mVar 5)))) mNil))))) (mCons (mPl (mFz (mRv (mVar 5)))) (mCons (mVar 5) mNil)))))) (mOp gEq (mPl (mN gRepr (mCons (mVar 3) mNil))) (mVar 4)))))))))))))))
def mb_l_changed_right_1 : M Fl := (mSeq (mSet 4 (mCall [.io, .b] 2 m_l_pour (mCons (mVar 0) (mCons (mPl (mC (.int 30))) mNil))))
    (mSeq (mSet 5 (mRv (mPl (mOp gIx (mPl (mFz (mCall [.b, .v] 4 m_l_handed_on (mCons (mVar 2) (mCons (mPl (mFz (mRv (mVar 4)))) mNil))))) (mPl (mNegU (mC (.int 1))))))))
    (mSeq (mIf (mOr (mB (mOp gNe (mPl (mFz (mCall [.b, .v] 2 m_wishes (mCons (mVar 2) (mCons (mPl (mFz (mRv (mVar 4)))) mNil))))) (mPl (mFz (mCall [.b, .v] 4 m_l_handed_on (mCons (mVar 2) (mCons (mPl (mFz (mRv (mVar 4)))) mNil))))))) (mB (mOp gNe (mPl (mFz (mCall [.b, .b, .v] 0 m_least_from (mCons (mVar 2) (mCons (mPl (mC (.int 0))) (mCons (mPl (mFz (mRv (mVar 4)))) mNil)))))) (mVar 5)))) (mRet (mRv (mPl (mC (.bool false))))) mSkip)
    (mSeq (mIf (mNot (mTr (mPl (mFz (mCall [.io, .b] 3 m_l_small_right (mCons (mVar 0) (mCons (mVar 2) mNil))))))) (mRet (mRv (mPl (mC (.bool false))))) mSkip)
    (mSeq (mDrop (mMut 2 gInsert (mCons (mFz (mCall [.io, .b] 2 m_l_pour (mCons (mVar 0) (mCons (mPl (mFz (mOpX gAdd (mPl (mN gLen (mCons (mVar 2) mNil))) (mPl (mC (.int 1)))))) mNil)))) (mCons (mFz (mCall [.io, .b] 2 m_l_saying (mCons (mVar 0) (mCons (mPl (mC (.int 9))) mNil)))) mNil))))
    (mIf (mB (mOp gEq (mVar 3) (mPl (mC (.int 1))))) (mDrop (mMut 2 gPopAt (mCons (mC (.int 0)) mNil))) mSkip))))))
def m_l_changed_right : M Fl := (mSeq (mSet 2 (mFr (mN gList (mCons (mVar 1) mNil))))
    (mSeq (mFor (mRng1 (mC (.int 3))) (tName 3) mb_l_changed_right_1)
    (mRet (mRv (mPl (mC (.bool true)))))))
def mb_law_1 : M Fl := (mSeq (mSet 4 (mCall [.io, .b, .b] 1 m_l_row (mCons (mVar 2) (mCons (mPl (mC (.int 10))) (mCons (mPl (mC (.int 9))) mNil)))))
    (mIf (mOr (mNot (mTr (mPl (mFz (mCall [.io, .b, .b] 10 m_l_right (mCons (mVar 2) (mCons (mVar 4) (mCons (mPl (mC (.int 40))) mNil)))))))) (mOr (mNot (mTr (mPl (mFz (mCall [.io, .b] 3 m_l_small_right (mCons (mVar 2) (mCons (mVar 4) mNil))))))) (mNot (mTr (mPl (mFz (mCall [.io, .b] 4 m_l_changed_right (mCons (mVar 2) (mCons (mVar 4) mNil))))))))) (mRet (mRv (mPl (mC (.bool false))))) mSkip))
def mb_law_2 : M Fl := (mSeq (mSet 2 (mCall [.s, .b] 1 m_l_jar (mCons (mVar 0) (mCons (mVar 1) mNil))))
    (mSeq (mFor (mRng1 (mC (.int 2))) (tName 3) mb_law_1)
    (mSeq (mSet 4 (mCall [.io, .b, .b] 1 m_l_row (mCons (mVar 2) (mCons (mPl (mC (.int 60))) (mCons (mPl (mOp gIx (mPl (mFz (mLst (mCons (mC (.int 70)) (mCons (mFz (mOpX gMul (mPl (mC (.int 5))) (mPl (mOp gPow (mPl (mC (.int 10))) (mPl (mC (.int 29))))))) mNil))))) (mPl (mFz (mCall [.io, .b] 2 m_l_pour (mCons (mVar 2) (mCons (mPl (mC (.int 2))) mNil))))))) mNil)))))
    (mIf (mNot (mTr (mPl (mFz (mCall [.io, .b, .b] 10 m_l_right (mCons (mVar 2) (mCons (mVar 4) (mCons (mPl (mOp gIx (mPl (mFz (mLst (mCons (mC (.int 70)) (mCons (mFz (mOpX gMul (mPl (mC (.int 5))) (mPl (mOp gPow (mPl (mC (.int 10))) (mPl (mC (.int 29))))))) mNil))))) (mPl (mFz (mCall [.io, .b] 2 m_l_pour (mCons (mVar 2) (mCons (mPl (mC (.int 2))) mNil))))))) mNil)))))))) (mRet (mRv (mPl (mC (.bool false))))) mSkip))))
def m_law : M Fl := (mSeq (mFor (mRng1 (mN gMax2 (mCons (mPl (mC (.int 1))) (mCons (mPl (mN gMin2 (mCons (mPl (mC (.int 6))) (mCons (mPl (mLenS 0)) mNil)))) mNil)))) (tName 1) mb_law_2)
    (mRet (mRv (mPl (mC (.bool true))))))
structure Tx (K : PySem.W.Frag) (mg : Str → Option Value) (a_stretch_to : Addr) (d_stretch_to : FuncData) (a_wish_behind : Addr) (d_wish_behind : FuncData) (a_handed_on : Addr) (d_handed_on : FuncData) (a_companies_within : Addr) (d_companies_within : FuncData) (a_is_number : Addr) (d_is_number : FuncData) (a_is_row : Addr) (d_is_row : FuncData) (a_is_saying : Addr) (d_is_saying : FuncData) (a_need_number : Addr) (d_need_number : FuncData) (a_need_row : Addr) (d_need_row : FuncData) (a_need_place : Addr) (d_need_place : FuncData) (a_wishes : Addr) (d_wishes : FuncData) (a_companies : Addr) (d_companies : FuncData) (a_companies_between : Addr) (d_companies_between : FuncData) (a_least_from : Addr) (d_least_from : FuncData) (a_l_jar : Addr) (d_l_jar : FuncData) (a_l_pour : Addr) (d_l_pour : FuncData) (a_l_number : Addr) (d_l_number : FuncData) (a_l_saying : Addr) (d_l_saying : FuncData) (a_l_row : Addr) (d_l_row : FuncData) (a_l_total : Addr) (d_l_total : FuncData) (a_l_handed_on : Addr) (d_l_handed_on : FuncData) (a_l_does : Addr) (d_l_does : FuncData) (a_l_between : Addr) (d_l_between : FuncData) (a_l_small_right : Addr) (d_l_small_right : FuncData) (a_l_ends_right : Addr) (d_l_ends_right : FuncData) (a_l_right : Addr) (d_l_right : FuncData) (a_l_changed_right : Addr) (d_l_changed_right : FuncData) (a_law : Addr) (d_law : FuncData) : Prop where
  n_bool : mg "bool" = none
  n_int : mg "int" = none
  n_isinstance : mg "isinstance" = none
  n_len : mg "len" = none
  n_list : mg "list" = none
  n_max : mg "max" = none
  n_min : mg "min" = none
  n_range : mg "range" = none
  n_repr : mg "repr" = none
  n_tuple : mg "tuple" = none
  f_stretch_to : Fun K "stretch_to" "stretch_to" s_stretch_to a_stretch_to d_stretch_to
  g_stretch_to : mg "stretch_to" = some (.ref a_stretch_to)
  b_stretch_to : Binds K d_stretch_to ["first", "beyond"] []
  f_wish_behind : Fun K "wish_behind" "wish_behind" s_wish_behind a_wish_behind d_wish_behind
  g_wish_behind : mg "wish_behind" = some (.ref a_wish_behind)
  b_wish_behind : Binds K d_wish_behind ["people", "wish"] []
  f_handed_on : Fun K "handed_on" "handed_on" s_handed_on a_handed_on d_handed_on
  g_handed_on : mg "handed_on" = some (.ref a_handed_on)
  b_handed_on : Binds K d_handed_on ["saying", "wish"] []
  f_companies_within : Fun K "companies_within" "companies_within" s_companies_within a_companies_within d_companies_within
  g_companies_within : mg "companies_within" = some (.ref a_companies_within)
  b_companies_within : Binds K d_companies_within ["people", "saying"] []
  f_is_number : Fun K "is_number" "is_number" s_is_number a_is_number d_is_number
  g_is_number : mg "is_number" = some (.ref a_is_number)
  b_is_number : Binds K d_is_number ["thing"] []
  f_is_row : Fun K "is_row" "is_row" s_is_row a_is_row d_is_row
  g_is_row : mg "is_row" = some (.ref a_is_row)
  b_is_row : Binds K d_is_row ["thing"] []
  f_is_saying : Fun K "is_saying" "is_saying" s_is_saying a_is_saying d_is_saying
  g_is_saying : mg "is_saying" = some (.ref a_is_saying)
  b_is_saying : Binds K d_is_saying ["thing"] []
  f_need_number : Fun K "need_number" "need_number" s_need_number a_need_number d_need_number
  g_need_number : mg "need_number" = some (.ref a_need_number)
  b_need_number : Binds K d_need_number ["thing"] []
  f_need_row : Fun K "need_row" "need_row" s_need_row a_need_row d_need_row
  g_need_row : mg "need_row" = some (.ref a_need_row)
  b_need_row : Binds K d_need_row ["thing"] []
  f_need_place : Fun K "need_place" "need_place" s_need_place a_need_place d_need_place
  g_need_place : mg "need_place" = some (.ref a_need_place)
  b_need_place : Binds K d_need_place ["thing", "places"] []
  f_wishes : Fun K "wishes" "wishes" s_wishes a_wishes d_wishes
  g_wishes : mg "wishes" = some (.ref a_wishes)
  b_wishes : Binds K d_wishes ["row", "many"] []
  f_companies : Fun K "companies" "companies" s_companies a_companies d_companies
  g_companies : mg "companies" = some (.ref a_companies)
  b_companies : Binds K d_companies ["row", "total"] []
  f_companies_between : Fun K "companies_between" "companies_between" s_companies_between a_companies_between d_companies_between
  g_companies_between : mg "companies_between" = some (.ref a_companies_between)
  b_companies_between : Binds K d_companies_between ["row", "least", "most"] []
  f_least_from : Fun K "least_from" "least_from" s_least_from a_least_from d_least_from
  g_least_from : mg "least_from" = some (.ref a_least_from)
  b_least_from : Binds K d_least_from ["row", "place", "many"] []
  f_l_jar : Fun K "_law_jar" "_law_jar" s_l_jar a_l_jar d_l_jar
  g_l_jar : mg "_law_jar" = some (.ref a_l_jar)
  b_l_jar : Binds K d_l_jar ["_law_script", "_law_k"] []
  f_l_pour : Fun K "_law_pour" "_law_pour" s_l_pour a_l_pour d_l_pour
  g_l_pour : mg "_law_pour" = some (.ref a_l_pour)
  b_l_pour : Binds K d_l_pour ["_law_jar_here", "_law_many"] []
  f_l_number : Fun K "_law_number" "_law_number" s_l_number a_l_number d_l_number
  g_l_number : mg "_law_number" = some (.ref a_l_number)
  b_l_number : Binds K d_l_number ["_law_jar_here", "_law_top"] []
  f_l_saying : Fun K "_law_saying" "_law_saying" s_l_saying a_l_saying d_l_saying
  g_l_saying : mg "_law_saying" = some (.ref a_l_saying)
  b_l_saying : Binds K d_l_saying ["_law_jar_here", "_law_top"] []
  f_l_row : Fun K "_law_row" "_law_row" s_l_row a_l_row d_l_row
  g_l_row : mg "_law_row" = some (.ref a_l_row)
  b_l_row : Binds K d_l_row ["_law_jar_here", "_law_people", "_law_top"] []
  f_l_total : Fun K "_law_total" "_law_total" s_l_total a_l_total d_l_total
  g_l_total : mg "_law_total" = some (.ref a_l_total)
  b_l_total : Binds K d_l_total ["_law_row_here", "_law_company"] []
  f_l_handed_on : Fun K "_law_handed_on" "_law_handed_on" s_l_handed_on a_l_handed_on d_l_handed_on
  g_l_handed_on : mg "_law_handed_on" = some (.ref a_l_handed_on)
  b_l_handed_on : Binds K d_l_handed_on ["_law_row_here", "_law_many"] []
  f_l_does : Fun K "_law_does" "_law_does" s_l_does a_l_does d_l_does
  g_l_does : mg "_law_does" = some (.ref a_l_does)
  b_l_does : Binds K d_l_does ["_law_row_here", "_law_company", "_law_many"] []
  f_l_between : Fun K "_law_between" "_law_between" s_l_between a_l_between d_l_between
  g_l_between : mg "_law_between" = some (.ref a_l_between)
  b_l_between : Binds K d_l_between ["_law_row_here", "_law_least", "_law_most"] []
  f_l_small_right : Fun K "_law_small_right" "_law_small_right" s_l_small_right a_l_small_right d_l_small_right
  g_l_small_right : mg "_law_small_right" = some (.ref a_l_small_right)
  b_l_small_right : Binds K d_l_small_right ["_law_jar_here", "_law_row_here"] []
  f_l_ends_right : Fun K "_law_ends_right" "_law_ends_right" s_l_ends_right a_l_ends_right d_l_ends_right
  g_l_ends_right : mg "_law_ends_right" = some (.ref a_l_ends_right)
  b_l_ends_right : Binds K d_l_ends_right ["_law_row_here", "_law_stretch", "_law_least", "_law_most"] []
  f_l_right : Fun K "_law_right" "_law_right" s_l_right a_l_right d_l_right
  g_l_right : mg "_law_right" = some (.ref a_l_right)
  b_l_right : Binds K d_l_right ["_law_jar_here", "_law_row_here", "_law_top"] []
  f_l_changed_right : Fun K "_law_changed_right" "_law_changed_right" s_l_changed_right a_l_changed_right d_l_changed_right
  g_l_changed_right : mg "_law_changed_right" = some (.ref a_l_changed_right)
  b_l_changed_right : Binds K d_l_changed_right ["_law_jar_here", "_law_row_here"] []
  f_law : Fun K "law" "law" s_law a_law d_law
  g_law : mg "law" = some (.ref a_law)
  b_law : Binds K d_law ["_law_script"] []
section
variable {P : Program} {w : World} {K : PySem.W.Frag} {mg : Str → Option Value} {base : Heap} {a_stretch_to a_wish_behind a_handed_on a_companies_within a_is_number a_is_row a_is_saying a_need_number a_need_row a_need_place a_wishes a_companies a_companies_between a_least_from a_l_jar a_l_pour a_l_number a_l_saying a_l_row a_l_total a_l_handed_on a_l_does a_l_between a_l_small_right a_l_ends_right a_l_right a_l_changed_right a_law : Addr} {d_stretch_to d_wish_behind d_handed_on d_companies_within d_is_number d_is_row d_is_saying d_need_number d_need_row d_need_place d_wishes d_companies d_companies_between d_least_from d_l_jar d_l_pour d_l_number d_l_saying d_l_row d_l_total d_l_handed_on d_l_does d_l_between d_l_small_right d_l_ends_right d_l_right d_l_changed_right d_law : FuncData}
theorem ok_stretch_to (T : Tx K mg a_stretch_to d_stretch_to a_wish_behind d_wish_behind a_handed_on d_handed_on a_companies_within d_companies_within a_is_number d_is_number a_is_row d_is_row a_is_saying d_is_saying a_need_number d_need_number a_need_row d_need_row a_need_place d_need_place a_wishes d_wishes a_companies d_companies a_companies_between d_companies_between a_least_from d_least_from a_l_jar d_l_jar a_l_pour d_l_pour a_l_number d_l_number a_l_saying d_l_saying a_l_row d_l_row a_l_total d_l_total a_l_handed_on d_l_handed_on a_l_does d_l_does a_l_between d_l_between a_l_small_right d_l_small_right a_l_ends_right d_l_ends_right a_l_right d_l_right a_l_changed_right d_l_changed_right a_law d_law) : FnG P w K mg base 1 a_stretch_to d_stretch_to ["first", "beyond"] (spD K 2 0 m_stretch_to) :=
  fnG_pl T.f_stretch_to sc_stretch_to rfl rfl fun cdv A outer s H E hG hr => have sc := sc_stretch_to; (psts_cons (pst_if (pt_is (pp_name 1) (pp_of pv_non)) (psts_one (pst_ret (pf_of (pp_of (pv_tup (pvs_cons (pv_of (pf_of (pp_name 0))) (pvs_cons pv_non pvs_nil))))))) psts_nil)
      (psts_cons (pst_if (pt_le (pp_name 1) (pp_name 0)) (psts_one (pst_ret (pf_of (pp_of pv_non)))) psts_nil)
      (psts_one (pst_ret (pf_of (pp_of (pv_tup (pvs_cons (pv_of (pf_of (pp_name 0))) (pvs_cons (pv_sub (pp_name 1) (pp_of pv_int)) pvs_nil)))))))))
theorem ok_wish_behind (T : Tx K mg a_stretch_to d_stretch_to a_wish_behind d_wish_behind a_handed_on d_handed_on a_companies_within d_companies_within a_is_number d_is_number a_is_row d_is_row a_is_saying d_is_saying a_need_number d_need_number a_need_row d_need_row a_need_place d_need_place a_wishes d_wishes a_companies d_companies a_companies_between d_companies_between a_least_from d_least_from a_l_jar d_l_jar a_l_pour d_l_pour a_l_number d_l_number a_l_saying d_l_saying a_l_row d_l_row a_l_total d_l_total a_l_handed_on d_l_handed_on a_l_does d_l_does a_l_between d_l_between a_l_small_right d_l_small_right a_l_ends_right d_l_ends_right a_l_right d_l_right a_l_changed_right d_l_changed_right a_law d_law) : FnG P w K mg base 1 a_wish_behind d_wish_behind ["people", "wish"] (spD K 2 2 m_wish_behind) :=
  fnG_pl T.f_wish_behind sc_wish_behind rfl rfl fun cdv A outer s H E hG hr => have sc := sc_wish_behind; (psts_cons (pst_for PassesOwn.never rfl (pit_seq (pp_name 0)) (pgt_tup rfl (pgts_cons (pgt_name (i := 2) sc.nd) (pgts_cons (pgt_name (i := 3) sc.nd) pgts_nil)) rfl (tsCons_len (tsCons_len tsNil_len))) (psts_one (pst_if (pt_of (pwt_and (pt_lt (pp_name 2) (pp_name 1)) (pwt_and1 (pt_of (pwt_or (pt_is (pp_name 3) (pp_of pv_non)) (pwt_or1 (pt_le (pp_name 1) (pp_of (pv_of (pf_add (pp_name 3) (pp_of pv_int))))))))))) (psts_one (pst_aug (i := 1) ip_sub pop_ip sc.nd (pp_of pv_int))) psts_nil)))
      (psts_one (pst_ret (pf_of (pp_name 1)))))
theorem ok_handed_on (T : Tx K mg a_stretch_to d_stretch_to a_wish_behind d_wish_behind a_handed_on d_handed_on a_companies_within d_companies_within a_is_number d_is_number a_is_row d_is_row a_is_saying d_is_saying a_need_number d_need_number a_need_row d_need_row a_need_place d_need_place a_wishes d_wishes a_companies d_companies a_companies_between d_companies_between a_least_from d_least_from a_l_jar d_l_jar a_l_pour d_l_pour a_l_number d_l_number a_l_saying d_l_saying a_l_row d_l_row a_l_total d_l_total a_l_handed_on d_l_handed_on a_l_does d_l_does a_l_between d_l_between a_l_small_right d_l_small_right a_l_ends_right d_l_ends_right a_l_right d_l_right a_l_changed_right d_l_changed_right a_law d_law) : FnG P w K mg base 2 a_handed_on d_handed_on ["saying", "wish"] (spD K 2 0 m_handed_on) :=
  fnG_pl T.f_handed_on sc_handed_on rfl rfl fun cdv A outer s H E hG hr => have sc := sc_handed_on; (psts_one (pst_ret (pf_callG (ok_wish_behind T) hG (hr.mono (by decide)) (by rfl) T.g_wish_behind T.f_wish_behind.kp T.b_wish_behind (pps_cons' (pp_of (pv_of (pf_lst (pvs_cons (pv_of (pf_of (pp_name 0))) pvs_nil)))) (pps_cons' (pp_of (pv_of (pf_of (pp_name 1)))) pps_nil')) (ms := [.b, .v]) rfl)))
theorem ok_companies_within (T : Tx K mg a_stretch_to d_stretch_to a_wish_behind d_wish_behind a_handed_on d_handed_on a_companies_within d_companies_within a_is_number d_is_number a_is_row d_is_row a_is_saying d_is_saying a_need_number d_need_number a_need_row d_need_row a_need_place d_need_place a_wishes d_wishes a_companies d_companies a_companies_between d_companies_between a_least_from d_least_from a_l_jar d_l_jar a_l_pour d_l_pour a_l_number d_l_number a_l_saying d_l_saying a_l_row d_l_row a_l_total d_l_total a_l_handed_on d_l_handed_on a_l_does d_l_does a_l_between d_l_between a_l_small_right d_l_small_right a_l_ends_right d_l_ends_right a_l_right d_l_right a_l_changed_right d_l_changed_right a_law d_law) : FnG P w K mg base 2 a_companies_within d_companies_within ["people", "saying"] (spD K 2 3 m_companies_within) :=
  fnG_pl T.f_companies_within sc_companies_within rfl rfl fun cdv A outer s H E hG hr => have sc := sc_companies_within; (psts_cons (pst_asg (pv_of (pf_of (pp_name 1))) (pgt_tup rfl (pgts_cons (pgt_name (i := 2) sc.nd) (pgts_cons (pgt_name (i := 3) sc.nd) pgts_nil)) rfl (tsCons_len (tsCons_len tsNil_len))))
      (psts_cons (pst_set (i := 4) sc.nd (pf_callG (ok_wish_behind T) hG (hr.mono (by decide)) (by rfl) T.g_wish_behind T.f_wish_behind.kp T.b_wish_behind (pps_cons' (pp_name 0) (pps_cons' (pp_of (pv_of (pf_of (pp_name 2)))) pps_nil')) (ms := [.b, .v]) rfl))
      (psts_cons (pst_if (pt_is (pp_name 3) (pp_of pv_non)) (psts_one (pst_ret (pf_callG (ok_stretch_to T) hG (hr.mono (by decide)) (by rfl) T.g_stretch_to T.f_stretch_to.kp T.b_stretch_to (pps_cons' (pp_of (pv_of (pf_of (pp_name 4)))) (pps_cons' (pp_of pv_non) pps_nil')) (ms := [.v, .b]) rfl))) psts_nil)
      (psts_one (pst_ret (pf_callG (ok_stretch_to T) hG (hr.mono (by decide)) (by rfl) T.g_stretch_to T.f_stretch_to.kp T.b_stretch_to (pps_cons' (pp_of (pv_of (pf_of (pp_name 4)))) (pps_cons' (pp_of (pv_of (pf_callG (ok_wish_behind T) hG (hr.mono (by decide)) (by rfl) T.g_wish_behind T.f_wish_behind.kp T.b_wish_behind (pps_cons' (pp_name 0) (pps_cons' (pp_of (pv_of (pf_add (pp_name 3) (pp_of pv_int)))) pps_nil')) (ms := [.b, .v]) rfl))) pps_nil')) (ms := [.v, .b]) rfl))))))
theorem ok_is_number (T : Tx K mg a_stretch_to d_stretch_to a_wish_behind d_wish_behind a_handed_on d_handed_on a_companies_within d_companies_within a_is_number d_is_number a_is_row d_is_row a_is_saying d_is_saying a_need_number d_need_number a_need_row d_need_row a_need_place d_need_place a_wishes d_wishes a_companies d_companies a_companies_between d_companies_between a_least_from d_least_from a_l_jar d_l_jar a_l_pour d_l_pour a_l_number d_l_number a_l_saying d_l_saying a_l_row d_l_row a_l_total d_l_total a_l_handed_on d_l_handed_on a_l_does d_l_does a_l_between d_l_between a_l_small_right d_l_small_right a_l_ends_right d_l_ends_right a_l_right d_l_right a_l_changed_right d_l_changed_right a_law d_law) : FnG P w K mg base 1 a_is_number d_is_number ["thing"] (spD K 1 0 m_is_number) :=
  fnG_pl T.f_is_number sc_is_number rfl rfl fun cdv A outer s H E hG hr => have sc := sc_is_number; (psts_one (pst_ret (pf_of (pp_of (pv_and (pv_isi (by rfl) T.n_isinstance (pp_name 0) (pe_ty (by rfl) T.n_int PyProof.Rows.boot_int) (by decide)) (pv_and (pv_not (pv_isi (by rfl) T.n_isinstance (pp_name 0) (pe_ty (by rfl) T.n_bool PyProof.Rows.boot_bool) (by decide))) (pv_one (pv_ge (pp_name 0) (pp_of pv_int)))))))))
theorem ok_is_row (T : Tx K mg a_stretch_to d_stretch_to a_wish_behind d_wish_behind a_handed_on d_handed_on a_companies_within d_companies_within a_is_number d_is_number a_is_row d_is_row a_is_saying d_is_saying a_need_number d_need_number a_need_row d_need_row a_need_place d_need_place a_wishes d_wishes a_companies d_companies a_companies_between d_companies_between a_least_from d_least_from a_l_jar d_l_jar a_l_pour d_l_pour a_l_number d_l_number a_l_saying d_l_saying a_l_row d_l_row a_l_total d_l_total a_l_handed_on d_l_handed_on a_l_does d_l_does a_l_between d_l_between a_l_small_right d_l_small_right a_l_ends_right d_l_ends_right a_l_right d_l_right a_l_changed_right d_l_changed_right a_law d_law) : FnG P w K mg base 1 a_is_row d_is_row ["thing"] (spD K 1 3 m_is_row) :=
  fnG_pl T.f_is_row sc_is_row rfl rfl fun cdv A outer s H E hG hr => have sc := sc_is_row; (psts_cons (pst_if (ptt_not (ptt_truth (pp_of (pv_isiT (by rfl) T.n_isinstance (pp_name 0) (pa_tyC (pe_ty (by rfl) T.n_list PyProof.Rows.boot_list) (pa_tyC (pe_ty (by rfl) T.n_tuple PyProof.Rows.boot_tuple) pa_tyN)) (by decide) (by decide))))) (psts_one (pst_ret (pf_of (pp_of pv_bl)))) psts_nil)
      (psts_cons (pst_for PassesOwn.never rfl (pit_seq (pp_name 0)) (pgt_name (i := 1) sc.nd) (psts_cons (pst_if (pt_of (pwt_or (ptt_not (ptt_truth (pp_of (pv_isi (by rfl) T.n_isinstance (pp_name 1) (pe_ty (by rfl) T.n_tuple PyProof.Rows.boot_tuple) (by decide))))) (pwt_or1 (pt_ne hr.units (pp_of (pv_len (by rfl) T.n_len (pps_cons' (pp_name 1) pps_nil'))) (pp_of pv_int))))) (psts_one (pst_ret (pf_of (pp_of pv_bl)))) psts_nil)
      (psts_cons (pst_asg (pv_of (pf_of (pp_name 1))) (pgt_tup rfl (pgts_cons (pgt_name (i := 2) sc.nd) (pgts_cons (pgt_name (i := 3) sc.nd) pgts_nil)) rfl (tsCons_len (tsCons_len tsNil_len))))
      (psts_cons (pst_if (pt_of (pwt_or (ptt_not (ptt_truth (pp_of (pv_isi (by rfl) T.n_isinstance (pp_name 2) (pe_ty (by rfl) T.n_int PyProof.Rows.boot_int) (by decide))))) (pwt_or (pt_lt (pp_name 2) (pp_of pv_int)) (pwt_or (pt_is (pp_name 2) (pp_of pv_bl)) (pwt_or1 (pt_is (pp_name 2) (pp_of pv_bl))))))) (psts_one (pst_ret (pf_of (pp_of pv_bl)))) psts_nil)
      (psts_one (pst_if (pt_of (pwt_and (pt_isnot (pp_name 3) (pp_of pv_non)) (pwt_and1 (pt_of (pwt_or (ptt_not (ptt_truth (pp_of (pv_isi (by rfl) T.n_isinstance (pp_name 3) (pe_ty (by rfl) T.n_int PyProof.Rows.boot_int) (by decide))))) (pwt_or (pt_lt (pp_name 3) (pp_name 2)) (pwt_or (pt_is (pp_name 3) (pp_of pv_bl)) (pwt_or1 (pt_is (pp_name 3) (pp_of pv_bl)))))))))) (psts_one (pst_ret (pf_of (pp_of pv_bl)))) psts_nil))))))
      (psts_one (pst_ret (pf_of (pp_of pv_bl))))))
theorem ok_is_saying (T : Tx K mg a_stretch_to d_stretch_to a_wish_behind d_wish_behind a_handed_on d_handed_on a_companies_within d_companies_within a_is_number d_is_number a_is_row d_is_row a_is_saying d_is_saying a_need_number d_need_number a_need_row d_need_row a_need_place d_need_place a_wishes d_wishes a_companies d_companies a_companies_between d_companies_between a_least_from d_least_from a_l_jar d_l_jar a_l_pour d_l_pour a_l_number d_l_number a_l_saying d_l_saying a_l_row d_l_row a_l_total d_l_total a_l_handed_on d_l_handed_on a_l_does d_l_does a_l_between d_l_between a_l_small_right d_l_small_right a_l_ends_right d_l_ends_right a_l_right d_l_right a_l_changed_right d_l_changed_right a_law d_law) : FnG P w K mg base 2 a_is_saying d_is_saying ["thing"] (spD K 1 0 m_is_saying) :=
  fnG_pl T.f_is_saying sc_is_saying rfl rfl fun cdv A outer s H E hG hr => have sc := sc_is_saying; (psts_one (pst_ret (pf_callG (ok_is_row T) hG (hr.mono (by decide)) (by rfl) T.g_is_row T.f_is_row.kp T.b_is_row (pps_cons' (pp_of (pv_of (pf_lst (pvs_cons (pv_of (pf_of (pp_name 0))) pvs_nil)))) pps_nil') (ms := [.b]) rfl)))
theorem ok_need_number (T : Tx K mg a_stretch_to d_stretch_to a_wish_behind d_wish_behind a_handed_on d_handed_on a_companies_within d_companies_within a_is_number d_is_number a_is_row d_is_row a_is_saying d_is_saying a_need_number d_need_number a_need_row d_need_row a_need_place d_need_place a_wishes d_wishes a_companies d_companies a_companies_between d_companies_between a_least_from d_least_from a_l_jar d_l_jar a_l_pour d_l_pour a_l_number d_l_number a_l_saying d_l_saying a_l_row d_l_row a_l_total d_l_total a_l_handed_on d_l_handed_on a_l_does d_l_does a_l_between d_l_between a_l_small_right d_l_small_right a_l_ends_right d_l_ends_right a_l_right d_l_right a_l_changed_right d_l_changed_right a_law d_law) : FnG P w K mg base 2 a_need_number d_need_number ["thing"] (spD K 1 0 m_need_number) :=
  fnG_pl T.f_need_number sc_need_number rfl rfl fun cdv A outer s H E hG hr => have sc := sc_need_number; (psts_one (pst_if (ptt_not (ptt_truth (pp_of (pv_of (pf_callG (ok_is_number T) hG (hr.mono (by decide)) (by rfl) T.g_is_number T.f_is_number.kp T.b_is_number (pps_cons' (pp_name 0) pps_nil') (ms := [.b]) rfl))))) (psts_one pst_never) psts_nil))
theorem ok_need_row (T : Tx K mg a_stretch_to d_stretch_to a_wish_behind d_wish_behind a_handed_on d_handed_on a_companies_within d_companies_within a_is_number d_is_number a_is_row d_is_row a_is_saying d_is_saying a_need_number d_need_number a_need_row d_need_row a_need_place d_need_place a_wishes d_wishes a_companies d_companies a_companies_between d_companies_between a_least_from d_least_from a_l_jar d_l_jar a_l_pour d_l_pour a_l_number d_l_number a_l_saying d_l_saying a_l_row d_l_row a_l_total d_l_total a_l_handed_on d_l_handed_on a_l_does d_l_does a_l_between d_l_between a_l_small_right d_l_small_right a_l_ends_right d_l_ends_right a_l_right d_l_right a_l_changed_right d_l_changed_right a_law d_law) : FnG P w K mg base 2 a_need_row d_need_row ["thing"] (spD K 1 0 m_need_row) :=
  fnG_pl T.f_need_row sc_need_row rfl rfl fun cdv A outer s H E hG hr => have sc := sc_need_row; (psts_one (pst_if (ptt_not (ptt_truth (pp_of (pv_of (pf_callG (ok_is_row T) hG (hr.mono (by decide)) (by rfl) T.g_is_row T.f_is_row.kp T.b_is_row (pps_cons' (pp_name 0) pps_nil') (ms := [.b]) rfl))))) (psts_one pst_never) psts_nil))
theorem ok_need_place (T : Tx K mg a_stretch_to d_stretch_to a_wish_behind d_wish_behind a_handed_on d_handed_on a_companies_within d_companies_within a_is_number d_is_number a_is_row d_is_row a_is_saying d_is_saying a_need_number d_need_number a_need_row d_need_row a_need_place d_need_place a_wishes d_wishes a_companies d_companies a_companies_between d_companies_between a_least_from d_least_from a_l_jar d_l_jar a_l_pour d_l_pour a_l_number d_l_number a_l_saying d_l_saying a_l_row d_l_row a_l_total d_l_total a_l_handed_on d_l_handed_on a_l_does d_l_does a_l_between d_l_between a_l_small_right d_l_small_right a_l_ends_right d_l_ends_right a_l_right d_l_right a_l_changed_right d_l_changed_right a_law d_law) : FnG P w K mg base 2 a_need_place d_need_place ["thing", "places"] (spD K 2 0 m_need_place) :=
  fnG_pl T.f_need_place sc_need_place rfl rfl fun cdv A outer s H E hG hr => have sc := sc_need_place; (psts_one (pst_if (pt_of (pwt_or (ptt_not (ptt_truth (pp_of (pv_of (pf_callG (ok_is_number T) hG (hr.mono (by decide)) (by rfl) T.g_is_number T.f_is_number.kp T.b_is_number (pps_cons' (pp_name 0) pps_nil') (ms := [.b]) rfl))))) (pwt_or1 (pt_ge (pp_name 0) (pp_name 1))))) (psts_one pst_never) psts_nil))
theorem ok_wishes (T : Tx K mg a_stretch_to d_stretch_to a_wish_behind d_wish_behind a_handed_on d_handed_on a_companies_within d_companies_within a_is_number d_is_number a_is_row d_is_row a_is_saying d_is_saying a_need_number d_need_number a_need_row d_need_row a_need_place d_need_place a_wishes d_wishes a_companies d_companies a_companies_between d_companies_between a_least_from d_least_from a_l_jar d_l_jar a_l_pour d_l_pour a_l_number d_l_number a_l_saying d_l_saying a_l_row d_l_row a_l_total d_l_total a_l_handed_on d_l_handed_on a_l_does d_l_does a_l_between d_l_between a_l_small_right d_l_small_right a_l_ends_right d_l_ends_right a_l_right d_l_right a_l_changed_right d_l_changed_right a_law d_law) : FnG P w K mg base 3 a_wishes d_wishes ["row", "many"] (spD K 2 2 m_wishes) :=
  fnG_pl T.f_wishes sc_wishes rfl rfl fun cdv A outer s H E hG hr => have sc := sc_wishes; (psts_cons (pst_drop (pv_of (pf_callG (ok_need_row T) hG (hr.mono (by decide)) (by rfl) T.g_need_row T.f_need_row.kp T.b_need_row (pps_cons' (pp_name 0) pps_nil') (ms := [.b]) rfl)))
      (psts_cons (pst_drop (pv_of (pf_callG (ok_need_number T) hG (hr.mono (by decide)) (by rfl) T.g_need_number T.f_need_number.kp T.b_need_number (pps_cons' (pp_name 1) pps_nil') (ms := [.b]) rfl)))
      (psts_cons (pst_set (i := 2) sc.nd (pf_lst (pvs_cons (pv_of (pf_of (pp_name 1))) pvs_nil)))
      (psts_cons (pst_for PassesOwn.never rfl (pit_seq (pp_name 0)) (pgt_name (i := 3) sc.nd) (psts_one (pst_drop (pv_mut (j := 2) PySem.F.slot_list_append PySem.F.type_list_append mt_append pmut_append (pvs_cons (pv_of (pf_callG (ok_handed_on T) hG (hr.mono (by decide)) (by rfl) T.g_handed_on T.f_handed_on.kp T.b_handed_on (pps_cons' (pp_of (pv_of (pf_of (pp_name 3)))) (pps_cons' (pp_of (pv_ix (pp_name 2) (pp_of (pv_neg pv_int)))) pps_nil')) (ms := [.v, .v]) rfl)) pvs_nil)))))
      (psts_one (pst_ret (pf_of (pp_name 2))))))))
theorem ok_companies (T : Tx K mg a_stretch_to d_stretch_to a_wish_behind d_wish_behind a_handed_on d_handed_on a_companies_within d_companies_within a_is_number d_is_number a_is_row d_is_row a_is_saying d_is_saying a_need_number d_need_number a_need_row d_need_row a_need_place d_need_place a_wishes d_wishes a_companies d_companies a_companies_between d_companies_between a_least_from d_least_from a_l_jar d_l_jar a_l_pour d_l_pour a_l_number d_l_number a_l_saying d_l_saying a_l_row d_l_row a_l_total d_l_total a_l_handed_on d_l_handed_on a_l_does d_l_does a_l_between d_l_between a_l_small_right d_l_small_right a_l_ends_right d_l_ends_right a_l_right d_l_right a_l_changed_right d_l_changed_right a_law d_law) : FnG P w K mg base 3 a_companies d_companies ["row", "total"] (spD K 2 0 m_companies) :=
  fnG_pl T.f_companies sc_companies rfl rfl fun cdv A outer s H E hG hr => have sc := sc_companies; (psts_cons (pst_drop (pv_of (pf_callG (ok_need_row T) hG (hr.mono (by decide)) (by rfl) T.g_need_row T.f_need_row.kp T.b_need_row (pps_cons' (pp_name 0) pps_nil') (ms := [.b]) rfl)))
      (psts_cons (pst_drop (pv_of (pf_callG (ok_need_number T) hG (hr.mono (by decide)) (by rfl) T.g_need_number T.f_need_number.kp T.b_need_number (pps_cons' (pp_name 1) pps_nil') (ms := [.b]) rfl)))
      (psts_one (pst_ret (pf_callG (ok_companies_within T) hG (hr.mono (by decide)) (by rfl) T.g_companies_within T.f_companies_within.kp T.b_companies_within (pps_cons' (pp_name 0) (pps_cons' (pp_of (pv_tup (pvs_cons (pv_of (pf_of (pp_name 1))) (pvs_cons (pv_of (pf_of (pp_name 1))) pvs_nil)))) pps_nil')) (ms := [.b, .v]) rfl)))))
theorem ok_companies_between (T : Tx K mg a_stretch_to d_stretch_to a_wish_behind d_wish_behind a_handed_on d_handed_on a_companies_within d_companies_within a_is_number d_is_number a_is_row d_is_row a_is_saying d_is_saying a_need_number d_need_number a_need_row d_need_row a_need_place d_need_place a_wishes d_wishes a_companies d_companies a_companies_between d_companies_between a_least_from d_least_from a_l_jar d_l_jar a_l_pour d_l_pour a_l_number d_l_number a_l_saying d_l_saying a_l_row d_l_row a_l_total d_l_total a_l_handed_on d_l_handed_on a_l_does d_l_does a_l_between d_l_between a_l_small_right d_l_small_right a_l_ends_right d_l_ends_right a_l_right d_l_right a_l_changed_right d_l_changed_right a_law d_law) : FnG P w K mg base 3 a_companies_between d_companies_between ["row", "least", "most"] (spD K 3 0 m_companies_between) :=
  fnG_pl T.f_companies_between sc_companies_between rfl rfl fun cdv A outer s H E hG hr => have sc := sc_companies_between; (psts_cons (pst_drop (pv_of (pf_callG (ok_need_row T) hG (hr.mono (by decide)) (by rfl) T.g_need_row T.f_need_row.kp T.b_need_row (pps_cons' (pp_name 0) pps_nil') (ms := [.b]) rfl)))
      (psts_cons (pst_if (ptt_not (ptt_truth (pp_of (pv_of (pf_callG (ok_is_saying T) hG (hr.mono (by decide)) (by rfl) T.g_is_saying T.f_is_saying.kp T.b_is_saying (pps_cons' (pp_of (pv_tup (pvs_cons (pv_of (pf_of (pp_name 1))) (pvs_cons (pv_of (pf_of (pp_name 2))) pvs_nil)))) pps_nil') (ms := [.v]) rfl))))) (psts_one pst_never) psts_nil)
      (psts_one (pst_ret (pf_callG (ok_companies_within T) hG (hr.mono (by decide)) (by rfl) T.g_companies_within T.f_companies_within.kp T.b_companies_within (pps_cons' (pp_name 0) (pps_cons' (pp_of (pv_tup (pvs_cons (pv_of (pf_of (pp_name 1))) (pvs_cons (pv_of (pf_of (pp_name 2))) pvs_nil)))) pps_nil')) (ms := [.b, .v]) rfl)))))
theorem ok_least_from (T : Tx K mg a_stretch_to d_stretch_to a_wish_behind d_wish_behind a_handed_on d_handed_on a_companies_within d_companies_within a_is_number d_is_number a_is_row d_is_row a_is_saying d_is_saying a_need_number d_need_number a_need_row d_need_row a_need_place d_need_place a_wishes d_wishes a_companies d_companies a_companies_between d_companies_between a_least_from d_least_from a_l_jar d_l_jar a_l_pour d_l_pour a_l_number d_l_number a_l_saying d_l_saying a_l_row d_l_row a_l_total d_l_total a_l_handed_on d_l_handed_on a_l_does d_l_does a_l_between d_l_between a_l_small_right d_l_small_right a_l_ends_right d_l_ends_right a_l_right d_l_right a_l_changed_right d_l_changed_right a_law d_law) : FnG P w K mg base 3 a_least_from d_least_from ["row", "place", "many"] (spD K 3 0 m_least_from) :=
  fnG_pl T.f_least_from sc_least_from rfl rfl fun cdv A outer s H E hG hr => have sc := sc_least_from; (psts_cons (pst_drop (pv_of (pf_callG (ok_need_row T) hG (hr.mono (by decide)) (by rfl) T.g_need_row T.f_need_row.kp T.b_need_row (pps_cons' (pp_name 0) pps_nil') (ms := [.b]) rfl)))
      (psts_cons (pst_drop (pv_of (pf_callG (ok_need_place T) hG (hr.mono (by decide)) (by rfl) T.g_need_place T.f_need_place.kp T.b_need_place (pps_cons' (pp_name 1) (pps_cons' (pp_of (pv_of (pf_add (pp_of (pv_len (by rfl) T.n_len (pps_cons' (pp_name 0) pps_nil'))) (pp_of pv_int)))) pps_nil')) (ms := [.b, .b]) rfl)))
      (psts_cons (pst_drop (pv_of (pf_callG (ok_need_number T) hG (hr.mono (by decide)) (by rfl) T.g_need_number T.f_need_number.kp T.b_need_number (pps_cons' (pp_name 2) pps_nil') (ms := [.b]) rfl)))
      (psts_one (pst_ret (pf_callG (ok_wish_behind T) hG (hr.mono (by decide)) (by rfl) T.g_wish_behind T.f_wish_behind.kp T.b_wish_behind (pps_cons' (pp_slice (pp_name 0) (pot_some (pv_of (pf_of (pp_name 1)))) pot_none) (pps_cons' (pp_of (pv_of (pf_of (pp_name 2)))) pps_nil')) (ms := [.b, .v]) rfl))))))
theorem ok_l_jar (T : Tx K mg a_stretch_to d_stretch_to a_wish_behind d_wish_behind a_handed_on d_handed_on a_companies_within d_companies_within a_is_number d_is_number a_is_row d_is_row a_is_saying d_is_saying a_need_number d_need_number a_need_row d_need_row a_need_place d_need_place a_wishes d_wishes a_companies d_companies a_companies_between d_companies_between a_least_from d_least_from a_l_jar d_l_jar a_l_pour d_l_pour a_l_number d_l_number a_l_saying d_l_saying a_l_row d_l_row a_l_total d_l_total a_l_handed_on d_l_handed_on a_l_does d_l_does a_l_between d_l_between a_l_small_right d_l_small_right a_l_ends_right d_l_ends_right a_l_right d_l_right a_l_changed_right d_l_changed_right a_law d_law) : FnG P w K mg base 1 a_l_jar d_l_jar ["_law_script", "_law_k"] (spD K 2 1 m_l_jar) :=
  fnG_pl T.f_l_jar sc_l_jar rfl rfl fun cdv A outer s H E hG hr => have sc := sc_l_jar; (psts_cons (pst_set (i := 2) sc.nd (pf_of (pp_of (pv_if (pt_lt (pp_name 1) (pp_of (pv_lenS 0 (by rfl) T.n_len))) (pv_ixS 0 (pv_of (pf_of (pp_name 1)))) pv_int))))
      (psts_one (pst_ret (pf_lst (pvs_cons (pv_max2 rfl (by rfl) T.n_max (pps_cons' (pp_of pv_int) (pps_cons' (pp_of (pv_sub (pp_name 2) (pp_of (pv_pow (pp_of pv_int) (pp_of pv_int))))) pps_nil'))) (pvs_cons (pv_of (pf_add (pp_of (pv_of (pf_mul (pp_of (pv_mod (pp_name 2) (pp_of (pv_of (pf_add (pp_of (pv_pow (pp_of pv_int) (pp_of pv_int))) (pp_of pv_int)))))) (pp_of pv_int)))) (pp_name 1))) (pvs_cons pv_int pvs_nil)))))))
theorem ok_l_pour (T : Tx K mg a_stretch_to d_stretch_to a_wish_behind d_wish_behind a_handed_on d_handed_on a_companies_within d_companies_within a_is_number d_is_number a_is_row d_is_row a_is_saying d_is_saying a_need_number d_need_number a_need_row d_need_row a_need_place d_need_place a_wishes d_wishes a_companies d_companies a_companies_between d_companies_between a_least_from d_least_from a_l_jar d_l_jar a_l_pour d_l_pour a_l_number d_l_number a_l_saying d_l_saying a_l_row d_l_row a_l_total d_l_total a_l_handed_on d_l_handed_on a_l_does d_l_does a_l_between d_l_between a_l_small_right d_l_small_right a_l_ends_right d_l_ends_right a_l_right d_l_right a_l_changed_right d_l_changed_right a_law d_law) : FnG P w K mg base 1 a_l_pour d_l_pour ["_law_jar_here", "_law_many"] (spD K 2 2 m_l_pour) :=
  fnG_pl T.f_l_pour sc_l_pour rfl rfl fun cdv A outer s H E hG hr => have sc := sc_l_pour; (psts_cons (pst_if (pt_gt (pp_of (pv_ix (pp_name 0) (pp_of pv_int))) (pp_of pv_int)) (psts_cons (pst_set (i := 2) sc.nd (pf_of (pp_of (pv_mod (pp_of (pv_ix (pp_name 0) (pp_of pv_int))) (pp_name 1)))))
      (psts_cons (pst_setix (j := 0) (pv_fdiv (pp_of (pv_ix (pp_name 0) (pp_of pv_int))) (pp_name 1)) pv_int)
      (psts_one (pst_ret (pf_of (pp_name 2)))))) psts_nil)
      (psts_cons (pst_setix (j := 0) (pv_of (pf_add (pp_of (pv_ix (pp_name 0) (pp_of pv_int))) (pp_of pv_int))) pv_int)
      (psts_cons (pst_set (i := 3) sc.nd (pf_of (pp_of (pv_mod (pp_of (pv_pow (pp_of (pv_of (pf_add (pp_of (pv_ix (pp_name 0) (pp_of pv_int))) (pp_of (pv_of (pf_mul (pp_of pv_int) (pp_of (pv_ix (pp_name 0) (pp_of pv_int))))))))) (pp_of pv_int))) (pp_of (pv_of (pf_add (pp_of (pv_pow (pp_of pv_int) (pp_of pv_int))) (pp_of pv_int))))))))
      (psts_cons (pst_set (i := 3) sc.nd (pf_of (pp_of (pv_mod (pp_of (pv_pow (pp_of (pv_of (pf_add (pp_name 3) (pp_of (pv_of (pf_mul (pp_of pv_int) (pp_of (pv_ix (pp_name 0) (pp_of pv_int))))))))) (pp_of pv_int))) (pp_of (pv_of (pf_add (pp_of (pv_pow (pp_of pv_int) (pp_of pv_int))) (pp_of pv_int))))))))
      (psts_one (pst_ret (pf_of (pp_of (pv_mod (pp_of (pv_fdiv (pp_name 3) (pp_of pv_int))) (pp_name 1))))))))))
theorem ok_l_number (T : Tx K mg a_stretch_to d_stretch_to a_wish_behind d_wish_behind a_handed_on d_handed_on a_companies_within d_companies_within a_is_number d_is_number a_is_row d_is_row a_is_saying d_is_saying a_need_number d_need_number a_need_row d_need_row a_need_place d_need_place a_wishes d_wishes a_companies d_companies a_companies_between d_companies_between a_least_from d_least_from a_l_jar d_l_jar a_l_pour d_l_pour a_l_number d_l_number a_l_saying d_l_saying a_l_row d_l_row a_l_total d_l_total a_l_handed_on d_l_handed_on a_l_does d_l_does a_l_between d_l_between a_l_small_right d_l_small_right a_l_ends_right d_l_ends_right a_l_right d_l_right a_l_changed_right d_l_changed_right a_law d_law) : FnG P w K mg base 2 a_l_number d_l_number ["_law_jar_here", "_law_top"] (spD K 2 0 m_l_number) :=
  fnG_pl T.f_l_number sc_l_number rfl rfl fun cdv A outer s H E hG hr => have sc := sc_l_number; (psts_one (pst_ret (pf_of (pp_of (pv_ix (pp_of (pv_of (pf_lst (pvs_cons (pv_of (pf_callG (ok_l_pour T) hG (hr.mono (by decide)) (by rfl) T.g_l_pour T.f_l_pour.kp T.b_l_pour (pps_cons' (pp_name 0) (pps_cons' (pp_of pv_int) pps_nil')) (ms := [.io, .b]) rfl)) (pvs_cons (pv_of (pf_callG (ok_l_pour T) hG (hr.mono (by decide)) (by rfl) T.g_l_pour T.f_l_pour.kp T.b_l_pour (pps_cons' (pp_name 0) (pps_cons' (pp_of pv_int) pps_nil')) (ms := [.io, .b]) rfl)) (pvs_cons (pv_of (pf_callG (ok_l_pour T) hG (hr.mono (by decide)) (by rfl) T.g_l_pour T.f_l_pour.kp T.b_l_pour (pps_cons' (pp_name 0) (pps_cons' (pp_name 1) pps_nil')) (ms := [.io, .b]) rfl)) pvs_nil)))))) (pp_of (pv_of (pf_callG (ok_l_pour T) hG (hr.mono (by decide)) (by rfl) T.g_l_pour T.f_l_pour.kp T.b_l_pour (pps_cons' (pp_name 0) (pps_cons' (pp_of pv_int) pps_nil')) (ms := [.io, .b]) rfl))))))))
theorem ok_l_saying (T : Tx K mg a_stretch_to d_stretch_to a_wish_behind d_wish_behind a_handed_on d_handed_on a_companies_within d_companies_within a_is_number d_is_number a_is_row d_is_row a_is_saying d_is_saying a_need_number d_need_number a_need_row d_need_row a_need_place d_need_place a_wishes d_wishes a_companies d_companies a_companies_between d_companies_between a_least_from d_least_from a_l_jar d_l_jar a_l_pour d_l_pour a_l_number d_l_number a_l_saying d_l_saying a_l_row d_l_row a_l_total d_l_total a_l_handed_on d_l_handed_on a_l_does d_l_does a_l_between d_l_between a_l_small_right d_l_small_right a_l_ends_right d_l_ends_right a_l_right d_l_right a_l_changed_right d_l_changed_right a_law d_law) : FnG P w K mg base 3 a_l_saying d_l_saying ["_law_jar_here", "_law_top"] (spD K 2 2 m_l_saying) :=
  fnG_pl T.f_l_saying sc_l_saying rfl rfl fun cdv A outer s H E hG hr => have sc := sc_l_saying; (psts_cons (pst_set (i := 2) sc.nd (pf_callG (ok_l_number T) hG (hr.mono (by decide)) (by rfl) T.g_l_number T.f_l_number.kp T.b_l_number (pps_cons' (pp_name 0) (pps_cons' (pp_name 1) pps_nil')) (ms := [.io, .b]) rfl))
      (psts_cons (pst_set (i := 3) sc.nd (pf_add (pp_name 2) (pp_of (pv_of (pf_callG (ok_l_number T) hG (hr.mono (by decide)) (by rfl) T.g_l_number T.f_l_number.kp T.b_l_number (pps_cons' (pp_name 0) (pps_cons' (pp_name 1) pps_nil')) (ms := [.io, .b]) rfl)))))
      (psts_one (pst_ret (pf_of (pp_of (pv_tup (pvs_cons (pv_of (pf_of (pp_name 2))) (pvs_cons (pv_ix (pp_of (pv_of (pf_lst (pvs_cons (pv_of (pf_of (pp_name 3))) (pvs_cons (pv_of (pf_of (pp_name 3))) (pvs_cons (pv_of (pf_of (pp_name 3))) (pvs_cons (pv_of (pf_of (pp_name 3))) (pvs_cons pv_non pvs_nil)))))))) (pp_of (pv_of (pf_callG (ok_l_pour T) hG (hr.mono (by decide)) (by rfl) T.g_l_pour T.f_l_pour.kp T.b_l_pour (pps_cons' (pp_name 0) (pps_cons' (pp_of pv_int) pps_nil')) (ms := [.io, .b]) rfl)))) pvs_nil)))))))))
theorem ok_l_row (T : Tx K mg a_stretch_to d_stretch_to a_wish_behind d_wish_behind a_handed_on d_handed_on a_companies_within d_companies_within a_is_number d_is_number a_is_row d_is_row a_is_saying d_is_saying a_need_number d_need_number a_need_row d_need_row a_need_place d_need_place a_wishes d_wishes a_companies d_companies a_companies_between d_companies_between a_least_from d_least_from a_l_jar d_l_jar a_l_pour d_l_pour a_l_number d_l_number a_l_saying d_l_saying a_l_row d_l_row a_l_total d_l_total a_l_handed_on d_l_handed_on a_l_does d_l_does a_l_between d_l_between a_l_small_right d_l_small_right a_l_ends_right d_l_ends_right a_l_right d_l_right a_l_changed_right d_l_changed_right a_law d_law) : FnG P w K mg base 4 a_l_row d_l_row ["_law_jar_here", "_law_people", "_law_top"] (spD K 3 1 m_l_row) :=
  fnG_pl T.f_l_row sc_l_row rfl rfl fun cdv A outer s H E hG hr => have sc := sc_l_row; (psts_one (pst_ret (pf_lc (own := [("_law_turn", 3)]) rfl sc.nd (pit_rng1 (by rfl) T.n_range (pv_of (pf_callG (ok_l_pour T) hG (hr.mono (by decide)) (by rfl) T.g_l_pour T.f_l_pour.kp T.b_l_pour (pps_cons' (pp_name 0) (pps_cons' (pp_of (pv_of (pf_add (pp_name 1) (pp_of pv_int)))) pps_nil')) (ms := [.io, .b]) rfl))) (blkOk_by (own := [("_law_turn", 3)]) (N := ["_law_jar_here", "_law_people", "_law_top", "_law_turn"]) (sc := defScope s_l_row) (by decide +kernel)) (fun _ _ _ _ _ => (pgt_name (i := 3) sc.nd)) (fun _ _ _ _ _ => (pv_of (pf_callG (ok_l_saying T) hG (hr.mono (by decide)) (by rfl) T.g_l_saying T.f_l_saying.kp T.b_l_saying (pps_cons' (pp_name 0) (pps_cons' (pp_name 2) pps_nil')) (ms := [.io, .b]) rfl))))))
theorem ok_l_total (T : Tx K mg a_stretch_to d_stretch_to a_wish_behind d_wish_behind a_handed_on d_handed_on a_companies_within d_companies_within a_is_number d_is_number a_is_row d_is_row a_is_saying d_is_saying a_need_number d_need_number a_need_row d_need_row a_need_place d_need_place a_wishes d_wishes a_companies d_companies a_companies_between d_companies_between a_least_from d_least_from a_l_jar d_l_jar a_l_pour d_l_pour a_l_number d_l_number a_l_saying d_l_saying a_l_row d_l_row a_l_total d_l_total a_l_handed_on d_l_handed_on a_l_does d_l_does a_l_between d_l_between a_l_small_right d_l_small_right a_l_ends_right d_l_ends_right a_l_right d_l_right a_l_changed_right d_l_changed_right a_law d_law) : FnG P w K mg base 1 a_l_total d_l_total ["_law_row_here", "_law_company"] (spD K 2 3 m_l_total) :=
  fnG_pl T.f_l_total sc_l_total rfl rfl fun cdv A outer s H E hG hr => have sc := sc_l_total; (psts_cons (pst_set (i := 2) sc.nd (pf_of (pp_of (pv_of (pf_of (pp_name 1))))))
      (psts_cons (pst_for PassesOwn.never rfl (pit_seq (pp_of (pv_of (pf_revs (pp_name 0))))) (pgt_tup rfl (pgts_cons (pgt_name (i := 3) sc.nd) (pgts_cons (pgt_name (i := 4) sc.nd) pgts_nil)) rfl (tsCons_len (tsCons_len tsNil_len))) (psts_one (pst_set (i := 2) sc.nd (pf_add (pp_name 2) (pp_of (pv_int1 (by rfl) T.n_int (pps_cons' (pp_of (pv_and (pv_le (pp_name 3) (pp_name 2)) (pv_one (pv_or (pv_is (pp_name 4) (pp_of pv_non)) (pv_one (pv_le (pp_name 2) (pp_name 4))))))) pps_nil')))))))
      (psts_one (pst_ret (pf_of (pp_name 2))))))
theorem ok_l_handed_on (T : Tx K mg a_stretch_to d_stretch_to a_wish_behind d_wish_behind a_handed_on d_handed_on a_companies_within d_companies_within a_is_number d_is_number a_is_row d_is_row a_is_saying d_is_saying a_need_number d_need_number a_need_row d_need_row a_need_place d_need_place a_wishes d_wishes a_companies d_companies a_companies_between d_companies_between a_least_from d_least_from a_l_jar d_l_jar a_l_pour d_l_pour a_l_number d_l_number a_l_saying d_l_saying a_l_row d_l_row a_l_total d_l_total a_l_handed_on d_l_handed_on a_l_does d_l_does a_l_between d_l_between a_l_small_right d_l_small_right a_l_ends_right d_l_ends_right a_l_right d_l_right a_l_changed_right d_l_changed_right a_law d_law) : FnG P w K mg base 1 a_l_handed_on d_l_handed_on ["_law_row_here", "_law_many"] (spD K 2 4 m_l_handed_on) :=
  fnG_pl T.f_l_handed_on sc_l_handed_on rfl rfl fun cdv A outer s H E hG hr => have sc := sc_l_handed_on; (psts_cons (pst_set (i := 2) sc.nd (pf_lst (pvs_cons (pv_of (pf_of (pp_name 1))) pvs_nil)))
      (psts_cons (pst_for PassesOwn.never rfl (pit_seq (pp_name 0)) (pgt_tup rfl (pgts_cons (pgt_name (i := 3) sc.nd) (pgts_cons (pgt_name (i := 4) sc.nd) pgts_nil)) rfl (tsCons_len (tsCons_len tsNil_len))) (psts_cons (pst_set (i := 5) sc.nd (pf_of (pp_of (pv_and (pv_lt (pp_name 3) (pp_of (pv_ix (pp_name 2) (pp_of (pv_neg pv_int))))) (pv_one (pv_or (pv_is (pp_name 4) (pp_of pv_non)) (pv_one (pv_le (pp_of (pv_sub (pp_of (pv_ix (pp_name 2) (pp_of (pv_neg pv_int)))) (pp_of pv_int))) (pp_name 4)))))))))
      (psts_one (pst_drop (pv_mut (j := 2) PySem.F.slot_list_append PySem.F.type_list_append mt_append pmut_append (pvs_cons (pv_sub (pp_of (pv_ix (pp_name 2) (pp_of (pv_neg pv_int)))) (pp_of (pv_int1 (by rfl) T.n_int (pps_cons' (pp_name 5) pps_nil')))) pvs_nil))))))
      (psts_one (pst_ret (pf_of (pp_name 2))))))
theorem ok_l_does (T : Tx K mg a_stretch_to d_stretch_to a_wish_behind d_wish_behind a_handed_on d_handed_on a_companies_within d_companies_within a_is_number d_is_number a_is_row d_is_row a_is_saying d_is_saying a_need_number d_need_number a_need_row d_need_row a_need_place d_need_place a_wishes d_wishes a_companies d_companies a_companies_between d_companies_between a_least_from d_least_from a_l_jar d_l_jar a_l_pour d_l_pour a_l_number d_l_number a_l_saying d_l_saying a_l_row d_l_row a_l_total d_l_total a_l_handed_on d_l_handed_on a_l_does d_l_does a_l_between d_l_between a_l_small_right d_l_small_right a_l_ends_right d_l_ends_right a_l_right d_l_right a_l_changed_right d_l_changed_right a_law d_law) : FnG P w K mg base 2 a_l_does d_l_does ["_law_row_here", "_law_company", "_law_many"] (spD K 3 0 m_l_does) :=
  fnG_pl T.f_l_does sc_l_does rfl rfl fun cdv A outer s H E hG hr => have sc := sc_l_does; (psts_one (pst_ret (pf_of (pp_of (pv_and (pv_ge (pp_of (pv_of (pf_callG (ok_l_total T) hG (hr.mono (by decide)) (by rfl) T.g_l_total T.f_l_total.kp T.b_l_total (pps_cons' (pp_name 0) (pps_cons' (pp_of (pv_of (pf_of (pp_name 1)))) pps_nil')) (ms := [.b, .v]) rfl))) (pp_name 2)) (pv_one (pv_or (pv_eq hr.units (pp_name 1) (pp_of pv_int)) (pv_one (pv_lt (pp_of (pv_of (pf_callG (ok_l_total T) hG (hr.mono (by decide)) (by rfl) T.g_l_total T.f_l_total.kp T.b_l_total (pps_cons' (pp_name 0) (pps_cons' (pp_of (pv_sub (pp_name 1) (pp_of pv_int))) pps_nil')) (ms := [.b, .v]) rfl))) (pp_name 2))))))))))
theorem ok_l_between (T : Tx K mg a_stretch_to d_stretch_to a_wish_behind d_wish_behind a_handed_on d_handed_on a_companies_within d_companies_within a_is_number d_is_number a_is_row d_is_row a_is_saying d_is_saying a_need_number d_need_number a_need_row d_need_row a_need_place d_need_place a_wishes d_wishes a_companies d_companies a_companies_between d_companies_between a_least_from d_least_from a_l_jar d_l_jar a_l_pour d_l_pour a_l_number d_l_number a_l_saying d_l_saying a_l_row d_l_row a_l_total d_l_total a_l_handed_on d_l_handed_on a_l_does d_l_does a_l_between d_l_between a_l_small_right d_l_small_right a_l_ends_right d_l_ends_right a_l_right d_l_right a_l_changed_right d_l_changed_right a_law d_law) : FnG P w K mg base 2 a_l_between d_l_between ["_law_row_here", "_law_least", "_law_most"] (spD K 3 2 m_l_between) :=
  fnG_pl T.f_l_between sc_l_between rfl rfl fun cdv A outer s H E hG hr => have sc := sc_l_between; (psts_cons (pst_setLcIf (own := [("_law_company", 4)]) (i := 3) rfl sc.nd rfl rfl (sw_true rfl rfl rfl (by decide +kernel)) (pit_rng1 (by rfl) T.n_range pv_int) (blkOk_by (own := [("_law_company", 4)]) (N := ["_law_row_here", "_law_least", "_law_most", "_law_some", "_law_company"]) (sc := defScope s_l_between) (by decide +kernel)) (fun _ _ _ _ _ => (pgt_name (i := 4) sc.nd)) (fun _ _ _ _ _ => (pt_le (pp_name 1) (pp_of (pv_of (pf_callG (ok_l_total T) hG (hr.mono (by decide)) (by rfl) T.g_l_total T.f_l_total.kp T.b_l_total (pps_cons' (pp_name 0) (pps_cons' (pp_of (pv_of (pf_of (pp_name 4)))) pps_nil')) (ms := [.b, .v]) rfl))))) (fun _ _ _ _ _ => (pv_of (pf_of (pp_name 4)))))
      (psts_cons (pst_if (pt_isnot (pp_name 2) (pp_of pv_non)) (psts_one (pst_setLcIf (own := [("_law_company", 4)]) (i := 3) rfl sc.nd rfl rfl (sw_true rfl rfl rfl (by decide +kernel)) (pit_seq (pp_of (pv_of (pf_of (pp_name 3))))) (blkOk_by (own := [("_law_company", 4)]) (N := ["_law_row_here", "_law_least", "_law_most", "_law_some", "_law_company"]) (sc := defScope s_l_between) (by decide +kernel)) (fun _ _ _ _ _ => (pgt_name (i := 4) sc.nd)) (fun _ _ _ _ _ => (pt_le (pp_of (pv_of (pf_callG (ok_l_total T) hG (hr.mono (by decide)) (by rfl) T.g_l_total T.f_l_total.kp T.b_l_total (pps_cons' (pp_name 0) (pps_cons' (pp_of (pv_of (pf_of (pp_name 4)))) pps_nil')) (ms := [.b, .v]) rfl))) (pp_name 2))) (fun _ _ _ _ _ => (pv_of (pf_of (pp_name 4)))))) psts_nil)
      (psts_cons (pst_if (pt_eq hr.units (pp_name 3) (pp_of (pv_of (pf_lst pvs_nil)))) (psts_one (pst_ret (pf_of (pp_of pv_non)))) psts_nil)
      (psts_one (pst_ret (pf_of (pp_of (pv_tup (pvs_cons (pv_ix (pp_name 3) (pp_of pv_int)) (pvs_cons (pv_if (pt_is (pp_name 2) (pp_of pv_non)) pv_non (pv_ix (pp_name 3) (pp_of (pv_neg pv_int)))) pvs_nil))))))))))
theorem ok_l_small_right (T : Tx K mg a_stretch_to d_stretch_to a_wish_behind d_wish_behind a_handed_on d_handed_on a_companies_within d_companies_within a_is_number d_is_number a_is_row d_is_row a_is_saying d_is_saying a_need_number d_need_number a_need_row d_need_row a_need_place d_need_place a_wishes d_wishes a_companies d_companies a_companies_between d_companies_between a_least_from d_least_from a_l_jar d_l_jar a_l_pour d_l_pour a_l_number d_l_number a_l_saying d_l_saying a_l_row d_l_row a_l_total d_l_total a_l_handed_on d_l_handed_on a_l_does d_l_does a_l_between d_l_between a_l_small_right d_l_small_right a_l_ends_right d_l_ends_right a_l_right d_l_right a_l_changed_right d_l_changed_right a_law d_law) : FnG P w K mg base 4 a_l_small_right d_l_small_right ["_law_jar_here", "_law_row_here"] (spD K 2 3 m_l_small_right) :=
  fnG_pl T.f_l_small_right sc_l_small_right rfl rfl fun cdv A outer s H E hG hr => have sc := sc_l_small_right; (psts_cons (pst_set (i := 2) sc.nd (pf_callG (ok_l_pour T) hG (hr.mono (by decide)) (by rfl) T.g_l_pour T.f_l_pour.kp T.b_l_pour (pps_cons' (pp_name 0) (pps_cons' (pp_of pv_int) pps_nil')) (ms := [.io, .b]) rfl))
      (psts_cons (pst_set (i := 3) sc.nd (pf_of (pp_of (pv_ix (pp_of (pv_of (pf_lst (pvs_cons (pv_of (pf_add (pp_name 2) (pp_of (pv_of (pf_callG (ok_l_number T) hG (hr.mono (by decide)) (by rfl) T.g_l_number T.f_l_number.kp T.b_l_number (pps_cons' (pp_name 0) (pps_cons' (pp_of pv_int) pps_nil')) (ms := [.io, .b]) rfl))))) (pvs_cons pv_non pvs_nil))))) (pp_of (pv_fdiv (pp_of (pv_of (pf_callG (ok_l_pour T) hG (hr.mono (by decide)) (by rfl) T.g_l_pour T.f_l_pour.kp T.b_l_pour (pps_cons' (pp_name 0) (pps_cons' (pp_of pv_int) pps_nil')) (ms := [.io, .b]) rfl))) (pp_of pv_int)))))))
      (psts_cons (pst_if (pt_ne hr.units (pp_of (pv_repr hG hr.u66 (by rfl) T.n_repr (pps_cons' (pp_of (pv_of (pf_callG (ok_companies_between T) hG (hr.mono (by decide)) (by rfl) T.g_companies_between T.f_companies_between.kp T.b_companies_between (pps_cons' (pp_name 1) (pps_cons' (pp_of (pv_of (pf_of (pp_name 2)))) (pps_cons' (pp_of (pv_of (pf_of (pp_name 3)))) pps_nil'))) (ms := [.b, .v, .v]) rfl))) pps_nil'))) (pp_of (pv_repr hG hr.u66 (by rfl) T.n_repr (pps_cons' (pp_of (pv_of (pf_callG (ok_l_between T) hG (hr.mono (by decide)) (by rfl) T.g_l_between T.f_l_between.kp T.b_l_between (pps_cons' (pp_name 1) (pps_cons' (pp_name 2) (pps_cons' (pp_name 3) pps_nil'))) (ms := [.b, .b, .b]) rfl))) pps_nil')))) (psts_one (pst_ret (pf_of (pp_of pv_bl)))) psts_nil)
      (psts_cons (pst_for PassesOwn.never rfl (pit_rng1 (by rfl) T.n_range pv_int) (pgt_name (i := 4) sc.nd) (psts_one (pst_if (pt_ne hr.units (pp_of (pv_repr hG hr.u66 (by rfl) T.n_repr (pps_cons' (pp_of (pv_of (pf_callG (ok_companies T) hG (hr.mono (by decide)) (by rfl) T.g_companies T.f_companies.kp T.b_companies (pps_cons' (pp_name 1) (pps_cons' (pp_of (pv_of (pf_of (pp_name 4)))) pps_nil')) (ms := [.b, .v]) rfl))) pps_nil'))) (pp_of (pv_repr hG hr.u66 (by rfl) T.n_repr (pps_cons' (pp_of (pv_of (pf_callG (ok_l_between T) hG (hr.mono (by decide)) (by rfl) T.g_l_between T.f_l_between.kp T.b_l_between (pps_cons' (pp_name 1) (pps_cons' (pp_name 4) (pps_cons' (pp_name 4) pps_nil'))) (ms := [.b, .b, .b]) rfl))) pps_nil')))) (psts_one (pst_ret (pf_of (pp_of pv_bl)))) psts_nil)))
      (psts_one (pst_ret (pf_of (pp_of pv_bl))))))))
theorem ok_l_ends_right (T : Tx K mg a_stretch_to d_stretch_to a_wish_behind d_wish_behind a_handed_on d_handed_on a_companies_within d_companies_within a_is_number d_is_number a_is_row d_is_row a_is_saying d_is_saying a_need_number d_need_number a_need_row d_need_row a_need_place d_need_place a_wishes d_wishes a_companies d_companies a_companies_between d_companies_between a_least_from d_least_from a_l_jar d_l_jar a_l_pour d_l_pour a_l_number d_l_number a_l_saying d_l_saying a_l_row d_l_row a_l_total d_l_total a_l_handed_on d_l_handed_on a_l_does d_l_does a_l_between d_l_between a_l_small_right d_l_small_right a_l_ends_right d_l_ends_right a_l_right d_l_right a_l_changed_right d_l_changed_right a_law d_law) : FnG P w K mg base 2 a_l_ends_right d_l_ends_right ["_law_row_here", "_law_stretch", "_law_least", "_law_most"] (spD K 4 3 m_l_ends_right) :=
  fnG_pl T.f_l_ends_right sc_l_ends_right rfl rfl fun cdv A outer s H E hG hr => have sc := sc_l_ends_right; (psts_cons (pst_if (pt_is (pp_name 1) (pp_of pv_non)) (psts_cons (pst_set (i := 4) sc.nd (pf_of (pp_of (pv_ix (pp_of (pv_of (pf_callG (ok_l_handed_on T) hG (hr.mono (by decide)) (by rfl) T.g_l_handed_on T.f_l_handed_on.kp T.b_l_handed_on (pps_cons' (pp_name 0) (pps_cons' (pp_of (pv_of (pf_of (pp_name 2)))) pps_nil')) (ms := [.b, .v]) rfl))) (pp_of (pv_neg pv_int))))))
      (psts_one (pst_ret (pf_of (pp_of (pv_and (pv_isnot (pp_name 3) (pp_of pv_non)) (pv_one (pv_gt (pp_of (pv_of (pf_callG (ok_l_total T) hG (hr.mono (by decide)) (by rfl) T.g_l_total T.f_l_total.kp T.b_l_total (pps_cons' (pp_name 0) (pps_cons' (pp_of (pv_of (pf_of (pp_name 4)))) pps_nil')) (ms := [.b, .v]) rfl))) (pp_name 3))))))))) psts_nil)
      (psts_cons (pst_asg (pv_of (pf_of (pp_name 1))) (pgt_tup rfl (pgts_cons (pgt_name (i := 5) sc.nd) (pgts_cons (pgt_name (i := 6) sc.nd) pgts_nil)) rfl (tsCons_len (tsCons_len tsNil_len))))
      (psts_cons (pst_if (pt_of (pwt_or (pt_lt (pp_of (pv_of (pf_callG (ok_l_total T) hG (hr.mono (by decide)) (by rfl) T.g_l_total T.f_l_total.kp T.b_l_total (pps_cons' (pp_name 0) (pps_cons' (pp_of (pv_of (pf_of (pp_name 5)))) pps_nil')) (ms := [.b, .v]) rfl))) (pp_name 2)) (pwt_or1 (pt_of (pwt_and (pt_gt (pp_name 5) (pp_of pv_int)) (pwt_and1 (pt_ge (pp_of (pv_of (pf_callG (ok_l_total T) hG (hr.mono (by decide)) (by rfl) T.g_l_total T.f_l_total.kp T.b_l_total (pps_cons' (pp_name 0) (pps_cons' (pp_of (pv_sub (pp_name 5) (pp_of pv_int))) pps_nil')) (ms := [.b, .v]) rfl))) (pp_name 2)))))))) (psts_one (pst_ret (pf_of (pp_of pv_bl)))) psts_nil)
      (psts_cons (pst_if (pt_of (pwt_or (pt_is (pp_name 3) (pp_of pv_non)) (pwt_or1 (pt_is (pp_name 6) (pp_of pv_non))))) (psts_one (pst_ret (pf_of (pp_of (pv_and (pv_is (pp_name 3) (pp_of pv_non)) (pv_one (pv_is (pp_name 6) (pp_of pv_non)))))))) psts_nil)
      (psts_one (pst_ret (pf_of (pp_of (pv_and (pv_le (pp_name 5) (pp_name 6)) (pv_and (pv_le (pp_of (pv_of (pf_callG (ok_l_total T) hG (hr.mono (by decide)) (by rfl) T.g_l_total T.f_l_total.kp T.b_l_total (pps_cons' (pp_name 0) (pps_cons' (pp_of (pv_of (pf_of (pp_name 6)))) pps_nil')) (ms := [.b, .v]) rfl))) (pp_name 3)) (pv_one (pv_gt (pp_of (pv_of (pf_callG (ok_l_total T) hG (hr.mono (by decide)) (by rfl) T.g_l_total T.f_l_total.kp T.b_l_total (pps_cons' (pp_name 0) (pps_cons' (pp_of (pv_of (pf_add (pp_name 6) (pp_of pv_int)))) pps_nil')) (ms := [.b, .v]) rfl))) (pp_name 3)))))))))))))
theorem ok_l_right (T : Tx K mg a_stretch_to d_stretch_to a_wish_behind d_wish_behind a_handed_on d_handed_on a_companies_within d_companies_within a_is_number d_is_number a_is_row d_is_row a_is_saying d_is_saying a_need_number d_need_number a_need_row d_need_row a_need_place d_need_place a_wishes d_wishes a_companies d_companies a_companies_between d_companies_between a_least_from d_least_from a_l_jar d_l_jar a_l_pour d_l_pour a_l_number d_l_number a_l_saying d_l_saying a_l_row d_l_row a_l_total d_l_total a_l_handed_on d_l_handed_on a_l_does d_l_does a_l_between d_l_between a_l_small_right d_l_small_right a_l_ends_right d_l_ends_right a_l_right d_l_right a_l_changed_right d_l_changed_right a_law d_law) : FnG P w K mg base 4 a_l_right d_l_right ["_law_jar_here", "_law_row_here", "_law_top"] (spD K 3 10 m_l_right) :=
  fnG_pl T.f_l_right sc_l_right rfl rfl fun cdv A outer s H E hG hr => have sc := sc_l_right; (psts_cons (pst_set (i := 3) sc.nd (pf_of (pp_of (pv_ix (pp_of (pv_of (pf_lst (pvs_cons (pv_of (pf_list (by rfl) T.n_list (pps_cons' (pp_name 1) pps_nil'))) (pvs_cons (pv_tuple (by rfl) T.n_tuple (pps_cons' (pp_name 1) pps_nil')) pvs_nil))))) (pp_of (pv_of (pf_callG (ok_l_pour T) hG (hr.mono (by decide)) (by rfl) T.g_l_pour T.f_l_pour.kp T.b_l_pour (pps_cons' (pp_name 0) (pps_cons' (pp_of pv_int) pps_nil')) (ms := [.io, .b]) rfl)))))))
      (psts_cons (pst_set (i := 4) sc.nd (pf_of (pp_of (pv_repr hG hr.u66 (by rfl) T.n_repr (pps_cons' (pp_name 3) pps_nil')))))
      (psts_cons (pst_set (i := 5) sc.nd (pf_callG (ok_l_number T) hG (hr.mono (by decide)) (by rfl) T.g_l_number T.f_l_number.kp T.b_l_number (pps_cons' (pp_name 0) (pps_cons' (pp_name 2) pps_nil')) (ms := [.io, .b]) rfl))
      (psts_cons (pst_set (i := 6) sc.nd (pf_callG (ok_l_handed_on T) hG (hr.mono (by decide)) (by rfl) T.g_l_handed_on T.f_l_handed_on.kp T.b_l_handed_on (pps_cons' (pp_name 1) (pps_cons' (pp_of (pv_of (pf_of (pp_name 5)))) pps_nil')) (ms := [.b, .v]) rfl))
      (psts_cons (pst_for PassesOwn.never rfl (pit_rng1 (by rfl) T.n_range pv_int) (pgt_name (i := 7) sc.nd) (psts_cons (pst_set (i := 8) sc.nd (pf_callG (ok_wishes T) hG (hr.mono (by decide)) (by rfl) T.g_wishes T.f_wishes.kp T.b_wishes (pps_cons' (pp_name 3) (pps_cons' (pp_of (pv_of (pf_of (pp_name 5)))) pps_nil')) (ms := [.b, .v]) rfl))
      (psts_cons (pst_if (pt_of (pwt_or (ptt_not (ptt_truth (pp_of (pv_isi (by rfl) T.n_isinstance (pp_name 8) (pe_ty (by rfl) T.n_list PyProof.Rows.boot_list) (by decide))))) (pwt_or (pt_ne hr.units (pp_of (pv_repr hG hr.u66 (by rfl) T.n_repr (pps_cons' (pp_name 8) pps_nil'))) (pp_of (pv_repr hG hr.u66 (by rfl) T.n_repr (pps_cons' (pp_name 6) pps_nil')))) (pwt_or1 (ptt_not (ptt_truth (pp_of (pv_of (pf_callG (ok_l_does T) hG (hr.mono (by decide)) (by rfl) T.g_l_does T.f_l_does.kp T.b_l_does (pps_cons' (pp_name 1) (pps_cons' (pp_of (pv_ix (pp_name 8) (pp_of (pv_neg pv_int)))) (pps_cons' (pp_name 5) pps_nil'))) (ms := [.b, .v, .b]) rfl))))))))) (psts_one (pst_ret (pf_of (pp_of pv_bl)))) psts_nil)
      (psts_one (pst_drop (pv_mut (j := 8) PySem.F.slot_list_append PySem.F.type_list_append mt_append pmut_append (pvs_cons pv_int pvs_nil)))))))
      (psts_cons (pst_set (i := 9) sc.nd (pf_callG (ok_l_pour T) hG (hr.mono (by decide)) (by rfl) T.g_l_pour T.f_l_pour.kp T.b_l_pour (pps_cons' (pp_name 0) (pps_cons' (pp_of (pv_of (pf_add (pp_of (pv_len (by rfl) T.n_len (pps_cons' (pp_name 1) pps_nil'))) (pp_of pv_int)))) pps_nil')) (ms := [.io, .b]) rfl))
      (psts_cons (pst_for PassesOwn.never rfl (pit_seq (pp_of (pv_of (pf_lst (pvs_cons pv_int (pvs_cons (pv_of (pf_of (pp_name 9))) (pvs_cons (pv_len (by rfl) T.n_len (pps_cons' (pp_name 1) pps_nil')) pvs_nil))))))) (pgt_name (i := 10) sc.nd) (psts_cons (pst_set (i := 11) sc.nd (pf_callG (ok_least_from T) hG (hr.mono (by decide)) (by rfl) T.g_least_from T.f_least_from.kp T.b_least_from (pps_cons' (pp_name 3) (pps_cons' (pp_name 10) (pps_cons' (pp_of (pv_of (pf_of (pp_name 5)))) pps_nil'))) (ms := [.b, .b, .v]) rfl))
      (psts_one (pst_if (pt_of (pwt_or (pt_ne hr.units (pp_of (pv_repr hG hr.u66 (by rfl) T.n_repr (pps_cons' (pp_name 11) pps_nil'))) (pp_of (pv_repr hG hr.u66 (by rfl) T.n_repr (pps_cons' (pp_of (pv_ix (pp_of (pv_of (pf_callG (ok_l_handed_on T) hG (hr.mono (by decide)) (by rfl) T.g_l_handed_on T.f_l_handed_on.kp T.b_l_handed_on (pps_cons' (pp_slice (pp_name 1) (pot_some (pv_of (pf_of (pp_name 10)))) pot_none) (pps_cons' (pp_of (pv_of (pf_of (pp_name 5)))) pps_nil')) (ms := [.b, .v]) rfl))) (pp_of (pv_neg pv_int)))) pps_nil')))) (pwt_or1 (ptt_not (ptt_truth (pp_of (pv_of (pf_callG (ok_l_does T) hG (hr.mono (by decide)) (by rfl) T.g_l_does T.f_l_does.kp T.b_l_does (pps_cons' (pp_slice (pp_name 1) (pot_some (pv_of (pf_of (pp_name 10)))) pot_none) (pps_cons' (pp_of (pv_of (pf_of (pp_name 11)))) (pps_cons' (pp_name 5) pps_nil'))) (ms := [.b, .v, .b]) rfl)))))))) (psts_one (pst_ret (pf_of (pp_of pv_bl)))) psts_nil))))
      (psts_cons (pst_set (i := 12) sc.nd (pf_of (pp_of (pv_ix (pp_of (pv_of (pf_lst (pvs_cons (pv_of (pf_add (pp_name 5) (pp_of (pv_of (pf_callG (ok_l_number T) hG (hr.mono (by decide)) (by rfl) T.g_l_number T.f_l_number.kp T.b_l_number (pps_cons' (pp_name 0) (pps_cons' (pp_of (pv_of (pf_mul (pp_of pv_int) (pp_of (pv_pow (pp_of pv_int) (pp_of pv_int)))))) pps_nil')) (ms := [.io, .b]) rfl))))) (pvs_cons pv_non pvs_nil))))) (pp_of (pv_fdiv (pp_of (pv_of (pf_callG (ok_l_pour T) hG (hr.mono (by decide)) (by rfl) T.g_l_pour T.f_l_pour.kp T.b_l_pour (pps_cons' (pp_name 0) (pps_cons' (pp_of pv_int) pps_nil')) (ms := [.io, .b]) rfl))) (pp_of pv_int)))))))
      (psts_cons (pst_if (ptt_not (ptt_truth (pp_of (pv_of (pf_callG (ok_l_ends_right T) hG (hr.mono (by decide)) (by rfl) T.g_l_ends_right T.f_l_ends_right.kp T.b_l_ends_right (pps_cons' (pp_name 1) (pps_cons' (pp_of (pv_of (pf_callG (ok_companies_between T) hG (hr.mono (by decide)) (by rfl) T.g_companies_between T.f_companies_between.kp T.b_companies_between (pps_cons' (pp_name 3) (pps_cons' (pp_of (pv_of (pf_of (pp_name 5)))) (pps_cons' (pp_of (pv_of (pf_of (pp_name 12)))) pps_nil'))) (ms := [.b, .v, .v]) rfl))) (pps_cons' (pp_of (pv_of (pf_of (pp_name 5)))) (pps_cons' (pp_name 12) pps_nil')))) (ms := [.b, .v, .v, .b]) rfl))))) (psts_one (pst_ret (pf_of (pp_of pv_bl)))) psts_nil)
      (psts_one (pst_ret (pf_of (pp_of (pv_and (pv_of (pf_callG (ok_l_ends_right T) hG (hr.mono (by decide)) (by rfl) T.g_l_ends_right T.f_l_ends_right.kp T.b_l_ends_right (pps_cons' (pp_name 1) (pps_cons' (pp_of (pv_of (pf_callG (ok_companies T) hG (hr.mono (by decide)) (by rfl) T.g_companies T.f_companies.kp T.b_companies (pps_cons' (pp_name 3) (pps_cons' (pp_of (pv_of (pf_of (pp_name 5)))) pps_nil')) (ms := [.b, .v]) rfl))) (pps_cons' (pp_of (pv_of (pf_of (pp_name 5)))) (pps_cons' (pp_name 5) pps_nil')))) (ms := [.b, .v, .v, .b]) rfl)) (pv_one (pv_eq hr.units (pp_of (pv_repr hG hr.u66 (by rfl) T.n_repr (pps_cons' (pp_name 3) pps_nil'))) (pp_name 4)))))))))))))))))
theorem ok_l_changed_right (T : Tx K mg a_stretch_to d_stretch_to a_wish_behind d_wish_behind a_handed_on d_handed_on a_companies_within d_companies_within a_is_number d_is_number a_is_row d_is_row a_is_saying d_is_saying a_need_number d_need_number a_need_row d_need_row a_need_place d_need_place a_wishes d_wishes a_companies d_companies a_companies_between d_companies_between a_least_from d_least_from a_l_jar d_l_jar a_l_pour d_l_pour a_l_number d_l_number a_l_saying d_l_saying a_l_row d_l_row a_l_total d_l_total a_l_handed_on d_l_handed_on a_l_does d_l_does a_l_between d_l_between a_l_small_right d_l_small_right a_l_ends_right d_l_ends_right a_l_right d_l_right a_l_changed_right d_l_changed_right a_law d_law) : FnG P w K mg base 5 a_l_changed_right d_l_changed_right ["_law_jar_here", "_law_row_here"] (spD K 2 4 m_l_changed_right) :=
  fnG_pl T.f_l_changed_right sc_l_changed_right rfl rfl fun cdv A outer s H E hG hr => have sc := sc_l_changed_right; (psts_cons (pst_set (i := 2) sc.nd (pf_list (by rfl) T.n_list (pps_cons' (pp_name 1) pps_nil')))
      (psts_cons (pst_for PassesOwn.never rfl (pit_rng1 (by rfl) T.n_range pv_int) (pgt_name (i := 3) sc.nd) (psts_cons (pst_set (i := 4) sc.nd (pf_callG (ok_l_pour T) hG (hr.mono (by decide)) (by rfl) T.g_l_pour T.f_l_pour.kp T.b_l_pour (pps_cons' (pp_name 0) (pps_cons' (pp_of pv_int) pps_nil')) (ms := [.io, .b]) rfl))
      (psts_cons (pst_set (i := 5) sc.nd (pf_of (pp_of (pv_ix (pp_of (pv_of (pf_callG (ok_l_handed_on T) hG (hr.mono (by decide)) (by rfl) T.g_l_handed_on T.f_l_handed_on.kp T.b_l_handed_on (pps_cons' (pp_name 2) (pps_cons' (pp_of (pv_of (pf_of (pp_name 4)))) pps_nil')) (ms := [.b, .v]) rfl))) (pp_of (pv_neg pv_int))))))
      (psts_cons (pst_if (pt_of (pwt_or (pt_ne hr.units (pp_of (pv_of (pf_callG (ok_wishes T) hG (hr.mono (by decide)) (by rfl) T.g_wishes T.f_wishes.kp T.b_wishes (pps_cons' (pp_name 2) (pps_cons' (pp_of (pv_of (pf_of (pp_name 4)))) pps_nil')) (ms := [.b, .v]) rfl))) (pp_of (pv_of (pf_callG (ok_l_handed_on T) hG (hr.mono (by decide)) (by rfl) T.g_l_handed_on T.f_l_handed_on.kp T.b_l_handed_on (pps_cons' (pp_name 2) (pps_cons' (pp_of (pv_of (pf_of (pp_name 4)))) pps_nil')) (ms := [.b, .v]) rfl)))) (pwt_or1 (pt_ne hr.units (pp_of (pv_of (pf_callG (ok_least_from T) hG (hr.mono (by decide)) (by rfl) T.g_least_from T.f_least_from.kp T.b_least_from (pps_cons' (pp_name 2) (pps_cons' (pp_of pv_int) (pps_cons' (pp_of (pv_of (pf_of (pp_name 4)))) pps_nil'))) (ms := [.b, .b, .v]) rfl))) (pp_name 5))))) (psts_one (pst_ret (pf_of (pp_of pv_bl)))) psts_nil)
      (psts_cons (pst_if (ptt_not (ptt_truth (pp_of (pv_of (pf_callG (ok_l_small_right T) hG (hr.mono (by decide)) (by rfl) T.g_l_small_right T.f_l_small_right.kp T.b_l_small_right (pps_cons' (pp_name 0) (pps_cons' (pp_name 2) pps_nil')) (ms := [.io, .b]) rfl))))) (psts_one (pst_ret (pf_of (pp_of pv_bl)))) psts_nil)
      (psts_cons (pst_drop (pv_mut (j := 2) PySem.F.slot_list_insert PySem.F.type_list_insert mt_insert pmut_insert (pvs_cons (pv_of (pf_callG (ok_l_pour T) hG (hr.mono (by decide)) (by rfl) T.g_l_pour T.f_l_pour.kp T.b_l_pour (pps_cons' (pp_name 0) (pps_cons' (pp_of (pv_of (pf_add (pp_of (pv_len (by rfl) T.n_len (pps_cons' (pp_name 2) pps_nil'))) (pp_of pv_int)))) pps_nil')) (ms := [.io, .b]) rfl)) (pvs_cons (pv_of (pf_callG (ok_l_saying T) hG (hr.mono (by decide)) (by rfl) T.g_l_saying T.f_l_saying.kp T.b_l_saying (pps_cons' (pp_name 0) (pps_cons' (pp_of pv_int) pps_nil')) (ms := [.io, .b]) rfl)) pvs_nil))))
      (psts_one (pst_if (pt_eq hr.units (pp_name 3) (pp_of pv_int)) (psts_one (pst_drop (pv_mut (j := 2) PySem.F.slot_list_pop PySem.F.type_list_pop mt_popAt pmut_popAt (pvs_cons pv_int pvs_nil)))) psts_nil))))))))
      (psts_one (pst_ret (pf_of (pp_of pv_bl))))))
theorem ok_law (T : Tx K mg a_stretch_to d_stretch_to a_wish_behind d_wish_behind a_handed_on d_handed_on a_companies_within d_companies_within a_is_number d_is_number a_is_row d_is_row a_is_saying d_is_saying a_need_number d_need_number a_need_row d_need_row a_need_place d_need_place a_wishes d_wishes a_companies d_companies a_companies_between d_companies_between a_least_from d_least_from a_l_jar d_l_jar a_l_pour d_l_pour a_l_number d_l_number a_l_saying d_l_saying a_l_row d_l_row a_l_total d_l_total a_l_handed_on d_l_handed_on a_l_does d_l_does a_l_between d_l_between a_l_small_right d_l_small_right a_l_ends_right d_l_ends_right a_l_right d_l_right a_l_changed_right d_l_changed_right a_law d_law) : FnG P w K mg base 6 a_law d_law ["_law_script"] (spD K 1 4 m_law) :=
  fnG_pl T.f_law sc_law rfl rfl fun cdv A outer s H E hG hr => have sc := sc_law; (psts_cons (pst_for PassesOwn.never rfl (pit_rng1 (by rfl) T.n_range (pv_max2 rfl (by rfl) T.n_max (pps_cons' (pp_of pv_int) (pps_cons' (pp_of (pv_min2 rfl (by rfl) T.n_min (pps_cons' (pp_of pv_int) (pps_cons' (pp_of (pv_lenS 0 (by rfl) T.n_len)) pps_nil')))) pps_nil')))) (pgt_name (i := 1) sc.nd) (psts_cons (pst_set (i := 2) sc.nd (pf_callG (ok_l_jar T) hG (hr.mono (by decide)) (by rfl) T.g_l_jar T.f_l_jar.kp T.b_l_jar (pps_cons' (pp_name 0) (pps_cons' (pp_name 1) pps_nil')) (ms := [.s, .b]) rfl))
      (psts_cons (pst_for PassesOwn.never rfl (pit_rng1 (by rfl) T.n_range pv_int) (pgt_name (i := 3) sc.nd) (psts_cons (pst_set (i := 4) sc.nd (pf_callG (ok_l_row T) hG (hr.mono (by decide)) (by rfl) T.g_l_row T.f_l_row.kp T.b_l_row (pps_cons' (pp_name 2) (pps_cons' (pp_of pv_int) (pps_cons' (pp_of pv_int) pps_nil'))) (ms := [.io, .b, .b]) rfl))
      (psts_one (pst_if (pt_of (pwt_or (ptt_not (ptt_truth (pp_of (pv_of (pf_callG (ok_l_right T) hG (hr.mono (by decide)) (by rfl) T.g_l_right T.f_l_right.kp T.b_l_right (pps_cons' (pp_name 2) (pps_cons' (pp_name 4) (pps_cons' (pp_of pv_int) pps_nil'))) (ms := [.io, .b, .b]) rfl))))) (pwt_or (ptt_not (ptt_truth (pp_of (pv_of (pf_callG (ok_l_small_right T) hG (hr.mono (by decide)) (by rfl) T.g_l_small_right T.f_l_small_right.kp T.b_l_small_right (pps_cons' (pp_name 2) (pps_cons' (pp_name 4) pps_nil')) (ms := [.io, .b]) rfl))))) (pwt_or1 (ptt_not (ptt_truth (pp_of (pv_of (pf_callG (ok_l_changed_right T) hG (hr.mono (by decide)) (by rfl) T.g_l_changed_right T.f_l_changed_right.kp T.b_l_changed_right (pps_cons' (pp_name 2) (pps_cons' (pp_name 4) pps_nil')) (ms := [.io, .b]) rfl))))))))) (psts_one (pst_ret (pf_of (pp_of pv_bl)))) psts_nil))))
      (psts_cons (pst_set (i := 4) sc.nd (pf_callG (ok_l_row T) hG (hr.mono (by decide)) (by rfl) T.g_l_row T.f_l_row.kp T.b_l_row (pps_cons' (pp_name 2) (pps_cons' (pp_of pv_int) (pps_cons' (pp_of (pv_ix (pp_of (pv_of (pf_lst (pvs_cons pv_int (pvs_cons (pv_of (pf_mul (pp_of pv_int) (pp_of (pv_pow (pp_of pv_int) (pp_of pv_int))))) pvs_nil))))) (pp_of (pv_of (pf_callG (ok_l_pour T) hG (hr.mono (by decide)) (by rfl) T.g_l_pour T.f_l_pour.kp T.b_l_pour (pps_cons' (pp_name 2) (pps_cons' (pp_of pv_int) pps_nil')) (ms := [.io, .b]) rfl))))) pps_nil'))) (ms := [.io, .b, .b]) rfl))
      (psts_one (pst_if (ptt_not (ptt_truth (pp_of (pv_of (pf_callG (ok_l_right T) hG (hr.mono (by decide)) (by rfl) T.g_l_right T.f_l_right.kp T.b_l_right (pps_cons' (pp_name 2) (pps_cons' (pp_name 4) (pps_cons' (pp_of (pv_ix (pp_of (pv_of (pf_lst (pvs_cons pv_int (pvs_cons (pv_of (pf_mul (pp_of pv_int) (pp_of (pv_pow (pp_of pv_int) (pp_of pv_int))))) pvs_nil))))) (pp_of (pv_of (pf_callG (ok_l_pour T) hG (hr.mono (by decide)) (by rfl) T.g_l_pour T.f_l_pour.kp T.b_l_pour (pps_cons' (pp_name 2) (pps_cons' (pp_of pv_int) pps_nil')) (ms := [.io, .b]) rfl))))) pps_nil'))) (ms := [.io, .b, .b]) rfl))))) (psts_one (pst_ret (pf_of (pp_of pv_bl)))) psts_nil))))))
      (psts_one (pst_ret (pf_of (pp_of pv_bl)))))
end
set_option maxHeartbeats 0 in
theorem all_mk {l : PySem.W.OpenLaw} {w : World} {K : PySem.W.Frag} {h : Heap} {mg : Str → Option Value} {fa a_stretch_to a_wish_behind a_handed_on a_companies_within a_is_number a_is_row a_is_saying a_need_number a_need_row a_need_place a_wishes a_companies a_companies_between a_least_from a_l_jar a_l_pour a_l_number a_l_saying a_l_row a_l_total a_l_handed_on a_l_does a_l_between a_l_small_right a_l_ends_right a_l_right a_l_changed_right a_law : Addr} (X : K.In h) (G : h.Ns mainGlobals mg) (hfa : mg "law" = some (.ref fa))
    {od_stretch_to an_stretch_to od_wish_behind an_wish_behind od_handed_on an_handed_on od_companies_within an_companies_within od_is_number an_is_number od_is_row an_is_row od_is_saying an_is_saying od_need_number an_need_number od_need_row an_need_row od_need_place an_need_place od_wishes an_wishes od_companies an_companies od_companies_between an_companies_between od_least_from an_least_from od_l_jar an_l_jar od_l_pour an_l_pour od_l_number an_l_number od_l_saying an_l_saying od_l_row an_l_row od_l_total an_l_total od_l_handed_on an_l_handed_on od_l_does an_l_does od_l_between an_l_between od_l_small_right an_l_small_right od_l_ends_right an_l_ends_right od_l_right an_l_right od_l_changed_right an_l_changed_right od_law an_law : Option Addr} {sl_stretch_to sl_wish_behind sl_handed_on sl_companies_within sl_is_number sl_is_row sl_is_saying sl_need_number sl_need_row sl_need_place sl_wishes sl_companies sl_companies_between sl_least_from sl_l_jar sl_l_pour sl_l_number sl_l_saying sl_l_row sl_l_total sl_l_handed_on sl_l_does sl_l_between sl_l_small_right sl_l_ends_right sl_l_right sl_l_changed_right sl_law : Array (Option Value)} {oc_stretch_to kV_stretch_to dc_stretch_to pm_stretch_to cd_stretch_to ct_stretch_to oc_wish_behind kV_wish_behind dc_wish_behind pm_wish_behind cd_wish_behind ct_wish_behind oc_handed_on kV_handed_on dc_handed_on pm_handed_on cd_handed_on ct_handed_on oc_companies_within kV_companies_within dc_companies_within pm_companies_within cd_companies_within ct_companies_within oc_is_number kV_is_number dc_is_number pm_is_number cd_is_number ct_is_number oc_is_row kV_is_row dc_is_row pm_is_row cd_is_row ct_is_row oc_is_saying kV_is_saying dc_is_saying pm_is_saying cd_is_saying ct_is_saying oc_need_number kV_need_number dc_need_number pm_need_number cd_need_number ct_need_number oc_need_row kV_need_row dc_need_row pm_need_row cd_need_row ct_need_row oc_need_place kV_need_place dc_need_place pm_need_place cd_need_place ct_need_place oc_wishes kV_wishes dc_wishes pm_wishes cd_wishes ct_wishes oc_companies kV_companies dc_companies pm_companies cd_companies ct_companies oc_companies_between kV_companies_between dc_companies_between pm_companies_between cd_companies_between ct_companies_between oc_least_from kV_least_from dc_least_from pm_least_from cd_least_from ct_least_from oc_l_jar kV_l_jar dc_l_jar pm_l_jar cd_l_jar ct_l_jar oc_l_pour kV_l_pour dc_l_pour pm_l_pour cd_l_pour ct_l_pour oc_l_number kV_l_number dc_l_number pm_l_number cd_l_number ct_l_number oc_l_saying kV_l_saying dc_l_saying pm_l_saying cd_l_saying ct_l_saying oc_l_row kV_l_row dc_l_row pm_l_row cd_l_row ct_l_row oc_l_total kV_l_total dc_l_total pm_l_total cd_l_total ct_l_total oc_l_handed_on kV_l_handed_on dc_l_handed_on pm_l_handed_on cd_l_handed_on ct_l_handed_on oc_l_does kV_l_does dc_l_does pm_l_does cd_l_does ct_l_does oc_l_between kV_l_between dc_l_between pm_l_between cd_l_between ct_l_between oc_l_small_right kV_l_small_right dc_l_small_right pm_l_small_right cd_l_small_right ct_l_small_right oc_l_ends_right kV_l_ends_right dc_l_ends_right pm_l_ends_right cd_l_ends_right ct_l_ends_right oc_l_right kV_l_right dc_l_right pm_l_right cd_l_right ct_l_right oc_l_changed_right kV_l_changed_right dc_l_changed_right pm_l_changed_right cd_l_changed_right ct_l_changed_right oc_law kV_law dc_law pm_law cd_law ct_law : Value}
    (astretch_to : PySem.W.nsIn K mainGlobals "stretch_to" = some (some (.ref a_stretch_to))) (lstretch_to : K.lookup a_stretch_to = some ⟨oc_stretch_to, od_stretch_to, .func (PySem.W.fnOf "stretch_to" "stretch_to" (defArgs s_stretch_to) (defBody s_stretch_to) (defScope s_stretch_to) .none kV_stretch_to dc_stretch_to pm_stretch_to an_stretch_to cd_stretch_to ct_stretch_to), sl_stretch_to⟩) (cstretch_to : PySem.W.codeIn K cd_stretch_to "stretch_to" = true) (kstretch_to : PySem.W.keepIn K (.ref a_stretch_to) = true)
    (awish_behind : PySem.W.nsIn K mainGlobals "wish_behind" = some (some (.ref a_wish_behind))) (lwish_behind : K.lookup a_wish_behind = some ⟨oc_wish_behind, od_wish_behind, .func (PySem.W.fnOf "wish_behind" "wish_behind" (defArgs s_wish_behind) (defBody s_wish_behind) (defScope s_wish_behind) .none kV_wish_behind dc_wish_behind pm_wish_behind an_wish_behind cd_wish_behind ct_wish_behind), sl_wish_behind⟩) (cwish_behind : PySem.W.codeIn K cd_wish_behind "wish_behind" = true) (kwish_behind : PySem.W.keepIn K (.ref a_wish_behind) = true)
    (ahanded_on : PySem.W.nsIn K mainGlobals "handed_on" = some (some (.ref a_handed_on))) (lhanded_on : K.lookup a_handed_on = some ⟨oc_handed_on, od_handed_on, .func (PySem.W.fnOf "handed_on" "handed_on" (defArgs s_handed_on) (defBody s_handed_on) (defScope s_handed_on) .none kV_handed_on dc_handed_on pm_handed_on an_handed_on cd_handed_on ct_handed_on), sl_handed_on⟩) (chanded_on : PySem.W.codeIn K cd_handed_on "handed_on" = true) (khanded_on : PySem.W.keepIn K (.ref a_handed_on) = true)
    (acompanies_within : PySem.W.nsIn K mainGlobals "companies_within" = some (some (.ref a_companies_within))) (lcompanies_within : K.lookup a_companies_within = some ⟨oc_companies_within, od_companies_within, .func (PySem.W.fnOf "companies_within" "companies_within" (defArgs s_companies_within) (defBody s_companies_within) (defScope s_companies_within) .none kV_companies_within dc_companies_within pm_companies_within an_companies_within cd_companies_within ct_companies_within), sl_companies_within⟩) (ccompanies_within : PySem.W.codeIn K cd_companies_within "companies_within" = true) (kcompanies_within : PySem.W.keepIn K (.ref a_companies_within) = true)
    (ais_number : PySem.W.nsIn K mainGlobals "is_number" = some (some (.ref a_is_number))) (lis_number : K.lookup a_is_number = some ⟨oc_is_number, od_is_number, .func (PySem.W.fnOf "is_number" "is_number" (defArgs s_is_number) (defBody s_is_number) (defScope s_is_number) .none kV_is_number dc_is_number pm_is_number an_is_number cd_is_number ct_is_number), sl_is_number⟩) (cis_number : PySem.W.codeIn K cd_is_number "is_number" = true) (kis_number : PySem.W.keepIn K (.ref a_is_number) = true)
    (ais_row : PySem.W.nsIn K mainGlobals "is_row" = some (some (.ref a_is_row))) (lis_row : K.lookup a_is_row = some ⟨oc_is_row, od_is_row, .func (PySem.W.fnOf "is_row" "is_row" (defArgs s_is_row) (defBody s_is_row) (defScope s_is_row) .none kV_is_row dc_is_row pm_is_row an_is_row cd_is_row ct_is_row), sl_is_row⟩) (cis_row : PySem.W.codeIn K cd_is_row "is_row" = true) (kis_row : PySem.W.keepIn K (.ref a_is_row) = true)
    (ais_saying : PySem.W.nsIn K mainGlobals "is_saying" = some (some (.ref a_is_saying))) (lis_saying : K.lookup a_is_saying = some ⟨oc_is_saying, od_is_saying, .func (PySem.W.fnOf "is_saying" "is_saying" (defArgs s_is_saying) (defBody s_is_saying) (defScope s_is_saying) .none kV_is_saying dc_is_saying pm_is_saying an_is_saying cd_is_saying ct_is_saying), sl_is_saying⟩) (cis_saying : PySem.W.codeIn K cd_is_saying "is_saying" = true) (kis_saying : PySem.W.keepIn K (.ref a_is_saying) = true)
    (aneed_number : PySem.W.nsIn K mainGlobals "need_number" = some (some (.ref a_need_number))) (lneed_number : K.lookup a_need_number = some ⟨oc_need_number, od_need_number, .func (PySem.W.fnOf "need_number" "need_number" (defArgs s_need_number) (defBody s_need_number) (defScope s_need_number) .none kV_need_number dc_need_number pm_need_number an_need_number cd_need_number ct_need_number), sl_need_number⟩) (cneed_number : PySem.W.codeIn K cd_need_number "need_number" = true) (kneed_number : PySem.W.keepIn K (.ref a_need_number) = true)
    (aneed_row : PySem.W.nsIn K mainGlobals "need_row" = some (some (.ref a_need_row))) (lneed_row : K.lookup a_need_row = some ⟨oc_need_row, od_need_row, .func (PySem.W.fnOf "need_row" "need_row" (defArgs s_need_row) (defBody s_need_row) (defScope s_need_row) .none kV_need_row dc_need_row pm_need_row an_need_row cd_need_row ct_need_row), sl_need_row⟩) (cneed_row : PySem.W.codeIn K cd_need_row "need_row" = true) (kneed_row : PySem.W.keepIn K (.ref a_need_row) = true)
    (aneed_place : PySem.W.nsIn K mainGlobals "need_place" = some (some (.ref a_need_place))) (lneed_place : K.lookup a_need_place = some ⟨oc_need_place, od_need_place, .func (PySem.W.fnOf "need_place" "need_place" (defArgs s_need_place) (defBody s_need_place) (defScope s_need_place) .none kV_need_place dc_need_place pm_need_place an_need_place cd_need_place ct_need_place), sl_need_place⟩) (cneed_place : PySem.W.codeIn K cd_need_place "need_place" = true) (kneed_place : PySem.W.keepIn K (.ref a_need_place) = true)
    (awishes : PySem.W.nsIn K mainGlobals "wishes" = some (some (.ref a_wishes))) (lwishes : K.lookup a_wishes = some ⟨oc_wishes, od_wishes, .func (PySem.W.fnOf "wishes" "wishes" (defArgs s_wishes) (defBody s_wishes) (defScope s_wishes) .none kV_wishes dc_wishes pm_wishes an_wishes cd_wishes ct_wishes), sl_wishes⟩) (cwishes : PySem.W.codeIn K cd_wishes "wishes" = true) (kwishes : PySem.W.keepIn K (.ref a_wishes) = true)
    (acompanies : PySem.W.nsIn K mainGlobals "companies" = some (some (.ref a_companies))) (lcompanies : K.lookup a_companies = some ⟨oc_companies, od_companies, .func (PySem.W.fnOf "companies" "companies" (defArgs s_companies) (defBody s_companies) (defScope s_companies) .none kV_companies dc_companies pm_companies an_companies cd_companies ct_companies), sl_companies⟩) (ccompanies : PySem.W.codeIn K cd_companies "companies" = true) (kcompanies : PySem.W.keepIn K (.ref a_companies) = true)
    (acompanies_between : PySem.W.nsIn K mainGlobals "companies_between" = some (some (.ref a_companies_between))) (lcompanies_between : K.lookup a_companies_between = some ⟨oc_companies_between, od_companies_between, .func (PySem.W.fnOf "companies_between" "companies_between" (defArgs s_companies_between) (defBody s_companies_between) (defScope s_companies_between) .none kV_companies_between dc_companies_between pm_companies_between an_companies_between cd_companies_between ct_companies_between), sl_companies_between⟩) (ccompanies_between : PySem.W.codeIn K cd_companies_between "companies_between" = true) (kcompanies_between : PySem.W.keepIn K (.ref a_companies_between) = true)
    (aleast_from : PySem.W.nsIn K mainGlobals "least_from" = some (some (.ref a_least_from))) (lleast_from : K.lookup a_least_from = some ⟨oc_least_from, od_least_from, .func (PySem.W.fnOf "least_from" "least_from" (defArgs s_least_from) (defBody s_least_from) (defScope s_least_from) .none kV_least_from dc_least_from pm_least_from an_least_from cd_least_from ct_least_from), sl_least_from⟩) (cleast_from : PySem.W.codeIn K cd_least_from "least_from" = true) (kleast_from : PySem.W.keepIn K (.ref a_least_from) = true)
    (al_jar : PySem.W.nsIn K mainGlobals "_law_jar" = some (some (.ref a_l_jar))) (ll_jar : K.lookup a_l_jar = some ⟨oc_l_jar, od_l_jar, .func (PySem.W.fnOf "_law_jar" "_law_jar" (defArgs s_l_jar) (defBody s_l_jar) (defScope s_l_jar) .none kV_l_jar dc_l_jar pm_l_jar an_l_jar cd_l_jar ct_l_jar), sl_l_jar⟩) (cl_jar : PySem.W.codeIn K cd_l_jar "_law_jar" = true) (kl_jar : PySem.W.keepIn K (.ref a_l_jar) = true)
    (al_pour : PySem.W.nsIn K mainGlobals "_law_pour" = some (some (.ref a_l_pour))) (ll_pour : K.lookup a_l_pour = some ⟨oc_l_pour, od_l_pour, .func (PySem.W.fnOf "_law_pour" "_law_pour" (defArgs s_l_pour) (defBody s_l_pour) (defScope s_l_pour) .none kV_l_pour dc_l_pour pm_l_pour an_l_pour cd_l_pour ct_l_pour), sl_l_pour⟩) (cl_pour : PySem.W.codeIn K cd_l_pour "_law_pour" = true) (kl_pour : PySem.W.keepIn K (.ref a_l_pour) = true)
    (al_number : PySem.W.nsIn K mainGlobals "_law_number" = some (some (.ref a_l_number))) (ll_number : K.lookup a_l_number = some ⟨oc_l_number, od_l_number, .func (PySem.W.fnOf "_law_number" "_law_number" (defArgs s_l_number) (defBody s_l_number) (defScope s_l_number) .none kV_l_number dc_l_number pm_l_number an_l_number cd_l_number ct_l_number), sl_l_number⟩) (cl_number : PySem.W.codeIn K cd_l_number "_law_number" = true) (kl_number : PySem.W.keepIn K (.ref a_l_number) = true)
    (al_saying : PySem.W.nsIn K mainGlobals "_law_saying" = some (some (.ref a_l_saying))) (ll_saying : K.lookup a_l_saying = some ⟨oc_l_saying, od_l_saying, .func (PySem.W.fnOf "_law_saying" "_law_saying" (defArgs s_l_saying) (defBody s_l_saying) (defScope s_l_saying) .none kV_l_saying dc_l_saying pm_l_saying an_l_saying cd_l_saying ct_l_saying), sl_l_saying⟩) (cl_saying : PySem.W.codeIn K cd_l_saying "_law_saying" = true) (kl_saying : PySem.W.keepIn K (.ref a_l_saying) = true)
    (al_row : PySem.W.nsIn K mainGlobals "_law_row" = some (some (.ref a_l_row))) (ll_row : K.lookup a_l_row = some ⟨oc_l_row, od_l_row, .func (PySem.W.fnOf "_law_row" "_law_row" (defArgs s_l_row) (defBody s_l_row) (defScope s_l_row) .none kV_l_row dc_l_row pm_l_row an_l_row cd_l_row ct_l_row), sl_l_row⟩) (cl_row : PySem.W.codeIn K cd_l_row "_law_row" = true) (kl_row : PySem.W.keepIn K (.ref a_l_row) = true)
    (al_total : PySem.W.nsIn K mainGlobals "_law_total" = some (some (.ref a_l_total))) (ll_total : K.lookup a_l_total = some ⟨oc_l_total, od_l_total, .func (PySem.W.fnOf "_law_total" "_law_total" (defArgs s_l_total) (defBody s_l_total) (defScope s_l_total) .none kV_l_total dc_l_total pm_l_total an_l_total cd_l_total ct_l_total), sl_l_total⟩) (cl_total : PySem.W.codeIn K cd_l_total "_law_total" = true) (kl_total : PySem.W.keepIn K (.ref a_l_total) = true)
    (al_handed_on : PySem.W.nsIn K mainGlobals "_law_handed_on" = some (some (.ref a_l_handed_on))) (ll_handed_on : K.lookup a_l_handed_on = some ⟨oc_l_handed_on, od_l_handed_on, .func (PySem.W.fnOf "_law_handed_on" "_law_handed_on" (defArgs s_l_handed_on) (defBody s_l_handed_on) (defScope s_l_handed_on) .none kV_l_handed_on dc_l_handed_on pm_l_handed_on an_l_handed_on cd_l_handed_on ct_l_handed_on), sl_l_handed_on⟩) (cl_handed_on : PySem.W.codeIn K cd_l_handed_on "_law_handed_on" = true) (kl_handed_on : PySem.W.keepIn K (.ref a_l_handed_on) = true)
    (al_does : PySem.W.nsIn K mainGlobals "_law_does" = some (some (.ref a_l_does))) (ll_does : K.lookup a_l_does = some ⟨oc_l_does, od_l_does, .func (PySem.W.fnOf "_law_does" "_law_does" (defArgs s_l_does) (defBody s_l_does) (defScope s_l_does) .none kV_l_does dc_l_does pm_l_does an_l_does cd_l_does ct_l_does), sl_l_does⟩) (cl_does : PySem.W.codeIn K cd_l_does "_law_does" = true) (kl_does : PySem.W.keepIn K (.ref a_l_does) = true)
    (al_between : PySem.W.nsIn K mainGlobals "_law_between" = some (some (.ref a_l_between))) (ll_between : K.lookup a_l_between = some ⟨oc_l_between, od_l_between, .func (PySem.W.fnOf "_law_between" "_law_between" (defArgs s_l_between) (defBody s_l_between) (defScope s_l_between) .none kV_l_between dc_l_between pm_l_between an_l_between cd_l_between ct_l_between), sl_l_between⟩) (cl_between : PySem.W.codeIn K cd_l_between "_law_between" = true) (kl_between : PySem.W.keepIn K (.ref a_l_between) = true)
    (al_small_right : PySem.W.nsIn K mainGlobals "_law_small_right" = some (some (.ref a_l_small_right))) (ll_small_right : K.lookup a_l_small_right = some ⟨oc_l_small_right, od_l_small_right, .func (PySem.W.fnOf "_law_small_right" "_law_small_right" (defArgs s_l_small_right) (defBody s_l_small_right) (defScope s_l_small_right) .none kV_l_small_right dc_l_small_right pm_l_small_right an_l_small_right cd_l_small_right ct_l_small_right), sl_l_small_right⟩) (cl_small_right : PySem.W.codeIn K cd_l_small_right "_law_small_right" = true) (kl_small_right : PySem.W.keepIn K (.ref a_l_small_right) = true)
    (al_ends_right : PySem.W.nsIn K mainGlobals "_law_ends_right" = some (some (.ref a_l_ends_right))) (ll_ends_right : K.lookup a_l_ends_right = some ⟨oc_l_ends_right, od_l_ends_right, .func (PySem.W.fnOf "_law_ends_right" "_law_ends_right" (defArgs s_l_ends_right) (defBody s_l_ends_right) (defScope s_l_ends_right) .none kV_l_ends_right dc_l_ends_right pm_l_ends_right an_l_ends_right cd_l_ends_right ct_l_ends_right), sl_l_ends_right⟩) (cl_ends_right : PySem.W.codeIn K cd_l_ends_right "_law_ends_right" = true) (kl_ends_right : PySem.W.keepIn K (.ref a_l_ends_right) = true)
    (al_right : PySem.W.nsIn K mainGlobals "_law_right" = some (some (.ref a_l_right))) (ll_right : K.lookup a_l_right = some ⟨oc_l_right, od_l_right, .func (PySem.W.fnOf "_law_right" "_law_right" (defArgs s_l_right) (defBody s_l_right) (defScope s_l_right) .none kV_l_right dc_l_right pm_l_right an_l_right cd_l_right ct_l_right), sl_l_right⟩) (cl_right : PySem.W.codeIn K cd_l_right "_law_right" = true) (kl_right : PySem.W.keepIn K (.ref a_l_right) = true)
    (al_changed_right : PySem.W.nsIn K mainGlobals "_law_changed_right" = some (some (.ref a_l_changed_right))) (ll_changed_right : K.lookup a_l_changed_right = some ⟨oc_l_changed_right, od_l_changed_right, .func (PySem.W.fnOf "_law_changed_right" "_law_changed_right" (defArgs s_l_changed_right) (defBody s_l_changed_right) (defScope s_l_changed_right) .none kV_l_changed_right dc_l_changed_right pm_l_changed_right an_l_changed_right cd_l_changed_right ct_l_changed_right), sl_l_changed_right⟩) (cl_changed_right : PySem.W.codeIn K cd_l_changed_right "_law_changed_right" = true) (kl_changed_right : PySem.W.keepIn K (.ref a_l_changed_right) = true)
    (alaw : PySem.W.nsIn K mainGlobals "law" = some (some (.ref a_law))) (llaw : K.lookup a_law = some ⟨oc_law, od_law, .func (PySem.W.fnOf "law" "law" (defArgs s_law) (defBody s_law) (defScope s_law) .none kV_law dc_law pm_law an_law cd_law ct_law), sl_law⟩) (claw : PySem.W.codeIn K cd_law "law" = true) (klaw : PySem.W.keepIn K (.ref a_law) = true)
    (zbool : PySem.W.nsIn K mainGlobals "bool" = some none)
    (zint : PySem.W.nsIn K mainGlobals "int" = some none)
    (zisinstance : PySem.W.nsIn K mainGlobals "isinstance" = some none)
    (zlen : PySem.W.nsIn K mainGlobals "len" = some none)
    (zlist : PySem.W.nsIn K mainGlobals "list" = some none)
    (zmax : PySem.W.nsIn K mainGlobals "max" = some none)
    (zmin : PySem.W.nsIn K mainGlobals "min" = some none)
    (zrange : PySem.W.nsIn K mainGlobals "range" = some none)
    (zrepr : PySem.W.nsIn K mainGlobals "repr" = some none)
    (ztuple : PySem.W.nsIn K mainGlobals "tuple" = some none)
    : ∃ fd : FuncData, (∀ (s : Shared) (v : Value), BindsTo s fd ⟨[v], []⟩ [("_law_script", v)]) ∧ ∀ base : Heap, K.In base → base.Ns mainGlobals mg → FnG l.prog w K mg base 6 fa fd ["_law_script"] (spD K 1 4 m_law) := by
  have e := hfa.symm.trans (PySem.W.mg_of X G alaw)
  cases e
  have Fstretch_to := fun_mk (st := s_stretch_to) lstretch_to cstretch_to kstretch_to
  have bstretch_to := Fstretch_to.binds (ps := ["first", "beyond"]) fun _ _ _ _ _ _ us hl => match us, hl with | [_, _], _ => rfl
  have Fwish_behind := fun_mk (st := s_wish_behind) lwish_behind cwish_behind kwish_behind
  have bwish_behind := Fwish_behind.binds (ps := ["people", "wish"]) fun _ _ _ _ _ _ us hl => match us, hl with | [_, _], _ => rfl
  have Fhanded_on := fun_mk (st := s_handed_on) lhanded_on chanded_on khanded_on
  have bhanded_on := Fhanded_on.binds (ps := ["saying", "wish"]) fun _ _ _ _ _ _ us hl => match us, hl with | [_, _], _ => rfl
  have Fcompanies_within := fun_mk (st := s_companies_within) lcompanies_within ccompanies_within kcompanies_within
  have bcompanies_within := Fcompanies_within.binds (ps := ["people", "saying"]) fun _ _ _ _ _ _ us hl => match us, hl with | [_, _], _ => rfl
  have Fis_number := fun_mk (st := s_is_number) lis_number cis_number kis_number
  have bis_number := Fis_number.binds (ps := ["thing"]) fun _ _ _ _ _ _ us hl => match us, hl with | [_], _ => rfl
  have Fis_row := fun_mk (st := s_is_row) lis_row cis_row kis_row
  have bis_row := Fis_row.binds (ps := ["thing"]) fun _ _ _ _ _ _ us hl => match us, hl with | [_], _ => rfl
  have Fis_saying := fun_mk (st := s_is_saying) lis_saying cis_saying kis_saying
  have bis_saying := Fis_saying.binds (ps := ["thing"]) fun _ _ _ _ _ _ us hl => match us, hl with | [_], _ => rfl
  have Fneed_number := fun_mk (st := s_need_number) lneed_number cneed_number kneed_number
  have bneed_number := Fneed_number.binds (ps := ["thing"]) fun _ _ _ _ _ _ us hl => match us, hl with | [_], _ => rfl
  have Fneed_row := fun_mk (st := s_need_row) lneed_row cneed_row kneed_row
  have bneed_row := Fneed_row.binds (ps := ["thing"]) fun _ _ _ _ _ _ us hl => match us, hl with | [_], _ => rfl
  have Fneed_place := fun_mk (st := s_need_place) lneed_place cneed_place kneed_place
  have bneed_place := Fneed_place.binds (ps := ["thing", "places"]) fun _ _ _ _ _ _ us hl => match us, hl with | [_, _], _ => rfl
  have Fwishes := fun_mk (st := s_wishes) lwishes cwishes kwishes
  have bwishes := Fwishes.binds (ps := ["row", "many"]) fun _ _ _ _ _ _ us hl => match us, hl with | [_, _], _ => rfl
  have Fcompanies := fun_mk (st := s_companies) lcompanies ccompanies kcompanies
  have bcompanies := Fcompanies.binds (ps := ["row", "total"]) fun _ _ _ _ _ _ us hl => match us, hl with | [_, _], _ => rfl
  have Fcompanies_between := fun_mk (st := s_companies_between) lcompanies_between ccompanies_between kcompanies_between
  have bcompanies_between := Fcompanies_between.binds (ps := ["row", "least", "most"]) fun _ _ _ _ _ _ us hl => match us, hl with | [_, _, _], _ => rfl
  have Fleast_from := fun_mk (st := s_least_from) lleast_from cleast_from kleast_from
  have bleast_from := Fleast_from.binds (ps := ["row", "place", "many"]) fun _ _ _ _ _ _ us hl => match us, hl with | [_, _, _], _ => rfl
  have Fl_jar := fun_mk (st := s_l_jar) ll_jar cl_jar kl_jar
  have bl_jar := Fl_jar.binds (ps := ["_law_script", "_law_k"]) fun _ _ _ _ _ _ us hl => match us, hl with | [_, _], _ => rfl
  have Fl_pour := fun_mk (st := s_l_pour) ll_pour cl_pour kl_pour
  have bl_pour := Fl_pour.binds (ps := ["_law_jar_here", "_law_many"]) fun _ _ _ _ _ _ us hl => match us, hl with | [_, _], _ => rfl
  have Fl_number := fun_mk (st := s_l_number) ll_number cl_number kl_number
  have bl_number := Fl_number.binds (ps := ["_law_jar_here", "_law_top"]) fun _ _ _ _ _ _ us hl => match us, hl with | [_, _], _ => rfl
  have Fl_saying := fun_mk (st := s_l_saying) ll_saying cl_saying kl_saying
  have bl_saying := Fl_saying.binds (ps := ["_law_jar_here", "_law_top"]) fun _ _ _ _ _ _ us hl => match us, hl with | [_, _], _ => rfl
  have Fl_row := fun_mk (st := s_l_row) ll_row cl_row kl_row
  have bl_row := Fl_row.binds (ps := ["_law_jar_here", "_law_people", "_law_top"]) fun _ _ _ _ _ _ us hl => match us, hl with | [_, _, _], _ => rfl
  have Fl_total := fun_mk (st := s_l_total) ll_total cl_total kl_total
  have bl_total := Fl_total.binds (ps := ["_law_row_here", "_law_company"]) fun _ _ _ _ _ _ us hl => match us, hl with | [_, _], _ => rfl
  have Fl_handed_on := fun_mk (st := s_l_handed_on) ll_handed_on cl_handed_on kl_handed_on
  have bl_handed_on := Fl_handed_on.binds (ps := ["_law_row_here", "_law_many"]) fun _ _ _ _ _ _ us hl => match us, hl with | [_, _], _ => rfl
  have Fl_does := fun_mk (st := s_l_does) ll_does cl_does kl_does
  have bl_does := Fl_does.binds (ps := ["_law_row_here", "_law_company", "_law_many"]) fun _ _ _ _ _ _ us hl => match us, hl with | [_, _, _], _ => rfl
  have Fl_between := fun_mk (st := s_l_between) ll_between cl_between kl_between
  have bl_between := Fl_between.binds (ps := ["_law_row_here", "_law_least", "_law_most"]) fun _ _ _ _ _ _ us hl => match us, hl with | [_, _, _], _ => rfl
  have Fl_small_right := fun_mk (st := s_l_small_right) ll_small_right cl_small_right kl_small_right
  have bl_small_right := Fl_small_right.binds (ps := ["_law_jar_here", "_law_row_here"]) fun _ _ _ _ _ _ us hl => match us, hl with | [_, _], _ => rfl
  have Fl_ends_right := fun_mk (st := s_l_ends_right) ll_ends_right cl_ends_right kl_ends_right
  have bl_ends_right := Fl_ends_right.binds (ps := ["_law_row_here", "_law_stretch", "_law_least", "_law_most"]) fun _ _ _ _ _ _ us hl => match us, hl with | [_, _, _, _], _ => rfl
  have Fl_right := fun_mk (st := s_l_right) ll_right cl_right kl_right
  have bl_right := Fl_right.binds (ps := ["_law_jar_here", "_law_row_here", "_law_top"]) fun _ _ _ _ _ _ us hl => match us, hl with | [_, _, _], _ => rfl
  have Fl_changed_right := fun_mk (st := s_l_changed_right) ll_changed_right cl_changed_right kl_changed_right
  have bl_changed_right := Fl_changed_right.binds (ps := ["_law_jar_here", "_law_row_here"]) fun _ _ _ _ _ _ us hl => match us, hl with | [_, _], _ => rfl
  have Flaw := fun_mk (st := s_law) llaw claw klaw
  have blaw := Flaw.binds (ps := ["_law_script"]) fun _ _ _ _ _ _ us hl => match us, hl with | [_], _ => rfl
  have T : Tx K mg a_stretch_to _ a_wish_behind _ a_handed_on _ a_companies_within _ a_is_number _ a_is_row _ a_is_saying _ a_need_number _ a_need_row _ a_need_place _ a_wishes _ a_companies _ a_companies_between _ a_least_from _ a_l_jar _ a_l_pour _ a_l_number _ a_l_saying _ a_l_row _ a_l_total _ a_l_handed_on _ a_l_does _ a_l_between _ a_l_small_right _ a_l_ends_right _ a_l_right _ a_l_changed_right _ fa _ := ⟨PySem.W.mg_none_of X G zbool, PySem.W.mg_none_of X G zint, PySem.W.mg_none_of X G zisinstance, PySem.W.mg_none_of X G zlen, PySem.W.mg_none_of X G zlist, PySem.W.mg_none_of X G zmax, PySem.W.mg_none_of X G zmin, PySem.W.mg_none_of X G zrange, PySem.W.mg_none_of X G zrepr, PySem.W.mg_none_of X G ztuple, Fstretch_to, PySem.W.mg_of X G astretch_to, bstretch_to, Fwish_behind, PySem.W.mg_of X G awish_behind, bwish_behind, Fhanded_on, PySem.W.mg_of X G ahanded_on, bhanded_on, Fcompanies_within, PySem.W.mg_of X G acompanies_within, bcompanies_within, Fis_number, PySem.W.mg_of X G ais_number, bis_number, Fis_row, PySem.W.mg_of X G ais_row, bis_row, Fis_saying, PySem.W.mg_of X G ais_saying, bis_saying, Fneed_number, PySem.W.mg_of X G aneed_number, bneed_number, Fneed_row, PySem.W.mg_of X G aneed_row, bneed_row, Fneed_place, PySem.W.mg_of X G aneed_place, bneed_place, Fwishes, PySem.W.mg_of X G awishes, bwishes, Fcompanies, PySem.W.mg_of X G acompanies, bcompanies, Fcompanies_between, PySem.W.mg_of X G acompanies_between, bcompanies_between, Fleast_from, PySem.W.mg_of X G aleast_from, bleast_from, Fl_jar, PySem.W.mg_of X G al_jar, bl_jar, Fl_pour, PySem.W.mg_of X G al_pour, bl_pour, Fl_number, PySem.W.mg_of X G al_number, bl_number, Fl_saying, PySem.W.mg_of X G al_saying, bl_saying, Fl_row, PySem.W.mg_of X G al_row, bl_row, Fl_total, PySem.W.mg_of X G al_total, bl_total, Fl_handed_on, PySem.W.mg_of X G al_handed_on, bl_handed_on, Fl_does, PySem.W.mg_of X G al_does, bl_does, Fl_between, PySem.W.mg_of X G al_between, bl_between, Fl_small_right, PySem.W.mg_of X G al_small_right, bl_small_right, Fl_ends_right, PySem.W.mg_of X G al_ends_right, bl_ends_right, Fl_right, PySem.W.mg_of X G al_right, bl_right, Fl_changed_right, PySem.W.mg_of X G al_changed_right, bl_changed_right, Flaw, PySem.W.mg_of X G alaw, blaw⟩
  exact ⟨_, fun s v => .of_eq rfl, fun base _ _ => ok_law T⟩
end Y
namespace Y
open PySem PL L2
def p_stretch_to (d1 : D) (d2 : D) : Option (D) :=
  bind1 (gIs d2 (.none : D)) fun v18 =>
  bind1 (asBool v18) fun b20 =>
  if b20 = true then
    some (.tuple [d1, (.none : D)])
  else
    bind1 (gLe d2 d1) fun v24 =>
    bind1 (asBool v24) fun b26 =>
    if b26 = true then
      some (.none : D)
    else
      bind1 (gSub' d2 (.int 1)) fun v30 =>
      some (.tuple [d1, v30])
def p_wish_behind_b1 (x181 : D) (v151 : D) : Option (D) :=
  bind2 (tup2 x181) fun v182 v183 =>
  bind1 (
    bind1 (gLt v182 v151) fun v185 =>
    bind1 (asBool v185) fun b187 =>
    if b187 = true then
      bind1 (gIs v183 (.none : D)) fun v189 =>
      bind1 (asBool v189) fun b191 =>
      if b191 = true then
        some true
      else
        bind1 (addV v183 (.int 1)) fun v193 =>
        bind1 (gLe v151 v193) fun v195 =>
        bind1 (asBool v195) fun b197 =>
        some b197
    else
      some false) fun b199 =>
  if b199 = true then
    bind1 (gSub' v151 (.int 1)) fun v202 =>
    some v202
  else
    some v151
def p_wish_behind (d33 : D) (d34 : D) : Option (D) :=
  bind2 (itemsD d33) fun q123 x124 =>
  bind1 (foldP (fun x s => p_wish_behind_b1 x s) x124 d34) fun v205 =>
  some v205
def p_handed_on (d211 : D) (d212 : D) : Option (D) :=
  bind1 (p_wish_behind (.list [d211]) d212) fun v218 =>
  some v218
def p_companies_within (d223 : D) (d224 : D) : Option (D) :=
  bind2 (tup2 d224) fun v253 v254 =>
  bind1 (p_wish_behind d223 v253) fun v257 =>
  bind1 (gIs v254 (.none : D)) fun v262 =>
  bind1 (asBool v262) fun b264 =>
  if b264 = true then
    bind1 (p_stretch_to v257 (.none : D)) fun v267 =>
    some v267
  else
    bind1 (addV v254 (.int 1)) fun v271 =>
    bind1 (p_wish_behind d223 v271) fun v273 =>
    bind1 (p_stretch_to v257 v273) fun v277 =>
    some v277
def p_is_number (d281 : D) : Option (D) :=
  bind1 (
    bind1 ((gIsi ["int"]) d281) fun v295 =>
    bind1 (asBool v295) fun b297 =>
    if b297 = true then
      bind1 ((gIsi ["bool"]) d281) fun v299 =>
      bind1 (asBool v299) fun b301 =>
      if b301 = true then
        some (.bool false)
      else
        bind1 (gGe d281 (.int 0)) fun v303 =>
        some v303
    else
      some (.bool false)) fun v305 =>
  some v305
def p_is_row_b1 (x662 : D) : Option (Ct (Unit) (D)) :=
  bind1 (
    bind1 ((gIsi ["tuple"]) x662) fun v663 =>
    bind1 (truD v663) fun b665 =>
    if b665 = true then
      bind1 (gLen [x662]) fun v667 =>
      bind1 (gNe v667 (.int 2)) fun v669 =>
      bind1 (asBool v669) fun b671 =>
      some b671
    else
      some true) fun b673 =>
  if b673 = true then
    some (.rt (.bool false))
  else
    bind2 (tup2 x662) fun v677 v678 =>
    bind1 (
      bind1 ((gIsi ["int"]) v677) fun v681 =>
      bind1 (truD v681) fun b683 =>
      if b683 = true then
        bind1 (gLt v677 (.int 0)) fun v685 =>
        bind1 (asBool v685) fun b687 =>
        if b687 = true then
          some true
        else
          bind1 (gIs v677 (.bool true)) fun v689 =>
          bind1 (asBool v689) fun b691 =>
          if b691 = true then
            some true
          else
            bind1 (gIs v677 (.bool false)) fun v693 =>
            bind1 (asBool v693) fun b695 =>
            some b695
      else
        some true) fun b697 =>
    if b697 = true then
      some (.rt (.bool false))
    else
      bind1 (
        bind1 (gNot v678 (.none : D)) fun v701 =>
        bind1 (asBool v701) fun b703 =>
        if b703 = true then
          bind1 ((gIsi ["int"]) v678) fun v705 =>
          bind1 (truD v705) fun b707 =>
          if b707 = true then
            bind1 (gLt v678 v677) fun v709 =>
            bind1 (asBool v709) fun b711 =>
            if b711 = true then
              some true
            else
              bind1 (gIs v678 (.bool true)) fun v713 =>
              bind1 (asBool v713) fun b715 =>
              if b715 = true then
                some true
              else
                bind1 (gIs v678 (.bool false)) fun v717 =>
                bind1 (asBool v717) fun b719 =>
                some b719
          else
            some true
        else
          some false) fun b721 =>
      if b721 = true then
        some (.rt (.bool false))
      else
        some (.nx ())
def p_is_row (d308 : D) : Option (D) :=
  bind1 ((gIsi ["list", "tuple"]) d308) fun v520 =>
  bind1 (truD v520) fun b522 =>
  if b522 = true then
    bind2 (itemsD d308) fun q526 x527 =>
    ctB0 (forP (fun x _ => p_is_row_b1 x) x527 ()) (fun r => some r) fun _ =>
    some (.bool true)
  else
    some (.bool false)
def p_is_saying (d732 : D) : Option (D) :=
  bind1 (p_is_row (.list [d732])) fun v737 =>
  some v737
def p_need_number (d741 : D) : Option (D) :=
  bind1 (p_is_number d741) fun v748 =>
  bind1 (truD v748) fun b751 =>
  if b751 = true then
    some (.none : D)
  else
    none
def p_need_row (d754 : D) : Option (D) :=
  bind1 (p_is_row d754) fun v761 =>
  bind1 (truD v761) fun b764 =>
  if b764 = true then
    some (.none : D)
  else
    none
def p_need_place (d767 : D) (d768 : D) : Option (D) :=
  bind1 (
    bind1 (p_is_number d767) fun v781 =>
    bind1 (truD v781) fun b784 =>
    if b784 = true then
      bind1 (gGe d767 d768) fun v786 =>
      bind1 (asBool v786) fun b788 =>
      some b788
    else
      some true) fun b790 =>
  if b790 = true then
    none
  else
    some (.none : D)
def p_wishes_b1 (x894 : D) (v878 : D) : Option (D) :=
  bind1 (negP (.int 1)) fun v895 =>
  bind1 (gIx v878 v895) fun v897 =>
  bind1 (p_handed_on x894 v897) fun v899 =>
  bind2 (mutP gAppend v878 [v899]) fun v902 v903 =>
  some v902
def p_wishes (d793 : D) (d794 : D) : Option (D) :=
  bind1 (p_need_row d793) fun v853 =>
  bind1 (p_need_number d794) fun v857 =>
  bind2 (itemsD d793) fun q862 x863 =>
  bind1 (foldP (fun x s => p_wishes_b1 x s) x863 (.list [d794])) fun v906 =>
  some v906
def p_companies (d911 : D) (d912 : D) : Option (D) :=
  bind1 (p_need_row d911) fun v925 =>
  bind1 (p_need_number d912) fun v929 =>
  bind1 (p_companies_within d911 (.tuple [d912, d912])) fun v933 =>
  some v933
def p_companies_between (d937 : D) (d938 : D) (d939 : D) : Option (D) :=
  bind1 (p_need_row d937) fun v954 =>
  bind1 (p_is_saying (.tuple [d938, d939])) fun v958 =>
  bind1 (truD v958) fun b961 =>
  if b961 = true then
    bind1 (p_companies_within d937 (.tuple [d938, d939])) fun v964 =>
    some v964
  else
    none
def p_least_from (d968 : D) (d969 : D) (d970 : D) : Option (D) :=
  bind1 (p_need_row d968) fun v999 =>
  bind1 (gLen [d968]) fun v1003 =>
  bind1 (addV v1003 (.int 1)) fun v1005 =>
  bind1 (p_need_place d969 v1005) fun v1007 =>
  bind1 (p_need_number d970) fun v1011 =>
  bind1 (atP d969) fun u1015 =>
  bind1 (ixP d969) fun i1017 =>
  bind2 (sliceW d968 (some i1017) none) fun b1019 v1020 =>
  bind1 (p_wish_behind v1020 d970) fun v1022 =>
  some v1022
def p_l_jar (d1027 : List Int) (d1028 : D) : Option (D) :=
  bind1 (
    bind1 (gLt d1028 (.int ((d1027.length : Nat) : Int))) fun v1057 =>
    bind1 (asBool v1057) fun b1059 =>
    if b1059 = true then
      bind1 (atP d1028) fun u1061 =>
      bind1 (ixSP d1027 d1028) fun v1063 =>
      some v1063
    else
      some (.int 0)) fun v1065 =>
  bind1 (gPow (.int 10) (.int 18)) fun v1068 =>
  bind1 (gSub' v1065 v1068) fun v1070 =>
  bind1 (gMax2 [(.int 0), v1070]) fun v1072 =>
  bind1 (gPow (.int 10) (.int 35)) fun v1074 =>
  bind1 (addV v1074 (.int 69)) fun v1076 =>
  bind1 (gMod v1065 v1076) fun v1078 =>
  bind1 (mulV v1078 (.int 128)) fun v1080 =>
  bind1 (addV v1080 d1028) fun v1082 =>
  some (.list [v1072, v1082, (.int 0)])
def p_l_pour (d1085 : D) (d1086 : D) : Option (D × D) :=
  bind1 (gIx d1085 (.int 0)) fun v1151 =>
  bind1 (gGt v1151 (.int 0)) fun v1153 =>
  bind1 (asBool v1153) fun b1155 =>
  if b1155 = true then
    bind1 (gIx d1085 (.int 0)) fun v1158 =>
    bind1 (gMod v1158 d1086) fun v1160 =>
    bind1 (gIx d1085 (.int 0)) fun v1163 =>
    bind1 (gDiv v1163 d1086) fun v1165 =>
    bind1 (setP d1085 (.int 0) v1165) fun v1167 =>
    some (v1160, v1167)
  else
    bind1 (gIx d1085 (.int 2)) fun v1171 =>
    bind1 (addV v1171 (.int 1)) fun v1173 =>
    bind1 (setP d1085 (.int 2) v1173) fun v1175 =>
    bind1 (gIx v1175 (.int 1)) fun v1178 =>
    bind1 (gIx v1175 (.int 2)) fun v1180 =>
    bind1 (mulV (.int 32452843) v1180) fun v1182 =>
    bind1 (addV v1178 v1182) fun v1184 =>
    bind1 (gPow v1184 (.int 3)) fun v1186 =>
    bind1 (gPow (.int 10) (.int 37)) fun v1188 =>
    bind1 (addV v1188 (.int 43)) fun v1190 =>
    bind1 (gMod v1186 v1190) fun v1192 =>
    bind1 (gIx v1175 (.int 2)) fun v1195 =>
    bind1 (mulV (.int 49979687) v1195) fun v1197 =>
    bind1 (addV v1192 v1197) fun v1199 =>
    bind1 (gPow v1199 (.int 5)) fun v1201 =>
    bind1 (gPow (.int 10) (.int 39)) fun v1203 =>
    bind1 (addV v1203 (.int 3)) fun v1205 =>
    bind1 (gMod v1201 v1205) fun v1207 =>
    bind1 (gDiv v1207 (.int 131071)) fun v1210 =>
    bind1 (gMod v1210 d1086) fun v1212 =>
    some (v1212, v1175)
def p_l_number (d1216 : D) (d1217 : D) : Option (D × D) :=
  bind2 (p_l_pour d1216 (.int 3)) fun v1237 v1238 =>
  bind2 (p_l_pour v1238 (.int 9)) fun v1241 v1242 =>
  bind2 (p_l_pour v1242 d1217) fun v1245 v1246 =>
  bind2 (p_l_pour v1246 (.int 3)) fun v1249 v1250 =>
  bind1 (gIx (.list [v1237, v1241, v1245]) v1249) fun v1253 =>
  some (v1253, v1250)
def p_l_saying (d1257 : D) (d1258 : D) : Option (D × D) :=
  bind2 (p_l_number d1257 d1258) fun v1278 v1279 =>
  bind2 (p_l_number v1279 d1258) fun v1283 v1284 =>
  bind1 (addV v1278 v1283) fun v1287 =>
  bind2 (p_l_pour v1284 (.int 5)) fun v1290 v1291 =>
  bind1 (gIx (.list [v1287, v1287, v1287, v1287, (.none : D)]) v1290) fun v1294 =>
  some ((PyData.tuple [v1278, v1294]), v1291)
def p_l_row_c1 (d1300 : D) (x1353 : D) (v1346 : D) : Option (Option D × (D)) :=
  bind2 (p_l_saying v1346 d1300) fun v1354 v1355 =>
  some ((some v1354), v1355)
def p_l_row (d1298 : D) (d1299 : D) (d1300 : D) : Option (D × D) :=
  bind1 (addV d1299 (.int 1)) fun v1333 =>
  bind2 (p_l_pour d1298 v1333) fun v1335 v1336 =>
  bind1 (rng1P v1335) fun x1339 =>
  bind2 (lcT (fun x s => p_l_row_c1 d1300 x s) x1339 v1336) fun x1358 v1361 =>
  some ((PyData.list x1358), v1361)
def p_l_total_b1 (x1545 : D) (v1510 : D) : Option (D) :=
  bind2 (tup2 x1545) fun v1546 v1547 =>
  bind1 (
    bind1 (gLe v1546 v1510) fun v1549 =>
    bind1 (asBool v1549) fun b1551 =>
    if b1551 = true then
      bind1 (gIs v1547 (.none : D)) fun v1553 =>
      bind1 (asBool v1553) fun b1555 =>
      if b1555 = true then
        bind1 (gInt1 [(.bool true)]) fun v1557 =>
        bind1 (addV v1510 v1557) fun v1559 =>
        some v1559
      else
        bind1 (gLe v1510 v1547) fun v1561 =>
        bind1 (gInt1 [v1561]) fun v1563 =>
        bind1 (addV v1510 v1563) fun v1565 =>
        some v1565
    else
      bind1 (gInt1 [(.bool false)]) fun v1567 =>
      bind1 (addV v1510 v1567) fun v1569 =>
      some v1569) fun v1571 =>
  some v1571
def p_l_total (d1366 : D) (d1367 : D) : Option (D) :=
  bind1 (gRevs d1366) fun v1475 =>
  bind2 (itemsD v1475) fun q1477 x1478 =>
  bind1 (foldP (fun x s => p_l_total_b1 x s) x1478 d1367) fun v1574 =>
  some v1574
def p_l_handed_on_b1 (x1790 : D) (v1747 : D) : Option (D) :=
  bind2 (tup2 x1790) fun v1791 v1792 =>
  bind1 (
    bind1 (negP (.int 1)) fun v1794 =>
    bind1 (gIx v1747 v1794) fun v1796 =>
    bind1 (gLt v1791 v1796) fun v1798 =>
    bind1 (asBool v1798) fun b1800 =>
    if b1800 = true then
      bind1 (gIs v1792 (.none : D)) fun v1802 =>
      bind1 (asBool v1802) fun b1804 =>
      if b1804 = true then
        some (.bool true)
      else
        bind1 (gSub' v1796 (.int 1)) fun v1806 =>
        bind1 (gLe v1806 v1792) fun v1808 =>
        some v1808
    else
      some (.bool false)) fun v1810 =>
  bind1 (negP (.int 1)) fun v1813 =>
  bind1 (gIx v1747 v1813) fun v1815 =>
  bind1 (gInt1 [v1810]) fun v1817 =>
  bind1 (gSub' v1815 v1817) fun v1819 =>
  bind2 (mutP gAppend v1747 [v1819]) fun v1821 v1822 =>
  some v1821
def p_l_handed_on (d1580 : D) (d1581 : D) : Option (D) :=
  bind2 (itemsD d1580) fun q1708 x1709 =>
  bind1 (foldP (fun x s => p_l_handed_on_b1 x s) x1709 (.list [d1581])) fun v1825 =>
  some v1825
def p_l_does (d1832 : D) (d1833 : D) (d1834 : D) : Option (D) :=
  bind1 (
    bind1 (p_l_total d1832 d1833) fun v1856 =>
    bind1 (gGe v1856 d1834) fun v1859 =>
    bind1 (asBool v1859) fun b1861 =>
    if b1861 = true then
      bind1 (gEq d1833 (.int 0)) fun v1863 =>
      bind1 (asBool v1863) fun b1865 =>
      if b1865 = true then
        some (.bool true)
      else
        bind1 (gSub' d1833 (.int 1)) fun v1867 =>
        bind1 (p_l_total d1832 v1867) fun v1869 =>
        bind1 (gLt v1869 d1834) fun v1872 =>
        some v1872
    else
      some (.bool false)) fun v1874 =>
  some v1874
def p_l_between_c1 (d1877 : D) (d1878 : D) (x1970 : D) : Option (Option D) :=
  bind1 (p_l_total d1877 x1970) fun v1971 =>
  bind1 (gLe d1878 v1971) fun v1974 =>
  bind1 (asBool v1974) fun b1976 =>
  if b1976 = true then
    some (some x1970)
  else
    some none
def p_l_between_c2 (d1877 : D) (d1879 : D) (x2006 : D) : Option (Option D) :=
  bind1 (p_l_total d1877 x2006) fun v2007 =>
  bind1 (gLe v2007 d1879) fun v2010 =>
  bind1 (asBool v2010) fun b2012 =>
  if b2012 = true then
    some (some x2006)
  else
    some none
def p_l_between (d1877 : D) (d1878 : D) (d1879 : D) : Option (D) :=
  bind1 (rng1P (.int 61)) fun x1960 =>
  bind1 (filT (p_l_between_c1 d1877 d1878) x1960) fun x1978 =>
  bind1 (
    bind1 (gNot d1879 (.none : D)) fun v1990 =>
    bind1 (asBool v1990) fun b1992 =>
    if b1992 = true then
      bind2 (itemsD (.list x1978)) fun q1995 x1996 =>
      bind1 (filT (p_l_between_c2 d1877 d1879) x1996) fun x2014 =>
      some (.list x2014)
    else
      some (.list x1978)) fun v2020 =>
  bind1 (gEq v2020 (.list [])) fun v2021 =>
  bind1 (asBool v2021) fun b2023 =>
  if b2023 = true then
    some (.none : D)
  else
    bind1 (
      bind1 (gIx v2020 (.int 0)) fun v2027 =>
      bind1 (gIs d1879 (.none : D)) fun v2029 =>
      bind1 (asBool v2029) fun b2031 =>
      if b2031 = true then
        some (.tuple [v2027, (.none : D)])
      else
        bind1 (negP (.int 1)) fun v2033 =>
        bind1 (gIx v2020 v2033) fun v2035 =>
        some (.tuple [v2027, v2035])) fun v2037 =>
    some v2037
def p_l_small_right_b1 (d2041 : D) (v2150 : D) (x2213 : D) : Option (Ct (Unit) (D × D)) :=
  bind1 (p_companies d2041 x2213) fun v2214 =>
  bind1 (gRepr [v2214]) fun v2217 =>
  bind1 (p_l_between d2041 x2213 x2213) fun v2219 =>
  bind1 (gRepr [v2219]) fun v2222 =>
  bind1 (gNe v2217 v2222) fun v2224 =>
  bind1 (asBool v2224) fun b2226 =>
  if b2226 = true then
    some (.rt ((PyData.bool false), v2150))
  else
    some (.nx ())
def p_l_small_right (d2040 : D) (d2041 : D) : Option (D × D) :=
  bind2 (p_l_pour d2040 (.int 40)) fun v2138 v2139 =>
  bind2 (p_l_number v2139 (.int 9)) fun v2143 v2144 =>
  bind1 (addV v2138 v2143) fun v2147 =>
  bind2 (p_l_pour v2144 (.int 3)) fun v2149 v2150 =>
  bind1 (gDiv v2149 (.int 2)) fun v2153 =>
  bind1 (gIx (.list [v2147, (.none : D)]) v2153) fun v2155 =>
  bind1 (p_companies_between d2041 v2138 v2155) fun v2158 =>
  bind1 (gRepr [v2158]) fun v2161 =>
  bind1 (p_l_between d2041 v2138 v2155) fun v2163 =>
  bind1 (gRepr [v2163]) fun v2166 =>
  bind1 (gNe v2161 v2166) fun v2168 =>
  bind1 (asBool v2168) fun b2170 =>
  if b2170 = true then
    some ((PyData.bool false), v2150)
  else
    bind1 (rng1P (.int 45)) fun x2174 =>
    ctB0 (forP (fun x _ => p_l_small_right_b1 d2041 v2150 x) x2174 ()) (fun r => some r) fun _ =>
    some ((PyData.bool true), v2150)
def p_l_ends_right (d2236 : D) (d2237 : D) (d2238 : D) (d2239 : D) : Option (D) :=
  bind1 (gIs d2237 (.none : D)) fun v2334 =>
  bind1 (asBool v2334) fun b2336 =>
  if b2336 = true then
    bind1 (p_l_handed_on d2236 d2238) fun v2339 =>
    bind1 (negP (.int 1)) fun v2342 =>
    bind1 (gIx v2339 v2342) fun v2344 =>
    bind1 (
      bind1 (gNot d2239 (.none : D)) fun v2347 =>
      bind1 (asBool v2347) fun b2349 =>
      if b2349 = true then
        bind1 (p_l_total d2236 v2344) fun v2351 =>
        bind1 (gGt v2351 d2239) fun v2354 =>
        some v2354
      else
        some (.bool false)) fun v2356 =>
    some v2356
  else
    bind2 (tup2 d2237) fun v2359 v2360 =>
    bind1 (
      bind1 (p_l_total d2236 v2359) fun v2363 =>
      bind1 (gLt v2363 d2238) fun v2366 =>
      bind1 (asBool v2366) fun b2368 =>
      if b2368 = true then
        some true
      else
        bind1 (gGt v2359 (.int 0)) fun v2370 =>
        bind1 (asBool v2370) fun b2372 =>
        if b2372 = true then
          bind1 (gSub' v2359 (.int 1)) fun v2374 =>
          bind1 (p_l_total d2236 v2374) fun v2376 =>
          bind1 (gGe v2376 d2238) fun v2379 =>
          bind1 (asBool v2379) fun b2381 =>
          some b2381
        else
          some false) fun b2383 =>
    if b2383 = true then
      some (.bool false)
    else
      bind1 (
        bind1 (gIs d2239 (.none : D)) fun v2387 =>
        bind1 (asBool v2387) fun b2389 =>
        if b2389 = true then
          some true
        else
          bind1 (gIs v2360 (.none : D)) fun v2391 =>
          bind1 (asBool v2391) fun b2393 =>
          some b2393) fun b2395 =>
      if b2395 = true then
        bind1 (
          bind1 (gIs d2239 (.none : D)) fun v2398 =>
          bind1 (asBool v2398) fun b2400 =>
          if b2400 = true then
            bind1 (gIs v2360 (.none : D)) fun v2402 =>
            some v2402
          else
            some (.bool false)) fun v2404 =>
        some v2404
      else
        bind1 (
          bind1 (gLe v2359 v2360) fun v2407 =>
          bind1 (asBool v2407) fun b2409 =>
          if b2409 = true then
            bind1 (p_l_total d2236 v2360) fun v2411 =>
            bind1 (gLe v2411 d2239) fun v2414 =>
            bind1 (asBool v2414) fun b2416 =>
            if b2416 = true then
              bind1 (addV v2360 (.int 1)) fun v2418 =>
              bind1 (p_l_total d2236 v2418) fun v2420 =>
              bind1 (gGt v2420 d2239) fun v2423 =>
              some v2423
            else
              some (.bool false)
          else
            some (.bool false)) fun v2425 =>
        some v2425
def p_l_right_b1 (v2741 : D) (v2747 : D) (v2752 : D) (d2429 : D) (v2748 : D) (x2831 : D) : Option (Ct (Unit) (D × D)) :=
  bind1 (p_wishes v2741 v2747) fun v2832 =>
  bind1 (
    bind1 ((gIsi ["list"]) v2832) fun v2836 =>
    bind1 (truD v2836) fun b2838 =>
    if b2838 = true then
      bind1 (gRepr [v2832]) fun v2840 =>
      bind1 (gRepr [v2752]) fun v2842 =>
      bind1 (gNe v2840 v2842) fun v2844 =>
      bind1 (asBool v2844) fun b2846 =>
      if b2846 = true then
        some true
      else
        bind1 (negP (.int 1)) fun v2848 =>
        bind1 (gIx v2832 v2848) fun v2850 =>
        bind1 (p_l_does d2429 v2850 v2747) fun v2852 =>
        bind1 (truD v2852) fun b2855 =>
        some (!b2855)
    else
      some true) fun b2857 =>
  if b2857 = true then
    some (.rt ((PyData.bool false), v2748))
  else
    bind2 (mutP gAppend v2832 [(.int 1)]) fun v2861 v2862 =>
    some (.nx ())
def p_l_right_b2 (v2741 : D) (v2747 : D) (d2429 : D) (v2874 : D) (x2954 : D) : Option (Ct (Unit) (D × D)) :=
  bind1 (p_least_from v2741 x2954 v2747) fun v2955 =>
  bind1 (
    bind1 (gRepr [v2955]) fun v2959 =>
    bind1 (ixP x2954) fun i2961 =>
    bind1 (slW d2429 (some i2961) none) fun v2963 =>
    bind1 (p_l_handed_on v2963 v2747) fun v2965 =>
    bind1 (negP (.int 1)) fun v2968 =>
    bind1 (gIx v2965 v2968) fun v2970 =>
    bind1 (gRepr [v2970]) fun v2972 =>
    bind1 (gNe v2959 v2972) fun v2974 =>
    bind1 (asBool v2974) fun b2976 =>
    if b2976 = true then
      some true
    else
      bind1 (p_l_does v2963 v2955 v2747) fun v2978 =>
      bind1 (truD v2978) fun b2981 =>
      some (!b2981)) fun b2983 =>
  if b2983 = true then
    some (.rt ((PyData.bool false), v2874))
  else
    some (.nx ())
def p_l_right (d2428 : D) (d2429 : D) (d2430 : D) : Option (D × D) :=
  bind1 (gList [d2429]) fun v2733 =>
  bind1 (gTuple [d2429]) fun v2735 =>
  bind2 (p_l_pour d2428 (.int 2)) fun v2737 v2738 =>
  bind1 (gIx (.list [v2733, v2735]) v2737) fun v2741 =>
  bind1 (gRepr [v2741]) fun v2744 =>
  bind2 (p_l_number v2738 d2430) fun v2747 v2748 =>
  bind1 (p_l_handed_on d2429 v2747) fun v2752 =>
  bind1 (rng1P (.int 2)) fun x2756 =>
  ctB0 (forP (fun x _ => p_l_right_b1 v2741 v2747 v2752 d2429 v2748 x) x2756 ()) (fun r => some r) fun _ =>
  bind1 (gLen [d2429]) fun v2869 =>
  bind1 (addV v2869 (.int 1)) fun v2871 =>
  bind2 (p_l_pour v2748 v2871) fun v2873 v2874 =>
  bind1 (gLen [d2429]) fun v2878 =>
  bind2 (itemsD (.list [(.int 0), v2873, v2878])) fun q2880 x2881 =>
  ctB0 (forP (fun x _ => p_l_right_b2 v2741 v2747 d2429 v2874 x) x2881 ()) (fun r => some r) fun _ =>
  bind1 (gPow (.int 10) (.int 29)) fun v2991 =>
  bind1 (mulV (.int 5) v2991) fun v2993 =>
  bind2 (p_l_number v2874 v2993) fun v2995 v2996 =>
  bind1 (addV v2747 v2995) fun v2999 =>
  bind2 (p_l_pour v2996 (.int 4)) fun v3001 v3002 =>
  bind1 (gDiv v3001 (.int 3)) fun v3005 =>
  bind1 (gIx (.list [v2999, (.none : D)]) v3005) fun v3007 =>
  bind1 (p_companies_between v2741 v2747 v3007) fun v3010 =>
  bind1 (p_l_ends_right d2429 v3010 v2747 v3007) fun v3013 =>
  bind1 (truD v3013) fun b3016 =>
  if b3016 = true then
    bind1 (
      bind1 (p_companies v2741 v2747) fun v3020 =>
      bind1 (p_l_ends_right d2429 v3020 v2747 v2747) fun v3023 =>
      bind1 (asBool v3023) fun b3026 =>
      if b3026 = true then
        bind1 (gRepr [v2741]) fun v3028 =>
        bind1 (gEq v3028 v2744) fun v3030 =>
        some v3030
      else
        some (.bool false)) fun v3032 =>
    some (v3032, v3002)
  else
    some ((PyData.bool false), v3002)
def p_l_changed_right_b1 (x3420 : D) (v3342 : D) (v3343 : D) : Option (Ct (D × D) (D × D)) :=
  bind2 (p_l_pour v3342 (.int 30)) fun v3421 v3422 =>
  bind1 (p_l_handed_on v3343 v3421) fun v3426 =>
  bind1 (negP (.int 1)) fun v3429 =>
  bind1 (gIx v3426 v3429) fun v3431 =>
  bind1 (
    bind1 (p_wishes v3343 v3421) fun v3434 =>
    bind1 (p_l_handed_on v3343 v3421) fun v3437 =>
    bind1 (gNe v3434 v3437) fun v3440 =>
    bind1 (asBool v3440) fun b3442 =>
    if b3442 = true then
      some true
    else
      bind1 (p_least_from v3343 (.int 0) v3421) fun v3444 =>
      bind1 (gNe v3444 v3431) fun v3447 =>
      bind1 (asBool v3447) fun b3449 =>
      some b3449) fun b3451 =>
  if b3451 = true then
    some (.rt ((PyData.bool false), v3422))
  else
    bind2 (p_l_small_right v3422 v3343) fun v3455 v3456 =>
    bind1 (truD v3455) fun b3459 =>
    if b3459 = true then
      bind1 (gLen [v3343]) fun v3463 =>
      bind1 (addV v3463 (.int 1)) fun v3465 =>
      bind2 (p_l_pour v3456 v3465) fun v3467 v3468 =>
      bind2 (p_l_saying v3468 (.int 9)) fun v3471 v3472 =>
      bind2 (mutP gInsert v3343 [v3467, v3471]) fun v3475 v3476 =>
      bind1 (gEq x3420 (.int 1)) fun v3479 =>
      bind1 (asBool v3479) fun b3481 =>
      if b3481 = true then
        bind2 (mutP gPopAt v3475 [(.int 0)]) fun v3484 v3485 =>
        some (.nx (v3472, v3484))
      else
        some (.nx (v3472, v3475))
    else
      some (.rt ((PyData.bool false), v3456))
def p_l_changed_right (d3038 : D) (d3039 : D) : Option (D × D) :=
  bind1 (gList [d3039]) fun v3268 =>
  bind1 (rng1P (.int 3)) fun x3271 =>
  ctB2 (forP (fun x s => p_l_changed_right_b1 x s.1 s.2) x3271 (d3038, v3268)) (fun r => some r) fun v3488 v3489 =>
  some ((PyData.bool true), v3488)
def p_law_b1 (x4303 : D) (v4268 : D) : Option (Ct (D) (D)) :=
  bind2 (p_l_row v4268 (.int 10) (.int 9)) fun v4304 v4305 =>
  bind2 (
    bind2 (p_l_right v4305 v4304 (.int 40)) fun v4309 v4310 =>
    bind1 (truD v4309) fun b4313 =>
    if b4313 = true then
      bind2 (p_l_small_right v4310 v4304) fun v4315 v4316 =>
      bind1 (truD v4315) fun b4319 =>
      if b4319 = true then
        bind2 (p_l_changed_right v4316 v4304) fun v4321 v4322 =>
        bind1 (truD v4321) fun b4325 =>
        some ((!b4325), v4322)
      else
        some (true, v4316)
    else
      some (true, v4310)) fun b4328 v4327 =>
  if b4328 = true then
    some (.rt (.bool false))
  else
    some (.nx v4327)
def p_law_b2 (d3498 : List Int) (x4231 : D) : Option (Ct (Unit) (D)) :=
  bind1 (p_l_jar d3498 x4231) fun v4232 =>
  bind1 (rng1P (.int 2)) fun x4236 =>
  ctB1 (forP (fun x s => p_law_b1 x s) x4236 v4232) (fun r => some (.rt r)) fun v4332 =>
  bind1 (gPow (.int 10) (.int 29)) fun v4337 =>
  bind1 (mulV (.int 5) v4337) fun v4339 =>
  bind2 (p_l_pour v4332 (.int 2)) fun v4341 v4342 =>
  bind1 (gIx (.list [(.int 70), v4339]) v4341) fun v4345 =>
  bind2 (p_l_row v4342 (.int 60) v4345) fun v4347 v4348 =>
  bind1 (gPow (.int 10) (.int 29)) fun v4352 =>
  bind1 (mulV (.int 5) v4352) fun v4354 =>
  bind2 (p_l_pour v4348 (.int 2)) fun v4356 v4357 =>
  bind1 (gIx (.list [(.int 70), v4354]) v4356) fun v4360 =>
  bind2 (p_l_right v4357 v4347 v4360) fun v4362 v4363 =>
  bind1 (truD v4362) fun b4366 =>
  if b4366 = true then
    some (.nx ())
  else
    some (.rt (.bool false))
def p_law (d3498 : List Int) : Option (D) :=
  bind1 (gMin2 [(.int 6), (.int ((d3498.length : Nat) : Int))]) fun v3938 =>
  bind1 (gMax2 [(.int 1), v3938]) fun v3940 =>
  bind1 (rng1P v3940) fun x3942 =>
  ctB0 (forP (fun x _ => p_law_b2 d3498 x) x3942 ()) (fun r => some r) fun _ =>
  some (.bool true)
end Y
namespace Y
open PySem PL L2
variable [PL.Kap]
theorem tr_stretch_to (d1 : D) (d2 : D) (r : D) (h : p_stretch_to d1 d2 = some r) : evalD [.v, .b] 0 m_stretch_to [.val d1, .bor d2] = some ((.pl (.val r)), [.val d1, .bor d2]) := by
  unfold p_stretch_to at h
  refine run_evalD (m := m_stretch_to) ?_
  show PL.Run m_stretch_to [.val d1, .bor d2] _
  unfold m_stretch_to
  obtain ⟨v18, h19, h⟩ := ob1 h
  obtain ⟨b20, h21, h⟩ := ob1 h
  have e22 : (mB (mOp gIs (mVar 1) (mPl (mC .none)))) [.val d1, .bor d2] = .ok b20 [.val d1, .bor d2] := by simp [h19, h21]
  rcases b20 with _ | _
  · rw [if_neg Bool.false_ne_true] at h
    refine run_seq_if_f e22 ?_
    refine run_seq_skip ?_
    obtain ⟨v24, h25, h⟩ := ob1 h
    obtain ⟨b26, h27, h⟩ := ob1 h
    have e28 : (mB (mOp gLe (mVar 1) (mVar 0))) [.val d1, .bor d2] = .ok b26 [.val d1, .bor d2] := by simp [h25, h27]
    rcases b26 with _ | _
    · rw [if_neg Bool.false_ne_true] at h
      refine run_seq_if_f e28 ?_
      refine run_seq_skip ?_
      obtain ⟨v30, h31, h⟩ := ob1 h
      have e32 : (mRv (mPl (mTup (mCons (mFz (mRv (mVar 0))) (mCons (mOp gSub' (mVar 1) (mPl (mC (.int 1)))) mNil))))) [.val d1, .bor d2] = .ok (.pl (.val (.tuple [d1, v30]))) [.val d1, .bor d2] := by simp [h31]
      obtain rfl := Option.some.inj h
      exact run_ret e32 ⟨by simp [flR], by simp⟩
    · rw [if_pos rfl] at h
      refine run_seq_if_t e28 ?_
      have e29 : (mRv (mPl (mC .none))) [.val d1, .bor d2] = .ok (.pl (.val (.none : D))) [.val d1, .bor d2] := by simp []
      obtain rfl := Option.some.inj h
      exact run_seq_ret e29 ⟨by simp [flR], by simp⟩
  · rw [if_pos rfl] at h
    refine run_seq_if_t e22 ?_
    have e23 : (mRv (mPl (mTup (mCons (mFz (mRv (mVar 0))) (mCons (mC .none) mNil))))) [.val d1, .bor d2] = .ok (.pl (.val (.tuple [d1, (.none : D)]))) [.val d1, .bor d2] := by simp []
    obtain rfl := Option.some.inj h
    exact run_seq_ret e23 ⟨by simp [flR], by simp⟩
theorem tb_wish_behind_1 (d33 : D) (x181 : D) (v151 : D) (j152 : Sl) (j153 : Sl) (s0 : D) (h : p_wish_behind_b1 x181 v151 = some s0) : ∃ ρ1, (tTupl (tsCons (tName 2) (tsCons (tName 3) tsNil))) x181 [.bor d33, .val v151, j152, j153] = .ok () ρ1 ∧ PL.Run mb_wish_behind_1 ρ1 (fun fl ρ' => (fl = .nx ∨ fl = .ct) ∧ (fun (s : D) (ρ : PL.Env) => ∃ (j152 : Sl) (j153 : Sl), ρ = [.bor d33, .val s, j152, j153]) s0 ρ') := by
  unfold p_wish_behind_b1 at h
  obtain ⟨v182, v183, h184, h⟩ := ob2 h
  refine ⟨[.bor d33, .val v151, .val v182, .val v183], by simp [(tT2 h184)], ?_⟩
  unfold mb_wish_behind_1
  obtain ⟨b199, h201, h⟩ := ob1 h
  have e200 : (mAnd (mB (mOp gLt (mVar 2) (mVar 1))) (mOr (mB (mOp gIs (mVar 3) (mPl (mC .none)))) (mB (mOp gLe (mVar 1) (mPl (mFz (mOpX gAdd (mVar 3) (mPl (mC (.int 1)))))))))) [.bor d33, .val v151, .val v182, .val v183] = .ok b199 [.bor d33, .val v151, .val v182, .val v183] := by
    obtain ⟨v185, h186, h201⟩ := ob1 h201
    obtain ⟨b187, h188, h201⟩ := ob1 h201
    rcases b187 with _ | _
    · rw [if_neg Bool.false_ne_true] at h201
      obtain rfl := Option.some.inj h201
      simp [h186, h188]
    · rw [if_pos rfl] at h201
      obtain ⟨v189, h190, h201⟩ := ob1 h201
      obtain ⟨b191, h192, h201⟩ := ob1 h201
      rcases b191 with _ | _
      · rw [if_neg Bool.false_ne_true] at h201
        obtain ⟨v193, h194, h201⟩ := ob1 h201
        obtain ⟨v195, h196, h201⟩ := ob1 h201
        obtain ⟨b197, h198, h201⟩ := ob1 h201
        obtain rfl := Option.some.inj h201
        simp [h186, h188, h190, h192, (addV_eq h194), h196, h198]
      · rw [if_pos rfl] at h201
        obtain rfl := Option.some.inj h201
        simp [h186, h188, h190, h192]
  rcases b199 with _ | _
  · rw [if_neg Bool.false_ne_true] at h
    refine run_if_f e200 ?_
    obtain rfl := Option.some.inj h
    exact run_end (m := mSkip) (fl := .nx) rfl ⟨.inl rfl, .val v182, .val v183, rfl⟩
  · rw [if_pos rfl] at h
    refine run_if_t e200 ?_
    obtain ⟨v202, h203, h⟩ := ob1 h
    have e204 : (mAug 1 gSub' (mPl (mC (.int 1)))) [.bor d33, .val v151, .val v182, .val v183] = .ok .nx [.bor d33, .val v202, .val v182, .val v183] := by simp [h203]
    obtain rfl := Option.some.inj h
    exact run_end e204 ⟨.inl rfl, .val v182, .val v183, rfl⟩
theorem tr_wish_behind (d33 : D) (d34 : D) (r : D) (h : p_wish_behind d33 d34 = some r) : ∃ (z1 : Sl), evalD [.b, .v] 2 m_wish_behind [.bor d33, .val d34] = some ((.pl (.val r)), [.bor d33, z1]) := by
  unfold p_wish_behind at h
  have e0 : PL.Run m_wish_behind [.bor d33, .val d34, .un, .un] fun fl ρ' => ∃ (z1 : Sl), flR fl ρ' = some (.pl (.val r)) ∧ ρ'.take 2 = [.bor d33, z1] := by
    unfold m_wish_behind
    obtain ⟨q123, x124, h125, h⟩ := ob2 h
    have e126 : (mIter (mVar 0)) [.bor d33, .val d34, .un, .un] = .ok x124 [.bor d33, .val d34, .un, .un] := by simp [h125]
    obtain ⟨v205, h208, h⟩ := ob1 h
    obtain ⟨_, e209, j206, j207, rfl⟩ := run_for_nx e126 (foldP_run (fun (s : D) (ρ : PL.Env) => ∃ (j152 : Sl) (j153 : Sl), ρ = [.bor d33, .val s, j152, j153]) (t := (tTupl (tsCons (tName 2) (tsCons (tName 3) tsNil)))) (b := mb_wish_behind_1) (fun x s ρ s0 hi hf => by obtain ⟨j152, j153, rfl⟩ := hi; exact tb_wish_behind_1 d33 x s j152 j153 s0 hf) x124 d34 _ v205 ⟨.un, .un, rfl⟩ h208)
    refine run_seq e209 ?_
    have e210 : (mRv (mVar 1)) [.bor d33, .val v205, j206, j207] = .ok (.pl (.val v205)) [.bor d33, .val v205, j206, j207] := by simp []
    obtain rfl := Option.some.inj h
    exact run_ret e210 ⟨.val v205, by simp [flR], by simp⟩
  obtain ⟨fl, ρ', e0, z1, e1, e2⟩ := e0
  exact ⟨z1, run_evalD (m := m_wish_behind) ⟨fl, ρ', e0, e1, e2⟩⟩
theorem tr_handed_on (d211 : D) (d212 : D) (r : D) (h : p_handed_on d211 d212 = some r) : evalD [.v, .v] 0 m_handed_on [.val d211, .val d212] = some ((.pl (.val r)), [.val d211, .val d212]) := by
  unfold p_handed_on at h
  refine run_evalD (m := m_handed_on) ?_
  show PL.Run m_handed_on [.val d211, .val d212] _
  unfold m_handed_on
  obtain ⟨v218, h219, h⟩ := ob1 h
  obtain ⟨z221, e220⟩ := tr_wish_behind (.list [d211]) d212 _ h219
  have e222 : (mCall [.b, .v] 2 m_wish_behind (mCons (mPl (mFz (mLst (mCons (mFz (mRv (mVar 0))) mNil)))) (mCons (mPl (mFz (mRv (mVar 1)))) mNil))) [.val d211, .val d212] = .ok (.pl (.val v218)) [.val d211, .val d212] := by simp [e220]
  obtain rfl := Option.some.inj h
  exact run_ret e222 ⟨by simp [flR], by simp⟩
theorem tr_companies_within (d223 : D) (d224 : D) (r : D) (h : p_companies_within d223 d224 = some r) : evalD [.b, .v] 3 m_companies_within [.bor d223, .val d224] = some ((.pl (.val r)), [.bor d223, .val d224]) := by
  unfold p_companies_within at h
  refine run_evalD (m := m_companies_within) ?_
  show PL.Run m_companies_within [.bor d223, .val d224, .un, .un, .un] _
  unfold m_companies_within
  obtain ⟨v253, v254, h255, h⟩ := ob2 h
  have e256 : (mAsg (tTupl (tsCons (tName 2) (tsCons (tName 3) tsNil))) (mFz (mRv (mVar 1)))) [.bor d223, .val d224, .un, .un, .un] = .ok .nx [.bor d223, .val d224, .val v253, .val v254, .un] := by simp [(tT2 h255)]
  refine run_seq e256 ?_
  obtain ⟨v257, h258, h⟩ := ob1 h
  obtain ⟨z260, e259⟩ := tr_wish_behind d223 v253 _ h258
  have e261 : (mSet 4 (mCall [.b, .v] 2 m_wish_behind (mCons (mVar 0) (mCons (mPl (mFz (mRv (mVar 2)))) mNil)))) [.bor d223, .val d224, .val v253, .val v254, .un] = .ok .nx [.bor d223, .val d224, .val v253, .val v254, .val v257] := by simp [e259]
  refine run_seq e261 ?_
  obtain ⟨v262, h263, h⟩ := ob1 h
  obtain ⟨b264, h265, h⟩ := ob1 h
  have e266 : (mB (mOp gIs (mVar 3) (mPl (mC .none)))) [.bor d223, .val d224, .val v253, .val v254, .val v257] = .ok b264 [.bor d223, .val d224, .val v253, .val v254, .val v257] := by simp [h263, h265]
  rcases b264 with _ | _
  · rw [if_neg Bool.false_ne_true] at h
    refine run_seq_if_f e266 ?_
    refine run_seq_skip ?_
    obtain ⟨v271, h272, h⟩ := ob1 h
    obtain ⟨v273, h274, h⟩ := ob1 h
    obtain ⟨z276, e275⟩ := tr_wish_behind d223 v271 _ h274
    obtain ⟨v277, h278, h⟩ := ob1 h
    have e279 := tr_stretch_to v257 v273 _ h278
    have e280 : (mCall [.v, .b] 0 m_stretch_to (mCons (mPl (mFz (mRv (mVar 4)))) (mCons (mPl (mFz (mCall [.b, .v] 2 m_wish_behind (mCons (mVar 0) (mCons (mPl (mFz (mOpX gAdd (mVar 3) (mPl (mC (.int 1)))))) mNil))))) mNil))) [.bor d223, .val d224, .val v253, .val v254, .val v257] = .ok (.pl (.val v277)) [.bor d223, .val d224, .val v253, .val v254, .val v257] := by simp [(addV_eq h272), e275, e279]
    obtain rfl := Option.some.inj h
    exact run_ret e280 ⟨by simp [flR], by simp⟩
  · rw [if_pos rfl] at h
    refine run_seq_if_t e266 ?_
    obtain ⟨v267, h268, h⟩ := ob1 h
    have e269 := tr_stretch_to v257 (.none : D) _ h268
    have e270 : (mCall [.v, .b] 0 m_stretch_to (mCons (mPl (mFz (mRv (mVar 4)))) (mCons (mPl (mC .none)) mNil))) [.bor d223, .val d224, .val v253, .val v254, .val v257] = .ok (.pl (.val v267)) [.bor d223, .val d224, .val v253, .val v254, .val v257] := by simp [e269]
    obtain rfl := Option.some.inj h
    exact run_seq_ret e270 ⟨by simp [flR], by simp⟩
theorem tr_is_number (d281 : D) (r : D) (h : p_is_number d281 = some r) : evalD [.b] 0 m_is_number [.bor d281] = some ((.pl (.val r)), [.bor d281]) := by
  unfold p_is_number at h
  refine run_evalD (m := m_is_number) ?_
  show PL.Run m_is_number [.bor d281] _
  unfold m_is_number
  obtain ⟨v305, h307, h⟩ := ob1 h
  have e306 : (mRv (mPl (mAndV (mUn (gIsi ["int"]) (mVar 0)) (mAndV (mNotV (mUn (gIsi ["bool"]) (mVar 0))) (mOp gGe (mVar 0) (mPl (mC (.int 0)))))))) [.bor d281] = .ok (.pl (.val v305)) [.bor d281] := by
    obtain ⟨v295, h296, h307⟩ := ob1 h307
    obtain ⟨b297, h298, h307⟩ := ob1 h307
    rcases b297 with _ | _
    · rw [if_neg Bool.false_ne_true] at h307
      obtain rfl := Option.some.inj h307
      simp [h296, h298]
    · rw [if_pos rfl] at h307
      obtain ⟨v299, h300, h307⟩ := ob1 h307
      obtain ⟨b301, h302, h307⟩ := ob1 h307
      rcases b301 with _ | _
      · rw [if_neg Bool.false_ne_true] at h307
        obtain ⟨v303, h304, h307⟩ := ob1 h307
        obtain rfl := Option.some.inj h307
        simp [h296, h298, h300, h302, h304]
      · rw [if_pos rfl] at h307
        obtain rfl := Option.some.inj h307
        simp [h296, h298, h300, h302]
  obtain rfl := Option.some.inj h
  exact run_ret e306 ⟨by simp [flR], by simp⟩
theorem tb_is_row_1 (d308 : D) (x662 : D) (j593 : Sl) (j594 : Sl) (j595 : Sl) (o : Ct (Unit) (D)) (h : p_is_row_b1 x662 = some o) : ∃ ρ1, (tName 1) x662 [.bor d308, j593, j594, j595] = .ok () ρ1 ∧ PL.Run mb_is_row_1 ρ1 ((ctQ (fun (s : Unit) (ρ : PL.Env) => ∃ (j593 : Sl) (j594 : Sl) (j595 : Sl), ρ = [.bor d308, j593, j594, j595]) (fun (r : D) fl ρ' => flR fl ρ' = some (.pl (.val r)) ∧ ρ'.take 1 = [.bor d308]) o)) := by
  unfold p_is_row_b1 at h
  refine ⟨[.bor d308, .val x662, j594, j595], by simp [], ?_⟩
  unfold mb_is_row_1
  obtain ⟨b673, h675, h⟩ := ob1 h
  have e674 : (mOr (mNot (mTr (mPl (mUn (gIsi ["tuple"]) (mVar 1))))) (mB (mOp gNe (mPl (mN gLen (mCons (mVar 1) mNil))) (mPl (mC (.int 2)))))) [.bor d308, .val x662, j594, j595] = .ok b673 [.bor d308, .val x662, j594, j595] := by
    obtain ⟨v663, h664, h675⟩ := ob1 h675
    obtain ⟨b665, h666, h675⟩ := ob1 h675
    rcases b665 with _ | _
    · rw [if_neg Bool.false_ne_true] at h675
      obtain rfl := Option.some.inj h675
      simp [h664, h666]
    · rw [if_pos rfl] at h675
      obtain ⟨v667, h668, h675⟩ := ob1 h675
      obtain ⟨v669, h670, h675⟩ := ob1 h675
      obtain ⟨b671, h672, h675⟩ := ob1 h675
      obtain rfl := Option.some.inj h675
      simp [h664, h666, h668, h670, h672]
  rcases b673 with _ | _
  · rw [if_neg Bool.false_ne_true] at h
    refine run_seq_if_f e674 ?_
    refine run_seq_skip ?_
    obtain ⟨v677, v678, h679, h⟩ := ob2 h
    have e680 : (mAsg (tTupl (tsCons (tName 2) (tsCons (tName 3) tsNil))) (mFz (mRv (mVar 1)))) [.bor d308, .val x662, j594, j595] = .ok .nx [.bor d308, .val x662, .val v677, .val v678] := by simp [(tT2 h679)]
    refine run_seq e680 ?_
    obtain ⟨b697, h699, h⟩ := ob1 h
    have e698 : (mOr (mNot (mTr (mPl (mUn (gIsi ["int"]) (mVar 2))))) (mOr (mB (mOp gLt (mVar 2) (mPl (mC (.int 0))))) (mOr (mB (mOp gIs (mVar 2) (mPl (mC (.bool true))))) (mB (mOp gIs (mVar 2) (mPl (mC (.bool false)))))))) [.bor d308, .val x662, .val v677, .val v678] = .ok b697 [.bor d308, .val x662, .val v677, .val v678] := by
      obtain ⟨v681, h682, h699⟩ := ob1 h699
      obtain ⟨b683, h684, h699⟩ := ob1 h699
      rcases b683 with _ | _
      · rw [if_neg Bool.false_ne_true] at h699
        obtain rfl := Option.some.inj h699
        simp [h682, h684]
      · rw [if_pos rfl] at h699
        obtain ⟨v685, h686, h699⟩ := ob1 h699
        obtain ⟨b687, h688, h699⟩ := ob1 h699
        rcases b687 with _ | _
        · rw [if_neg Bool.false_ne_true] at h699
          obtain ⟨v689, h690, h699⟩ := ob1 h699
          obtain ⟨b691, h692, h699⟩ := ob1 h699
          rcases b691 with _ | _
          · rw [if_neg Bool.false_ne_true] at h699
            obtain ⟨v693, h694, h699⟩ := ob1 h699
            obtain ⟨b695, h696, h699⟩ := ob1 h699
            obtain rfl := Option.some.inj h699
            simp [h682, h684, h686, h688, h690, h692, h694, h696]
          · rw [if_pos rfl] at h699
            obtain rfl := Option.some.inj h699
            simp [h682, h684, h686, h688, h690, h692]
        · rw [if_pos rfl] at h699
          obtain rfl := Option.some.inj h699
          simp [h682, h684, h686, h688]
    rcases b697 with _ | _
    · rw [if_neg Bool.false_ne_true] at h
      refine run_seq_if_f e698 ?_
      refine run_seq_skip ?_
      obtain ⟨b721, h723, h⟩ := ob1 h
      have e722 : (mAnd (mB (mOp gNot (mVar 3) (mPl (mC .none)))) (mOr (mNot (mTr (mPl (mUn (gIsi ["int"]) (mVar 3))))) (mOr (mB (mOp gLt (mVar 3) (mVar 2))) (mOr (mB (mOp gIs (mVar 3) (mPl (mC (.bool true))))) (mB (mOp gIs (mVar 3) (mPl (mC (.bool false))))))))) [.bor d308, .val x662, .val v677, .val v678] = .ok b721 [.bor d308, .val x662, .val v677, .val v678] := by
        obtain ⟨v701, h702, h723⟩ := ob1 h723
        obtain ⟨b703, h704, h723⟩ := ob1 h723
        rcases b703 with _ | _
        · rw [if_neg Bool.false_ne_true] at h723
          obtain rfl := Option.some.inj h723
          simp [h702, h704]
        · rw [if_pos rfl] at h723
          obtain ⟨v705, h706, h723⟩ := ob1 h723
          obtain ⟨b707, h708, h723⟩ := ob1 h723
          rcases b707 with _ | _
          · rw [if_neg Bool.false_ne_true] at h723
            obtain rfl := Option.some.inj h723
            simp [h702, h704, h706, h708]
          · rw [if_pos rfl] at h723
            obtain ⟨v709, h710, h723⟩ := ob1 h723
            obtain ⟨b711, h712, h723⟩ := ob1 h723
            rcases b711 with _ | _
            · rw [if_neg Bool.false_ne_true] at h723
              obtain ⟨v713, h714, h723⟩ := ob1 h723
              obtain ⟨b715, h716, h723⟩ := ob1 h723
              rcases b715 with _ | _
              · rw [if_neg Bool.false_ne_true] at h723
                obtain ⟨v717, h718, h723⟩ := ob1 h723
                obtain ⟨b719, h720, h723⟩ := ob1 h723
                obtain rfl := Option.some.inj h723
                simp [h702, h704, h706, h708, h710, h712, h714, h716, h718, h720]
              · rw [if_pos rfl] at h723
                obtain rfl := Option.some.inj h723
                simp [h702, h704, h706, h708, h710, h712, h714, h716]
            · rw [if_pos rfl] at h723
              obtain rfl := Option.some.inj h723
              simp [h702, h704, h706, h708, h710, h712]
      rcases b721 with _ | _
      · rw [if_neg Bool.false_ne_true] at h
        refine run_if_f e722 ?_
        obtain rfl := Option.some.inj h
        exact run_end (m := mSkip) (fl := .nx) rfl ⟨.inl rfl, .val x662, .val v677, .val v678, rfl⟩
      · rw [if_pos rfl] at h
        refine run_if_t e722 ?_
        have e724 : (mRv (mPl (mC (.bool false)))) [.bor d308, .val x662, .val v677, .val v678] = .ok (.pl (.val (.bool false))) [.bor d308, .val x662, .val v677, .val v678] := by simp []
        obtain rfl := Option.some.inj h
        exact run_ret e724 ⟨trivial, ⟨by simp [flR], by simp⟩⟩
    · rw [if_pos rfl] at h
      refine run_seq_if_t e698 ?_
      have e700 : (mRv (mPl (mC (.bool false)))) [.bor d308, .val x662, .val v677, .val v678] = .ok (.pl (.val (.bool false))) [.bor d308, .val x662, .val v677, .val v678] := by simp []
      obtain rfl := Option.some.inj h
      exact run_seq_ret e700 ⟨trivial, ⟨by simp [flR], by simp⟩⟩
  · rw [if_pos rfl] at h
    refine run_seq_if_t e674 ?_
    have e676 : (mRv (mPl (mC (.bool false)))) [.bor d308, .val x662, j594, j595] = .ok (.pl (.val (.bool false))) [.bor d308, .val x662, j594, j595] := by simp []
    obtain rfl := Option.some.inj h
    exact run_seq_ret e676 ⟨trivial, ⟨by simp [flR], by simp⟩⟩
theorem tr_is_row (d308 : D) (r : D) (h : p_is_row d308 = some r) : evalD [.b] 3 m_is_row [.bor d308] = some ((.pl (.val r)), [.bor d308]) := by
  unfold p_is_row at h
  refine run_evalD (m := m_is_row) ?_
  show PL.Run m_is_row [.bor d308, .un, .un, .un] _
  unfold m_is_row
  obtain ⟨v520, h521, h⟩ := ob1 h
  obtain ⟨b522, h523, h⟩ := ob1 h
  have e524 : (mNot (mTr (mPl (mUn (gIsi ["list", "tuple"]) (mVar 0))))) [.bor d308, .un, .un, .un] = .ok (!b522) [.bor d308, .un, .un, .un] := by simp [h521, h523]
  rcases b522 with _ | _
  · rw [if_neg Bool.false_ne_true] at h
    refine run_seq_if_t e524 ?_
    have e525 : (mRv (mPl (mC (.bool false)))) [.bor d308, .un, .un, .un] = .ok (.pl (.val (.bool false))) [.bor d308, .un, .un, .un] := by simp []
    obtain rfl := Option.some.inj h
    exact run_seq_ret e525 ⟨by simp [flR], by simp⟩
  · rw [if_pos rfl] at h
    refine run_seq_if_f e524 ?_
    refine run_seq_skip ?_
    obtain ⟨q526, x527, h528, h⟩ := ob2 h
    have e529 : (mIter (mVar 0)) [.bor d308, .un, .un, .un] = .ok x527 [.bor d308, .un, .un, .un] := by simp [h528]
    obtain ⟨o731, h728, h⟩ := obct0 h
    have e729 := forP_run (fun (s : Unit) (ρ : PL.Env) => ∃ (j593 : Sl) (j594 : Sl) (j595 : Sl), ρ = [.bor d308, j593, j594, j595]) (fun (r : D) fl ρ' => flR fl ρ' = some (.pl (.val r)) ∧ ρ'.take 1 = [.bor d308]) (t := (tName 1)) (b := mb_is_row_1) (fun x s ρ o hi hf => by obtain ⟨j593, j594, j595, rfl⟩ := hi; exact tb_is_row_1 d308 x j593 j594 j595 o hf) x527 () _ o731 ⟨.un, .un, .un, rfl⟩ h728
    rcases h with ⟨r, rfl, h⟩ | ⟨rfl, h⟩
    · refine run_seq_ct (run_for e529 e729) (fun t fl ρ' ho hf hq => ?_) (fun s ρ' ho hi => nomatch ho)
      cases ho
      cases h
      exact hq
    · refine run_seq_ct (run_for e529 e729) (fun t fl ρ' ho hf hq => nomatch ho) (fun s ρ' ho hi => ?_)
      cases ho
      obtain ⟨j725, j726, j727, rfl⟩ := hi
      have e730 : (mRv (mPl (mC (.bool true)))) [.bor d308, j725, j726, j727] = .ok (.pl (.val (.bool true))) [.bor d308, j725, j726, j727] := by simp []
      obtain rfl := Option.some.inj h
      exact run_ret e730 ⟨by simp [flR], by simp⟩
theorem tr_is_saying (d732 : D) (r : D) (h : p_is_saying d732 = some r) : evalD [.v] 0 m_is_saying [.val d732] = some ((.pl (.val r)), [.val d732]) := by
  unfold p_is_saying at h
  refine run_evalD (m := m_is_saying) ?_
  show PL.Run m_is_saying [.val d732] _
  unfold m_is_saying
  obtain ⟨v737, h738, h⟩ := ob1 h
  have e739 := tr_is_row (.list [d732]) _ h738
  have e740 : (mCall [.b] 3 m_is_row (mCons (mPl (mFz (mLst (mCons (mFz (mRv (mVar 0))) mNil)))) mNil)) [.val d732] = .ok (.pl (.val v737)) [.val d732] := by simp [e739]
  obtain rfl := Option.some.inj h
  exact run_ret e740 ⟨by simp [flR], by simp⟩
theorem tr_need_number (d741 : D) (r : D) (h : p_need_number d741 = some r) : evalD [.b] 0 m_need_number [.bor d741] = some ((.pl (.val r)), [.bor d741]) := by
  unfold p_need_number at h
  refine run_evalD (m := m_need_number) ?_
  show PL.Run m_need_number [.bor d741] _
  unfold m_need_number
  obtain ⟨v748, h749, h⟩ := ob1 h
  have e750 := tr_is_number d741 _ h749
  obtain ⟨b751, h752, h⟩ := ob1 h
  have e753 : (mNot (mTr (mPl (mFz (mCall [.b] 0 m_is_number (mCons (mVar 0) mNil)))))) [.bor d741] = .ok (!b751) [.bor d741] := by simp [e750, h752]
  rcases b751 with _ | _
  · rw [if_neg Bool.false_ne_true] at h
    refine run_if_t e753 ?_
    exact nomatch h
  · rw [if_pos rfl] at h
    refine run_if_f e753 ?_
    obtain rfl := Option.some.inj h
    exact run_end (m := mSkip) (fl := .nx) rfl ⟨by simp [flR], by simp⟩
theorem tr_need_row (d754 : D) (r : D) (h : p_need_row d754 = some r) : evalD [.b] 0 m_need_row [.bor d754] = some ((.pl (.val r)), [.bor d754]) := by
  unfold p_need_row at h
  refine run_evalD (m := m_need_row) ?_
  show PL.Run m_need_row [.bor d754] _
  unfold m_need_row
  obtain ⟨v761, h762, h⟩ := ob1 h
  have e763 := tr_is_row d754 _ h762
  obtain ⟨b764, h765, h⟩ := ob1 h
  have e766 : (mNot (mTr (mPl (mFz (mCall [.b] 3 m_is_row (mCons (mVar 0) mNil)))))) [.bor d754] = .ok (!b764) [.bor d754] := by simp [e763, h765]
  rcases b764 with _ | _
  · rw [if_neg Bool.false_ne_true] at h
    refine run_if_t e766 ?_
    exact nomatch h
  · rw [if_pos rfl] at h
    refine run_if_f e766 ?_
    obtain rfl := Option.some.inj h
    exact run_end (m := mSkip) (fl := .nx) rfl ⟨by simp [flR], by simp⟩
theorem tr_need_place (d767 : D) (d768 : D) (r : D) (h : p_need_place d767 d768 = some r) : evalD [.b, .b] 0 m_need_place [.bor d767, .bor d768] = some ((.pl (.val r)), [.bor d767, .bor d768]) := by
  unfold p_need_place at h
  refine run_evalD (m := m_need_place) ?_
  show PL.Run m_need_place [.bor d767, .bor d768] _
  unfold m_need_place
  obtain ⟨b790, h792, h⟩ := ob1 h
  have e791 : (mOr (mNot (mTr (mPl (mFz (mCall [.b] 0 m_is_number (mCons (mVar 0) mNil)))))) (mB (mOp gGe (mVar 0) (mVar 1)))) [.bor d767, .bor d768] = .ok b790 [.bor d767, .bor d768] := by
    obtain ⟨v781, h782, h792⟩ := ob1 h792
    have e783 := tr_is_number d767 _ h782
    obtain ⟨b784, h785, h792⟩ := ob1 h792
    rcases b784 with _ | _
    · rw [if_neg Bool.false_ne_true] at h792
      obtain rfl := Option.some.inj h792
      simp [e783, h785]
    · rw [if_pos rfl] at h792
      obtain ⟨v786, h787, h792⟩ := ob1 h792
      obtain ⟨b788, h789, h792⟩ := ob1 h792
      obtain rfl := Option.some.inj h792
      simp [e783, h785, h787, h789]
  rcases b790 with _ | _
  · rw [if_neg Bool.false_ne_true] at h
    refine run_if_f e791 ?_
    obtain rfl := Option.some.inj h
    exact run_end (m := mSkip) (fl := .nx) rfl ⟨by simp [flR], by simp⟩
  · rw [if_pos rfl] at h
    refine run_if_t e791 ?_
    exact nomatch h
theorem tb_wishes_1 (d793 : D) (d794 : D) (x894 : D) (v878 : D) (j879 : Sl) (s0 : D) (h : p_wishes_b1 x894 v878 = some s0) : ∃ ρ1, (tName 3) x894 [.bor d793, .val d794, .own v878, j879] = .ok () ρ1 ∧ PL.Run mb_wishes_1 ρ1 (fun fl ρ' => (fl = .nx ∨ fl = .ct) ∧ (fun (s : D) (ρ : PL.Env) => ∃ (j879 : Sl), ρ = [.bor d793, .val d794, .own s, j879]) s0 ρ') := by
  unfold p_wishes_b1 at h
  refine ⟨[.bor d793, .val d794, .own v878, .val x894], by simp [], ?_⟩
  unfold mb_wishes_1
  obtain ⟨v895, h896, h⟩ := ob1 h
  obtain ⟨v897, h898, h⟩ := ob1 h
  obtain ⟨v899, h900, h⟩ := ob1 h
  have e901 := tr_handed_on x894 v897 _ h900
  obtain ⟨v902, v903, h904, h⟩ := ob2 h
  have e905 : (mDrop (mMut 2 gAppend (mCons (mFz (mCall [.v, .v] 0 m_handed_on (mCons (mPl (mFz (mRv (mVar 3)))) (mCons (mPl (mOp gIx (mVar 2) (mPl (mNegU (mC (.int 1)))))) mNil)))) mNil))) [.bor d793, .val d794, .own v878, .val x894] = .ok .nx [.bor d793, .val d794, .own v902, .val x894] := by simp [h896, h898, e901, h904, (mutP_lst h904)]
  obtain rfl := Option.some.inj h
  exact run_end e905 ⟨.inl rfl, .val x894, rfl⟩
theorem tr_wishes (d793 : D) (d794 : D) (r : D) (h : p_wishes d793 d794 = some r) : evalD [.b, .v] 2 m_wishes [.bor d793, .val d794] = some ((.fr r), [.bor d793, .val d794]) := by
  unfold p_wishes at h
  refine run_evalD (m := m_wishes) ?_
  show PL.Run m_wishes [.bor d793, .val d794, .un, .un] _
  unfold m_wishes
  obtain ⟨v853, h854, h⟩ := ob1 h
  have e855 := tr_need_row d793 _ h854
  have e856 : (mDrop (mFz (mCall [.b] 0 m_need_row (mCons (mVar 0) mNil)))) [.bor d793, .val d794, .un, .un] = .ok .nx [.bor d793, .val d794, .un, .un] := by simp [e855]
  refine run_seq e856 ?_
  obtain ⟨v857, h858, h⟩ := ob1 h
  have e859 := tr_need_number d794 _ h858
  have e860 : (mDrop (mFz (mCall [.b] 0 m_need_number (mCons (mVar 1) mNil)))) [.bor d793, .val d794, .un, .un] = .ok .nx [.bor d793, .val d794, .un, .un] := by simp [e859]
  refine run_seq e860 ?_
  have e861 : (mSet 2 (mLst (mCons (mFz (mRv (mVar 1))) mNil))) [.bor d793, .val d794, .un, .un] = .ok .nx [.bor d793, .val d794, .own (.list [d794]), .un] := by simp []
  refine run_seq e861 ?_
  obtain ⟨q862, x863, h864, h⟩ := ob2 h
  have e865 : (mIter (mVar 0)) [.bor d793, .val d794, .own (.list [d794]), .un] = .ok x863 [.bor d793, .val d794, .own (.list [d794]), .un] := by simp [h864]
  obtain ⟨v906, h908, h⟩ := ob1 h
  obtain ⟨_, e909, j907, rfl⟩ := run_for_nx e865 (foldP_run (fun (s : D) (ρ : PL.Env) => ∃ (j879 : Sl), ρ = [.bor d793, .val d794, .own s, j879]) (t := (tName 3)) (b := mb_wishes_1) (fun x s ρ s0 hi hf => by obtain ⟨j879, rfl⟩ := hi; exact tb_wishes_1 d793 d794 x s j879 s0 hf) x863 (.list [d794]) _ v906 ⟨.un, rfl⟩ h908)
  refine run_seq e909 ?_
  have e910 : (mRv (mVar 2)) [.bor d793, .val d794, .own v906, j907] = .ok (.pl (.slot 2)) [.bor d793, .val d794, .own v906, j907] := by simp []
  obtain rfl := Option.some.inj h
  exact run_ret e910 ⟨by simp [flR], by simp⟩
theorem tr_companies (d911 : D) (d912 : D) (r : D) (h : p_companies d911 d912 = some r) : evalD [.b, .v] 0 m_companies [.bor d911, .val d912] = some ((.pl (.val r)), [.bor d911, .val d912]) := by
  unfold p_companies at h
  refine run_evalD (m := m_companies) ?_
  show PL.Run m_companies [.bor d911, .val d912] _
  unfold m_companies
  obtain ⟨v925, h926, h⟩ := ob1 h
  have e927 := tr_need_row d911 _ h926
  have e928 : (mDrop (mFz (mCall [.b] 0 m_need_row (mCons (mVar 0) mNil)))) [.bor d911, .val d912] = .ok .nx [.bor d911, .val d912] := by simp [e927]
  refine run_seq e928 ?_
  obtain ⟨v929, h930, h⟩ := ob1 h
  have e931 := tr_need_number d912 _ h930
  have e932 : (mDrop (mFz (mCall [.b] 0 m_need_number (mCons (mVar 1) mNil)))) [.bor d911, .val d912] = .ok .nx [.bor d911, .val d912] := by simp [e931]
  refine run_seq e932 ?_
  obtain ⟨v933, h934, h⟩ := ob1 h
  have e935 := tr_companies_within d911 (.tuple [d912, d912]) _ h934
  have e936 : (mCall [.b, .v] 3 m_companies_within (mCons (mVar 0) (mCons (mPl (mTup (mCons (mFz (mRv (mVar 1))) (mCons (mFz (mRv (mVar 1))) mNil)))) mNil))) [.bor d911, .val d912] = .ok (.pl (.val v933)) [.bor d911, .val d912] := by simp [e935]
  obtain rfl := Option.some.inj h
  exact run_ret e936 ⟨by simp [flR], by simp⟩
theorem tr_companies_between (d937 : D) (d938 : D) (d939 : D) (r : D) (h : p_companies_between d937 d938 d939 = some r) : evalD [.b, .v, .v] 0 m_companies_between [.bor d937, .val d938, .val d939] = some ((.pl (.val r)), [.bor d937, .val d938, .val d939]) := by
  unfold p_companies_between at h
  refine run_evalD (m := m_companies_between) ?_
  show PL.Run m_companies_between [.bor d937, .val d938, .val d939] _
  unfold m_companies_between
  obtain ⟨v954, h955, h⟩ := ob1 h
  have e956 := tr_need_row d937 _ h955
  have e957 : (mDrop (mFz (mCall [.b] 0 m_need_row (mCons (mVar 0) mNil)))) [.bor d937, .val d938, .val d939] = .ok .nx [.bor d937, .val d938, .val d939] := by simp [e956]
  refine run_seq e957 ?_
  obtain ⟨v958, h959, h⟩ := ob1 h
  have e960 := tr_is_saying (.tuple [d938, d939]) _ h959
  obtain ⟨b961, h962, h⟩ := ob1 h
  have e963 : (mNot (mTr (mPl (mFz (mCall [.v] 0 m_is_saying (mCons (mPl (mTup (mCons (mFz (mRv (mVar 1))) (mCons (mFz (mRv (mVar 2))) mNil)))) mNil)))))) [.bor d937, .val d938, .val d939] = .ok (!b961) [.bor d937, .val d938, .val d939] := by simp [e960, h962]
  rcases b961 with _ | _
  · rw [if_neg Bool.false_ne_true] at h
    refine run_seq_if_t e963 ?_
    exact nomatch h
  · rw [if_pos rfl] at h
    refine run_seq_if_f e963 ?_
    refine run_seq_skip ?_
    obtain ⟨v964, h965, h⟩ := ob1 h
    have e966 := tr_companies_within d937 (.tuple [d938, d939]) _ h965
    have e967 : (mCall [.b, .v] 3 m_companies_within (mCons (mVar 0) (mCons (mPl (mTup (mCons (mFz (mRv (mVar 1))) (mCons (mFz (mRv (mVar 2))) mNil)))) mNil))) [.bor d937, .val d938, .val d939] = .ok (.pl (.val v964)) [.bor d937, .val d938, .val d939] := by simp [e966]
    obtain rfl := Option.some.inj h
    exact run_ret e967 ⟨by simp [flR], by simp⟩
theorem tr_least_from (d968 : D) (d969 : D) (d970 : D) (r : D) (h : p_least_from d968 d969 d970 = some r) : evalD [.b, .b, .v] 0 m_least_from [.bor d968, .bor d969, .val d970] = some ((.pl (.val r)), [.bor d968, .bor d969, .val d970]) := by
  unfold p_least_from at h
  refine run_evalD (m := m_least_from) ?_
  show PL.Run m_least_from [.bor d968, .bor d969, .val d970] _
  unfold m_least_from
  obtain ⟨v999, h1000, h⟩ := ob1 h
  have e1001 := tr_need_row d968 _ h1000
  have e1002 : (mDrop (mFz (mCall [.b] 0 m_need_row (mCons (mVar 0) mNil)))) [.bor d968, .bor d969, .val d970] = .ok .nx [.bor d968, .bor d969, .val d970] := by simp [e1001]
  refine run_seq e1002 ?_
  obtain ⟨v1003, h1004, h⟩ := ob1 h
  obtain ⟨v1005, h1006, h⟩ := ob1 h
  obtain ⟨v1007, h1008, h⟩ := ob1 h
  have e1009 := tr_need_place d969 v1005 _ h1008
  have e1010 : (mDrop (mFz (mCall [.b, .b] 0 m_need_place (mCons (mVar 1) (mCons (mPl (mFz (mOpX gAdd (mPl (mN gLen (mCons (mVar 0) mNil))) (mPl (mC (.int 1)))))) mNil))))) [.bor d968, .bor d969, .val d970] = .ok .nx [.bor d968, .bor d969, .val d970] := by simp [h1004, (addV_eq h1006), e1009]
  refine run_seq e1010 ?_
  obtain ⟨v1011, h1012, h⟩ := ob1 h
  have e1013 := tr_need_number d970 _ h1012
  have e1014 : (mDrop (mFz (mCall [.b] 0 m_need_number (mCons (mVar 2) mNil)))) [.bor d968, .bor d969, .val d970] = .ok .nx [.bor d968, .bor d969, .val d970] := by simp [e1013]
  refine run_seq e1014 ?_
  obtain ⟨u1015, h1016, h⟩ := ob1 h
  obtain ⟨i1017, h1018, h⟩ := ob1 h
  obtain ⟨b1019, v1020, h1021, h⟩ := ob2 h
  have w_h1021 := sliceW_w h1021
  obtain ⟨v1022, h1023, h⟩ := ob1 h
  obtain ⟨z1025, e1024⟩ := tr_wish_behind v1020 d970 _ h1023
  have e1026 : (mCall [.b, .v] 2 m_wish_behind (mCons (mSliceP (mVar 0) (some (mFz (mRv (mVar 1)))) none) (mCons (mPl (mFz (mRv (mVar 2)))) mNil))) [.bor d968, .bor d969, .val d970] = .ok (.pl (.val v1022)) [.bor d968, .bor d969, .val d970] := by (rcases b1019 with _ | _; (focus (simp [(atP_eq h1016), h1018, h1021, e1024])); (have w := w_h1021 rfl; subst w; simp [(atP_eq h1016), h1018, h1021, e1024]))
  obtain rfl := Option.some.inj h
  exact run_ret e1026 ⟨by simp [flR], by simp⟩
theorem tr_l_jar (d1027 : List Int) (d1028 : D) (r : D) (h : p_l_jar d1027 d1028 = some r) : evalD [.s, .b] 1 m_l_jar [.scr d1027, .bor d1028] = some ((.fr r), [.scr d1027, .bor d1028]) := by
  unfold p_l_jar at h
  refine run_evalD (m := m_l_jar) ?_
  show PL.Run m_l_jar [.scr d1027, .bor d1028, .un] _
  unfold m_l_jar
  obtain ⟨v1065, h1067, h⟩ := ob1 h
  have e1066 : (mSet 2 (mRv (mPl (mIf (mB (mOp gLt (mVar 1) (mPl (mLenS 0)))) (mIxS 0 (mFz (mRv (mVar 1)))) (mC (.int 0)))))) [.scr d1027, .bor d1028, .un] = .ok .nx [.scr d1027, .bor d1028, .val v1065] := by
    obtain ⟨v1057, h1058, h1067⟩ := ob1 h1067
    obtain ⟨b1059, h1060, h1067⟩ := ob1 h1067
    rcases b1059 with _ | _
    · rw [if_neg Bool.false_ne_true] at h1067
      obtain rfl := Option.some.inj h1067
      simp [h1058, h1060]
    · rw [if_pos rfl] at h1067
      obtain ⟨u1061, h1062, h1067⟩ := ob1 h1067
      obtain ⟨v1063, h1064, h1067⟩ := ob1 h1067
      obtain rfl := Option.some.inj h1067
      simp [h1058, h1060, (atP_eq h1062), h1064, s_ixS]
  refine run_seq e1066 ?_
  obtain ⟨v1068, h1069, h⟩ := ob1 h
  obtain ⟨v1070, h1071, h⟩ := ob1 h
  obtain ⟨v1072, h1073, h⟩ := ob1 h
  obtain ⟨v1074, h1075, h⟩ := ob1 h
  obtain ⟨v1076, h1077, h⟩ := ob1 h
  obtain ⟨v1078, h1079, h⟩ := ob1 h
  obtain ⟨v1080, h1081, h⟩ := ob1 h
  obtain ⟨v1082, h1083, h⟩ := ob1 h
  have e1084 : (mLst (mCons (mN gMax2 (mCons (mPl (mC (.int 0))) (mCons (mPl (mOp gSub' (mVar 2) (mPl (mOp gPow (mPl (mC (.int 10))) (mPl (mC (.int 18))))))) mNil))) (mCons (mFz (mOpX gAdd (mPl (mFz (mOpX gMul (mPl (mOp gMod (mVar 2) (mPl (mFz (mOpX gAdd (mPl (mOp gPow (mPl (mC (.int 10))) (mPl (mC (.int 35))))) (mPl (mC (.int 69)))))))) (mPl (mC (.int 128)))))) (mVar 1))) (mCons (mC (.int 0)) mNil)))) [.scr d1027, .bor d1028, .val v1065] = .ok (.fr (.list [v1072, v1082, (.int 0)])) [.scr d1027, .bor d1028, .val v1065] := by simp [h1069, h1071, h1073, h1075, (addV_eq h1077), h1079, (mulV_eq h1081), (addV_eq h1083)]
  obtain rfl := Option.some.inj h
  exact run_ret e1084 ⟨by simp [flR], by simp⟩
theorem tr_l_pour (d1085 : D) (d1086 : D) (r : D) (v1215 : D) (h : p_l_pour d1085 d1086 = some (r, v1215)) : evalD [.io, .b] 2 m_l_pour [.io d1085, .bor d1086] = some ((.pl (.val r)), [.io v1215, .bor d1086]) := by
  unfold p_l_pour at h
  refine run_evalD (m := m_l_pour) ?_
  show PL.Run m_l_pour [.io d1085, .bor d1086, .un, .un] _
  unfold m_l_pour
  obtain ⟨v1151, h1152, h⟩ := ob1 h
  obtain ⟨v1153, h1154, h⟩ := ob1 h
  obtain ⟨b1155, h1156, h⟩ := ob1 h
  have e1157 : (mB (mOp gGt (mPl (mOp gIx (mVar 0) (mPl (mC (.int 0))))) (mPl (mC (.int 0))))) [.io d1085, .bor d1086, .un, .un] = .ok b1155 [.io d1085, .bor d1086, .un, .un] := by simp [h1152, h1154, h1156]
  rcases b1155 with _ | _
  · rw [if_neg Bool.false_ne_true] at h
    refine run_seq_if_f e1157 ?_
    refine run_seq_skip ?_
    obtain ⟨v1171, h1172, h⟩ := ob1 h
    obtain ⟨v1173, h1174, h⟩ := ob1 h
    obtain ⟨v1175, h1176, h⟩ := ob1 h
    have e1177 : (mSetIx 0 (mFz (mOpX gAdd (mPl (mOp gIx (mVar 0) (mPl (mC (.int 2))))) (mPl (mC (.int 1))))) (mC (.int 2))) [.io d1085, .bor d1086, .un, .un] = .ok .nx [.io v1175, .bor d1086, .un, .un] := by simp [h1172, (addV_eq h1174), h1176]
    refine run_seq e1177 ?_
    obtain ⟨v1178, h1179, h⟩ := ob1 h
    obtain ⟨v1180, h1181, h⟩ := ob1 h
    obtain ⟨v1182, h1183, h⟩ := ob1 h
    obtain ⟨v1184, h1185, h⟩ := ob1 h
    obtain ⟨v1186, h1187, h⟩ := ob1 h
    obtain ⟨v1188, h1189, h⟩ := ob1 h
    obtain ⟨v1190, h1191, h⟩ := ob1 h
    obtain ⟨v1192, h1193, h⟩ := ob1 h
    have e1194 : (mSet 3 (mRv (mPl (mOp gMod (mPl (mOp gPow (mPl (mFz (mOpX gAdd (mPl (mOp gIx (mVar 0) (mPl (mC (.int 1))))) (mPl (mFz (mOpX gMul (mPl (mC (.int 32452843))) (mPl (mOp gIx (mVar 0) (mPl (mC (.int 2))))))))))) (mPl (mC (.int 3))))) (mPl (mFz (mOpX gAdd (mPl (mOp gPow (mPl (mC (.int 10))) (mPl (mC (.int 37))))) (mPl (mC (.int 43)))))))))) [.io v1175, .bor d1086, .un, .un] = .ok .nx [.io v1175, .bor d1086, .un, .val v1192] := by simp [h1179, h1181, (mulV_eq h1183), (addV_eq h1185), h1187, h1189, (addV_eq h1191), h1193]
    refine run_seq e1194 ?_
    obtain ⟨v1195, h1196, h⟩ := ob1 h
    obtain ⟨v1197, h1198, h⟩ := ob1 h
    obtain ⟨v1199, h1200, h⟩ := ob1 h
    obtain ⟨v1201, h1202, h⟩ := ob1 h
    obtain ⟨v1203, h1204, h⟩ := ob1 h
    obtain ⟨v1205, h1206, h⟩ := ob1 h
    obtain ⟨v1207, h1208, h⟩ := ob1 h
    have e1209 : (mSet 3 (mRv (mPl (mOp gMod (mPl (mOp gPow (mPl (mFz (mOpX gAdd (mVar 3) (mPl (mFz (mOpX gMul (mPl (mC (.int 49979687))) (mPl (mOp gIx (mVar 0) (mPl (mC (.int 2))))))))))) (mPl (mC (.int 5))))) (mPl (mFz (mOpX gAdd (mPl (mOp gPow (mPl (mC (.int 10))) (mPl (mC (.int 39))))) (mPl (mC (.int 3)))))))))) [.io v1175, .bor d1086, .un, .val v1192] = .ok .nx [.io v1175, .bor d1086, .un, .val v1207] := by simp [h1196, (mulV_eq h1198), (addV_eq h1200), h1202, h1204, (addV_eq h1206), h1208]
    refine run_seq e1209 ?_
    obtain ⟨v1210, h1211, h⟩ := ob1 h
    obtain ⟨v1212, h1213, h⟩ := ob1 h
    have e1214 : (mRv (mPl (mOp gMod (mPl (mOp gDiv (mVar 3) (mPl (mC (.int 131071))))) (mVar 1)))) [.io v1175, .bor d1086, .un, .val v1207] = .ok (.pl (.val v1212)) [.io v1175, .bor d1086, .un, .val v1207] := by simp [h1211, h1213]
    obtain ⟨rfl, rfl⟩ := sinj2 h
    exact run_ret e1214 ⟨by simp [flR], by simp⟩
  · rw [if_pos rfl] at h
    refine run_seq_if_t e1157 ?_
    refine run_seq_assoc ?_
    obtain ⟨v1158, h1159, h⟩ := ob1 h
    obtain ⟨v1160, h1161, h⟩ := ob1 h
    have e1162 : (mSet 2 (mRv (mPl (mOp gMod (mPl (mOp gIx (mVar 0) (mPl (mC (.int 0))))) (mVar 1))))) [.io d1085, .bor d1086, .un, .un] = .ok .nx [.io d1085, .bor d1086, .val v1160, .un] := by simp [h1159, h1161]
    refine run_seq e1162 ?_
    refine run_seq_assoc ?_
    obtain ⟨v1163, h1164, h⟩ := ob1 h
    obtain ⟨v1165, h1166, h⟩ := ob1 h
    obtain ⟨v1167, h1168, h⟩ := ob1 h
    have e1169 : (mSetIx 0 (mOp gDiv (mPl (mOp gIx (mVar 0) (mPl (mC (.int 0))))) (mVar 1)) (mC (.int 0))) [.io d1085, .bor d1086, .val v1160, .un] = .ok .nx [.io v1167, .bor d1086, .val v1160, .un] := by simp [h1164, h1166, h1168]
    refine run_seq e1169 ?_
    have e1170 : (mRv (mVar 2)) [.io v1167, .bor d1086, .val v1160, .un] = .ok (.pl (.val v1160)) [.io v1167, .bor d1086, .val v1160, .un] := by simp []
    obtain ⟨rfl, rfl⟩ := sinj2 h
    exact run_seq_ret e1170 ⟨by simp [flR], by simp⟩
theorem tr_l_number (d1216 : D) (d1217 : D) (r : D) (v1256 : D) (h : p_l_number d1216 d1217 = some (r, v1256)) : evalD [.io, .b] 0 m_l_number [.io d1216, .bor d1217] = some ((.pl (.val r)), [.io v1256, .bor d1217]) := by
  unfold p_l_number at h
  refine run_evalD (m := m_l_number) ?_
  show PL.Run m_l_number [.io d1216, .bor d1217] _
  unfold m_l_number
  obtain ⟨v1237, v1238, h1239, h⟩ := ob2 h
  have e1240 := tr_l_pour d1216 (.int 3) _ _ h1239
  obtain ⟨v1241, v1242, h1243, h⟩ := ob2 h
  have e1244 := tr_l_pour v1238 (.int 9) _ _ h1243
  obtain ⟨v1245, v1246, h1247, h⟩ := ob2 h
  have e1248 := tr_l_pour v1242 d1217 _ _ h1247
  obtain ⟨v1249, v1250, h1251, h⟩ := ob2 h
  have e1252 := tr_l_pour v1246 (.int 3) _ _ h1251
  obtain ⟨v1253, h1254, h⟩ := ob1 h
  have e1255 : (mRv (mPl (mOp gIx (mPl (mFz (mLst (mCons (mFz (mCall [.io, .b] 2 m_l_pour (mCons (mVar 0) (mCons (mPl (mC (.int 3))) mNil)))) (mCons (mFz (mCall [.io, .b] 2 m_l_pour (mCons (mVar 0) (mCons (mPl (mC (.int 9))) mNil)))) (mCons (mFz (mCall [.io, .b] 2 m_l_pour (mCons (mVar 0) (mCons (mVar 1) mNil)))) mNil)))))) (mPl (mFz (mCall [.io, .b] 2 m_l_pour (mCons (mVar 0) (mCons (mPl (mC (.int 3))) mNil)))))))) [.io d1216, .bor d1217] = .ok (.pl (.val v1253)) [.io v1250, .bor d1217] := by simp [e1240, e1244, e1248, e1252, h1254]
  obtain ⟨rfl, rfl⟩ := sinj2 h
  exact run_ret e1255 ⟨by simp [flR], by simp⟩
theorem tr_l_saying (d1257 : D) (d1258 : D) (r : D) (v1297 : D) (h : p_l_saying d1257 d1258 = some (r, v1297)) : evalD [.io, .b] 2 m_l_saying [.io d1257, .bor d1258] = some ((.pl (.val r)), [.io v1297, .bor d1258]) := by
  unfold p_l_saying at h
  refine run_evalD (m := m_l_saying) ?_
  show PL.Run m_l_saying [.io d1257, .bor d1258, .un, .un] _
  unfold m_l_saying
  obtain ⟨v1278, v1279, h1280, h⟩ := ob2 h
  have e1281 := tr_l_number d1257 d1258 _ _ h1280
  have e1282 : (mSet 2 (mCall [.io, .b] 0 m_l_number (mCons (mVar 0) (mCons (mVar 1) mNil)))) [.io d1257, .bor d1258, .un, .un] = .ok .nx [.io v1279, .bor d1258, .val v1278, .un] := by simp [e1281]
  refine run_seq e1282 ?_
  obtain ⟨v1283, v1284, h1285, h⟩ := ob2 h
  have e1286 := tr_l_number v1279 d1258 _ _ h1285
  obtain ⟨v1287, h1288, h⟩ := ob1 h
  have e1289 : (mSet 3 (mOpX gAdd (mVar 2) (mPl (mFz (mCall [.io, .b] 0 m_l_number (mCons (mVar 0) (mCons (mVar 1) mNil))))))) [.io v1279, .bor d1258, .val v1278, .un] = .ok .nx [.io v1284, .bor d1258, .val v1278, .val v1287] := by simp [e1286, (addV_eq h1288)]
  refine run_seq e1289 ?_
  obtain ⟨v1290, v1291, h1292, h⟩ := ob2 h
  have e1293 := tr_l_pour v1284 (.int 5) _ _ h1292
  obtain ⟨v1294, h1295, h⟩ := ob1 h
  have e1296 : (mRv (mPl (mTup (mCons (mFz (mRv (mVar 2))) (mCons (mOp gIx (mPl (mFz (mLst (mCons (mFz (mRv (mVar 3))) (mCons (mFz (mRv (mVar 3))) (mCons (mFz (mRv (mVar 3))) (mCons (mFz (mRv (mVar 3))) (mCons (mC .none) mNil)))))))) (mPl (mFz (mCall [.io, .b] 2 m_l_pour (mCons (mVar 0) (mCons (mPl (mC (.int 5))) mNil)))))) mNil))))) [.io v1284, .bor d1258, .val v1278, .val v1287] = .ok (.pl (.val (.tuple [v1278, v1294]))) [.io v1291, .bor d1258, .val v1278, .val v1287] := by simp [e1293, h1295]
  obtain ⟨rfl, rfl⟩ := sinj2 h
  exact run_ret e1296 ⟨by simp [flR], by simp⟩
theorem tc_l_row_1 (d1299 : D) (d1300 : D) (x1353 : D) (v1346 : D) (o : Option D) (s' : D) (h : p_l_row_c1 d1300 x1353 v1346 = some (o, s')) : ∃ ρ1 ρ2, (tName 3) x1353 [.io v1346, .bor d1299, .bor d1300, .un] = .ok () ρ1 ∧ lcQ mYes (mFz (mCall [.io, .b] 2 m_l_saying (mCons (mVar 0) (mCons (mVar 2) mNil)))) [3] ((fun (s : D) (ρ : PL.Env) => ρ = [.io s, .bor d1299, .bor d1300, .un]) s') ρ1 ρ2 o := by
  unfold p_l_row_c1 at h
  obtain ⟨v1354, v1355, h1356, h⟩ := ob2 h
  have e1357 := tr_l_saying v1346 d1300 _ _ h1356
  obtain ⟨rfl, rfl⟩ := sinj2 h
  exact ⟨[.io v1346, .bor d1299, .bor d1300, .val x1353], [.io v1346, .bor d1299, .bor d1300, .val x1353], by simp [e1357], [.io v1355, .bor d1299, .bor d1300, .val x1353], by simp [e1357], by simp [e1357], by simp⟩
theorem tr_l_row (d1298 : D) (d1299 : D) (d1300 : D) (r : D) (v1365 : D) (h : p_l_row d1298 d1299 d1300 = some (r, v1365)) : evalD [.io, .b, .b] 1 m_l_row [.io d1298, .bor d1299, .bor d1300] = some ((.fr r), [.io v1365, .bor d1299, .bor d1300]) := by
  unfold p_l_row at h
  refine run_evalD (m := m_l_row) ?_
  show PL.Run m_l_row [.io d1298, .bor d1299, .bor d1300, .un] _
  unfold m_l_row
  obtain ⟨v1333, h1334, h⟩ := ob1 h
  obtain ⟨v1335, v1336, h1337, h⟩ := ob2 h
  have e1338 := tr_l_pour d1298 v1333 _ _ h1337
  obtain ⟨x1339, h1340, h⟩ := ob1 h
  obtain ⟨x1358, v1361, h1359, h⟩ := ob2 h
  obtain ⟨r1362, e1360, r1363⟩ := lcT_run (fun (s : D) (ρ : PL.Env) => ρ = [.io s, .bor d1299, .bor d1300, .un]) (fi := (mRng1 (mFz (mCall [.io, .b] 2 m_l_pour (mCons (mVar 0) (mCons (mPl (mFz (mOpX gAdd (mVar 1) (mPl (mC (.int 1)))))) mNil)))))) (t := (tName 3)) (vs := [3]) (c := mYes) (fe := (mFz (mCall [.io, .b] 2 m_l_saying (mCons (mVar 0) (mCons (mVar 2) mNil))))) (ρ0 := [.io d1298, .bor d1299, .bor d1300, .un]) (ρ1 := [.io v1336, .bor d1299, .bor d1300, .un]) (s := v1336) (by simp [(addV_eq h1334), e1338, h1340]) (by simp) h1359 (fun x s ρ o s' hi hf => by subst hi; exact tc_l_row_1 d1299 d1300 x s o s' hf)
  subst r1363
  have e1364 : (mLc (mRng1 (mFz (mCall [.io, .b] 2 m_l_pour (mCons (mVar 0) (mCons (mPl (mFz (mOpX gAdd (mVar 1) (mPl (mC (.int 1)))))) mNil))))) (tName 3) [3] mYes (mFz (mCall [.io, .b] 2 m_l_saying (mCons (mVar 0) (mCons (mVar 2) mNil))))) [.io d1298, .bor d1299, .bor d1300, .un] = .ok (.fr (.list x1358)) [.io v1361, .bor d1299, .bor d1300, .un] := by simp [(addV_eq h1334), e1338, h1340, e1360]
  obtain ⟨rfl, rfl⟩ := sinj2 h
  exact run_ret e1364 ⟨by simp [flR], by simp⟩
theorem tb_l_total_1 (d1366 : D) (d1367 : D) (x1545 : D) (v1510 : D) (j1511 : Sl) (j1512 : Sl) (s0 : D) (h : p_l_total_b1 x1545 v1510 = some s0) : ∃ ρ1, (tTupl (tsCons (tName 3) (tsCons (tName 4) tsNil))) x1545 [.bor d1366, .val d1367, .val v1510, j1511, j1512] = .ok () ρ1 ∧ PL.Run mb_l_total_1 ρ1 (fun fl ρ' => (fl = .nx ∨ fl = .ct) ∧ (fun (s : D) (ρ : PL.Env) => ∃ (j1511 : Sl) (j1512 : Sl), ρ = [.bor d1366, .val d1367, .val s, j1511, j1512]) s0 ρ') := by
  unfold p_l_total_b1 at h
  obtain ⟨v1546, v1547, h1548, h⟩ := ob2 h
  refine ⟨[.bor d1366, .val d1367, .val v1510, .val v1546, .val v1547], by simp [(tT2 h1548)], ?_⟩
  unfold mb_l_total_1
  obtain ⟨v1571, h1573, h⟩ := ob1 h
  have e1572 : (mSet 2 (mOpX gAdd (mVar 2) (mPl (mN gInt1 (mCons (mPl (mAndV (mOp gLe (mVar 3) (mVar 2)) (mOrV (mOp gIs (mVar 4) (mPl (mC .none))) (mOp gLe (mVar 2) (mVar 4))))) mNil))))) [.bor d1366, .val d1367, .val v1510, .val v1546, .val v1547] = .ok .nx [.bor d1366, .val d1367, .val v1571, .val v1546, .val v1547] := by
    obtain ⟨v1549, h1550, h1573⟩ := ob1 h1573
    obtain ⟨b1551, h1552, h1573⟩ := ob1 h1573
    rcases b1551 with _ | _
    · rw [if_neg Bool.false_ne_true] at h1573
      obtain ⟨v1567, h1568, h1573⟩ := ob1 h1573
      obtain ⟨v1569, h1570, h1573⟩ := ob1 h1573
      obtain rfl := Option.some.inj h1573
      simp [h1550, h1552, h1568, (addV_eq h1570)]
    · rw [if_pos rfl] at h1573
      obtain ⟨v1553, h1554, h1573⟩ := ob1 h1573
      obtain ⟨b1555, h1556, h1573⟩ := ob1 h1573
      rcases b1555 with _ | _
      · rw [if_neg Bool.false_ne_true] at h1573
        obtain ⟨v1561, h1562, h1573⟩ := ob1 h1573
        obtain ⟨v1563, h1564, h1573⟩ := ob1 h1573
        obtain ⟨v1565, h1566, h1573⟩ := ob1 h1573
        obtain rfl := Option.some.inj h1573
        simp [h1550, h1552, h1554, h1556, h1562, h1564, (addV_eq h1566)]
      · rw [if_pos rfl] at h1573
        obtain ⟨v1557, h1558, h1573⟩ := ob1 h1573
        obtain ⟨v1559, h1560, h1573⟩ := ob1 h1573
        obtain rfl := Option.some.inj h1573
        simp [h1550, h1552, h1554, h1556, h1558, (addV_eq h1560)]
  obtain rfl := Option.some.inj h
  exact run_end e1572 ⟨.inl rfl, .val v1546, .val v1547, rfl⟩
theorem tr_l_total (d1366 : D) (d1367 : D) (r : D) (h : p_l_total d1366 d1367 = some r) : evalD [.b, .v] 3 m_l_total [.bor d1366, .val d1367] = some ((.pl (.val r)), [.bor d1366, .val d1367]) := by
  unfold p_l_total at h
  refine run_evalD (m := m_l_total) ?_
  show PL.Run m_l_total [.bor d1366, .val d1367, .un, .un, .un] _
  unfold m_l_total
  have e1474 : (mSet 2 (mRv (mPl (mFz (mRv (mVar 1)))))) [.bor d1366, .val d1367, .un, .un, .un] = .ok .nx [.bor d1366, .val d1367, .val d1367, .un, .un] := by simp []
  refine run_seq e1474 ?_
  obtain ⟨v1475, h1476, h⟩ := ob1 h
  obtain ⟨q1477, x1478, h1479, h⟩ := ob2 h
  have e1480 : (mIter (mPl (mFz (mFr (mUn gRevs (mVar 0)))))) [.bor d1366, .val d1367, .val d1367, .un, .un] = .ok x1478 [.bor d1366, .val d1367, .val d1367, .un, .un] := by simp [h1476, h1479]
  obtain ⟨v1574, h1577, h⟩ := ob1 h
  obtain ⟨_, e1578, j1575, j1576, rfl⟩ := run_for_nx e1480 (foldP_run (fun (s : D) (ρ : PL.Env) => ∃ (j1511 : Sl) (j1512 : Sl), ρ = [.bor d1366, .val d1367, .val s, j1511, j1512]) (t := (tTupl (tsCons (tName 3) (tsCons (tName 4) tsNil)))) (b := mb_l_total_1) (fun x s ρ s0 hi hf => by obtain ⟨j1511, j1512, rfl⟩ := hi; exact tb_l_total_1 d1366 d1367 x s j1511 j1512 s0 hf) x1478 d1367 _ v1574 ⟨.un, .un, rfl⟩ h1577)
  refine run_seq e1578 ?_
  have e1579 : (mRv (mVar 2)) [.bor d1366, .val d1367, .val v1574, j1575, j1576] = .ok (.pl (.val v1574)) [.bor d1366, .val d1367, .val v1574, j1575, j1576] := by simp []
  obtain rfl := Option.some.inj h
  exact run_ret e1579 ⟨by simp [flR], by simp⟩
theorem tb_l_handed_on_1 (d1580 : D) (d1581 : D) (x1790 : D) (v1747 : D) (j1748 : Sl) (j1749 : Sl) (j1750 : Sl) (s0 : D) (h : p_l_handed_on_b1 x1790 v1747 = some s0) : ∃ ρ1, (tTupl (tsCons (tName 3) (tsCons (tName 4) tsNil))) x1790 [.bor d1580, .val d1581, .own v1747, j1748, j1749, j1750] = .ok () ρ1 ∧ PL.Run mb_l_handed_on_1 ρ1 (fun fl ρ' => (fl = .nx ∨ fl = .ct) ∧ (fun (s : D) (ρ : PL.Env) => ∃ (j1748 : Sl) (j1749 : Sl) (j1750 : Sl), ρ = [.bor d1580, .val d1581, .own s, j1748, j1749, j1750]) s0 ρ') := by
  unfold p_l_handed_on_b1 at h
  obtain ⟨v1791, v1792, h1793, h⟩ := ob2 h
  refine ⟨[.bor d1580, .val d1581, .own v1747, .val v1791, .val v1792, j1750], by simp [(tT2 h1793)], ?_⟩
  unfold mb_l_handed_on_1
  obtain ⟨v1810, h1812, h⟩ := ob1 h
  have e1811 : (mSet 5 (mRv (mPl (mAndV (mOp gLt (mVar 3) (mPl (mOp gIx (mVar 2) (mPl (mNegU (mC (.int 1))))))) (mOrV (mOp gIs (mVar 4) (mPl (mC .none))) (mOp gLe (mPl (mOp gSub' (mPl (mOp gIx (mVar 2) (mPl (mNegU (mC (.int 1)))))) (mPl (mC (.int 1))))) (mVar 4))))))) [.bor d1580, .val d1581, .own v1747, .val v1791, .val v1792, j1750] = .ok .nx [.bor d1580, .val d1581, .own v1747, .val v1791, .val v1792, .val v1810] := by
    obtain ⟨v1794, h1795, h1812⟩ := ob1 h1812
    obtain ⟨v1796, h1797, h1812⟩ := ob1 h1812
    obtain ⟨v1798, h1799, h1812⟩ := ob1 h1812
    obtain ⟨b1800, h1801, h1812⟩ := ob1 h1812
    rcases b1800 with _ | _
    · rw [if_neg Bool.false_ne_true] at h1812
      obtain rfl := Option.some.inj h1812
      simp [h1795, h1797, h1799, h1801]
    · rw [if_pos rfl] at h1812
      obtain ⟨v1802, h1803, h1812⟩ := ob1 h1812
      obtain ⟨b1804, h1805, h1812⟩ := ob1 h1812
      rcases b1804 with _ | _
      · rw [if_neg Bool.false_ne_true] at h1812
        obtain ⟨v1806, h1807, h1812⟩ := ob1 h1812
        obtain ⟨v1808, h1809, h1812⟩ := ob1 h1812
        obtain rfl := Option.some.inj h1812
        simp [h1795, h1797, h1799, h1801, h1803, h1805, h1807, h1809]
      · rw [if_pos rfl] at h1812
        obtain rfl := Option.some.inj h1812
        simp [h1795, h1797, h1799, h1801, h1803, h1805]
  refine run_seq e1811 ?_
  obtain ⟨v1813, h1814, h⟩ := ob1 h
  obtain ⟨v1815, h1816, h⟩ := ob1 h
  obtain ⟨v1817, h1818, h⟩ := ob1 h
  obtain ⟨v1819, h1820, h⟩ := ob1 h
  obtain ⟨v1821, v1822, h1823, h⟩ := ob2 h
  have e1824 : (mDrop (mMut 2 gAppend (mCons (mOp gSub' (mPl (mOp gIx (mVar 2) (mPl (mNegU (mC (.int 1)))))) (mPl (mN gInt1 (mCons (mVar 5) mNil)))) mNil))) [.bor d1580, .val d1581, .own v1747, .val v1791, .val v1792, .val v1810] = .ok .nx [.bor d1580, .val d1581, .own v1821, .val v1791, .val v1792, .val v1810] := by simp [h1814, h1816, h1818, h1820, h1823, (mutP_lst h1823)]
  obtain rfl := Option.some.inj h
  exact run_end e1824 ⟨.inl rfl, .val v1791, .val v1792, .val v1810, rfl⟩
theorem tr_l_handed_on (d1580 : D) (d1581 : D) (r : D) (h : p_l_handed_on d1580 d1581 = some r) : evalD [.b, .v] 4 m_l_handed_on [.bor d1580, .val d1581] = some ((.fr r), [.bor d1580, .val d1581]) := by
  unfold p_l_handed_on at h
  refine run_evalD (m := m_l_handed_on) ?_
  show PL.Run m_l_handed_on [.bor d1580, .val d1581, .un, .un, .un, .un] _
  unfold m_l_handed_on
  have e1707 : (mSet 2 (mLst (mCons (mFz (mRv (mVar 1))) mNil))) [.bor d1580, .val d1581, .un, .un, .un, .un] = .ok .nx [.bor d1580, .val d1581, .own (.list [d1581]), .un, .un, .un] := by simp []
  refine run_seq e1707 ?_
  obtain ⟨q1708, x1709, h1710, h⟩ := ob2 h
  have e1711 : (mIter (mVar 0)) [.bor d1580, .val d1581, .own (.list [d1581]), .un, .un, .un] = .ok x1709 [.bor d1580, .val d1581, .own (.list [d1581]), .un, .un, .un] := by simp [h1710]
  obtain ⟨v1825, h1829, h⟩ := ob1 h
  obtain ⟨_, e1830, j1826, j1827, j1828, rfl⟩ := run_for_nx e1711 (foldP_run (fun (s : D) (ρ : PL.Env) => ∃ (j1748 : Sl) (j1749 : Sl) (j1750 : Sl), ρ = [.bor d1580, .val d1581, .own s, j1748, j1749, j1750]) (t := (tTupl (tsCons (tName 3) (tsCons (tName 4) tsNil)))) (b := mb_l_handed_on_1) (fun x s ρ s0 hi hf => by obtain ⟨j1748, j1749, j1750, rfl⟩ := hi; exact tb_l_handed_on_1 d1580 d1581 x s j1748 j1749 j1750 s0 hf) x1709 (.list [d1581]) _ v1825 ⟨.un, .un, .un, rfl⟩ h1829)
  refine run_seq e1830 ?_
  have e1831 : (mRv (mVar 2)) [.bor d1580, .val d1581, .own v1825, j1826, j1827, j1828] = .ok (.pl (.slot 2)) [.bor d1580, .val d1581, .own v1825, j1826, j1827, j1828] := by simp []
  obtain rfl := Option.some.inj h
  exact run_ret e1831 ⟨by simp [flR], by simp⟩
theorem tr_l_does (d1832 : D) (d1833 : D) (d1834 : D) (r : D) (h : p_l_does d1832 d1833 d1834 = some r) : evalD [.b, .v, .b] 0 m_l_does [.bor d1832, .val d1833, .bor d1834] = some ((.pl (.val r)), [.bor d1832, .val d1833, .bor d1834]) := by
  unfold p_l_does at h
  refine run_evalD (m := m_l_does) ?_
  show PL.Run m_l_does [.bor d1832, .val d1833, .bor d1834] _
  unfold m_l_does
  obtain ⟨v1874, h1876, h⟩ := ob1 h
  have e1875 : (mRv (mPl (mAndV (mOp gGe (mPl (mFz (mCall [.b, .v] 3 m_l_total (mCons (mVar 0) (mCons (mPl (mFz (mRv (mVar 1)))) mNil))))) (mVar 2)) (mOrV (mOp gEq (mVar 1) (mPl (mC (.int 0)))) (mOp gLt (mPl (mFz (mCall [.b, .v] 3 m_l_total (mCons (mVar 0) (mCons (mPl (mOp gSub' (mVar 1) (mPl (mC (.int 1))))) mNil))))) (mVar 2)))))) [.bor d1832, .val d1833, .bor d1834] = .ok (.pl (.val v1874)) [.bor d1832, .val d1833, .bor d1834] := by
    obtain ⟨v1856, h1857, h1876⟩ := ob1 h1876
    have e1858 := tr_l_total d1832 d1833 _ h1857
    obtain ⟨v1859, h1860, h1876⟩ := ob1 h1876
    obtain ⟨b1861, h1862, h1876⟩ := ob1 h1876
    rcases b1861 with _ | _
    · rw [if_neg Bool.false_ne_true] at h1876
      obtain rfl := Option.some.inj h1876
      simp [e1858, h1860, h1862]
    · rw [if_pos rfl] at h1876
      obtain ⟨v1863, h1864, h1876⟩ := ob1 h1876
      obtain ⟨b1865, h1866, h1876⟩ := ob1 h1876
      rcases b1865 with _ | _
      · rw [if_neg Bool.false_ne_true] at h1876
        obtain ⟨v1867, h1868, h1876⟩ := ob1 h1876
        obtain ⟨v1869, h1870, h1876⟩ := ob1 h1876
        have e1871 := tr_l_total d1832 v1867 _ h1870
        obtain ⟨v1872, h1873, h1876⟩ := ob1 h1876
        obtain rfl := Option.some.inj h1876
        simp [e1858, h1860, h1862, h1864, h1866, h1868, e1871, h1873]
      · rw [if_pos rfl] at h1876
        obtain rfl := Option.some.inj h1876
        simp [e1858, h1860, h1862, h1864, h1866]
  obtain rfl := Option.some.inj h
  exact run_ret e1875 ⟨by simp [flR], by simp⟩
theorem tc_l_between_1 (d1877 : D) (d1878 : D) (d1879 : D) (x1970 : D) (o : Option D) (h : p_l_between_c1 d1877 d1878 x1970 = some o) : ∃ ρ1 ρ2, (tName 4) x1970 [.bor d1877, .bor d1878, .bor d1879, .un, .un] = .ok () ρ1 ∧ lcQ (mB (mOp gLe (mVar 1) (mPl (mFz (mCall [.b, .v] 3 m_l_total (mCons (mVar 0) (mCons (mPl (mFz (mRv (mVar 4)))) mNil))))))) (mFz (mRv (mVar 4))) [4] (fun (ρ : PL.Env) => ρ = [.bor d1877, .bor d1878, .bor d1879, .un, .un]) ρ1 ρ2 o := by
  unfold p_l_between_c1 at h
  obtain ⟨v1971, h1972, h⟩ := ob1 h
  have e1973 := tr_l_total d1877 x1970 _ h1972
  obtain ⟨v1974, h1975, h⟩ := ob1 h
  obtain ⟨b1976, h1977, h⟩ := ob1 h
  rcases b1976 with _ | _
  · rw [if_neg Bool.false_ne_true] at h
    obtain rfl := Option.some.inj h
    exact ⟨[.bor d1877, .bor d1878, .bor d1879, .un, .val x1970], [.bor d1877, .bor d1878, .bor d1879, .un, .val x1970], by simp [e1973, h1975, h1977], by simp [e1973, h1975, h1977], by simp⟩
  · rw [if_pos rfl] at h
    obtain rfl := Option.some.inj h
    exact ⟨[.bor d1877, .bor d1878, .bor d1879, .un, .val x1970], [.bor d1877, .bor d1878, .bor d1879, .un, .val x1970], by simp [e1973, h1975, h1977], [.bor d1877, .bor d1878, .bor d1879, .un, .val x1970], by simp [e1973, h1975, h1977], by simp [e1973, h1975, h1977], by simp⟩
theorem tc_l_between_2 (d1877 : D) (d1878 : D) (d1879 : D) (x1978 : List D) (x2006 : D) (o : Option D) (h : p_l_between_c2 d1877 d1879 x2006 = some o) : ∃ ρ1 ρ2, (tName 4) x2006 [.bor d1877, .bor d1878, .bor d1879, .val (.list x1978), .un] = .ok () ρ1 ∧ lcQ (mB (mOp gLe (mPl (mFz (mCall [.b, .v] 3 m_l_total (mCons (mVar 0) (mCons (mPl (mFz (mRv (mVar 4)))) mNil))))) (mVar 2))) (mFz (mRv (mVar 4))) [4] (fun (ρ : PL.Env) => ρ = [.bor d1877, .bor d1878, .bor d1879, .val (.list x1978), .un]) ρ1 ρ2 o := by
  unfold p_l_between_c2 at h
  obtain ⟨v2007, h2008, h⟩ := ob1 h
  have e2009 := tr_l_total d1877 x2006 _ h2008
  obtain ⟨v2010, h2011, h⟩ := ob1 h
  obtain ⟨b2012, h2013, h⟩ := ob1 h
  rcases b2012 with _ | _
  · rw [if_neg Bool.false_ne_true] at h
    obtain rfl := Option.some.inj h
    exact ⟨[.bor d1877, .bor d1878, .bor d1879, .val (.list x1978), .val x2006], [.bor d1877, .bor d1878, .bor d1879, .val (.list x1978), .val x2006], by simp [e2009, h2011, h2013], by simp [e2009, h2011, h2013], by simp⟩
  · rw [if_pos rfl] at h
    obtain rfl := Option.some.inj h
    exact ⟨[.bor d1877, .bor d1878, .bor d1879, .val (.list x1978), .val x2006], [.bor d1877, .bor d1878, .bor d1879, .val (.list x1978), .val x2006], by simp [e2009, h2011, h2013], [.bor d1877, .bor d1878, .bor d1879, .val (.list x1978), .val x2006], by simp [e2009, h2011, h2013], by simp [e2009, h2011, h2013], by simp⟩
theorem tr_l_between (d1877 : D) (d1878 : D) (d1879 : D) (r : D) (h : p_l_between d1877 d1878 d1879 = some r) : evalD [.b, .b, .b] 2 m_l_between [.bor d1877, .bor d1878, .bor d1879] = some ((.pl (.val r)), [.bor d1877, .bor d1878, .bor d1879]) := by
  unfold p_l_between at h
  refine run_evalD (m := m_l_between) ?_
  show PL.Run m_l_between [.bor d1877, .bor d1878, .bor d1879, .un, .un] _
  unfold m_l_between
  obtain ⟨x1960, h1961, h⟩ := ob1 h
  obtain ⟨x1978, h1979, h⟩ := ob1 h
  obtain ⟨r1981, e1980, r1982⟩ := filT_run (fun (ρ : PL.Env) => ρ = [.bor d1877, .bor d1878, .bor d1879, .un, .un]) (fi := (mRng1 (mC (.int 61)))) (t := (tName 4)) (vs := [4]) (c := (mB (mOp gLe (mVar 1) (mPl (mFz (mCall [.b, .v] 3 m_l_total (mCons (mVar 0) (mCons (mPl (mFz (mRv (mVar 4)))) mNil)))))))) (fe := (mFz (mRv (mVar 4)))) (ρ0 := [.bor d1877, .bor d1878, .bor d1879, .un, .un]) (ρ1 := [.bor d1877, .bor d1878, .bor d1879, .un, .un]) (by simp [h1961]) (by simp) h1979 (fun x ρ o hi hf => by subst hi; exact tc_l_between_1 d1877 d1878 d1879 x o hf)
  subst r1982
  have e1983 : (mSet 3 (mLc (mRng1 (mC (.int 61))) (tName 4) [4] (mB (mOp gLe (mVar 1) (mPl (mFz (mCall [.b, .v] 3 m_l_total (mCons (mVar 0) (mCons (mPl (mFz (mRv (mVar 4)))) mNil))))))) (mFz (mRv (mVar 4))))) [.bor d1877, .bor d1878, .bor d1879, .un, .un] = .ok .nx [.bor d1877, .bor d1878, .bor d1879, .own (.list x1978), .un] := by simp [h1961, e1980]
  refine run_seq e1983 ?_
  obtain ⟨v2020, h1988, h⟩ := ob1 h
  have e1989 : PL.Run (mIf (mB (mOp gNot (mVar 2) (mPl (mC .none)))) (mSet 3 (mLc (mIter (mPl (mFz (mRv (mVar 3))))) (tName 4) [4] (mB (mOp gLe (mPl (mFz (mCall [.b, .v] 3 m_l_total (mCons (mVar 0) (mCons (mPl (mFz (mRv (mVar 4)))) mNil))))) (mVar 2))) (mFz (mRv (mVar 4))))) mSkip) [.bor d1877, .bor d1878, .bor d1879, .own (.list x1978), .un] fun fl ρ' => fl = .nx ∧ ρ' = [.bor d1877, .bor d1878, .bor d1879, .own v2020, .un] := by
    obtain ⟨v1990, h1991, h1988⟩ := ob1 h1988
    obtain ⟨b1992, h1993, h1988⟩ := ob1 h1988
    have e1994 : (mB (mOp gNot (mVar 2) (mPl (mC .none)))) [.bor d1877, .bor d1878, .bor d1879, .own (.list x1978), .un] = .ok b1992 [.bor d1877, .bor d1878, .bor d1879, .own (.list x1978), .un] := by simp [h1991, h1993]
    rcases b1992 with _ | _
    · rw [if_neg Bool.false_ne_true] at h1988
      refine run_if_f e1994 ?_
      obtain rfl := Option.some.inj h1988
      exact run_end (m := mSkip) (fl := .nx) rfl ⟨rfl, rfl⟩
    · rw [if_pos rfl] at h1988
      refine run_if_t e1994 ?_
      obtain ⟨q1995, x1996, h1997, h1988⟩ := ob2 h1988
      obtain ⟨x2014, h2015, h1988⟩ := ob1 h1988
      obtain ⟨r2017, e2016, r2018⟩ := filT_run (fun (ρ : PL.Env) => ρ = [.bor d1877, .bor d1878, .bor d1879, .val (.list x1978), .un]) (fi := (mIter (mPl (mFz (mRv (mVar 3)))))) (t := (tName 4)) (vs := [4]) (c := (mB (mOp gLe (mPl (mFz (mCall [.b, .v] 3 m_l_total (mCons (mVar 0) (mCons (mPl (mFz (mRv (mVar 4)))) mNil))))) (mVar 2)))) (fe := (mFz (mRv (mVar 4)))) (ρ0 := [.bor d1877, .bor d1878, .bor d1879, .own (.list x1978), .un]) (ρ1 := [.bor d1877, .bor d1878, .bor d1879, .val (.list x1978), .un]) (by simp [h1997]) (by simp) h2015 (fun x ρ o hi hf => by subst hi; exact tc_l_between_2 d1877 d1878 d1879 x1978 x o hf)
      subst r2018
      have e2019 : (mSet 3 (mLc (mIter (mPl (mFz (mRv (mVar 3))))) (tName 4) [4] (mB (mOp gLe (mPl (mFz (mCall [.b, .v] 3 m_l_total (mCons (mVar 0) (mCons (mPl (mFz (mRv (mVar 4)))) mNil))))) (mVar 2))) (mFz (mRv (mVar 4))))) [.bor d1877, .bor d1878, .bor d1879, .own (.list x1978), .un] = .ok .nx [.bor d1877, .bor d1878, .bor d1879, .own (.list x2014), .un] := by simp [h1997, e2016]
      obtain rfl := Option.some.inj h1988
      exact run_end e2019 ⟨rfl, rfl⟩
  obtain ⟨_, _, e1989, rfl, rfl⟩ := e1989
  refine run_seq e1989 ?_
  obtain ⟨v2021, h2022, h⟩ := ob1 h
  obtain ⟨b2023, h2024, h⟩ := ob1 h
  have e2025 : (mB (mOp gEq (mVar 3) (mPl (mFz (mLst mNil))))) [.bor d1877, .bor d1878, .bor d1879, .own v2020, .un] = .ok b2023 [.bor d1877, .bor d1878, .bor d1879, .own v2020, .un] := by simp [h2022, h2024]
  rcases b2023 with _ | _
  · rw [if_neg Bool.false_ne_true] at h
    refine run_seq_if_f e2025 ?_
    refine run_seq_skip ?_
    obtain ⟨v2037, h2039, h⟩ := ob1 h
    have e2038 : (mRv (mPl (mTup (mCons (mOp gIx (mVar 3) (mPl (mC (.int 0)))) (mCons (mIf (mB (mOp gIs (mVar 2) (mPl (mC .none)))) (mC .none) (mOp gIx (mVar 3) (mPl (mNegU (mC (.int 1)))))) mNil))))) [.bor d1877, .bor d1878, .bor d1879, .own v2020, .un] = .ok (.pl (.val v2037)) [.bor d1877, .bor d1878, .bor d1879, .own v2020, .un] := by
      obtain ⟨v2027, h2028, h2039⟩ := ob1 h2039
      obtain ⟨v2029, h2030, h2039⟩ := ob1 h2039
      obtain ⟨b2031, h2032, h2039⟩ := ob1 h2039
      rcases b2031 with _ | _
      · rw [if_neg Bool.false_ne_true] at h2039
        obtain ⟨v2033, h2034, h2039⟩ := ob1 h2039
        obtain ⟨v2035, h2036, h2039⟩ := ob1 h2039
        obtain rfl := Option.some.inj h2039
        simp [h2028, h2030, h2032, h2034, h2036]
      · rw [if_pos rfl] at h2039
        obtain rfl := Option.some.inj h2039
        simp [h2028, h2030, h2032]
    obtain rfl := Option.some.inj h
    exact run_ret e2038 ⟨by simp [flR], by simp⟩
  · rw [if_pos rfl] at h
    refine run_seq_if_t e2025 ?_
    have e2026 : (mRv (mPl (mC .none))) [.bor d1877, .bor d1878, .bor d1879, .own v2020, .un] = .ok (.pl (.val (.none : D))) [.bor d1877, .bor d1878, .bor d1879, .own v2020, .un] := by simp []
    obtain rfl := Option.some.inj h
    exact run_seq_ret e2026 ⟨by simp [flR], by simp⟩
theorem tb_l_small_right_1 (v2150 : D) (d2041 : D) (v2138 : D) (v2155 : D) (x2213 : D) (j2194 : Sl) (o : Ct (Unit) (D × D)) (h : p_l_small_right_b1 d2041 v2150 x2213 = some o) : ∃ ρ1, (tName 4) x2213 [.io v2150, .bor d2041, .val v2138, .val v2155, j2194] = .ok () ρ1 ∧ PL.Run mb_l_small_right_1 ρ1 ((ctQ (fun (s : Unit) (ρ : PL.Env) => ∃ (j2194 : Sl), ρ = [.io v2150, .bor d2041, .val v2138, .val v2155, j2194]) (fun (r : D × D) fl ρ' => flR fl ρ' = some (.pl (.val r.1)) ∧ ρ'.take 2 = [.io r.2, .bor d2041]) o)) := by
  unfold p_l_small_right_b1 at h
  refine ⟨[.io v2150, .bor d2041, .val v2138, .val v2155, .val x2213], by simp [], ?_⟩
  unfold mb_l_small_right_1
  obtain ⟨v2214, h2215, h⟩ := ob1 h
  have e2216 := tr_companies d2041 x2213 _ h2215
  obtain ⟨v2217, h2218, h⟩ := ob1 h
  obtain ⟨v2219, h2220, h⟩ := ob1 h
  have e2221 := tr_l_between d2041 x2213 x2213 _ h2220
  obtain ⟨v2222, h2223, h⟩ := ob1 h
  obtain ⟨v2224, h2225, h⟩ := ob1 h
  obtain ⟨b2226, h2227, h⟩ := ob1 h
  have e2228 : (mB (mOp gNe (mPl (mN gRepr (mCons (mPl (mFz (mCall [.b, .v] 0 m_companies (mCons (mVar 1) (mCons (mPl (mFz (mRv (mVar 4)))) mNil))))) mNil))) (mPl (mN gRepr (mCons (mPl (mFz (mCall [.b, .b, .b] 2 m_l_between (mCons (mVar 1) (mCons (mVar 4) (mCons (mVar 4) mNil)))))) mNil))))) [.io v2150, .bor d2041, .val v2138, .val v2155, .val x2213] = .ok b2226 [.io v2150, .bor d2041, .val v2138, .val v2155, .val x2213] := by simp [e2216, h2218, e2221, h2223, h2225, h2227]
  rcases b2226 with _ | _
  · rw [if_neg Bool.false_ne_true] at h
    refine run_if_f e2228 ?_
    obtain rfl := Option.some.inj h
    exact run_end (m := mSkip) (fl := .nx) rfl ⟨.inl rfl, .val x2213, rfl⟩
  · rw [if_pos rfl] at h
    refine run_if_t e2228 ?_
    have e2229 : (mRv (mPl (mC (.bool false)))) [.io v2150, .bor d2041, .val v2138, .val v2155, .val x2213] = .ok (.pl (.val (.bool false))) [.io v2150, .bor d2041, .val v2138, .val v2155, .val x2213] := by simp []
    obtain rfl := Option.some.inj h
    exact run_ret e2229 ⟨trivial, ⟨by simp [flR], by simp⟩⟩
theorem tr_l_small_right (d2040 : D) (d2041 : D) (r : D) (v2234 : D) (h : p_l_small_right d2040 d2041 = some (r, v2234)) : evalD [.io, .b] 3 m_l_small_right [.io d2040, .bor d2041] = some ((.pl (.val r)), [.io v2234, .bor d2041]) := by
  unfold p_l_small_right at h
  refine run_evalD (m := m_l_small_right) ?_
  show PL.Run m_l_small_right [.io d2040, .bor d2041, .un, .un, .un] _
  unfold m_l_small_right
  obtain ⟨v2138, v2139, h2140, h⟩ := ob2 h
  have e2141 := tr_l_pour d2040 (.int 40) _ _ h2140
  have e2142 : (mSet 2 (mCall [.io, .b] 2 m_l_pour (mCons (mVar 0) (mCons (mPl (mC (.int 40))) mNil)))) [.io d2040, .bor d2041, .un, .un, .un] = .ok .nx [.io v2139, .bor d2041, .val v2138, .un, .un] := by simp [e2141]
  refine run_seq e2142 ?_
  obtain ⟨v2143, v2144, h2145, h⟩ := ob2 h
  have e2146 := tr_l_number v2139 (.int 9) _ _ h2145
  obtain ⟨v2147, h2148, h⟩ := ob1 h
  obtain ⟨v2149, v2150, h2151, h⟩ := ob2 h
  have e2152 := tr_l_pour v2144 (.int 3) _ _ h2151
  obtain ⟨v2153, h2154, h⟩ := ob1 h
  obtain ⟨v2155, h2156, h⟩ := ob1 h
  have e2157 : (mSet 3 (mRv (mPl (mOp gIx (mPl (mFz (mLst (mCons (mFz (mOpX gAdd (mVar 2) (mPl (mFz (mCall [.io, .b] 0 m_l_number (mCons (mVar 0) (mCons (mPl (mC (.int 9))) mNil))))))) (mCons (mC .none) mNil))))) (mPl (mOp gDiv (mPl (mFz (mCall [.io, .b] 2 m_l_pour (mCons (mVar 0) (mCons (mPl (mC (.int 3))) mNil))))) (mPl (mC (.int 2))))))))) [.io v2139, .bor d2041, .val v2138, .un, .un] = .ok .nx [.io v2150, .bor d2041, .val v2138, .val v2155, .un] := by simp [e2146, (addV_eq h2148), e2152, h2154, h2156]
  refine run_seq e2157 ?_
  obtain ⟨v2158, h2159, h⟩ := ob1 h
  have e2160 := tr_companies_between d2041 v2138 v2155 _ h2159
  obtain ⟨v2161, h2162, h⟩ := ob1 h
  obtain ⟨v2163, h2164, h⟩ := ob1 h
  have e2165 := tr_l_between d2041 v2138 v2155 _ h2164
  obtain ⟨v2166, h2167, h⟩ := ob1 h
  obtain ⟨v2168, h2169, h⟩ := ob1 h
  obtain ⟨b2170, h2171, h⟩ := ob1 h
  have e2172 : (mB (mOp gNe (mPl (mN gRepr (mCons (mPl (mFz (mCall [.b, .v, .v] 0 m_companies_between (mCons (mVar 1) (mCons (mPl (mFz (mRv (mVar 2)))) (mCons (mPl (mFz (mRv (mVar 3)))) mNil)))))) mNil))) (mPl (mN gRepr (mCons (mPl (mFz (mCall [.b, .b, .b] 2 m_l_between (mCons (mVar 1) (mCons (mVar 2) (mCons (mVar 3) mNil)))))) mNil))))) [.io v2150, .bor d2041, .val v2138, .val v2155, .un] = .ok b2170 [.io v2150, .bor d2041, .val v2138, .val v2155, .un] := by simp [e2160, h2162, e2165, h2167, h2169, h2171]
  rcases b2170 with _ | _
  · rw [if_neg Bool.false_ne_true] at h
    refine run_seq_if_f e2172 ?_
    refine run_seq_skip ?_
    obtain ⟨x2174, h2175, h⟩ := ob1 h
    have e2176 : (mRng1 (mC (.int 45))) [.io v2150, .bor d2041, .val v2138, .val v2155, .un] = .ok x2174 [.io v2150, .bor d2041, .val v2138, .val v2155, .un] := by simp [h2175]
    obtain ⟨o2235, h2231, h⟩ := obct0 h
    have e2232 := forP_run (fun (s : Unit) (ρ : PL.Env) => ∃ (j2194 : Sl), ρ = [.io v2150, .bor d2041, .val v2138, .val v2155, j2194]) (fun (r : D × D) fl ρ' => flR fl ρ' = some (.pl (.val r.1)) ∧ ρ'.take 2 = [.io r.2, .bor d2041]) (t := (tName 4)) (b := mb_l_small_right_1) (fun x s ρ o hi hf => by obtain ⟨j2194, rfl⟩ := hi; exact tb_l_small_right_1 v2150 d2041 v2138 v2155 x j2194 o hf) x2174 () _ o2235 ⟨.un, rfl⟩ h2231
    rcases h with ⟨r, rfl, h⟩ | ⟨rfl, h⟩
    · refine run_seq_ct (run_for e2176 e2232) (fun t fl ρ' ho hf hq => ?_) (fun s ρ' ho hi => nomatch ho)
      cases ho
      cases h
      exact hq
    · refine run_seq_ct (run_for e2176 e2232) (fun t fl ρ' ho hf hq => nomatch ho) (fun s ρ' ho hi => ?_)
      cases ho
      obtain ⟨j2230, rfl⟩ := hi
      have e2233 : (mRv (mPl (mC (.bool true)))) [.io v2150, .bor d2041, .val v2138, .val v2155, j2230] = .ok (.pl (.val (.bool true))) [.io v2150, .bor d2041, .val v2138, .val v2155, j2230] := by simp []
      obtain ⟨rfl, rfl⟩ := sinj2 h
      exact run_ret e2233 ⟨by simp [flR], by simp⟩
  · rw [if_pos rfl] at h
    refine run_seq_if_t e2172 ?_
    have e2173 : (mRv (mPl (mC (.bool false)))) [.io v2150, .bor d2041, .val v2138, .val v2155, .un] = .ok (.pl (.val (.bool false))) [.io v2150, .bor d2041, .val v2138, .val v2155, .un] := by simp []
    obtain ⟨rfl, rfl⟩ := sinj2 h
    exact run_seq_ret e2173 ⟨by simp [flR], by simp⟩
theorem tr_l_ends_right (d2236 : D) (d2237 : D) (d2238 : D) (d2239 : D) (r : D) (h : p_l_ends_right d2236 d2237 d2238 d2239 = some r) : evalD [.b, .v, .v, .b] 3 m_l_ends_right [.bor d2236, .val d2237, .val d2238, .bor d2239] = some ((.pl (.val r)), [.bor d2236, .val d2237, .val d2238, .bor d2239]) := by
  unfold p_l_ends_right at h
  refine run_evalD (m := m_l_ends_right) ?_
  show PL.Run m_l_ends_right [.bor d2236, .val d2237, .val d2238, .bor d2239, .un, .un, .un] _
  unfold m_l_ends_right
  obtain ⟨v2334, h2335, h⟩ := ob1 h
  obtain ⟨b2336, h2337, h⟩ := ob1 h
  have e2338 : (mB (mOp gIs (mVar 1) (mPl (mC .none)))) [.bor d2236, .val d2237, .val d2238, .bor d2239, .un, .un, .un] = .ok b2336 [.bor d2236, .val d2237, .val d2238, .bor d2239, .un, .un, .un] := by simp [h2335, h2337]
  rcases b2336 with _ | _
  · rw [if_neg Bool.false_ne_true] at h
    refine run_seq_if_f e2338 ?_
    refine run_seq_skip ?_
    obtain ⟨v2359, v2360, h2361, h⟩ := ob2 h
    have e2362 : (mAsg (tTupl (tsCons (tName 5) (tsCons (tName 6) tsNil))) (mFz (mRv (mVar 1)))) [.bor d2236, .val d2237, .val d2238, .bor d2239, .un, .un, .un] = .ok .nx [.bor d2236, .val d2237, .val d2238, .bor d2239, .un, .val v2359, .val v2360] := by simp [(tT2 h2361)]
    refine run_seq e2362 ?_
    obtain ⟨b2383, h2385, h⟩ := ob1 h
    have e2384 : (mOr (mB (mOp gLt (mPl (mFz (mCall [.b, .v] 3 m_l_total (mCons (mVar 0) (mCons (mPl (mFz (mRv (mVar 5)))) mNil))))) (mVar 2))) (mAnd (mB (mOp gGt (mVar 5) (mPl (mC (.int 0))))) (mB (mOp gGe (mPl (mFz (mCall [.b, .v] 3 m_l_total (mCons (mVar 0) (mCons (mPl (mOp gSub' (mVar 5) (mPl (mC (.int 1))))) mNil))))) (mVar 2))))) [.bor d2236, .val d2237, .val d2238, .bor d2239, .un, .val v2359, .val v2360] = .ok b2383 [.bor d2236, .val d2237, .val d2238, .bor d2239, .un, .val v2359, .val v2360] := by
      obtain ⟨v2363, h2364, h2385⟩ := ob1 h2385
      have e2365 := tr_l_total d2236 v2359 _ h2364
      obtain ⟨v2366, h2367, h2385⟩ := ob1 h2385
      obtain ⟨b2368, h2369, h2385⟩ := ob1 h2385
      rcases b2368 with _ | _
      · rw [if_neg Bool.false_ne_true] at h2385
        obtain ⟨v2370, h2371, h2385⟩ := ob1 h2385
        obtain ⟨b2372, h2373, h2385⟩ := ob1 h2385
        rcases b2372 with _ | _
        · rw [if_neg Bool.false_ne_true] at h2385
          obtain rfl := Option.some.inj h2385
          simp [e2365, h2367, h2369, h2371, h2373]
        · rw [if_pos rfl] at h2385
          obtain ⟨v2374, h2375, h2385⟩ := ob1 h2385
          obtain ⟨v2376, h2377, h2385⟩ := ob1 h2385
          have e2378 := tr_l_total d2236 v2374 _ h2377
          obtain ⟨v2379, h2380, h2385⟩ := ob1 h2385
          obtain ⟨b2381, h2382, h2385⟩ := ob1 h2385
          obtain rfl := Option.some.inj h2385
          simp [e2365, h2367, h2369, h2371, h2373, h2375, e2378, h2380, h2382]
      · rw [if_pos rfl] at h2385
        obtain rfl := Option.some.inj h2385
        simp [e2365, h2367, h2369]
    rcases b2383 with _ | _
    · rw [if_neg Bool.false_ne_true] at h
      refine run_seq_if_f e2384 ?_
      refine run_seq_skip ?_
      obtain ⟨b2395, h2397, h⟩ := ob1 h
      have e2396 : (mOr (mB (mOp gIs (mVar 3) (mPl (mC .none)))) (mB (mOp gIs (mVar 6) (mPl (mC .none))))) [.bor d2236, .val d2237, .val d2238, .bor d2239, .un, .val v2359, .val v2360] = .ok b2395 [.bor d2236, .val d2237, .val d2238, .bor d2239, .un, .val v2359, .val v2360] := by
        obtain ⟨v2387, h2388, h2397⟩ := ob1 h2397
        obtain ⟨b2389, h2390, h2397⟩ := ob1 h2397
        rcases b2389 with _ | _
        · rw [if_neg Bool.false_ne_true] at h2397
          obtain ⟨v2391, h2392, h2397⟩ := ob1 h2397
          obtain ⟨b2393, h2394, h2397⟩ := ob1 h2397
          obtain rfl := Option.some.inj h2397
          simp [h2388, h2390, h2392, h2394]
        · rw [if_pos rfl] at h2397
          obtain rfl := Option.some.inj h2397
          simp [h2388, h2390]
      rcases b2395 with _ | _
      · rw [if_neg Bool.false_ne_true] at h
        refine run_seq_if_f e2396 ?_
        refine run_seq_skip ?_
        obtain ⟨v2425, h2427, h⟩ := ob1 h
        have e2426 : (mRv (mPl (mAndV (mOp gLe (mVar 5) (mVar 6)) (mAndV (mOp gLe (mPl (mFz (mCall [.b, .v] 3 m_l_total (mCons (mVar 0) (mCons (mPl (mFz (mRv (mVar 6)))) mNil))))) (mVar 3)) (mOp gGt (mPl (mFz (mCall [.b, .v] 3 m_l_total (mCons (mVar 0) (mCons (mPl (mFz (mOpX gAdd (mVar 6) (mPl (mC (.int 1)))))) mNil))))) (mVar 3)))))) [.bor d2236, .val d2237, .val d2238, .bor d2239, .un, .val v2359, .val v2360] = .ok (.pl (.val v2425)) [.bor d2236, .val d2237, .val d2238, .bor d2239, .un, .val v2359, .val v2360] := by
          obtain ⟨v2407, h2408, h2427⟩ := ob1 h2427
          obtain ⟨b2409, h2410, h2427⟩ := ob1 h2427
          rcases b2409 with _ | _
          · rw [if_neg Bool.false_ne_true] at h2427
            obtain rfl := Option.some.inj h2427
            simp [h2408, h2410]
          · rw [if_pos rfl] at h2427
            obtain ⟨v2411, h2412, h2427⟩ := ob1 h2427
            have e2413 := tr_l_total d2236 v2360 _ h2412
            obtain ⟨v2414, h2415, h2427⟩ := ob1 h2427
            obtain ⟨b2416, h2417, h2427⟩ := ob1 h2427
            rcases b2416 with _ | _
            · rw [if_neg Bool.false_ne_true] at h2427
              obtain rfl := Option.some.inj h2427
              simp [h2408, h2410, e2413, h2415, h2417]
            · rw [if_pos rfl] at h2427
              obtain ⟨v2418, h2419, h2427⟩ := ob1 h2427
              obtain ⟨v2420, h2421, h2427⟩ := ob1 h2427
              have e2422 := tr_l_total d2236 v2418 _ h2421
              obtain ⟨v2423, h2424, h2427⟩ := ob1 h2427
              obtain rfl := Option.some.inj h2427
              simp [h2408, h2410, e2413, h2415, h2417, (addV_eq h2419), e2422, h2424]
        obtain rfl := Option.some.inj h
        exact run_ret e2426 ⟨by simp [flR], by simp⟩
      · rw [if_pos rfl] at h
        refine run_seq_if_t e2396 ?_
        obtain ⟨v2404, h2406, h⟩ := ob1 h
        have e2405 : (mRv (mPl (mAndV (mOp gIs (mVar 3) (mPl (mC .none))) (mOp gIs (mVar 6) (mPl (mC .none)))))) [.bor d2236, .val d2237, .val d2238, .bor d2239, .un, .val v2359, .val v2360] = .ok (.pl (.val v2404)) [.bor d2236, .val d2237, .val d2238, .bor d2239, .un, .val v2359, .val v2360] := by
          obtain ⟨v2398, h2399, h2406⟩ := ob1 h2406
          obtain ⟨b2400, h2401, h2406⟩ := ob1 h2406
          rcases b2400 with _ | _
          · rw [if_neg Bool.false_ne_true] at h2406
            obtain rfl := Option.some.inj h2406
            simp [h2399, h2401]
          · rw [if_pos rfl] at h2406
            obtain ⟨v2402, h2403, h2406⟩ := ob1 h2406
            obtain rfl := Option.some.inj h2406
            simp [h2399, h2401, h2403]
        obtain rfl := Option.some.inj h
        exact run_seq_ret e2405 ⟨by simp [flR], by simp⟩
    · rw [if_pos rfl] at h
      refine run_seq_if_t e2384 ?_
      have e2386 : (mRv (mPl (mC (.bool false)))) [.bor d2236, .val d2237, .val d2238, .bor d2239, .un, .val v2359, .val v2360] = .ok (.pl (.val (.bool false))) [.bor d2236, .val d2237, .val d2238, .bor d2239, .un, .val v2359, .val v2360] := by simp []
      obtain rfl := Option.some.inj h
      exact run_seq_ret e2386 ⟨by simp [flR], by simp⟩
  · rw [if_pos rfl] at h
    refine run_seq_if_t e2338 ?_
    refine run_seq_assoc ?_
    obtain ⟨v2339, h2340, h⟩ := ob1 h
    have e2341 := tr_l_handed_on d2236 d2238 _ h2340
    obtain ⟨v2342, h2343, h⟩ := ob1 h
    obtain ⟨v2344, h2345, h⟩ := ob1 h
    have e2346 : (mSet 4 (mRv (mPl (mOp gIx (mPl (mFz (mCall [.b, .v] 4 m_l_handed_on (mCons (mVar 0) (mCons (mPl (mFz (mRv (mVar 2)))) mNil))))) (mPl (mNegU (mC (.int 1)))))))) [.bor d2236, .val d2237, .val d2238, .bor d2239, .un, .un, .un] = .ok .nx [.bor d2236, .val d2237, .val d2238, .bor d2239, .val v2344, .un, .un] := by simp [e2341, h2343, h2345]
    refine run_seq e2346 ?_
    obtain ⟨v2356, h2358, h⟩ := ob1 h
    have e2357 : (mRv (mPl (mAndV (mOp gNot (mVar 3) (mPl (mC .none))) (mOp gGt (mPl (mFz (mCall [.b, .v] 3 m_l_total (mCons (mVar 0) (mCons (mPl (mFz (mRv (mVar 4)))) mNil))))) (mVar 3))))) [.bor d2236, .val d2237, .val d2238, .bor d2239, .val v2344, .un, .un] = .ok (.pl (.val v2356)) [.bor d2236, .val d2237, .val d2238, .bor d2239, .val v2344, .un, .un] := by
      obtain ⟨v2347, h2348, h2358⟩ := ob1 h2358
      obtain ⟨b2349, h2350, h2358⟩ := ob1 h2358
      rcases b2349 with _ | _
      · rw [if_neg Bool.false_ne_true] at h2358
        obtain rfl := Option.some.inj h2358
        simp [h2348, h2350]
      · rw [if_pos rfl] at h2358
        obtain ⟨v2351, h2352, h2358⟩ := ob1 h2358
        have e2353 := tr_l_total d2236 v2344 _ h2352
        obtain ⟨v2354, h2355, h2358⟩ := ob1 h2358
        obtain rfl := Option.some.inj h2358
        simp [h2348, h2350, e2353, h2355]
    obtain rfl := Option.some.inj h
    exact run_seq_ret e2357 ⟨by simp [flR], by simp⟩
theorem tb_l_right_1 (v2748 : D) (d2429 : D) (d2430 : D) (v2741 : D) (v2744 : D) (v2747 : D) (v2752 : D) (x2831 : D) (j2793 : Sl) (j2794 : Sl) (o : Ct (Unit) (D × D)) (h : p_l_right_b1 v2741 v2747 v2752 d2429 v2748 x2831 = some o) : ∃ ρ1, (tName 7) x2831 [.io v2748, .bor d2429, .bor d2430, .val v2741, .val v2744, .val v2747, .own v2752, j2793, j2794, .un, .un, .un, .un] = .ok () ρ1 ∧ PL.Run mb_l_right_1 ρ1 ((ctQ (fun (s : Unit) (ρ : PL.Env) => ∃ (j2793 : Sl) (j2794 : Sl), ρ = [.io v2748, .bor d2429, .bor d2430, .val v2741, .val v2744, .val v2747, .own v2752, j2793, j2794, .un, .un, .un, .un]) (fun (r : D × D) fl ρ' => flR fl ρ' = some (.pl (.val r.1)) ∧ ρ'.take 3 = [.io r.2, .bor d2429, .bor d2430]) o)) := by
  unfold p_l_right_b1 at h
  refine ⟨[.io v2748, .bor d2429, .bor d2430, .val v2741, .val v2744, .val v2747, .own v2752, .val x2831, j2794, .un, .un, .un, .un], by simp [], ?_⟩
  unfold mb_l_right_1
  obtain ⟨v2832, h2833, h⟩ := ob1 h
  have e2834 := tr_wishes v2741 v2747 _ h2833
  have e2835 : (mSet 8 (mCall [.b, .v] 2 m_wishes (mCons (mVar 3) (mCons (mPl (mFz (mRv (mVar 5)))) mNil)))) [.io v2748, .bor d2429, .bor d2430, .val v2741, .val v2744, .val v2747, .own v2752, .val x2831, j2794, .un, .un, .un, .un] = .ok .nx [.io v2748, .bor d2429, .bor d2430, .val v2741, .val v2744, .val v2747, .own v2752, .val x2831, .own v2832, .un, .un, .un, .un] := by simp [e2834]
  refine run_seq e2835 ?_
  obtain ⟨b2857, h2859, h⟩ := ob1 h
  have e2858 : (mOr (mNot (mTr (mPl (mUn (gIsi ["list"]) (mVar 8))))) (mOr (mB (mOp gNe (mPl (mN gRepr (mCons (mVar 8) mNil))) (mPl (mN gRepr (mCons (mVar 6) mNil))))) (mNot (mTr (mPl (mFz (mCall [.b, .v, .b] 0 m_l_does (mCons (mVar 1) (mCons (mPl (mOp gIx (mVar 8) (mPl (mNegU (mC (.int 1)))))) (mCons (mVar 5) mNil)))))))))) [.io v2748, .bor d2429, .bor d2430, .val v2741, .val v2744, .val v2747, .own v2752, .val x2831, .own v2832, .un, .un, .un, .un] = .ok b2857 [.io v2748, .bor d2429, .bor d2430, .val v2741, .val v2744, .val v2747, .own v2752, .val x2831, .own v2832, .un, .un, .un, .un] := by
    obtain ⟨v2836, h2837, h2859⟩ := ob1 h2859
    obtain ⟨b2838, h2839, h2859⟩ := ob1 h2859
    rcases b2838 with _ | _
    · rw [if_neg Bool.false_ne_true] at h2859
      obtain rfl := Option.some.inj h2859
      simp [h2837, h2839]
    · rw [if_pos rfl] at h2859
      obtain ⟨v2840, h2841, h2859⟩ := ob1 h2859
      obtain ⟨v2842, h2843, h2859⟩ := ob1 h2859
      obtain ⟨v2844, h2845, h2859⟩ := ob1 h2859
      obtain ⟨b2846, h2847, h2859⟩ := ob1 h2859
      rcases b2846 with _ | _
      · rw [if_neg Bool.false_ne_true] at h2859
        obtain ⟨v2848, h2849, h2859⟩ := ob1 h2859
        obtain ⟨v2850, h2851, h2859⟩ := ob1 h2859
        obtain ⟨v2852, h2853, h2859⟩ := ob1 h2859
        have e2854 := tr_l_does d2429 v2850 v2747 _ h2853
        obtain ⟨b2855, h2856, h2859⟩ := ob1 h2859
        obtain rfl := Option.some.inj h2859
        simp [h2837, h2839, h2841, h2843, h2845, h2847, h2849, h2851, e2854, h2856]
      · rw [if_pos rfl] at h2859
        obtain rfl := Option.some.inj h2859
        simp [h2837, h2839, h2841, h2843, h2845, h2847]
  rcases b2857 with _ | _
  · rw [if_neg Bool.false_ne_true] at h
    refine run_seq_if_f e2858 ?_
    refine run_seq_skip ?_
    obtain ⟨v2861, v2862, h2863, h⟩ := ob2 h
    have e2864 : (mDrop (mMut 8 gAppend (mCons (mC (.int 1)) mNil))) [.io v2748, .bor d2429, .bor d2430, .val v2741, .val v2744, .val v2747, .own v2752, .val x2831, .own v2832, .un, .un, .un, .un] = .ok .nx [.io v2748, .bor d2429, .bor d2430, .val v2741, .val v2744, .val v2747, .own v2752, .val x2831, .own v2861, .un, .un, .un, .un] := by simp [h2863, (mutP_lst h2863)]
    obtain rfl := Option.some.inj h
    exact run_end e2864 ⟨.inl rfl, .val x2831, .own v2861, rfl⟩
  · rw [if_pos rfl] at h
    refine run_seq_if_t e2858 ?_
    have e2860 : (mRv (mPl (mC (.bool false)))) [.io v2748, .bor d2429, .bor d2430, .val v2741, .val v2744, .val v2747, .own v2752, .val x2831, .own v2832, .un, .un, .un, .un] = .ok (.pl (.val (.bool false))) [.io v2748, .bor d2429, .bor d2430, .val v2741, .val v2744, .val v2747, .own v2752, .val x2831, .own v2832, .un, .un, .un, .un] := by simp []
    obtain rfl := Option.some.inj h
    exact run_seq_ret e2860 ⟨trivial, ⟨by simp [flR], by simp⟩⟩
theorem tb_l_right_2 (v2874 : D) (d2429 : D) (d2430 : D) (v2741 : D) (v2744 : D) (v2747 : D) (v2752 : D) (j2865 : Sl) (j2866 : Sl) (v2873 : D) (x2954 : D) (j2917 : Sl) (j2918 : Sl) (o : Ct (Unit) (D × D)) (h : p_l_right_b2 v2741 v2747 d2429 v2874 x2954 = some o) : ∃ ρ1, (tName 10) x2954 [.io v2874, .bor d2429, .bor d2430, .val v2741, .val v2744, .val v2747, .own v2752, j2865, j2866, .val v2873, j2917, j2918, .un] = .ok () ρ1 ∧ PL.Run mb_l_right_2 ρ1 ((ctQ (fun (s : Unit) (ρ : PL.Env) => ∃ (j2917 : Sl) (j2918 : Sl), ρ = [.io v2874, .bor d2429, .bor d2430, .val v2741, .val v2744, .val v2747, .own v2752, j2865, j2866, .val v2873, j2917, j2918, .un]) (fun (r : D × D) fl ρ' => flR fl ρ' = some (.pl (.val r.1)) ∧ ρ'.take 3 = [.io r.2, .bor d2429, .bor d2430]) o)) := by
  unfold p_l_right_b2 at h
  refine ⟨[.io v2874, .bor d2429, .bor d2430, .val v2741, .val v2744, .val v2747, .own v2752, j2865, j2866, .val v2873, .val x2954, j2918, .un], by simp [], ?_⟩
  unfold mb_l_right_2
  obtain ⟨v2955, h2956, h⟩ := ob1 h
  have e2957 := tr_least_from v2741 x2954 v2747 _ h2956
  have e2958 : (mSet 11 (mCall [.b, .b, .v] 0 m_least_from (mCons (mVar 3) (mCons (mVar 10) (mCons (mPl (mFz (mRv (mVar 5)))) mNil))))) [.io v2874, .bor d2429, .bor d2430, .val v2741, .val v2744, .val v2747, .own v2752, j2865, j2866, .val v2873, .val x2954, j2918, .un] = .ok .nx [.io v2874, .bor d2429, .bor d2430, .val v2741, .val v2744, .val v2747, .own v2752, j2865, j2866, .val v2873, .val x2954, .val v2955, .un] := by simp [e2957]
  refine run_seq e2958 ?_
  obtain ⟨b2983, h2985, h⟩ := ob1 h
  have e2984 : (mOr (mB (mOp gNe (mPl (mN gRepr (mCons (mVar 11) mNil))) (mPl (mN gRepr (mCons (mPl (mOp gIx (mPl (mFz (mCall [.b, .v] 4 m_l_handed_on (mCons (mSliceP (mVar 1) (some (mFz (mRv (mVar 10)))) none) (mCons (mPl (mFz (mRv (mVar 5)))) mNil))))) (mPl (mNegU (mC (.int 1)))))) mNil))))) (mNot (mTr (mPl (mFz (mCall [.b, .v, .b] 0 m_l_does (mCons (mSliceP (mVar 1) (some (mFz (mRv (mVar 10)))) none) (mCons (mPl (mFz (mRv (mVar 11)))) (mCons (mVar 5) mNil))))))))) [.io v2874, .bor d2429, .bor d2430, .val v2741, .val v2744, .val v2747, .own v2752, j2865, j2866, .val v2873, .val x2954, .val v2955, .un] = .ok b2983 [.io v2874, .bor d2429, .bor d2430, .val v2741, .val v2744, .val v2747, .own v2752, j2865, j2866, .val v2873, .val x2954, .val v2955, .un] := by
    obtain ⟨v2959, h2960, h2985⟩ := ob1 h2985
    obtain ⟨i2961, h2962, h2985⟩ := ob1 h2985
    obtain ⟨v2963, h2964, h2985⟩ := ob1 h2985
    obtain ⟨v2965, h2966, h2985⟩ := ob1 h2985
    have e2967 := tr_l_handed_on v2963 v2747 _ h2966
    obtain ⟨v2968, h2969, h2985⟩ := ob1 h2985
    obtain ⟨v2970, h2971, h2985⟩ := ob1 h2985
    obtain ⟨v2972, h2973, h2985⟩ := ob1 h2985
    obtain ⟨v2974, h2975, h2985⟩ := ob1 h2985
    obtain ⟨b2976, h2977, h2985⟩ := ob1 h2985
    rcases b2976 with _ | _
    · rw [if_neg Bool.false_ne_true] at h2985
      obtain ⟨v2978, h2979, h2985⟩ := ob1 h2985
      have e2980 := tr_l_does v2963 v2955 v2747 _ h2979
      obtain ⟨b2981, h2982, h2985⟩ := ob1 h2985
      obtain rfl := Option.some.inj h2985
      simp [h2960, h2962, (slW_eq h2964), e2967, h2969, h2971, h2973, h2975, h2977, e2980, h2982]
    · rw [if_pos rfl] at h2985
      obtain rfl := Option.some.inj h2985
      simp [h2960, h2962, (slW_eq h2964), e2967, h2969, h2971, h2973, h2975, h2977]
  rcases b2983 with _ | _
  · rw [if_neg Bool.false_ne_true] at h
    refine run_if_f e2984 ?_
    obtain rfl := Option.some.inj h
    exact run_end (m := mSkip) (fl := .nx) rfl ⟨.inl rfl, .val x2954, .val v2955, rfl⟩
  · rw [if_pos rfl] at h
    refine run_if_t e2984 ?_
    have e2986 : (mRv (mPl (mC (.bool false)))) [.io v2874, .bor d2429, .bor d2430, .val v2741, .val v2744, .val v2747, .own v2752, j2865, j2866, .val v2873, .val x2954, .val v2955, .un] = .ok (.pl (.val (.bool false))) [.io v2874, .bor d2429, .bor d2430, .val v2741, .val v2744, .val v2747, .own v2752, j2865, j2866, .val v2873, .val x2954, .val v2955, .un] := by simp []
    obtain rfl := Option.some.inj h
    exact run_ret e2986 ⟨trivial, ⟨by simp [flR], by simp⟩⟩
theorem tr_l_right (d2428 : D) (d2429 : D) (d2430 : D) (r : D) (v3035 : D) (h : p_l_right d2428 d2429 d2430 = some (r, v3035)) : evalD [.io, .b, .b] 10 m_l_right [.io d2428, .bor d2429, .bor d2430] = some ((.pl (.val r)), [.io v3035, .bor d2429, .bor d2430]) := by
  unfold p_l_right at h
  refine run_evalD (m := m_l_right) ?_
  show PL.Run m_l_right [.io d2428, .bor d2429, .bor d2430, .un, .un, .un, .un, .un, .un, .un, .un, .un, .un] _
  unfold m_l_right
  obtain ⟨v2733, h2734, h⟩ := ob1 h
  obtain ⟨v2735, h2736, h⟩ := ob1 h
  obtain ⟨v2737, v2738, h2739, h⟩ := ob2 h
  have e2740 := tr_l_pour d2428 (.int 2) _ _ h2739
  obtain ⟨v2741, h2742, h⟩ := ob1 h
  have e2743 : (mSet 3 (mRv (mPl (mOp gIx (mPl (mFz (mLst (mCons (mFz (mFr (mN gList (mCons (mVar 1) mNil)))) (mCons (mN gTuple (mCons (mVar 1) mNil)) mNil))))) (mPl (mFz (mCall [.io, .b] 2 m_l_pour (mCons (mVar 0) (mCons (mPl (mC (.int 2))) mNil))))))))) [.io d2428, .bor d2429, .bor d2430, .un, .un, .un, .un, .un, .un, .un, .un, .un, .un] = .ok .nx [.io v2738, .bor d2429, .bor d2430, .val v2741, .un, .un, .un, .un, .un, .un, .un, .un, .un] := by simp [h2734, h2736, e2740, h2742]
  refine run_seq e2743 ?_
  obtain ⟨v2744, h2745, h⟩ := ob1 h
  have e2746 : (mSet 4 (mRv (mPl (mN gRepr (mCons (mVar 3) mNil))))) [.io v2738, .bor d2429, .bor d2430, .val v2741, .un, .un, .un, .un, .un, .un, .un, .un, .un] = .ok .nx [.io v2738, .bor d2429, .bor d2430, .val v2741, .val v2744, .un, .un, .un, .un, .un, .un, .un, .un] := by simp [h2745]
  refine run_seq e2746 ?_
  obtain ⟨v2747, v2748, h2749, h⟩ := ob2 h
  have e2750 := tr_l_number v2738 d2430 _ _ h2749
  have e2751 : (mSet 5 (mCall [.io, .b] 0 m_l_number (mCons (mVar 0) (mCons (mVar 2) mNil)))) [.io v2738, .bor d2429, .bor d2430, .val v2741, .val v2744, .un, .un, .un, .un, .un, .un, .un, .un] = .ok .nx [.io v2748, .bor d2429, .bor d2430, .val v2741, .val v2744, .val v2747, .un, .un, .un, .un, .un, .un, .un] := by simp [e2750]
  refine run_seq e2751 ?_
  obtain ⟨v2752, h2753, h⟩ := ob1 h
  have e2754 := tr_l_handed_on d2429 v2747 _ h2753
  have e2755 : (mSet 6 (mCall [.b, .v] 4 m_l_handed_on (mCons (mVar 1) (mCons (mPl (mFz (mRv (mVar 5)))) mNil)))) [.io v2748, .bor d2429, .bor d2430, .val v2741, .val v2744, .val v2747, .un, .un, .un, .un, .un, .un, .un] = .ok .nx [.io v2748, .bor d2429, .bor d2430, .val v2741, .val v2744, .val v2747, .own v2752, .un, .un, .un, .un, .un, .un] := by simp [e2754]
  refine run_seq e2755 ?_
  obtain ⟨x2756, h2757, h⟩ := ob1 h
  have e2758 : (mRng1 (mC (.int 2))) [.io v2748, .bor d2429, .bor d2430, .val v2741, .val v2744, .val v2747, .own v2752, .un, .un, .un, .un, .un, .un] = .ok x2756 [.io v2748, .bor d2429, .bor d2430, .val v2741, .val v2744, .val v2747, .own v2752, .un, .un, .un, .un, .un, .un] := by simp [h2757]
  obtain ⟨o3036, h2867, h⟩ := obct0 h
  have e2868 := forP_run (fun (s : Unit) (ρ : PL.Env) => ∃ (j2793 : Sl) (j2794 : Sl), ρ = [.io v2748, .bor d2429, .bor d2430, .val v2741, .val v2744, .val v2747, .own v2752, j2793, j2794, .un, .un, .un, .un]) (fun (r : D × D) fl ρ' => flR fl ρ' = some (.pl (.val r.1)) ∧ ρ'.take 3 = [.io r.2, .bor d2429, .bor d2430]) (t := (tName 7)) (b := mb_l_right_1) (fun x s ρ o hi hf => by obtain ⟨j2793, j2794, rfl⟩ := hi; exact tb_l_right_1 v2748 d2429 d2430 v2741 v2744 v2747 v2752 x j2793 j2794 o hf) x2756 () _ o3036 ⟨.un, .un, rfl⟩ h2867
  rcases h with ⟨r, rfl, h⟩ | ⟨rfl, h⟩
  · refine run_seq_ct (run_for e2758 e2868) (fun t fl ρ' ho hf hq => ?_) (fun s ρ' ho hi => nomatch ho)
    cases ho
    cases h
    exact hq
  · refine run_seq_ct (run_for e2758 e2868) (fun t fl ρ' ho hf hq => nomatch ho) (fun s ρ' ho hi => ?_)
    cases ho
    obtain ⟨j2865, j2866, rfl⟩ := hi
    obtain ⟨v2869, h2870, h⟩ := ob1 h
    obtain ⟨v2871, h2872, h⟩ := ob1 h
    obtain ⟨v2873, v2874, h2875, h⟩ := ob2 h
    have e2876 := tr_l_pour v2748 v2871 _ _ h2875
    have e2877 : (mSet 9 (mCall [.io, .b] 2 m_l_pour (mCons (mVar 0) (mCons (mPl (mFz (mOpX gAdd (mPl (mN gLen (mCons (mVar 1) mNil))) (mPl (mC (.int 1)))))) mNil)))) [.io v2748, .bor d2429, .bor d2430, .val v2741, .val v2744, .val v2747, .own v2752, j2865, j2866, .un, .un, .un, .un] = .ok .nx [.io v2874, .bor d2429, .bor d2430, .val v2741, .val v2744, .val v2747, .own v2752, j2865, j2866, .val v2873, .un, .un, .un] := by simp [h2870, (addV_eq h2872), e2876]
    refine run_seq e2877 ?_
    obtain ⟨v2878, h2879, h⟩ := ob1 h
    obtain ⟨q2880, x2881, h2882, h⟩ := ob2 h
    have e2883 : (mIter (mPl (mFz (mLst (mCons (mC (.int 0)) (mCons (mFz (mRv (mVar 9))) (mCons (mN gLen (mCons (mVar 1) mNil)) mNil))))))) [.io v2874, .bor d2429, .bor d2430, .val v2741, .val v2744, .val v2747, .own v2752, j2865, j2866, .val v2873, .un, .un, .un] = .ok x2881 [.io v2874, .bor d2429, .bor d2430, .val v2741, .val v2744, .val v2747, .own v2752, j2865, j2866, .val v2873, .un, .un, .un] := by simp [h2879, h2882]
    obtain ⟨o3037, h2989, h⟩ := obct0 h
    have e2990 := forP_run (fun (s : Unit) (ρ : PL.Env) => ∃ (j2917 : Sl) (j2918 : Sl), ρ = [.io v2874, .bor d2429, .bor d2430, .val v2741, .val v2744, .val v2747, .own v2752, j2865, j2866, .val v2873, j2917, j2918, .un]) (fun (r : D × D) fl ρ' => flR fl ρ' = some (.pl (.val r.1)) ∧ ρ'.take 3 = [.io r.2, .bor d2429, .bor d2430]) (t := (tName 10)) (b := mb_l_right_2) (fun x s ρ o hi hf => by obtain ⟨j2917, j2918, rfl⟩ := hi; exact tb_l_right_2 v2874 d2429 d2430 v2741 v2744 v2747 v2752 j2865 j2866 v2873 x j2917 j2918 o hf) x2881 () _ o3037 ⟨.un, .un, rfl⟩ h2989
    rcases h with ⟨r, rfl, h⟩ | ⟨rfl, h⟩
    · refine run_seq_ct (run_for e2883 e2990) (fun t fl ρ' ho hf hq => ?_) (fun s ρ' ho hi => nomatch ho)
      cases ho
      cases h
      exact hq
    · refine run_seq_ct (run_for e2883 e2990) (fun t fl ρ' ho hf hq => nomatch ho) (fun s ρ' ho hi => ?_)
      cases ho
      obtain ⟨j2987, j2988, rfl⟩ := hi
      obtain ⟨v2991, h2992, h⟩ := ob1 h
      obtain ⟨v2993, h2994, h⟩ := ob1 h
      obtain ⟨v2995, v2996, h2997, h⟩ := ob2 h
      have e2998 := tr_l_number v2874 v2993 _ _ h2997
      obtain ⟨v2999, h3000, h⟩ := ob1 h
      obtain ⟨v3001, v3002, h3003, h⟩ := ob2 h
      have e3004 := tr_l_pour v2996 (.int 4) _ _ h3003
      obtain ⟨v3005, h3006, h⟩ := ob1 h
      obtain ⟨v3007, h3008, h⟩ := ob1 h
      have e3009 : (mSet 12 (mRv (mPl (mOp gIx (mPl (mFz (mLst (mCons (mFz (mOpX gAdd (mVar 5) (mPl (mFz (mCall [.io, .b] 0 m_l_number (mCons (mVar 0) (mCons (mPl (mFz (mOpX gMul (mPl (mC (.int 5))) (mPl (mOp gPow (mPl (mC (.int 10))) (mPl (mC (.int 29)))))))) mNil))))))) (mCons (mC .none) mNil))))) (mPl (mOp gDiv (mPl (mFz (mCall [.io, .b] 2 m_l_pour (mCons (mVar 0) (mCons (mPl (mC (.int 4))) mNil))))) (mPl (mC (.int 3))))))))) [.io v2874, .bor d2429, .bor d2430, .val v2741, .val v2744, .val v2747, .own v2752, j2865, j2866, .val v2873, j2987, j2988, .un] = .ok .nx [.io v3002, .bor d2429, .bor d2430, .val v2741, .val v2744, .val v2747, .own v2752, j2865, j2866, .val v2873, j2987, j2988, .val v3007] := by simp [h2992, (mulV_eq h2994), e2998, (addV_eq h3000), e3004, h3006, h3008]
      refine run_seq e3009 ?_
      obtain ⟨v3010, h3011, h⟩ := ob1 h
      have e3012 := tr_companies_between v2741 v2747 v3007 _ h3011
      obtain ⟨v3013, h3014, h⟩ := ob1 h
      have e3015 := tr_l_ends_right d2429 v3010 v2747 v3007 _ h3014
      obtain ⟨b3016, h3017, h⟩ := ob1 h
      have e3018 : (mNot (mTr (mPl (mFz (mCall [.b, .v, .v, .b] 3 m_l_ends_right (mCons (mVar 1) (mCons (mPl (mFz (mCall [.b, .v, .v] 0 m_companies_between (mCons (mVar 3) (mCons (mPl (mFz (mRv (mVar 5)))) (mCons (mPl (mFz (mRv (mVar 12)))) mNil)))))) (mCons (mPl (mFz (mRv (mVar 5)))) (mCons (mVar 12) mNil))))))))) [.io v3002, .bor d2429, .bor d2430, .val v2741, .val v2744, .val v2747, .own v2752, j2865, j2866, .val v2873, j2987, j2988, .val v3007] = .ok (!b3016) [.io v3002, .bor d2429, .bor d2430, .val v2741, .val v2744, .val v2747, .own v2752, j2865, j2866, .val v2873, j2987, j2988, .val v3007] := by simp [e3012, e3015, h3017]
      rcases b3016 with _ | _
      · rw [if_neg Bool.false_ne_true] at h
        refine run_seq_if_t e3018 ?_
        have e3019 : (mRv (mPl (mC (.bool false)))) [.io v3002, .bor d2429, .bor d2430, .val v2741, .val v2744, .val v2747, .own v2752, j2865, j2866, .val v2873, j2987, j2988, .val v3007] = .ok (.pl (.val (.bool false))) [.io v3002, .bor d2429, .bor d2430, .val v2741, .val v2744, .val v2747, .own v2752, j2865, j2866, .val v2873, j2987, j2988, .val v3007] := by simp []
        obtain ⟨rfl, rfl⟩ := sinj2 h
        exact run_seq_ret e3019 ⟨by simp [flR], by simp⟩
      · rw [if_pos rfl] at h
        refine run_seq_if_f e3018 ?_
        refine run_seq_skip ?_
        obtain ⟨v3032, h3034, h⟩ := ob1 h
        have e3033 : (mRv (mPl (mAndV (mFz (mCall [.b, .v, .v, .b] 3 m_l_ends_right (mCons (mVar 1) (mCons (mPl (mFz (mCall [.b, .v] 0 m_companies (mCons (mVar 3) (mCons (mPl (mFz (mRv (mVar 5)))) mNil))))) (mCons (mPl (mFz (mRv (mVar 5)))) (mCons (mVar 5) mNil)))))) (mOp gEq (mPl (mN gRepr (mCons (mVar 3) mNil))) (mVar 4))))) [.io v3002, .bor d2429, .bor d2430, .val v2741, .val v2744, .val v2747, .own v2752, j2865, j2866, .val v2873, j2987, j2988, .val v3007] = .ok (.pl (.val v3032)) [.io v3002, .bor d2429, .bor d2430, .val v2741, .val v2744, .val v2747, .own v2752, j2865, j2866, .val v2873, j2987, j2988, .val v3007] := by
          obtain ⟨v3020, h3021, h3034⟩ := ob1 h3034
          have e3022 := tr_companies v2741 v2747 _ h3021
          obtain ⟨v3023, h3024, h3034⟩ := ob1 h3034
          have e3025 := tr_l_ends_right d2429 v3020 v2747 v2747 _ h3024
          obtain ⟨b3026, h3027, h3034⟩ := ob1 h3034
          rcases b3026 with _ | _
          · rw [if_neg Bool.false_ne_true] at h3034
            obtain rfl := Option.some.inj h3034
            simp [e3022, e3025, h3027]
          · rw [if_pos rfl] at h3034
            obtain ⟨v3028, h3029, h3034⟩ := ob1 h3034
            obtain ⟨v3030, h3031, h3034⟩ := ob1 h3034
            obtain rfl := Option.some.inj h3034
            simp [e3022, e3025, h3027, h3029, h3031]
        obtain ⟨rfl, rfl⟩ := sinj2 h
        exact run_ret e3033 ⟨by simp [flR], by simp⟩
theorem tb_l_changed_right_1 (d3039 : D) (x3420 : D) (v3342 : D) (v3343 : D) (j3344 : Sl) (j3345 : Sl) (j3346 : Sl) (o : Ct (D × D) (D × D)) (h : p_l_changed_right_b1 x3420 v3342 v3343 = some o) : ∃ ρ1, (tName 3) x3420 [.io v3342, .bor d3039, .own v3343, j3344, j3345, j3346] = .ok () ρ1 ∧ PL.Run mb_l_changed_right_1 ρ1 ((ctQ (fun (s : D × D) (ρ : PL.Env) => ∃ (j3344 : Sl) (j3345 : Sl) (j3346 : Sl), ρ = [.io s.1, .bor d3039, .own s.2, j3344, j3345, j3346]) (fun (r : D × D) fl ρ' => flR fl ρ' = some (.pl (.val r.1)) ∧ ρ'.take 2 = [.io r.2, .bor d3039]) o)) := by
  unfold p_l_changed_right_b1 at h
  refine ⟨[.io v3342, .bor d3039, .own v3343, .val x3420, j3345, j3346], by simp [], ?_⟩
  unfold mb_l_changed_right_1
  obtain ⟨v3421, v3422, h3423, h⟩ := ob2 h
  have e3424 := tr_l_pour v3342 (.int 30) _ _ h3423
  have e3425 : (mSet 4 (mCall [.io, .b] 2 m_l_pour (mCons (mVar 0) (mCons (mPl (mC (.int 30))) mNil)))) [.io v3342, .bor d3039, .own v3343, .val x3420, j3345, j3346] = .ok .nx [.io v3422, .bor d3039, .own v3343, .val x3420, .val v3421, j3346] := by simp [e3424]
  refine run_seq e3425 ?_
  obtain ⟨v3426, h3427, h⟩ := ob1 h
  have e3428 := tr_l_handed_on v3343 v3421 _ h3427
  obtain ⟨v3429, h3430, h⟩ := ob1 h
  obtain ⟨v3431, h3432, h⟩ := ob1 h
  have e3433 : (mSet 5 (mRv (mPl (mOp gIx (mPl (mFz (mCall [.b, .v] 4 m_l_handed_on (mCons (mVar 2) (mCons (mPl (mFz (mRv (mVar 4)))) mNil))))) (mPl (mNegU (mC (.int 1)))))))) [.io v3422, .bor d3039, .own v3343, .val x3420, .val v3421, j3346] = .ok .nx [.io v3422, .bor d3039, .own v3343, .val x3420, .val v3421, .val v3431] := by simp [e3428, h3430, h3432]
  refine run_seq e3433 ?_
  obtain ⟨b3451, h3453, h⟩ := ob1 h
  have e3452 : (mOr (mB (mOp gNe (mPl (mFz (mCall [.b, .v] 2 m_wishes (mCons (mVar 2) (mCons (mPl (mFz (mRv (mVar 4)))) mNil))))) (mPl (mFz (mCall [.b, .v] 4 m_l_handed_on (mCons (mVar 2) (mCons (mPl (mFz (mRv (mVar 4)))) mNil))))))) (mB (mOp gNe (mPl (mFz (mCall [.b, .b, .v] 0 m_least_from (mCons (mVar 2) (mCons (mPl (mC (.int 0))) (mCons (mPl (mFz (mRv (mVar 4)))) mNil)))))) (mVar 5)))) [.io v3422, .bor d3039, .own v3343, .val x3420, .val v3421, .val v3431] = .ok b3451 [.io v3422, .bor d3039, .own v3343, .val x3420, .val v3421, .val v3431] := by
    obtain ⟨v3434, h3435, h3453⟩ := ob1 h3453
    have e3436 := tr_wishes v3343 v3421 _ h3435
    obtain ⟨v3437, h3438, h3453⟩ := ob1 h3453
    have e3439 := tr_l_handed_on v3343 v3421 _ h3438
    obtain ⟨v3440, h3441, h3453⟩ := ob1 h3453
    obtain ⟨b3442, h3443, h3453⟩ := ob1 h3453
    rcases b3442 with _ | _
    · rw [if_neg Bool.false_ne_true] at h3453
      obtain ⟨v3444, h3445, h3453⟩ := ob1 h3453
      have e3446 := tr_least_from v3343 (.int 0) v3421 _ h3445
      obtain ⟨v3447, h3448, h3453⟩ := ob1 h3453
      obtain ⟨b3449, h3450, h3453⟩ := ob1 h3453
      obtain rfl := Option.some.inj h3453
      simp [e3436, e3439, h3441, h3443, e3446, h3448, h3450]
    · rw [if_pos rfl] at h3453
      obtain rfl := Option.some.inj h3453
      simp [e3436, e3439, h3441, h3443]
  rcases b3451 with _ | _
  · rw [if_neg Bool.false_ne_true] at h
    refine run_seq_if_f e3452 ?_
    refine run_seq_skip ?_
    obtain ⟨v3455, v3456, h3457, h⟩ := ob2 h
    have e3458 := tr_l_small_right v3422 v3343 _ _ h3457
    obtain ⟨b3459, h3460, h⟩ := ob1 h
    have e3461 : (mNot (mTr (mPl (mFz (mCall [.io, .b] 3 m_l_small_right (mCons (mVar 0) (mCons (mVar 2) mNil))))))) [.io v3422, .bor d3039, .own v3343, .val x3420, .val v3421, .val v3431] = .ok (!b3459) [.io v3456, .bor d3039, .own v3343, .val x3420, .val v3421, .val v3431] := by simp [e3458, h3460]
    rcases b3459 with _ | _
    · rw [if_neg Bool.false_ne_true] at h
      refine run_seq_if_t e3461 ?_
      have e3462 : (mRv (mPl (mC (.bool false)))) [.io v3456, .bor d3039, .own v3343, .val x3420, .val v3421, .val v3431] = .ok (.pl (.val (.bool false))) [.io v3456, .bor d3039, .own v3343, .val x3420, .val v3421, .val v3431] := by simp []
      obtain rfl := Option.some.inj h
      exact run_seq_ret e3462 ⟨trivial, ⟨by simp [flR], by simp⟩⟩
    · rw [if_pos rfl] at h
      refine run_seq_if_f e3461 ?_
      refine run_seq_skip ?_
      obtain ⟨v3463, h3464, h⟩ := ob1 h
      obtain ⟨v3465, h3466, h⟩ := ob1 h
      obtain ⟨v3467, v3468, h3469, h⟩ := ob2 h
      have e3470 := tr_l_pour v3456 v3465 _ _ h3469
      obtain ⟨v3471, v3472, h3473, h⟩ := ob2 h
      have e3474 := tr_l_saying v3468 (.int 9) _ _ h3473
      obtain ⟨v3475, v3476, h3477, h⟩ := ob2 h
      have e3478 : (mDrop (mMut 2 gInsert (mCons (mFz (mCall [.io, .b] 2 m_l_pour (mCons (mVar 0) (mCons (mPl (mFz (mOpX gAdd (mPl (mN gLen (mCons (mVar 2) mNil))) (mPl (mC (.int 1)))))) mNil)))) (mCons (mFz (mCall [.io, .b] 2 m_l_saying (mCons (mVar 0) (mCons (mPl (mC (.int 9))) mNil)))) mNil)))) [.io v3456, .bor d3039, .own v3343, .val x3420, .val v3421, .val v3431] = .ok .nx [.io v3472, .bor d3039, .own v3475, .val x3420, .val v3421, .val v3431] := by simp [h3464, (addV_eq h3466), e3470, e3474, h3477, (mutP_lst h3477)]
      refine run_seq e3478 ?_
      obtain ⟨v3479, h3480, h⟩ := ob1 h
      obtain ⟨b3481, h3482, h⟩ := ob1 h
      have e3483 : (mB (mOp gEq (mVar 3) (mPl (mC (.int 1))))) [.io v3472, .bor d3039, .own v3475, .val x3420, .val v3421, .val v3431] = .ok b3481 [.io v3472, .bor d3039, .own v3475, .val x3420, .val v3421, .val v3431] := by simp [h3480, h3482]
      rcases b3481 with _ | _
      · rw [if_neg Bool.false_ne_true] at h
        refine run_if_f e3483 ?_
        obtain rfl := Option.some.inj h
        exact run_end (m := mSkip) (fl := .nx) rfl ⟨.inl rfl, .val x3420, .val v3421, .val v3431, rfl⟩
      · rw [if_pos rfl] at h
        refine run_if_t e3483 ?_
        obtain ⟨v3484, v3485, h3486, h⟩ := ob2 h
        have e3487 : (mDrop (mMut 2 gPopAt (mCons (mC (.int 0)) mNil))) [.io v3472, .bor d3039, .own v3475, .val x3420, .val v3421, .val v3431] = .ok .nx [.io v3472, .bor d3039, .own v3484, .val x3420, .val v3421, .val v3431] := by simp [h3486, (mutP_lst h3486)]
        obtain rfl := Option.some.inj h
        exact run_end e3487 ⟨.inl rfl, .val x3420, .val v3421, .val v3431, rfl⟩
  · rw [if_pos rfl] at h
    refine run_seq_if_t e3452 ?_
    have e3454 : (mRv (mPl (mC (.bool false)))) [.io v3422, .bor d3039, .own v3343, .val x3420, .val v3421, .val v3431] = .ok (.pl (.val (.bool false))) [.io v3422, .bor d3039, .own v3343, .val x3420, .val v3421, .val v3431] := by simp []
    obtain rfl := Option.some.inj h
    exact run_seq_ret e3454 ⟨trivial, ⟨by simp [flR], by simp⟩⟩
theorem tr_l_changed_right (d3038 : D) (d3039 : D) (r : D) (v3496 : D) (h : p_l_changed_right d3038 d3039 = some (r, v3496)) : evalD [.io, .b] 4 m_l_changed_right [.io d3038, .bor d3039] = some ((.pl (.val r)), [.io v3496, .bor d3039]) := by
  unfold p_l_changed_right at h
  refine run_evalD (m := m_l_changed_right) ?_
  show PL.Run m_l_changed_right [.io d3038, .bor d3039, .un, .un, .un, .un] _
  unfold m_l_changed_right
  obtain ⟨v3268, h3269, h⟩ := ob1 h
  have e3270 : (mSet 2 (mFr (mN gList (mCons (mVar 1) mNil)))) [.io d3038, .bor d3039, .un, .un, .un, .un] = .ok .nx [.io d3038, .bor d3039, .own v3268, .un, .un, .un] := by simp [h3269]
  refine run_seq e3270 ?_
  obtain ⟨x3271, h3272, h⟩ := ob1 h
  have e3273 : (mRng1 (mC (.int 3))) [.io d3038, .bor d3039, .own v3268, .un, .un, .un] = .ok x3271 [.io d3038, .bor d3039, .own v3268, .un, .un, .un] := by simp [h3272]
  obtain ⟨o3497, h3493, h⟩ := obct2 h
  have e3494 := forP_run (fun (s : D × D) (ρ : PL.Env) => ∃ (j3344 : Sl) (j3345 : Sl) (j3346 : Sl), ρ = [.io s.1, .bor d3039, .own s.2, j3344, j3345, j3346]) (fun (r : D × D) fl ρ' => flR fl ρ' = some (.pl (.val r.1)) ∧ ρ'.take 2 = [.io r.2, .bor d3039]) (t := (tName 3)) (b := mb_l_changed_right_1) (fun x s ρ o hi hf => by obtain ⟨j3344, j3345, j3346, rfl⟩ := hi; exact tb_l_changed_right_1 d3039 x s.1 s.2 j3344 j3345 j3346 o hf) x3271 (d3038, v3268) _ o3497 ⟨.un, .un, .un, rfl⟩ h3493
  rcases h with ⟨r, rfl, h⟩ | ⟨v3488, v3489, rfl, h⟩
  · refine run_seq_ct (run_for e3273 e3494) (fun t fl ρ' ho hf hq => ?_) (fun s ρ' ho hi => nomatch ho)
    cases ho
    cases h
    exact hq
  · refine run_seq_ct (run_for e3273 e3494) (fun t fl ρ' ho hf hq => nomatch ho) (fun s ρ' ho hi => ?_)
    cases ho
    obtain ⟨j3490, j3491, j3492, rfl⟩ := hi
    have e3495 : (mRv (mPl (mC (.bool true)))) [.io v3488, .bor d3039, .own v3489, j3490, j3491, j3492] = .ok (.pl (.val (.bool true))) [.io v3488, .bor d3039, .own v3489, j3490, j3491, j3492] := by simp []
    obtain ⟨rfl, rfl⟩ := sinj2 h
    exact run_ret e3495 ⟨by simp [flR], by simp⟩
theorem tb_law_1 (d3498 : List Int) (x4231 : D) (x4303 : D) (v4268 : D) (j4269 : Sl) (j4270 : Sl) (o : Ct (D) (D)) (h : p_law_b1 x4303 v4268 = some o) : ∃ ρ1, (tName 3) x4303 [.scr d3498, .val x4231, .own v4268, j4269, j4270] = .ok () ρ1 ∧ PL.Run mb_law_1 ρ1 ((ctQ (fun (s : D) (ρ : PL.Env) => ∃ (j4269 : Sl) (j4270 : Sl), ρ = [.scr d3498, .val x4231, .own s, j4269, j4270]) (fun (r : D) (fl : Fl) (_ : PL.Env) => fl = .rt (.pl (.val r))) o)) := by
  unfold p_law_b1 at h
  refine ⟨[.scr d3498, .val x4231, .own v4268, .val x4303, j4270], by simp [], ?_⟩
  unfold mb_law_1
  obtain ⟨v4304, v4305, h4306, h⟩ := ob2 h
  have e4307 := tr_l_row v4268 (.int 10) (.int 9) _ _ h4306
  have e4308 : (mSet 4 (mCall [.io, .b, .b] 1 m_l_row (mCons (mVar 2) (mCons (mPl (mC (.int 10))) (mCons (mPl (mC (.int 9))) mNil))))) [.scr d3498, .val x4231, .own v4268, .val x4303, j4270] = .ok .nx [.scr d3498, .val x4231, .own v4305, .val x4303, .own v4304] := by simp [e4307]
  refine run_seq e4308 ?_
  obtain ⟨b4328, v4327, h4330, h⟩ := ob2 h
  have e4329 : (mOr (mNot (mTr (mPl (mFz (mCall [.io, .b, .b] 10 m_l_right (mCons (mVar 2) (mCons (mVar 4) (mCons (mPl (mC (.int 40))) mNil)))))))) (mOr (mNot (mTr (mPl (mFz (mCall [.io, .b] 3 m_l_small_right (mCons (mVar 2) (mCons (mVar 4) mNil))))))) (mNot (mTr (mPl (mFz (mCall [.io, .b] 4 m_l_changed_right (mCons (mVar 2) (mCons (mVar 4) mNil))))))))) [.scr d3498, .val x4231, .own v4305, .val x4303, .own v4304] = .ok b4328 [.scr d3498, .val x4231, .own v4327, .val x4303, .own v4304] := by
    obtain ⟨v4309, v4310, h4311, h4330⟩ := ob2 h4330
    have e4312 := tr_l_right v4305 v4304 (.int 40) _ _ h4311
    obtain ⟨b4313, h4314, h4330⟩ := ob1 h4330
    rcases b4313 with _ | _
    · rw [if_neg Bool.false_ne_true] at h4330
      obtain ⟨rfl, rfl⟩ := sinj2 h4330
      simp [e4312, h4314]
    · rw [if_pos rfl] at h4330
      obtain ⟨v4315, v4316, h4317, h4330⟩ := ob2 h4330
      have e4318 := tr_l_small_right v4310 v4304 _ _ h4317
      obtain ⟨b4319, h4320, h4330⟩ := ob1 h4330
      rcases b4319 with _ | _
      · rw [if_neg Bool.false_ne_true] at h4330
        obtain ⟨rfl, rfl⟩ := sinj2 h4330
        simp [e4312, h4314, e4318, h4320]
      · rw [if_pos rfl] at h4330
        obtain ⟨v4321, v4322, h4323, h4330⟩ := ob2 h4330
        have e4324 := tr_l_changed_right v4316 v4304 _ _ h4323
        obtain ⟨b4325, h4326, h4330⟩ := ob1 h4330
        obtain ⟨rfl, rfl⟩ := sinj2 h4330
        simp [e4312, h4314, e4318, h4320, e4324, h4326]
  rcases b4328 with _ | _
  · rw [if_neg Bool.false_ne_true] at h
    refine run_if_f e4329 ?_
    obtain rfl := Option.some.inj h
    exact run_end (m := mSkip) (fl := .nx) rfl ⟨.inl rfl, .val x4303, .own v4304, rfl⟩
  · rw [if_pos rfl] at h
    refine run_if_t e4329 ?_
    have e4331 : (mRv (mPl (mC (.bool false)))) [.scr d3498, .val x4231, .own v4327, .val x4303, .own v4304] = .ok (.pl (.val (.bool false))) [.scr d3498, .val x4231, .own v4327, .val x4303, .own v4304] := by simp []
    obtain rfl := Option.some.inj h
    exact run_ret e4331 ⟨trivial, rfl⟩
theorem tb_law_2 (d3498 : List Int) (x4231 : D) (j4084 : Sl) (j4085 : Sl) (j4086 : Sl) (j4087 : Sl) (o : Ct (Unit) (D)) (h : p_law_b2 d3498 x4231 = some o) : ∃ ρ1, (tName 1) x4231 [.scr d3498, j4084, j4085, j4086, j4087] = .ok () ρ1 ∧ PL.Run mb_law_2 ρ1 ((ctQ (fun (s : Unit) (ρ : PL.Env) => ∃ (j4084 : Sl) (j4085 : Sl) (j4086 : Sl) (j4087 : Sl), ρ = [.scr d3498, j4084, j4085, j4086, j4087]) (fun (r : D) (fl : Fl) (_ : PL.Env) => fl = .rt (.pl (.val r))) o)) := by
  unfold p_law_b2 at h
  refine ⟨[.scr d3498, .val x4231, j4085, j4086, j4087], by simp [], ?_⟩
  unfold mb_law_2
  obtain ⟨v4232, h4233, h⟩ := ob1 h
  have e4234 := tr_l_jar d3498 x4231 _ h4233
  have e4235 : (mSet 2 (mCall [.s, .b] 1 m_l_jar (mCons (mVar 0) (mCons (mVar 1) mNil)))) [.scr d3498, .val x4231, j4085, j4086, j4087] = .ok .nx [.scr d3498, .val x4231, .own v4232, j4086, j4087] := by simp [e4234]
  refine run_seq e4235 ?_
  obtain ⟨x4236, h4237, h⟩ := ob1 h
  have e4238 : (mRng1 (mC (.int 2))) [.scr d3498, .val x4231, .own v4232, j4086, j4087] = .ok x4236 [.scr d3498, .val x4231, .own v4232, j4086, j4087] := by simp [h4237]
  obtain ⟨o4370, h4335, h⟩ := obct1 h
  have e4336 := forP_run (fun (s : D) (ρ : PL.Env) => ∃ (j4269 : Sl) (j4270 : Sl), ρ = [.scr d3498, .val x4231, .own s, j4269, j4270]) (fun (r : D) (fl : Fl) (_ : PL.Env) => fl = .rt (.pl (.val r))) (t := (tName 3)) (b := mb_law_1) (fun x s ρ o hi hf => by obtain ⟨j4269, j4270, rfl⟩ := hi; exact tb_law_1 d3498 x4231 x s j4269 j4270 o hf) x4236 v4232 _ o4370 ⟨j4086, j4087, rfl⟩ h4335
  rcases h with ⟨r, rfl, h⟩ | ⟨v4332, rfl, h⟩
  · refine run_seq_ct (run_for e4238 e4336) (fun t fl ρ' ho hf hq => ?_) (fun s ρ' ho hi => nomatch ho)
    cases ho
    cases h
    exact ⟨hf, hq⟩
  · refine run_seq_ct (run_for e4238 e4336) (fun t fl ρ' ho hf hq => nomatch ho) (fun s ρ' ho hi => ?_)
    cases ho
    obtain ⟨j4333, j4334, rfl⟩ := hi
    obtain ⟨v4337, h4338, h⟩ := ob1 h
    obtain ⟨v4339, h4340, h⟩ := ob1 h
    obtain ⟨v4341, v4342, h4343, h⟩ := ob2 h
    have e4344 := tr_l_pour v4332 (.int 2) _ _ h4343
    obtain ⟨v4345, h4346, h⟩ := ob1 h
    obtain ⟨v4347, v4348, h4349, h⟩ := ob2 h
    have e4350 := tr_l_row v4342 (.int 60) v4345 _ _ h4349
    have e4351 : (mSet 4 (mCall [.io, .b, .b] 1 m_l_row (mCons (mVar 2) (mCons (mPl (mC (.int 60))) (mCons (mPl (mOp gIx (mPl (mFz (mLst (mCons (mC (.int 70)) (mCons (mFz (mOpX gMul (mPl (mC (.int 5))) (mPl (mOp gPow (mPl (mC (.int 10))) (mPl (mC (.int 29))))))) mNil))))) (mPl (mFz (mCall [.io, .b] 2 m_l_pour (mCons (mVar 2) (mCons (mPl (mC (.int 2))) mNil))))))) mNil))))) [.scr d3498, .val x4231, .own v4332, j4333, j4334] = .ok .nx [.scr d3498, .val x4231, .own v4348, j4333, .own v4347] := by simp [h4338, (mulV_eq h4340), e4344, h4346, e4350]
    refine run_seq e4351 ?_
    obtain ⟨v4352, h4353, h⟩ := ob1 h
    obtain ⟨v4354, h4355, h⟩ := ob1 h
    obtain ⟨v4356, v4357, h4358, h⟩ := ob2 h
    have e4359 := tr_l_pour v4348 (.int 2) _ _ h4358
    obtain ⟨v4360, h4361, h⟩ := ob1 h
    obtain ⟨v4362, v4363, h4364, h⟩ := ob2 h
    have e4365 := tr_l_right v4357 v4347 v4360 _ _ h4364
    obtain ⟨b4366, h4367, h⟩ := ob1 h
    have e4368 : (mNot (mTr (mPl (mFz (mCall [.io, .b, .b] 10 m_l_right (mCons (mVar 2) (mCons (mVar 4) (mCons (mPl (mOp gIx (mPl (mFz (mLst (mCons (mC (.int 70)) (mCons (mFz (mOpX gMul (mPl (mC (.int 5))) (mPl (mOp gPow (mPl (mC (.int 10))) (mPl (mC (.int 29))))))) mNil))))) (mPl (mFz (mCall [.io, .b] 2 m_l_pour (mCons (mVar 2) (mCons (mPl (mC (.int 2))) mNil))))))) mNil)))))))) [.scr d3498, .val x4231, .own v4348, j4333, .own v4347] = .ok (!b4366) [.scr d3498, .val x4231, .own v4363, j4333, .own v4347] := by simp [h4353, (mulV_eq h4355), e4359, h4361, e4365, h4367]
    rcases b4366 with _ | _
    · rw [if_neg Bool.false_ne_true] at h
      refine run_if_t e4368 ?_
      have e4369 : (mRv (mPl (mC (.bool false)))) [.scr d3498, .val x4231, .own v4363, j4333, .own v4347] = .ok (.pl (.val (.bool false))) [.scr d3498, .val x4231, .own v4363, j4333, .own v4347] := by simp []
      obtain rfl := Option.some.inj h
      exact run_ret e4369 ⟨trivial, rfl⟩
    · rw [if_pos rfl] at h
      refine run_if_f e4368 ?_
      obtain rfl := Option.some.inj h
      exact run_end (m := mSkip) (fl := .nx) rfl ⟨.inl rfl, .val x4231, .own v4363, j4333, .own v4347, rfl⟩
theorem tr_law (d3498 : List Int) (r : D) (h : p_law d3498 = some r) : ∃ ρ, m_law [.scr d3498, .un, .un, .un, .un] = .ok (.rt (.pl (.val r))) ρ := by
  unfold p_law at h
  have e0 : PL.Run m_law [.scr d3498, .un, .un, .un, .un] (fun fl _ => fl = .rt (.pl (.val r))) := by
    unfold m_law
    obtain ⟨v3938, h3939, h⟩ := ob1 h
    obtain ⟨v3940, h3941, h⟩ := ob1 h
    obtain ⟨x3942, h3943, h⟩ := ob1 h
    have e3944 : (mRng1 (mN gMax2 (mCons (mPl (mC (.int 1))) (mCons (mPl (mN gMin2 (mCons (mPl (mC (.int 6))) (mCons (mPl (mLenS 0)) mNil)))) mNil)))) [.scr d3498, .un, .un, .un, .un] = .ok x3942 [.scr d3498, .un, .un, .un, .un] := by simp [h3939, h3941, h3943]
    obtain ⟨o4378, h4375, h⟩ := obct0 h
    have e4376 := forP_run (fun (s : Unit) (ρ : PL.Env) => ∃ (j4084 : Sl) (j4085 : Sl) (j4086 : Sl) (j4087 : Sl), ρ = [.scr d3498, j4084, j4085, j4086, j4087]) (fun (r : D) (fl : Fl) (_ : PL.Env) => fl = .rt (.pl (.val r))) (t := (tName 1)) (b := mb_law_2) (fun x s ρ o hi hf => by obtain ⟨j4084, j4085, j4086, j4087, rfl⟩ := hi; exact tb_law_2 d3498 x j4084 j4085 j4086 j4087 o hf) x3942 () _ o4378 ⟨.un, .un, .un, .un, rfl⟩ h4375
    rcases h with ⟨r, rfl, h⟩ | ⟨rfl, h⟩
    · refine run_seq_ct (run_for e3944 e4376) (fun t fl ρ' ho hf hq => ?_) (fun s ρ' ho hi => nomatch ho)
      cases ho
      cases h
      exact hq
    · refine run_seq_ct (run_for e3944 e4376) (fun t fl ρ' ho hf hq => nomatch ho) (fun s ρ' ho hi => ?_)
      cases ho
      obtain ⟨j4371, j4372, j4373, j4374, rfl⟩ := hi
      have e4377 : (mRv (mPl (mC (.bool true)))) [.scr d3498, j4371, j4372, j4373, j4374] = .ok (.pl (.val (.bool true))) [.scr d3498, j4371, j4372, j4373, j4374] := by simp []
      obtain rfl := Option.some.inj h
      exact run_ret e4377 rfl
  obtain ⟨fl, ρ', e0, e1⟩ := e0
  exact ⟨ρ', by rw [e0, e1]⟩
end Y
namespace PL
open PySem PySem.Spec L2 RT RZ
section
variable {α β : Type} (ρ ρ' : PL.Env) (i j : Nat) (d e : D) (ds es : List D) (x y : Int) (b : Bool)
@[simp] theorem q_tru_b : truD (.bool b) = some b := Eq.trans rfl rfl
@[simp] theorem q_tru_l : truD (.list ds) = some (!ds.isEmpty) := Eq.trans rfl rfl
@[simp] theorem q_tru_i : truD (.int x) = some (x != 0) := Eq.trans rfl rfl
@[simp] theorem q_tru_n : truD .none = some false := Eq.trans rfl rfl
@[simp] theorem q_add_i : gAdd (.int x) (.int y) = some (false, .int (x + y)) := Eq.trans rfl rfl
@[simp] theorem q_add_l : gAdd (.list ds) (.list es) = if ds.length + es.length ≤ 100000 then some (true, .list (ds ++ es)) else none := Eq.trans rfl rfl
@[simp] theorem q_mul_i : gMul (.int x) (.int y) = if cMulW x y = true then some (false, .int (x * y)) else none := Eq.trans rfl rfl
@[simp] theorem q_on0 (f : Int → Int → D) : onInts0 f (.int x) (.int y) = some (f x y) := Eq.trans rfl rfl
@[simp] theorem q_onIB (f : Int → Int → Bool) : onIB f (.int x) (.int y) = some (.bool (f x y)) := Eq.trans rfl rfl
@[simp] theorem q_onIBb (f : Int → Int → Bool) : onIB f (.bool b) (.int y) = some (.bool (f (if b then 1 else 0) y)) := Eq.trans rfl rfl
@[simp] theorem q_on (c : Int → Int → Bool) (f : Int → Int → D) : onInts c f (.int x) (.int y) = if c x y = true then some (f x y) else none := Eq.trans rfl rfl
@[simp] theorem q_ix_l : gIx (.list ds) (.int x) = atI ds x := Eq.trans rfl rfl
@[simp] theorem q_ix_t : gIx (.tuple ds) (.int x) = atI ds x := Eq.trans rfl rfl
@[simp] theorem q_is_n : gIs d .none = some (.bool (isNone d)) := Eq.trans rfl rfl
@[simp] theorem q_not_n : gNot d .none = some (.bool (!isNone d)) := Eq.trans rfl rfl
@[simp] theorem q_is_b : gIs (.bool b) (.bool c) = some (.bool (decide (b = c))) := Eq.trans rfl rfl
@[simp] theorem q_not_b : gNot (.bool b) (.bool c) = some (.bool (!decide (b = c))) := Eq.trans rfl rfl
@[simp] theorem q_isNone_n : isNone .none = true := Eq.trans rfl rfl
@[simp] theorem q_isNone_i : isNone (.int x) = false := Eq.trans rfl rfl
@[simp] theorem q_isNone_b : isNone (.bool b) = false := Eq.trans rfl rfl
@[simp] theorem q_isNone_l : isNone (.list ds) = false := Eq.trans rfl rfl
@[simp] theorem q_isNone_t : isNone (.tuple ds) = false := Eq.trans rfl rfl
@[simp] theorem q_isNone_s (s : Str) : isNone (.str s) = false := Eq.trans rfl rfl
@[simp] theorem q_isNone_d (kv : List (D × D)) : isNone (.dict kv) = false := Eq.trans rfl rfl
@[simp] theorem q_eq_ii : gEq (.int x) (.int y) = some (.bool (x == y)) := Eq.trans rfl rfl
@[simp] theorem q_ne_ii : gNe (.int x) (.int y) = some (.bool (!(x == y))) := Eq.trans rfl rfl
@[simp] theorem q_eq_bb (c : Bool) : gEq (.bool b) (.bool c) = some (.bool (b == c)) := Eq.trans rfl rfl
@[simp] theorem q_ne_bb (c : Bool) : gNe (.bool b) (.bool c) = some (.bool (!(b == c))) := Eq.trans rfl rfl
@[simp] theorem q_len_l : gLen [.list ds] = some (.int ds.length) := Eq.trans rfl rfl
@[simp] theorem q_len_t : gLen [.tuple ds] = some (.int ds.length) := Eq.trans rfl rfl
@[simp] theorem q_abs : gAbs [.int x] = some (.int (if x < 0 then -x else x)) := Eq.trans rfl rfl
@[simp] theorem q_max2 : gMax2 [.int x, .int y] = some (.int (if y > x then y else x)) := Eq.trans rfl rfl
@[simp] theorem q_min2 : gMin2 [.int x, .int y] = some (.int (if y < x then y else x)) := Eq.trans rfl rfl
@[simp] theorem q_int1_i : gInt1 [.int x] = some (.int x) := Eq.trans rfl rfl
@[simp] theorem q_int1_b : gInt1 [.bool b] = some (.int (if b then 1 else 0)) := Eq.trans rfl rfl
@[simp] theorem q_list_l : gList [.list ds] = some (.list ds) := Eq.trans rfl rfl
@[simp] theorem q_list_t : gList [.tuple ds] = some (.list ds) := Eq.trans rfl rfl
@[simp] theorem q_tuple_l : gTuple [.list ds] = some (.tuple ds) := Eq.trans rfl rfl
@[simp] theorem q_all : gAll [.list ds] = (bools ds).map fun bs => .bool (bs.all id) := Eq.trans rfl rfl
@[simp] theorem q_revs : gRevs (.list ds) = some (.list ds.reverse) := Eq.trans rfl rfl
@[simp] theorem q_append : gAppend ds [d] = if ds.length < 100000 then some (ds ++ [d], .none) else none := Eq.trans rfl rfl
@[simp] theorem q_isi (Ts : List String) : gIsi Ts d = some (.bool (Ts.any fun T => isTy (tyD d) T)) := Eq.trans rfl rfl
@[simp] theorem q_tyD_n : tyD .none = "NoneType" := Eq.trans rfl rfl
@[simp] theorem q_tyD_b : tyD (.bool b) = "bool" := Eq.trans rfl rfl
@[simp] theorem q_tyD_i : tyD (.int x) = "int" := Eq.trans rfl rfl
@[simp] theorem q_tyD_s (s : Str) : tyD (.str s) = "str" := Eq.trans rfl rfl
@[simp] theorem q_tyD_l : tyD (.list ds) = "list" := Eq.trans rfl rfl
@[simp] theorem q_tyD_t : tyD (.tuple ds) = "tuple" := Eq.trans rfl rfl
@[simp] theorem q_tyD_d (kv : List (D × D)) : tyD (.dict kv) = "dict" := Eq.trans rfl rfl
@[simp] theorem q_isTy (t T : String) : isTy t T = if T = "int" then (t == "int" || t == "bool") else t == T := by
  unfold isTy
  split
  · rfl
  · rename_i h; rw [if_neg (fun z => h z)]
@[simp] theorem q_items_l : itemsD (.list ds) = some (false, ds) := Eq.trans rfl rfl
@[simp] theorem q_items_t : itemsD (.tuple ds) = some (true, ds) := Eq.trans rfl rfl
@[simp] theorem q_atom_i : atom (.int x) = true := Eq.trans rfl rfl
@[simp] theorem q_atom_b : atom (.bool b) = true := Eq.trans rfl rfl
@[simp] theorem q_atom_n : atom .none = true := Eq.trans rfl rfl
@[simp] theorem q_isL : isL (.list ds) = some (.list ds) := Eq.trans rfl rfl
@[simp] theorem v_isbI (c : Bool) : gIs (.int x) (.bool c) = some (.bool false) := Eq.trans rfl rfl
@[simp] theorem v_isbN (c : Bool) : gIs .none (.bool c) = some (.bool false) := Eq.trans rfl rfl
@[simp] theorem v_isbS (s : Str) (c : Bool) : gIs (.str s) (.bool c) = some (.bool false) := Eq.trans rfl rfl
@[simp] theorem v_isbL (c : Bool) : gIs (.list ds) (.bool c) = some (.bool false) := Eq.trans rfl rfl
@[simp] theorem v_isbT (c : Bool) : gIs (.tuple ds) (.bool c) = some (.bool false) := Eq.trans rfl rfl
@[simp] theorem v_isbD (k : List (D × D)) (c : Bool) : gIs (.dict k) (.bool c) = some (.bool false) := Eq.trans rfl rfl
@[simp] theorem v_notbI (c : Bool) : gNot (.int x) (.bool c) = some (.bool true) := Eq.trans rfl rfl
@[simp] theorem v_tup2 : tup2 (.tuple [d, e]) = some (d, e) := Eq.trans rfl rfl
@[simp] theorem v_tup3 (f : D) : tup3 (.tuple [d, e, f]) = some (d, e, f) := Eq.trans rfl rfl
@[simp] theorem v_ixP : ixP (.int x) = some x := Eq.trans rfl rfl
@[simp] theorem v_atP_i : atP (.int x) = some () := Eq.trans rfl rfl
@[simp] theorem v_atP_b : atP (.bool b) = some () := Eq.trans rfl rfl
@[simp] theorem v_atP_n : atP .none = some () := Eq.trans rfl rfl
@[simp] theorem v_negP : negP (.int x) = some (.int (-x)) := Eq.trans rfl rfl
@[simp] theorem v_rng1P : rng1P (.int x) = if small62 x = true then some (rngD 0 x) else none := Eq.trans rfl rfl
@[simp] theorem v_rng2P : rng2P (.int x) (.int y) = if (small62 x && small62 y) = true then some (rngD x y) else none := Eq.trans rfl rfl
@[simp] theorem v_lrgP : lrgP (.int x) = if (decide (-100000 ≤ x) && decide (x ≤ 100000)) = true then some (.list (rngD 0 x)) else none := Eq.trans rfl rfl
@[simp] theorem v_dict1P : dict1P (.int x) d = some (.dict [(.int x, d)]) := Eq.trans rfl rfl
@[simp] theorem v_rngdP : rngdP (.int x) (.int y) = if (small62 x && small62 y) = true then some (rngdD x y) else none := Eq.trans rfl rfl
@[simp] theorem v_addV : addV (.int x) (.int y) = some (.int (x + y)) := Eq.trans rfl rfl
@[simp] theorem v_addF : addF (.list ds) (.list es) = if ds.length + es.length ≤ 100000 then some (.list (ds ++ es)) else none := by
  unfold addF; rw [q_add_l]; by_cases h : ds.length + es.length ≤ 100000 <;> simp only [h, if_true, if_false]
@[simp] theorem v_mulV : mulV (.int x) (.int y) = if cMulW x y = true then some (.int (x * y)) else none := by
  unfold mulV; rw [q_mul_i]; by_cases h : cMulW x y = true
  · rw [if_pos h, if_pos h]
  · rw [if_neg h, if_neg h]
@[simp] theorem v_slF (l h : Option Int) : slF (.list ds) l h = some (.list (cutD ds l h)) := Eq.trans rfl rfl
@[simp] theorem v_sl (l h : Option Int) : sliceD (.list ds) l h = some (true, .list (cutD ds l h)) := Eq.trans rfl rfl
@[simp] theorem v_slW (l h : Option Int) : slW (.list ds) l h = some (.list (cutD ds l h)) := Eq.trans rfl rfl
@[simp] theorem v_sliceW (l h : Option Int) : sliceW (.list ds) l h = some (false, .list (cutD ds l h)) := Eq.trans rfl rfl
@[simp] theorem v_mutP (g : List D → List D → Option (List D × D)) (as : List D) : mutP g (.list ds) as = (g ds as).map fun nr => (.list nr.1, nr.2) := Eq.trans rfl rfl
@[simp] theorem v_setP : setP (.list ds) (.int x) e = (ixN ds.length x).map fun i => .list (ds.set i e) := Eq.trans rfl rfl
@[simp] theorem v_ixSP (ns : List Int) : ixSP ns (.int x) = (atI ns x).map .int := Eq.trans rfl rfl
@[simp] theorem v_gAddI : gAddI (.int x) (.int y) = some (.int (x + y)) := Eq.trans rfl rfl
@[simp] theorem v_sorted : gSorted [.list ds] = (nums ds).map fun ns => .list ((sortI ns).map .int) := Eq.trans rfl rfl
@[simp] theorem v_neg_c : negP (.int x) = some (.int (-x)) := Eq.trans rfl rfl
@[simp] theorem v_bind1 {α γ : Type} (f : α → Option γ) (x : α) : bind1 (some x) f = f x := Eq.trans rfl rfl
@[simp] theorem v_bind1n {α γ : Type} (f : α → Option γ) : bind1 none f = none := Eq.trans rfl rfl
@[simp] theorem v_bind2 {α1 α2 γ : Type} (f : α1 → α2 → Option γ) (x1 : α1) (x2 : α2) : bind2 (some (x1, x2)) f = f x1 x2 := Eq.trans rfl rfl
@[simp] theorem v_bind2n {α1 α2 γ : Type} (f : α1 → α2 → Option γ) : bind2 none f = none := Eq.trans rfl rfl
@[simp] theorem v_bind3 {α1 α2 α3 γ : Type} (f : α1 → α2 → α3 → Option γ) (x1 : α1) (x2 : α2) (x3 : α3) : bind3 (some (x1, x2, x3)) f = f x1 x2 x3 := Eq.trans rfl rfl
@[simp] theorem v_bind3n {α1 α2 α3 γ : Type} (f : α1 → α2 → α3 → Option γ) : bind3 none f = none := Eq.trans rfl rfl
@[simp] theorem v_bind4 {α1 α2 α3 α4 γ : Type} (f : α1 → α2 → α3 → α4 → Option γ) (x1 : α1) (x2 : α2) (x3 : α3) (x4 : α4) : bind4 (some (x1, x2, x3, x4)) f = f x1 x2 x3 x4 := Eq.trans rfl rfl
@[simp] theorem v_bind4n {α1 α2 α3 α4 γ : Type} (f : α1 → α2 → α3 → α4 → Option γ) : bind4 none f = none := Eq.trans rfl rfl
@[simp] theorem v_bind5 {α1 α2 α3 α4 α5 γ : Type} (f : α1 → α2 → α3 → α4 → α5 → Option γ) (x1 : α1) (x2 : α2) (x3 : α3) (x4 : α4) (x5 : α5) : bind5 (some (x1, x2, x3, x4, x5)) f = f x1 x2 x3 x4 x5 := Eq.trans rfl rfl
@[simp] theorem v_bind5n {α1 α2 α3 α4 α5 γ : Type} (f : α1 → α2 → α3 → α4 → α5 → Option γ) : bind5 none f = none := Eq.trans rfl rfl
@[simp] theorem v_bind6 {α1 α2 α3 α4 α5 α6 γ : Type} (f : α1 → α2 → α3 → α4 → α5 → α6 → Option γ) (x1 : α1) (x2 : α2) (x3 : α3) (x4 : α4) (x5 : α5) (x6 : α6) : bind6 (some (x1, x2, x3, x4, x5, x6)) f = f x1 x2 x3 x4 x5 x6 := Eq.trans rfl rfl
@[simp] theorem v_bind6n {α1 α2 α3 α4 α5 α6 γ : Type} (f : α1 → α2 → α3 → α4 → α5 → α6 → Option γ) : bind6 none f = none := Eq.trans rfl rfl
@[simp] theorem v_bind7 {α1 α2 α3 α4 α5 α6 α7 γ : Type} (f : α1 → α2 → α3 → α4 → α5 → α6 → α7 → Option γ) (x1 : α1) (x2 : α2) (x3 : α3) (x4 : α4) (x5 : α5) (x6 : α6) (x7 : α7) : bind7 (some (x1, x2, x3, x4, x5, x6, x7)) f = f x1 x2 x3 x4 x5 x6 x7 := Eq.trans rfl rfl
@[simp] theorem v_bind7n {α1 α2 α3 α4 α5 α6 α7 γ : Type} (f : α1 → α2 → α3 → α4 → α5 → α6 → α7 → Option γ) : bind7 none f = none := Eq.trans rfl rfl
@[simp] theorem v_bind8 {α1 α2 α3 α4 α5 α6 α7 α8 γ : Type} (f : α1 → α2 → α3 → α4 → α5 → α6 → α7 → α8 → Option γ) (x1 : α1) (x2 : α2) (x3 : α3) (x4 : α4) (x5 : α5) (x6 : α6) (x7 : α7) (x8 : α8) : bind8 (some (x1, x2, x3, x4, x5, x6, x7, x8)) f = f x1 x2 x3 x4 x5 x6 x7 x8 := Eq.trans rfl rfl
@[simp] theorem v_bind8n {α1 α2 α3 α4 α5 α6 α7 α8 γ : Type} (f : α1 → α2 → α3 → α4 → α5 → α6 → α7 → α8 → Option γ) : bind8 none f = none := Eq.trans rfl rfl
@[simp] theorem v_bind9 {α1 α2 α3 α4 α5 α6 α7 α8 α9 γ : Type} (f : α1 → α2 → α3 → α4 → α5 → α6 → α7 → α8 → α9 → Option γ) (x1 : α1) (x2 : α2) (x3 : α3) (x4 : α4) (x5 : α5) (x6 : α6) (x7 : α7) (x8 : α8) (x9 : α9) : bind9 (some (x1, x2, x3, x4, x5, x6, x7, x8, x9)) f = f x1 x2 x3 x4 x5 x6 x7 x8 x9 := Eq.trans rfl rfl
@[simp] theorem v_bind9n {α1 α2 α3 α4 α5 α6 α7 α8 α9 γ : Type} (f : α1 → α2 → α3 → α4 → α5 → α6 → α7 → α8 → α9 → Option γ) : bind9 none f = none := Eq.trans rfl rfl
@[simp] theorem v_bind10 {α1 α2 α3 α4 α5 α6 α7 α8 α9 α10 γ : Type} (f : α1 → α2 → α3 → α4 → α5 → α6 → α7 → α8 → α9 → α10 → Option γ) (x1 : α1) (x2 : α2) (x3 : α3) (x4 : α4) (x5 : α5) (x6 : α6) (x7 : α7) (x8 : α8) (x9 : α9) (x10 : α10) : bind10 (some (x1, x2, x3, x4, x5, x6, x7, x8, x9, x10)) f = f x1 x2 x3 x4 x5 x6 x7 x8 x9 x10 := Eq.trans rfl rfl
@[simp] theorem v_bind10n {α1 α2 α3 α4 α5 α6 α7 α8 α9 α10 γ : Type} (f : α1 → α2 → α3 → α4 → α5 → α6 → α7 → α8 → α9 → α10 → Option γ) : bind10 none f = none := Eq.trans rfl rfl
@[simp] theorem v_ctB0 { T γ : Type} (g : T → Option γ) (f : Unit → Option γ) : ctB0 (some (.nx ())) g f = f () := Eq.trans rfl rfl
@[simp] theorem v_ctB0r { T γ : Type} (g : T → Option γ) (f : Unit → Option γ) (t : T) : ctB0 (some (.rt t)) g f = g t := Eq.trans rfl rfl
@[simp] theorem v_ctB1 {α1 T γ : Type} (g : T → Option γ) (f : α1 → Option γ) (x1 : α1) : ctB1 (some (.nx x1)) g f = f x1 := Eq.trans rfl rfl
@[simp] theorem v_ctB1r {α1 T γ : Type} (g : T → Option γ) (f : α1 → Option γ) (t : T) : ctB1 (some (.rt t)) g f = g t := Eq.trans rfl rfl
@[simp] theorem v_ctB2 {α1 α2 T γ : Type} (g : T → Option γ) (f : α1 → α2 → Option γ) (x1 : α1) (x2 : α2) : ctB2 (some (.nx (x1, x2))) g f = f x1 x2 := Eq.trans rfl rfl
@[simp] theorem v_ctB2r {α1 α2 T γ : Type} (g : T → Option γ) (f : α1 → α2 → Option γ) (t : T) : ctB2 (some (.rt t)) g f = g t := Eq.trans rfl rfl
@[simp] theorem v_ctB3 {α1 α2 α3 T γ : Type} (g : T → Option γ) (f : α1 → α2 → α3 → Option γ) (x1 : α1) (x2 : α2) (x3 : α3) : ctB3 (some (.nx (x1, x2, x3))) g f = f x1 x2 x3 := Eq.trans rfl rfl
@[simp] theorem v_ctB3r {α1 α2 α3 T γ : Type} (g : T → Option γ) (f : α1 → α2 → α3 → Option γ) (t : T) : ctB3 (some (.rt t)) g f = g t := Eq.trans rfl rfl
@[simp] theorem v_ctB4 {α1 α2 α3 α4 T γ : Type} (g : T → Option γ) (f : α1 → α2 → α3 → α4 → Option γ) (x1 : α1) (x2 : α2) (x3 : α3) (x4 : α4) : ctB4 (some (.nx (x1, x2, x3, x4))) g f = f x1 x2 x3 x4 := Eq.trans rfl rfl
@[simp] theorem v_ctB4r {α1 α2 α3 α4 T γ : Type} (g : T → Option γ) (f : α1 → α2 → α3 → α4 → Option γ) (t : T) : ctB4 (some (.rt t)) g f = g t := Eq.trans rfl rfl
@[simp] theorem v_ctB5 {α1 α2 α3 α4 α5 T γ : Type} (g : T → Option γ) (f : α1 → α2 → α3 → α4 → α5 → Option γ) (x1 : α1) (x2 : α2) (x3 : α3) (x4 : α4) (x5 : α5) : ctB5 (some (.nx (x1, x2, x3, x4, x5))) g f = f x1 x2 x3 x4 x5 := Eq.trans rfl rfl
@[simp] theorem v_ctB5r {α1 α2 α3 α4 α5 T γ : Type} (g : T → Option γ) (f : α1 → α2 → α3 → α4 → α5 → Option γ) (t : T) : ctB5 (some (.rt t)) g f = g t := Eq.trans rfl rfl
@[simp] theorem v_ctB6 {α1 α2 α3 α4 α5 α6 T γ : Type} (g : T → Option γ) (f : α1 → α2 → α3 → α4 → α5 → α6 → Option γ) (x1 : α1) (x2 : α2) (x3 : α3) (x4 : α4) (x5 : α5) (x6 : α6) : ctB6 (some (.nx (x1, x2, x3, x4, x5, x6))) g f = f x1 x2 x3 x4 x5 x6 := Eq.trans rfl rfl
@[simp] theorem v_ctB6r {α1 α2 α3 α4 α5 α6 T γ : Type} (g : T → Option γ) (f : α1 → α2 → α3 → α4 → α5 → α6 → Option γ) (t : T) : ctB6 (some (.rt t)) g f = g t := Eq.trans rfl rfl
@[simp] theorem v_ctB7 {α1 α2 α3 α4 α5 α6 α7 T γ : Type} (g : T → Option γ) (f : α1 → α2 → α3 → α4 → α5 → α6 → α7 → Option γ) (x1 : α1) (x2 : α2) (x3 : α3) (x4 : α4) (x5 : α5) (x6 : α6) (x7 : α7) : ctB7 (some (.nx (x1, x2, x3, x4, x5, x6, x7))) g f = f x1 x2 x3 x4 x5 x6 x7 := Eq.trans rfl rfl
@[simp] theorem v_ctB7r {α1 α2 α3 α4 α5 α6 α7 T γ : Type} (g : T → Option γ) (f : α1 → α2 → α3 → α4 → α5 → α6 → α7 → Option γ) (t : T) : ctB7 (some (.rt t)) g f = g t := Eq.trans rfl rfl
@[simp] theorem v_ctB8 {α1 α2 α3 α4 α5 α6 α7 α8 T γ : Type} (g : T → Option γ) (f : α1 → α2 → α3 → α4 → α5 → α6 → α7 → α8 → Option γ) (x1 : α1) (x2 : α2) (x3 : α3) (x4 : α4) (x5 : α5) (x6 : α6) (x7 : α7) (x8 : α8) : ctB8 (some (.nx (x1, x2, x3, x4, x5, x6, x7, x8))) g f = f x1 x2 x3 x4 x5 x6 x7 x8 := Eq.trans rfl rfl
@[simp] theorem v_ctB8r {α1 α2 α3 α4 α5 α6 α7 α8 T γ : Type} (g : T → Option γ) (f : α1 → α2 → α3 → α4 → α5 → α6 → α7 → α8 → Option γ) (t : T) : ctB8 (some (.rt t)) g f = g t := Eq.trans rfl rfl
@[simp] theorem v_ctB9 {α1 α2 α3 α4 α5 α6 α7 α8 α9 T γ : Type} (g : T → Option γ) (f : α1 → α2 → α3 → α4 → α5 → α6 → α7 → α8 → α9 → Option γ) (x1 : α1) (x2 : α2) (x3 : α3) (x4 : α4) (x5 : α5) (x6 : α6) (x7 : α7) (x8 : α8) (x9 : α9) : ctB9 (some (.nx (x1, x2, x3, x4, x5, x6, x7, x8, x9))) g f = f x1 x2 x3 x4 x5 x6 x7 x8 x9 := Eq.trans rfl rfl
@[simp] theorem v_ctB9r {α1 α2 α3 α4 α5 α6 α7 α8 α9 T γ : Type} (g : T → Option γ) (f : α1 → α2 → α3 → α4 → α5 → α6 → α7 → α8 → α9 → Option γ) (t : T) : ctB9 (some (.rt t)) g f = g t := Eq.trans rfl rfl
end
theorem bools_map (f : D → Bool) : ∀ ds : List D, bools (ds.map fun d => .bool (f d)) = some (ds.map f)
  | [] => rfl
  | d :: ds => by
    show (bools (ds.map fun d => .bool (f d))).map (f d :: ·) = _
    rw [bools_map f ds]; rfl
theorem nums_ints : ∀ ns : List Int, nums (ns.map PyData.int) = some ns
  | [] => rfl
  | n :: ns => by
    show (nums (ns.map PyData.int)).map (n :: ·) = _
    rw [nums_ints ns]; rfl
/-! ### loops by what holds -/
theorem foldP_inv {S : Type} {f : D → S → Option S} (I : List D → S → Prop) : ∀ (xs done : List D) (s : S), I done s →
    (∀ pre x s, x ∈ xs → pre.length < done.length + xs.length → I pre s → ∃ s', f x s = some s' ∧ I (pre ++ [x]) s') → ∃ s', foldP f xs s = some s' ∧ I (done ++ xs) s'
  | [], done, s, h0, _ => ⟨s, rfl, by rw [List.append_nil]; exact h0⟩
  | x :: xs, done, s, h0, hs => by
    obtain ⟨s1, e1, h1⟩ := hs done x s List.mem_cons_self (by rw [List.length_cons]; omega) h0
    obtain ⟨s', e2, h2⟩ := foldP_inv I xs (done ++ [x]) s1 h1 fun pre y s hy hl => hs pre y s (List.mem_cons_of_mem _ hy) (by rw [List.length_append, List.length_cons, List.length_nil] at hl; rw [List.length_cons]; omega)
    refine ⟨s', ?_, by rw [List.append_assoc] at h2; exact h2⟩
    show (f x s).bind _ = _
    rw [e1]; exact e2
/-- a fold by its invariant over what is done -/
theorem foldP_by {S : Type} {f : D → S → Option S} (I : List D → S → Prop) {xs : List D} {s : S} (h0 : I [] s)
    (hs : ∀ pre x s, x ∈ xs → pre.length < xs.length → I pre s → ∃ s', f x s = some s' ∧ I (pre ++ [x]) s') : ∃ s', foldP f xs s = some s' ∧ I xs s' := by
  have := foldP_inv I xs [] s h0 (fun pre x s hx hl => hs pre x s hx (by simpa using hl))
  simpa using this
theorem forP_inv {S T : Type} {f : D → S → Option (Ct S T)} (I : List D → S → Prop) : ∀ (xs done : List D) (s : S), I done s →
    (∀ pre x s, x ∈ xs → pre.length < done.length + xs.length → I pre s → ∃ s', f x s = some (.nx s') ∧ I (pre ++ [x]) s') → ∃ s', forP f xs s = some (.nx s') ∧ I (done ++ xs) s'
  | [], done, s, h0, _ => ⟨s, rfl, by rw [List.append_nil]; exact h0⟩
  | x :: xs, done, s, h0, hs => by
    obtain ⟨s1, e1, h1⟩ := hs done x s List.mem_cons_self (by rw [List.length_cons]; omega) h0
    obtain ⟨s', e2, h2⟩ := forP_inv I xs (done ++ [x]) s1 h1 fun pre y s hy hl => hs pre y s (List.mem_cons_of_mem _ hy) (by rw [List.length_append, List.length_cons, List.length_nil] at hl; rw [List.length_cons]; omega)
    refine ⟨s', ?_, by rw [List.append_assoc] at h2; exact h2⟩
    show (f x s).bind _ = _
    rw [e1]; exact e2
/-- a loop that is never left, by its invariant -/
theorem forP_by {S T : Type} {f : D → S → Option (Ct S T)} (I : List D → S → Prop) {xs : List D} {s : S} (h0 : I [] s)
    (hs : ∀ pre x s, x ∈ xs → pre.length < xs.length → I pre s → ∃ s', f x s = some (.nx s') ∧ I (pre ++ [x]) s') : ∃ s', forP f xs s = some (.nx s') ∧ I xs s' := by
  have := forP_inv I xs [] s h0 (fun pre x s hx hl => hs pre x s hx (by simpa using hl))
  simpa using this
theorem mapP_of {f : D → Option D} {φ : D → D} : ∀ {xs : List D}, (∀ x ∈ xs, f x = some (φ x)) → mapP f xs = some (xs.map φ)
  | [], _ => rfl
  | x :: xs, h => by
    show (f x).bind _ = _
    rw [h x List.mem_cons_self, Option.bind_some, mapP_of fun y hy => h y (List.mem_cons_of_mem _ hy)]; rfl
theorem mapT_of {f : D → Option D} {φ : D → D} {xs : List D} (hl : xs.length ≤ 100000) (h : ∀ x ∈ xs, f x = some (φ x)) : mapT f xs = some (xs.map φ) := by
  unfold mapT
  rw [mapP_of h, Option.bind_some, if_pos (by rw [List.length_map]; exact hl)]
theorem filP_of {f : D → Option (Option D)} {φ : D → Option D} : ∀ {xs : List D}, (∀ x ∈ xs, f x = some (φ x)) → filP f xs = some (xs.filterMap φ)
  | [], _ => rfl
  | x :: xs, h => by
    show (f x).bind _ = _
    rw [h x List.mem_cons_self, Option.bind_some, filP_of fun y hy => h y (List.mem_cons_of_mem _ hy), Option.bind_some, List.filterMap_cons]
    cases φ x <;> rfl
theorem filT_of {f : D → Option (Option D)} {φ : D → Option D} {xs : List D} (hl : xs.length ≤ 100000) (h : ∀ x ∈ xs, f x = some (φ x)) : filT f xs = some (xs.filterMap φ) := by
  unfold filT
  rw [filP_of h, Option.bind_some, if_pos (Nat.le_trans (List.length_filterMap_le _ _) hl)]
/-- the same, typed: the things gone through are written -/
theorem mapT_enc {α : Type} {f : D → Option D} {e : α → D} {φ : α → D} {xs : List α} (hl : xs.length ≤ 100000) (h : ∀ x ∈ xs, f (e x) = some (φ x)) : mapT f (xs.map e) = some (xs.map φ) := by
  have key : ∀ ys : List α, (∀ x ∈ ys, f (e x) = some (φ x)) → mapP f (ys.map e) = some (ys.map φ) := by
    intro ys
    induction ys with
    | nil => intro _; rfl
    | cons y ys ih =>
      intro h
      show (f (e y)).bind _ = _
      rw [h y List.mem_cons_self, Option.bind_some, ih fun z hz => h z (List.mem_cons_of_mem _ hz)]; rfl
  unfold mapT
  rw [key xs h, Option.bind_some, if_pos (by rw [List.length_map]; exact hl)]
theorem foldP_enc {α S : Type} {f : D → S → Option S} {e : α → D} (I : List α → S → Prop) {xs : List α} {s : S} (h0 : I [] s)
    (hs : ∀ pre x post s, xs = pre ++ x :: post → I pre s → ∃ s', f (e x) s = some s' ∧ I (pre ++ [x]) s') : ∃ s', foldP f (xs.map e) s = some s' ∧ I xs s' := by
  have key : ∀ (ys done : List α) (s : S), xs = done ++ ys → I done s → ∃ s', foldP f (ys.map e) s = some s' ∧ I xs s' := by
    intro ys
    induction ys with
    | nil => intro done s hx hi; rw [List.append_nil] at hx; subst hx; exact ⟨s, rfl, hi⟩
    | cons y ys ih =>
      intro done s hx hi
      obtain ⟨s1, e1, h1⟩ := hs done y ys s hx hi
      obtain ⟨s', e2, h2⟩ := ih (done ++ [y]) s1 (by rw [hx, List.append_assoc]; rfl) h1
      refine ⟨s', ?_, h2⟩
      show (f (e y) s).bind _ = _
      rw [e1]; exact e2
  exact key xs [] s rfl h0
theorem forP_enc {α S T : Type} {f : D → S → Option (Ct S T)} {e : α → D} (I : List α → S → Prop) {xs : List α} {s : S} (h0 : I [] s)
    (hs : ∀ pre x post s, xs = pre ++ x :: post → I pre s → ∃ s', f (e x) s = some (.nx s') ∧ I (pre ++ [x]) s') : ∃ s', forP f (xs.map e) s = some (.nx s') ∧ I xs s' := by
  have key : ∀ (ys done : List α) (s : S), xs = done ++ ys → I done s → ∃ s', forP f (ys.map e) s = some (.nx s') ∧ I xs s' := by
    intro ys
    induction ys with
    | nil => intro done s hx hi; rw [List.append_nil] at hx; subst hx; exact ⟨s, rfl, hi⟩
    | cons y ys ih =>
      intro done s hx hi
      obtain ⟨s1, e1, h1⟩ := hs done y ys s hx hi
      obtain ⟨s', e2, h2⟩ := ih (done ++ [y]) s1 (by rw [hx, List.append_assoc]; rfl) h1
      refine ⟨s', ?_, h2⟩
      show (f (e y) s).bind _ = _
      rw [e1]; exact e2
  exact key xs [] s rfl h0
end PL
namespace PL
open PySem PySem.Spec L2 RT RZ
section
variable (d e x : D) (ds es fs : List D) (ks : List (D × D)) (i j : Int)
@[simp] theorem v_ixA_d : gIxA (.dict ks) (.int i) = lookD ks i := Eq.trans rfl rfl
@[simp] theorem v_ixA_l : gIxA (.list ds) (.int i) = atI ds i := Eq.trans rfl rfl
@[simp] theorem v_isDct : isDct (.dict ks) = some () := Eq.trans rfl rfl
@[simp] theorem v_get2 : get2D (.dict ks) (.int i) x = some ((lookD ks i).getD x) := Eq.trans rfl rfl
@[simp] theorem v_dputP : dputP (.dict ks) (.int i) x = if ks.length < 100000 then some (.dict (putD ks i x)) else none := Eq.trans rfl rfl
@[simp] theorem v_sortedA_d : gSortedA [.dict ks] = (keyInts ks).map fun ns => .list ((sortI ns).map .int) := Eq.trans rfl rfl
@[simp] theorem v_sortedA_l : gSortedA [.list ds] = (nums ds).map fun ns => .list ((sortI ns).map .int) := Eq.trans rfl rfl
@[simp] theorem v_sortSet : gSortSet (.list ds) = if ds.length ≤ 4000 then (nums ds).map fun ns => .list ((uniqI ns).map .int) else none := Eq.trans rfl rfl
@[simp] theorem v_zip3P : zip3P (.list ds) (.list es) (.list fs) = some (z3 ds es fs) := Eq.trans rfl rfl
end
end PL
namespace Y
open PySem PL L2
variable [PL.Kap]
/-! ### tables as what holds at each company -/
abbrev Tab := List (Int × Int)
def lvF : Int → Tab → Int → Int
  | m, [], _ => m
  | m, p :: r, c => if p.1 ≤ c then lvF p.2 r c else m
def lv (t : Tab) (c : Int) : Int := lvF 0 t c
/-- rising beyond a -/
def Rise : Int → Tab → Prop
  | _, [] => True
  | a, p :: r => a < p.1 ∧ Rise p.1 r
theorem Rise.mono {a b : Int} : ∀ {t : Tab}, Rise a t → b ≤ a → Rise b t
  | [], _, _ => trivial
  | p :: r, h, hb => ⟨by have := h.1; omega, h.2⟩
theorem Rise.all {a : Int} : ∀ {t : Tab}, Rise a t → ∀ p ∈ t, a < p.1
  | [], _, _, hp => by cases hp
  | q :: r, h, p, hp => by
    rcases List.mem_cons.mp hp with rfl | hp
    · exact h.1
    · have := h.2.all p hp
      have := h.1
      omega
theorem lvF_low {a : Int} : ∀ {t : Tab} {m c : Int}, Rise a t → c ≤ a → lvF m t c = m
  | [], _, _, _, _ => rfl
  | p :: r, m, c, h, hc => by
    have h1 := h.1
    unfold lvF
    rw [if_neg (by omega)]
/-- rising beyond a, each many from nought on and unlike the one ahead -/
def Can : Int → Int → Tab → Prop
  | _, _, [] => True
  | a, l, p :: r => a < p.1 ∧ l ≠ p.2 ∧ 0 ≤ p.2 ∧ Can p.1 p.2 r
theorem Can.rise : ∀ {t : Tab} {a l : Int}, Can a l t → Rise a t
  | [], _, _, _ => trivial
  | _ :: _, _, _, h => ⟨h.1, Can.rise h.2.2.2⟩
theorem can_one : ∀ {r r' : Tab} {a m : Int}, Can a m r → Can a m r' → (∀ c, a ≤ c → lvF m r c = lvF m r' c) → r = r'
  | [], [], _, _, _, _, _ => rfl
  | [], q :: s, a, m, _, h', e => by
    have e1 := e q.1 (by have := h'.1; omega)
    unfold lvF at e1
    rw [if_pos (Int.le_refl _), lvF_low h'.2.2.2.rise (Int.le_refl _)] at e1
    exact absurd e1 h'.2.1
  | p :: r, [], a, m, h, _, e => by
    have e1 := e p.1 (by have := h.1; omega)
    unfold lvF at e1
    rw [if_pos (Int.le_refl _), lvF_low h.2.2.2.rise (Int.le_refl _)] at e1
    exact absurd e1.symm h.2.1
  | p :: r, q :: s, a, m, h, h', e => by
    have hp := h.1
    have hq := h'.1
    have ep := e p.1 (by omega)
    have eq := e q.1 (by omega)
    simp only [lvF] at ep eq
    rw [if_pos (Int.le_refl _), lvF_low h.2.2.2.rise (Int.le_refl _)] at ep
    rw [if_pos (Int.le_refl (q.1)), lvF_low h'.2.2.2.rise (Int.le_refl _)] at eq
    rcases Int.lt_trichotomy p.1 q.1 with hl | hl | hl
    · rw [if_neg (by omega)] at ep
      exact absurd ep.symm h.2.1
    · rw [if_pos (by omega), lvF_low h'.2.2.2.rise (by omega)] at ep
      have : p = q := Prod.ext hl ep
      subst this
      refine congrArg _ (can_one h.2.2.2 h'.2.2.2 fun c hc => ?_)
      have := e c (by omega)
      simp only [lvF] at this
      rwa [if_pos hc, if_pos hc] at this
    · rw [if_neg (by omega)] at eq
      exact absurd eq h'.2.1
/-- a table -/
def IsTab (t : Tab) : Prop := ∃ m r, t = (0, m) :: r ∧ 0 ≤ m ∧ Can 0 m r
theorem lv_head (m : Int) (r : Tab) {c : Int} (hc : 0 ≤ c) : lv ((0, m) :: r) c = lvF m r c := by
  show (if (0 : Int) ≤ c then lvF m r c else 0) = _
  rw [if_pos hc]
theorem tab_one {t t' : Tab} (h : IsTab t) (h' : IsTab t') (e : ∀ c, 0 ≤ c → lv t c = lv t' c) : t = t' := by
  obtain ⟨m, r, rfl, _, k⟩ := h
  obtain ⟨m', r', rfl, _, k'⟩ := h'
  have e0 := e 0 (Int.le_refl _)
  rw [lv_head _ _ (Int.le_refl _), lv_head _ _ (Int.le_refl _), lvF_low k.rise (Int.le_refl _), lvF_low k'.rise (Int.le_refl _)] at e0
  subst e0
  rw [can_one k k' fun c hc => by rw [← lv_head m r hc, ← lv_head m r' hc]; exact e c hc]
structure TabOf (t : Tab) (f : Int → Int) : Prop where
  tab : IsTab t
  at_ : ∀ c, 0 ≤ c → lv t c = f c
theorem TabOf.one {t t' : Tab} {f : Int → Int} (h : TabOf t f) (h' : TabOf t' f) : t = t' := tab_one h.tab h'.tab fun c hc => by rw [h.at_ c hc, h'.at_ c hc]
theorem TabOf.congr {t : Tab} {f g : Int → Int} (h : TabOf t f) (e : ∀ c, 0 ≤ c → f c = g c) : TabOf t g := ⟨h.tab, fun c hc => by rw [h.at_ c hc, e c hc]⟩
theorem lvF_nn : ∀ {t : Tab} {m a l : Int}, Can a l t → 0 ≤ m → ∀ c, 0 ≤ lvF m t c
  | [], _, _, _, _, hm, _ => hm
  | p :: r, m, a, l, h, hm, c => by
    unfold lvF
    split
    · exact lvF_nn h.2.2.2 h.2.2.1 c
    · exact hm
theorem IsTab.nn {t : Tab} (h : IsTab t) (c : Int) : 0 ≤ lv t c := by
  obtain ⟨m, r, rfl, hm, k⟩ := h
  show 0 ≤ (if (0 : Int) ≤ c then lvF m r c else 0)
  split
  · exact lvF_nn k hm c
  · omega
theorem TabOf.nn {t : Tab} {f : Int → Int} (h : TabOf t f) {c : Int} (hc : 0 ≤ c) : 0 ≤ f c := by rw [← h.at_ c hc]; exact h.tab.nn c
/-- at an index -/
theorem lvF_ix : ∀ {t : Tab} {a m c : Int} (i : Nat) (hi : i < t.length), Rise a t → t[i].1 ≤ c → (∀ h : i + 1 < t.length, c < t[i + 1].1) → lvF m t c = t[i].2
  | [], _, _, _, _, hi, _, _, _ => by simp at hi
  | p :: r, a, m, c, 0, _, h, h1, h2 => by
    have h1' : p.1 ≤ c := h1
    show (if p.1 ≤ c then lvF p.2 r c else m) = p.2
    rw [if_pos h1']
    cases r with
    | nil => rfl
    | cons q s =>
      have : c < q.1 := h2 (by simp)
      show (if q.1 ≤ c then _ else _) = _
      rw [if_neg (by omega)]
  | p :: r, a, m, c, i + 1, hi, h, h1, h2 => by
    have hi' : i < r.length := by simpa using hi
    have hr : p.1 < r[i].1 := h.2.all _ (List.getElem_mem hi')
    have h1' : r[i].1 ≤ c := h1
    show (if p.1 ≤ c then lvF p.2 r c else m) = r[i].2
    rw [if_pos (by omega)]
    exact lvF_ix i hi' h.2 h1' fun hx => h2 (by simpa using hx)
theorem lv_ix {t : Tab} {a c : Int} (i : Nat) (hi : i < t.length) (h : Rise a t) (h1 : t[i].1 ≤ c) (h2 : ∀ h : i + 1 < t.length, c < t[i + 1].1) : lv t c = t[i].2 := lvF_ix i hi h h1 h2
theorem IsTab.rise {t : Tab} (h : IsTab t) : Rise (-1) t := by
  obtain ⟨m, r, rfl, _, k⟩ := h
  exact ⟨by show (-1 : Int) < 0; omega, k.rise⟩
theorem IsTab.ne {t : Tab} (h : IsTab t) : 0 < t.length := by
  obtain ⟨m, r, rfl, _, _⟩ := h
  simp
theorem IsTab.head {t : Tab} (h : IsTab t) : (t[0]'h.ne).1 = 0 := by
  obtain ⟨m, r, rfl, _, _⟩ := h
  rfl
theorem Rise.lt {a : Int} : ∀ {t : Tab} {i j : Nat} (hj : j < t.length) (hij : i < j), Rise a t → (t[i]'(by omega)).1 < t[j].1
  | [], _, _, hj, _, _ => by simp at hj
  | p :: r, 0, j + 1, hj, _, h => by
    have hj' : j < r.length := by simpa using hj
    exact h.2.all r[j] (List.getElem_mem hj')
  | p :: r, i + 1, j + 1, hj, hij, h => Rise.lt (t := r) (by simpa using hj) (by omega) h.2
  | p :: r, i, 0, _, hij, _ => by omega
theorem Rise.le {a : Int} {t : Tab} {i j : Nat} (hj : j < t.length) (hij : i ≤ j) (h : Rise a t) : (t[i]'(by omega)).1 ≤ t[j].1 := by
  rcases Nat.lt_or_eq_of_le hij with h1 | h1
  · exact Int.le_of_lt (h.lt hj h1)
  · subst h1; exact Int.le_refl _
/-- steps at which nothing changes left out -/
def lvl : Option Int → Tab → Tab
  | _, [] => []
  | l, p :: r => if l = some p.2 then lvl l r else p :: lvl (some p.2) r
theorem lvl_can : ∀ {t : Tab} {a l : Int}, Rise a t → (∀ p ∈ t, 0 ≤ p.2) → Can a l (lvl (some l) t)
  | [], _, _, _, _ => trivial
  | p :: r, a, l, h, hn => by
    have hn' : ∀ q ∈ r, 0 ≤ q.2 := fun q hq => hn q (List.mem_cons_of_mem _ hq)
    have hp := h.1
    unfold lvl
    split
    · exact lvl_can (h.2.mono (by omega)) hn'
    · rename_i hne
      exact ⟨hp, fun e => hne (by rw [e]), hn p List.mem_cons_self, lvl_can h.2 hn'⟩
theorem lvl_lv : ∀ {t : Tab} {a m c : Int}, Rise a t → lvF m (lvl (some m) t) c = lvF m t c
  | [], _, _, _, _ => rfl
  | p :: r, a, m, c, h => by
    unfold lvl
    split
    · rename_i e
      have e : m = p.2 := Option.some.inj e
      rw [lvl_lv h.2]
      show _ = (if p.1 ≤ c then lvF p.2 r c else m)
      split
      · rw [e]
      · rename_i hc
        exact lvF_low h.2 (by omega)
    · show (if p.1 ≤ c then lvF p.2 (lvl (some p.2) r) c else m) = (if p.1 ≤ c then lvF p.2 r c else m)
      rw [lvl_lv h.2]
theorem lvl_tab {m : Int} {r : Tab} (hm : 0 ≤ m) (h : Rise 0 r) (hn : ∀ p ∈ r, 0 ≤ p.2) : TabOf (lvl none ((0, m) :: r)) (lv ((0, m) :: r)) := by
  have e : lvl none ((0, m) :: r) = (0, m) :: lvl (some m) r := by
    show (if (none : Option Int) = some m then lvl none r else (0, m) :: lvl (some m) r) = _
    rw [if_neg (fun z => nomatch z)]
  rw [e]
  refine ⟨⟨m, _, rfl, hm, lvl_can h hn⟩, fun c hc => ?_⟩
  rw [lv_head _ _ hc, lv_head _ _ hc, lvl_lv h]
/-- what holds at points, nothing changing between them -/
def ptsT (f : Int → Int) (ps : List Int) : Tab := ps.map fun c => (c, f c)
theorem ptsT_rise {f : Int → Int} : ∀ {ps : List Int} {a : Int}, (a :: ps).Pairwise (· < ·) → Rise a (ptsT f ps)
  | [], _, _ => trivial
  | p :: ps, a, h => by
    obtain ⟨h1, h2⟩ := List.pairwise_cons.mp h
    exact ⟨h1 p List.mem_cons_self, ptsT_rise h2⟩
theorem ptsT_lv {f : Int → Int} : ∀ {ps : List Int} {a c : Int}, (a :: ps).Pairwise (· < ·) → a ≤ c → (∀ p ∈ a :: ps, p ≤ c → (∀ q ∈ a :: ps, p < q → c < q) → f c = f p) → lvF (f a) (ptsT f ps) c = f c
  | [], a, c, _, hc, h => (h a List.mem_cons_self hc (by simp)).symm
  | p :: ps, a, c, hs, hc, h => by
    obtain ⟨h1, h2⟩ := List.pairwise_cons.mp hs
    show (if p ≤ c then lvF (f p) (ptsT f ps) c else f a) = f c
    split
    · rename_i hp
      refine ptsT_lv h2 hp fun q hq hqc hn => h q (List.mem_cons_of_mem _ hq) hqc fun z hz hzq => ?_
      rcases List.mem_cons.mp hz with rfl | hz
      · have := h1 q hq
        omega
      · exact hn z hz hzq
    · rename_i hp
      refine (h a List.mem_cons_self hc fun q hq hqa => ?_).symm
      rcases List.mem_cons.mp hq with rfl | hq
      · omega
      · have : p ≤ q := by
          rcases List.mem_cons.mp hq with rfl | hq
          · omega
          · have := (List.pairwise_cons.mp h2).1 q hq
            omega
        omega
theorem pts_tab {f : Int → Int} {ps : List Int} (hs : (0 :: ps).Pairwise (· < ·)) (hn : ∀ p ∈ 0 :: ps, 0 ≤ f p) (h : ∀ c, 0 ≤ c → ∀ p ∈ 0 :: ps, p ≤ c → (∀ q ∈ 0 :: ps, p < q → c < q) → f c = f p) :
    TabOf (lvl none (ptsT f (0 :: ps))) f := by
  have e : ptsT f (0 :: ps) = (0, f 0) :: ptsT f ps := rfl
  rw [e]
  refine (lvl_tab (hn 0 List.mem_cons_self) (ptsT_rise hs) fun p hp => ?_).congr fun c hc => ?_
  · obtain ⟨q, hq, rfl⟩ := List.mem_map.mp hp
    exact hn q (List.mem_cons_of_mem _ hq)
  · rw [lv_head _ _ hc]
    exact ptsT_lv hs hc fun p hp hpc hq => h c hc p hp hpc hq
/-- a while loop by its invariant -/
theorem whP_by {S T : Type} {c : S → Option Bool} {f : S → Option (Ct S T)} (I : S → Prop) (m : S → Nat) (Q : S → Prop)
    (hs : ∀ s, I s → (c s = some false ∧ Q s) ∨ (c s = some true ∧ ∃ s', f s = some (.nx s') ∧ I s' ∧ m s' < m s)) : ∀ (n : Nat) (s : S), I s → m s < n → ∃ s', whP c f n s = some (.nx s') ∧ Q s'
  | 0, s, _, h => by omega
  | n + 1, s, hi, h => by
    rcases hs s hi with ⟨h1, h2⟩ | ⟨h1, s', h2, h3, h4⟩
    · exact ⟨s, by simp [whP, h1], h2⟩
    · obtain ⟨s2, e, q⟩ := whP_by I m Q hs n s' h3 (by omega)
      exact ⟨s2, by simp [whP, h1, h2, e], q⟩
end Y
namespace Y
open PySem PL L2
variable [PL.Kap]
/-! ### dicts of numbers, typed -/
abbrev Dct := List (Int × Int)
def dcL (kv : Dct) : List (D × D) := kv.map fun p => (.int p.1, .int p.2)
def dcD (kv : Dct) : D := .dict (dcL kv)
@[simp] theorem dcL_len (kv : Dct) : (dcL kv).length = kv.length := by simp [dcL]
def lookI : Dct → Int → Option Int
  | [], _ => none
  | p :: r, i => if p.1 = i then some p.2 else lookI r i
def keysI (kv : Dct) : List Int := kv.map (·.1)
def sumI (kv : Dct) (c : Int) : Int := (kv.map fun p => if p.1 ≤ c then p.2 else 0).sum
def updI (kv : Dct) (k : Int) (f : Int → Int) : Dct := match kv with
  | [] => [(k, f 0)]
  | p :: r => if p.1 = k then (p.1, f p.2) :: r else p :: updI r k f
theorem look_dc : ∀ (kv : Dct) (i : Int), lookD (dcL kv) i = (lookI kv i).map PyData.int
  | [], _ => rfl
  | p :: r, i => by
    show (if decide (p.1 = i) = true then some (PyData.int p.2) else lookD (dcL r) i) = (if p.1 = i then some p.2 else lookI r i).map PyData.int
    rw [look_dc r i]
    by_cases h : p.1 = i <;> simp [h]
theorem getD_dc (kv : Dct) (i : Int) : (lookD (dcL kv) i).getD (.int 0) = .int ((lookI kv i).getD 0) := by
  rw [look_dc]
  cases lookI kv i <;> rfl
theorem any_dc : ∀ (kv : Dct) (k : Int), ((dcL kv).any fun p => isKI p.1 k) = decide (k ∈ keysI kv)
  | [], _ => rfl
  | p :: r, k => by
    show (decide (p.1 = k) || (dcL r).any fun p => isKI p.1 k) = decide (k ∈ p.1 :: keysI r)
    rw [any_dc r k]
    by_cases h : p.1 = k
    · simp [h]
    · have h' : ¬ k = p.1 := fun z => h z.symm
      simp [h, h']
theorem map_dc (k v : Int) : ∀ (kv : Dct), k ∉ keysI kv → (dcL kv).map (fun p => if isKI p.1 k = true then (p.1, PyData.int v) else p) = dcL kv
  | [], _ => rfl
  | p :: r, h => by
    have h1 : ¬ p.1 = k := fun z => h (by rw [← z]; exact List.mem_cons_self)
    have h2 : k ∉ keysI r := fun z => h (List.mem_cons_of_mem _ z)
    have ih := map_dc k v r h2
    show (if decide (p.1 = k) = true then (PyData.int p.1, PyData.int v) else (.int p.1, .int p.2)) :: (dcL r).map _ = _
    rw [ih]
    simp [h1]
    rfl
theorem put_dc (f : Int → Int) : ∀ (kv : Dct) (k : Int), (keysI kv).Nodup → putD (dcL kv) k (.int (f ((lookI kv k).getD 0))) = dcL (updI kv k f)
  | [], k, _ => rfl
  | p :: r, k, hn => by
    obtain ⟨h1, h2⟩ := List.nodup_cons.mp hn
    unfold putD
    rw [any_dc]
    by_cases h : p.1 = k
    · have hm : k ∈ keysI (p :: r) := by rw [← h]; exact List.mem_cons_self
      rw [decide_eq_true hm, if_pos rfl]
      have e : lookI (p :: r) k = some p.2 := by show (if p.1 = k then some p.2 else _) = _; rw [if_pos h]
      rw [e]
      show (if decide (p.1 = k) = true then (PyData.int p.1, PyData.int (f p.2)) else (.int p.1, .int p.2)) :: (dcL r).map _ = dcL (if p.1 = k then (p.1, f p.2) :: r else p :: updI r k f)
      rw [if_pos (decide_eq_true h), if_pos h, map_dc k _ r (by rw [← h]; exact h1)]
      rfl
    · have e : lookI (p :: r) k = lookI r k := by show (if p.1 = k then some p.2 else _) = _; rw [if_neg h]
      have e2 : updI (p :: r) k f = p :: updI r k f := by show (if p.1 = k then _ else _) = _; rw [if_neg h]
      have ih := put_dc f r k h2
      unfold putD at ih
      rw [any_dc] at ih
      rw [e, e2]
      have hk : ¬ k = p.1 := fun z => h z.symm
      by_cases hm : k ∈ keysI r
      · rw [decide_eq_true hm, if_pos rfl] at ih
        have hm' : k ∈ keysI (p :: r) := List.mem_cons_of_mem _ hm
        rw [decide_eq_true hm', if_pos rfl]
        show (if decide (p.1 = k) = true then (PyData.int p.1, _) else (PyData.int p.1, PyData.int p.2)) :: (dcL r).map _ = (PyData.int p.1, PyData.int p.2) :: dcL (updI r k f)
        rw [ih]
        simp [h]
      · rw [decide_eq_false hm, if_neg Bool.false_ne_true] at ih
        have hm' : k ∉ keysI (p :: r) := fun z => by
          rcases List.mem_cons.mp z with z | z
          · exact hk z
          · exact hm z
        rw [decide_eq_false hm', if_neg Bool.false_ne_true]
        show (PyData.int p.1, PyData.int p.2) :: (dcL r ++ _) = (PyData.int p.1, PyData.int p.2) :: dcL (updI r k f)
        rw [ih]
theorem sum_upd (d : Int) (c : Int) : ∀ (kv : Dct) (k : Int), sumI (updI kv k (· + d)) c = sumI kv c + if k ≤ c then d else 0
  | [], k => by
    show (if k ≤ c then 0 + d else 0) + 0 = 0 + _
    split <;> omega
  | p :: r, k => by
    have ih := sum_upd d c r k
    show sumI (if p.1 = k then (p.1, p.2 + d) :: r else p :: updI r k (· + d)) c = (if p.1 ≤ c then p.2 else 0) + sumI r c + _
    by_cases h : p.1 = k
    · rw [if_pos h]
      show (if p.1 ≤ c then p.2 + d else 0) + sumI r c = _
      rw [h]
      split <;> omega
    · rw [if_neg h]
      show (if p.1 ≤ c then p.2 else 0) + sumI (updI r k (· + d)) c = _
      rw [ih]
      omega
theorem upd_mem (f : Int → Int) (k j : Int) : ∀ (kv : Dct), j ∈ keysI (updI kv k f) ↔ j = k ∨ j ∈ keysI kv
  | [] => by show j ∈ [k] ↔ j = k ∨ j ∈ []; simp
  | p :: r => by
    have ih := upd_mem f k j r
    show j ∈ keysI (if p.1 = k then (p.1, f p.2) :: r else p :: updI r k f) ↔ j = k ∨ j ∈ p.1 :: keysI r
    by_cases h : p.1 = k
    · rw [if_pos h]
      show j ∈ p.1 :: keysI r ↔ _
      rw [List.mem_cons, h]
      constructor
      · rintro (z | z)
        · exact .inl z
        · exact .inr (.inr z)
      · rintro (z | z | z)
        · exact .inl z
        · exact .inl z
        · exact .inr z
    · rw [if_neg h]
      show j ∈ p.1 :: keysI (updI r k f) ↔ _
      rw [List.mem_cons, List.mem_cons, ih]
      constructor
      · rintro (z | z | z)
        · exact .inr (.inl z)
        · exact .inl z
        · exact .inr (.inr z)
      · rintro (z | z | z)
        · exact .inr (.inl z)
        · exact .inl z
        · exact .inr (.inr z)
theorem upd_nodup (f : Int → Int) (k : Int) : ∀ (kv : Dct), (keysI kv).Nodup → (keysI (updI kv k f)).Nodup
  | [], _ => by show [k].Nodup; simp
  | p :: r, h => by
    obtain ⟨h1, h2⟩ := List.nodup_cons.mp h
    show (keysI (if p.1 = k then (p.1, f p.2) :: r else p :: updI r k f)).Nodup
    by_cases he : p.1 = k
    · rw [if_pos he]; exact h
    · rw [if_neg he]
      refine List.nodup_cons.mpr ⟨fun z => ?_, upd_nodup f k r h2⟩
      rcases (upd_mem f k p.1 r).mp z with z | z
      · exact he z
      · exact h1 z
theorem upd_len (f : Int → Int) (k : Int) : ∀ (kv : Dct), (updI kv k f).length ≤ kv.length + 1
  | [] => Nat.le_refl _
  | p :: r => by
    have := upd_len f k r
    show (if p.1 = k then (p.1, f p.2) :: r else p :: updI r k f).length ≤ _
    split
    · simp
    · simp; omega
/-- between keys nothing changes -/
theorem sum_const {a x : Int} (hax : a ≤ x) : ∀ (kv : Dct), (∀ k ∈ keysI kv, k ≤ a ∨ x < k) → sumI kv x = sumI kv a
  | [], _ => rfl
  | p :: r, h => by
    have ih := sum_const hax r fun k hk => h k (List.mem_cons_of_mem _ hk)
    have hp := h p.1 List.mem_cons_self
    show (if p.1 ≤ x then p.2 else 0) + sumI r x = (if p.1 ≤ a then p.2 else 0) + sumI r a
    rw [ih]
    rcases hp with hp | hp
    · rw [if_pos (by omega), if_pos hp]
    · rw [if_neg (by omega), if_neg (by omega)]
theorem sum_step {a x : Int} (hax : a < x) : ∀ (kv : Dct), (keysI kv).Nodup → (∀ k ∈ keysI kv, k ≤ a ∨ x ≤ k) → sumI kv x = sumI kv a + (lookI kv x).getD 0
  | [], _, _ => by show (0 : Int) = 0 + 0; omega
  | p :: r, hn, h => by
    obtain ⟨h1, h2⟩ := List.nodup_cons.mp hn
    have hp := h p.1 List.mem_cons_self
    have hr : ∀ k ∈ keysI r, k ≤ a ∨ x ≤ k := fun k hk => h k (List.mem_cons_of_mem _ hk)
    show (if p.1 ≤ x then p.2 else 0) + sumI r x = (if p.1 ≤ a then p.2 else 0) + sumI r a + (if p.1 = x then some p.2 else lookI r x).getD 0
    by_cases he : p.1 = x
    · have : sumI r x = sumI r a := sum_const (by omega) r fun k hk => by
        rcases hr k hk with z | z
        · exact .inl z
        · refine .inr (Int.lt_iff_le_and_ne.mpr ⟨z, fun e => h1 (show p.1 ∈ keysI r by rw [he, e]; exact hk)⟩)
      rw [if_pos he, this, if_pos (by omega), if_neg (by omega)]
      show p.2 + sumI r a = 0 + sumI r a + p.2
      omega
    · rw [if_neg he, sum_step hax r h2 hr]
      rcases hp with hp | hp
      · rw [if_pos (by omega), if_pos hp]; omega
      · rw [if_neg (by omega), if_neg (by omega)]; omega
theorem sum_low {c : Int} : ∀ (kv : Dct), (∀ k ∈ keysI kv, c < k) → sumI kv c = 0
  | [], _ => rfl
  | p :: r, h => by
    have ih := sum_low r fun k hk => h k (List.mem_cons_of_mem _ hk)
    show (if p.1 ≤ c then p.2 else 0) + sumI r c = 0
    rw [ih, if_neg (by have := h p.1 List.mem_cons_self; omega)]
    omega
theorem keys_dc : ∀ (kv : Dct), keyInts (dcL kv) = some (keysI kv)
  | [] => rfl
  | p :: r => by
    show (keyInts (dcL r)).map (p.1 :: ·) = _
    rw [keys_dc r]; rfl
theorem sorted_lt {ns : List Int} (h : ns.Nodup) : (sortI ns).Pairwise (· < ·) := by
  have h1 := sortI_le ns
  have h2 : (sortI ns).Nodup := (sortI_perm ns).nodup_iff.mpr h
  exact (List.pairwise_and_iff.mpr ⟨h1, h2⟩).imp fun ⟨x, y⟩ => by omega
/-- the points of a dict's changes -/
def ptsOf (kv : Dct) : List Int := (sortI (keysI kv)).filter fun k => decide (0 < k)
theorem dct_tab {kv : Dct} (hn : (keysI kv).Nodup) (h0 : ∀ c, 0 ≤ c → 0 ≤ sumI kv c) : TabOf (lvl none (ptsT (sumI kv) (0 :: ptsOf kv))) (sumI kv) := by
  refine pts_tab ?_ (fun p hp => h0 p ?_) fun c hc p hp hpc hq => ?_
  · refine List.pairwise_cons.mpr ⟨fun q hq => ?_, ((sorted_lt hn).sublist List.filter_sublist)⟩
    have := (List.mem_filter.mp hq).2
    simpa using this
  · rcases List.mem_cons.mp hp with rfl | hp
    · omega
    · have := (List.mem_filter.mp hp).2
      simp at this
      omega
  · refine sum_const hpc kv fun k hk => ?_
    by_cases hkp : k ≤ p
    · exact .inl hkp
    · refine .inr (hq k (List.mem_cons_of_mem _ (List.mem_filter.mpr ⟨(sortI_perm _).mem_iff.mpr hk, ?_⟩)) (by omega))
      have : 0 ≤ p := by
        rcases List.mem_cons.mp hp with rfl | hp
        · omega
        · have := (List.mem_filter.mp hp).2
          simp at this
          omega
      simp; omega
end Y
namespace Y
open PySem PL L2
variable [PL.Kap]
abbrev Say := Int × Option Int
def mostD : Option Int → D
  | none => .none
  | some m => .int m
@[simp] theorem mostD_none : mostD none = .none := rfl
@[simp] theorem mostD_some (m : Int) : mostD (some m) = .int m := rfl
def sayD (s : Say) : D := .tuple [.int s.1, mostD s.2]
def okSay (s : Say) : Prop := 0 ≤ s.1 ∧ ∀ m, s.2 = some m → s.1 ≤ m
def rowD (r : List Say) : List D := r.map sayD
@[simp] theorem rowD_len (r : List Say) : (rowD r).length = r.length := by simp [rowD]
theorem rowD_drop (r : List Say) (i : Nat) : (rowD r).drop i = rowD (r.drop i) := by simp [rowD]
theorem pe_is_number (i : Int) : p_is_number (.int i) = some (.bool (decide (0 ≤ i))) := by
  unfold p_is_number
  simp
theorem row_item (s : Say) (h : okSay s) : p_is_row_b1 (sayD s) = some (.nx ()) := by
  obtain ⟨l, m⟩ := s
  obtain ⟨h1, h2⟩ := h
  simp only at h1
  have h3 : ¬ l < 0 := by omega
  unfold p_is_row_b1
  cases m with
  | none => simp [sayD, h3]
  | some m =>
    have := h2 m rfl
    simp only at this
    have h4 : ¬ m < l := by omega
    simp [sayD, h3, h4]
theorem pe_is_row {d : D} {k : Bool} {r : List Say} (hd : itemsD d = some (k, rowD r)) (h : ∀ s ∈ r, okSay s) : p_is_row d = some (.bool true) := by
  have loop := forP_enc (f := fun x _ => p_is_row_b1 x) (T := D) (e := sayD) (xs := r) (s := ()) (fun _ _ => True) trivial (by
    rintro pre s post ⟨⟩ rfl -
    exact ⟨(), row_item s (h s (by simp)), trivial⟩)
  obtain ⟨⟨⟩, e, -⟩ := loop
  have e' : forP (T := D) (fun x _ => p_is_row_b1 x) (rowD r) () = some (.nx ()) := e
  unfold p_is_row
  cases d <;> simp [itemsD] at hd <;> simp [hd.2, e']
theorem pe_need_row {d : D} {k : Bool} {r : List Say} (hd : itemsD d = some (k, rowD r)) (h : ∀ s ∈ r, okSay s) : p_need_row d = some .none := by
  unfold p_need_row
  simp [pe_is_row hd h]
theorem pe_need_number {i : Int} (h : 0 ≤ i) : p_need_number (.int i) = some .none := by
  unfold p_need_number
  simp [pe_is_number, h]
theorem len_row {d : D} {k : Bool} {r : List Say} (hd : itemsD d = some (k, rowD r)) : gLen [d] = some (.int r.length) := by
  cases d <;> simp [itemsD] at hd <;> simp [hd.2]
theorem pe_need_place {i n : Int} (h : 0 ≤ i) (h2 : i < n) : p_need_place (.int i) (.int n) = some .none := by
  unfold p_need_place
  have h3 : ¬ n ≤ i := by omega
  simp [pe_is_number, h, h3]
def intsD (is : List Int) : List D := is.map PyData.int
def boolsD (bs : List Bool) : List D := bs.map PyData.bool
@[simp] theorem intsD_len (is : List Int) : (intsD is).length = is.length := by simp [intsD]
@[simp] theorem boolsD_len (is : List Bool) : (boolsD is).length = is.length := by simp [boolsD]
theorem cut_from (ds : List D) (i : Nat) (h : i ≤ ds.length) : cutD ds (some (i : Int)) none = ds.drop i := by
  unfold cutD
  rw [HT.sIx_nat, HT.sIx_none, Nat.min_eq_left h]
  exact List.take_of_length_le (by simp)
theorem ix_nat {ds : List D} {i : Nat} {d : D} (h : ds[i]? = some d) : atI ds (i : Int) = some d := atI_nat h
theorem rng_mem {lo hi : Int} {d : D} (h : d ∈ rngD lo hi) : ∃ i : Int, d = .int i ∧ lo ≤ i ∧ i < hi := by
  unfold rngD at h
  obtain ⟨k, hk, rfl⟩ := List.mem_map.mp h
  rw [List.mem_range] at hk
  exact ⟨_, rfl, by omega, by omega⟩
theorem rng_len (lo hi : Int) : (rngD lo hi).length = (hi - lo).toNat := by simp [rngD]
def trueS (s : Say) (c : Int) : Bool := decide (s.1 ≤ c) && (match s.2 with
  | none => true
  | some m => decide (c ≤ m))
def b2i (b : Bool) : Int := if b then 1 else 0
def tot : List Say → Int → Int
  | [], c => c
  | s :: r, c => tot r c + b2i (trueS s (tot r c))
def TinOk (t : D) (n : Nat) : Prop := ∃ a b c : Int, t = .list [.int a, .int b, .int c] ∧ 0 ≤ a ∧ b.natAbs < 2 ^ 200 ∧ 0 ≤ c ∧ c ≤ n
theorem TinOk.mono {t : D} {n m : Nat} (h : TinOk t n) (hm : n ≤ m) : TinOk t m := by
  obtain ⟨a, b, c, e, h1, h2, h3, h4⟩ := h
  exact ⟨a, b, c, e, h1, h2, h3, by omega⟩
theorem log_lt {x : Nat} {k : Nat} (h : x < 2 ^ k) (hk : 0 < k) : x.log2 < k := PySem.Flt.log2_lt_of hk h
theorem natAbs_mul_lt {i j : Int} {a b : Nat} (ha : i.natAbs < 2 ^ a) (hb : j.natAbs < 2 ^ b) : (i * j).natAbs < 2 ^ (a + b) := wide_lt ha hb
theorem natAbs_add_lt {i j : Int} {a : Nat} (ha : i.natAbs < 2 ^ a) (hb : j.natAbs < 2 ^ a) : (i + j).natAbs < 2 ^ (a + 1) := by
  have : (i + j).natAbs ≤ i.natAbs + j.natAbs := Int.natAbs_add_le i j
  rw [Nat.pow_succ]; omega
theorem pow_ok {i j : Int} (h0 : 0 ≤ j) (h1 : j ≤ 64) (h : i.natAbs < 2 ^ 250) : cPowW i j = true := by
  simp only [cPowW, Bool.and_eq_true, decide_eq_true_eq]
  exact ⟨⟨h0, h1⟩, Nat.lt_trans (log_lt h (by decide)) (by decide)⟩
theorem mulW_ok {i j : Int} {a b : Nat} (ha : i.natAbs < 2 ^ a) (hb : j.natAbs < 2 ^ b) (h0 : 0 < a) (h1 : 0 < b) (h : a + b ≤ 1000000) : cMulW i j = true := by
  simp only [cMulW, decide_eq_true_eq]
  exact wide_mul ha hb h0 h1 h
theorem divW_ok {i j : Int} {b : Nat} (h : 0 < j) (hb : j.natAbs < 2 ^ b) (h0 : 0 < b) (h9 : b ≤ 9000) : cDivW i j = true := by
  simp only [cDivW, Bool.and_eq_true, decide_eq_true_eq]
  exact wide_div (i := i) h hb h0 h9
theorem mod_ok {i j : Int} (h : 0 < j) : cMod i j = true := by simp [cMod, h]
theorem mod_rng (x : Int) {w : Int} (h : 0 < w) : 0 ≤ x % w ∧ x % w < w := ⟨Int.emod_nonneg _ (by omega), Int.emod_lt_of_pos _ h⟩
def okB (B : Int) (s : Say) : Prop := okSay s ∧ s.1 < B ∧ ∀ m, s.2 = some m → m < B
theorem okB.mono {B C : Int} {s : Say} (h : okB B s) (hc : B ≤ C) : okB C s := ⟨h.1, by have := h.2.1; omega, fun m hm => by have := h.2.2 m hm; omega⟩
/-- an item of a written list at a drawn place -/
theorem at_mem {ds : List D} {i : Int} (h0 : 0 ≤ i) (h1 : i < ds.length) : ∃ d, atI ds i = some d ∧ d ∈ ds := by
  obtain ⟨k, rfl⟩ := Int.eq_ofNat_of_zero_le h0
  have h : k < ds.length := by omega
  exact ⟨ds[k], ix_nat (List.getElem?_eq_getElem h), List.getElem_mem h⟩
theorem atI_scr {ns : List Int} {k : Nat} (h : k < ns.length) : atI ns (k : Int) = some (ns[k]'h) := atI_nat (List.getElem?_eq_getElem h)
def mixP (b c : Int) : Int := ((b + 32452843 * c) ^ 3 % 10000000000000000000000000000000000043 + 49979687 * c) ^ 5 % 1000000000000000000000000000000000000003
theorem pe_pour (t : D) (n : Nat) (w : Int) (ht : TinOk t n) (hn : n < 2 ^ 40) (hw : 0 < w) (hw2 : w < 2 ^ 200) :
    ∃ r t', p_l_pour t (.int w) = some (.int r, t') ∧ 0 ≤ r ∧ r < w ∧ TinOk t' (n + 1) := by
  obtain ⟨a, b, c, rfl, ha, hb, hc, hcn⟩ := ht
  have hw3 : w.natAbs < 2 ^ 200 := by omega
  have e0 : ∀ x y z : D, atI [x, y, z] 0 = some x := fun _ _ _ => rfl
  have e1 : ∀ x y z : D, atI [x, y, z] 1 = some y := fun _ _ _ => rfl
  have e2 : ∀ x y z : D, atI [x, y, z] 2 = some z := fun _ _ _ => rfl
  have i0 : ixN 3 0 = some 0 := rfl
  have i2 : ixN 3 2 = some 2 := rfl
  by_cases h : 0 < a
  · refine ⟨a % w, .list [.int (a / w), .int b, .int c], ?_, (mod_rng a hw).1, (mod_rng a hw).2, _, b, c, rfl, Int.ediv_nonneg ha (by omega), hb, hc, by omega⟩
    unfold p_l_pour
    simp [e0, i0, h, mod_ok hw, divW_ok (i := a) hw hw3 (by omega) (by omega)]
  · have hc' : (c + 1).natAbs < 2 ^ 41 := by omega
    have k1 : (32452843 * (c + 1)).natAbs < 2 ^ (34 + 41) := natAbs_mul_lt (by decide) hc'
    have k2 : (b + 32452843 * (c + 1)).natAbs < 2 ^ (200 + 1) := natAbs_add_lt hb (Nat.lt_trans k1 (by decide))
    have m1 : (0 : Int) < 10000000000000000000000000000000000043 := by decide
    have r1 := mod_rng ((b + 32452843 * (c + 1)) ^ 3) m1
    have k3 : (((b + 32452843 * (c + 1)) ^ 3) % 10000000000000000000000000000000000043).natAbs < 2 ^ 200 := by
      have : (10000000000000000000000000000000000043 : Int) < 2 ^ 200 := by decide
      omega
    have k4 : (49979687 * (c + 1)).natAbs < 2 ^ (26 + 41) := natAbs_mul_lt (by decide) hc'
    have k5 := natAbs_add_lt k3 (Nat.lt_trans k4 (by decide))
    have e5 : ((49979687 : Int)).natAbs < 2 ^ 26 := by decide
    have e9 : ((32452843 : Int)).natAbs < 2 ^ 25 := by decide
    have q1 : cMulW 32452843 (c + 1) = true := mulW_ok e9 hc' (by omega) (by omega) (by omega)
    have q2 : cPowW (b + 32452843 * (c + 1)) 3 = true := pow_ok (by omega) (by omega) (Nat.lt_of_lt_of_le k2 (Nat.pow_le_pow_right (by omega) (by omega)))
    have q3 : cMulW 49979687 (c + 1) = true := mulW_ok e5 hc' (by omega) (by omega) (by omega)
    have q4 : cPowW ((b + 32452843 * (c + 1)) ^ 3 % 10000000000000000000000000000000000043 + 49979687 * (c + 1)) 5 = true := pow_ok (by omega) (by omega) (Nat.lt_of_lt_of_le k5 (Nat.pow_le_pow_right (by omega) (by omega)))
    have q5 : cPowW 10 37 = true := pow_ok (by omega) (by omega) (by decide)
    have q6 : cPowW 10 39 = true := pow_ok (by omega) (by omega) (by decide)
    have q7 : ∀ i : Int, cDivW i 131071 = true := fun i => divW_ok (b := 17) (by omega) (by decide) (by omega) (by omega)
    refine ⟨mixP b (c + 1) / 131071 % w, .list [.int a, .int b, .int (c + 1)], ?_, (mod_rng _ hw).1, (mod_rng _ hw).2, a, b, c + 1, rfl, ha, hb, by omega, by omega⟩
    unfold p_l_pour
    simp [e0, e1, e2, i0, i2, h, q1, q2, q3, q4, q5, q6, q7, mod_ok hw, mod_ok m1, mod_ok (show (0 : Int) < 1000000000000000000000000000000000000003 by decide), mixP]
theorem pe_jar (ns : List Int) (k : Nat) (hk : k ≤ 63) : ∃ t, p_l_jar ns (.int k) = some t ∧ TinOk t 0 := by
  have q5 : cPowW 10 18 = true := pow_ok (by omega) (by omega) (by decide)
  have q6 : cPowW 10 35 = true := pow_ok (by omega) (by omega) (by decide)
  have m0 : (0 : Int) < 100000000000000000000000000000000069 := by decide
  have core : ∀ cell : Int, TinOk (.list [.int (if cell - 1000000000000000000 > 0 then cell - 1000000000000000000 else 0), .int (cell % 100000000000000000000000000000000069 * 128 + k), .int 0]) 0 := by
    intro cell
    have m := mod_rng cell m0
    refine ⟨_, _, _, rfl, ?_, ?_, by omega, by omega⟩
    · split <;> omega
    · have : (100000000000000000000000000000000069 : Int) * 128 + 128 < 2 ^ 200 := by decide
      omega
  have q7 : ∀ cell : Int, cMulW (cell % 100000000000000000000000000000000069) 128 = true := by
    intro cell
    have m := mod_rng cell m0
    exact mulW_ok (a := 200) (b := 8) (by
      have : (100000000000000000000000000000000069 : Int) < 2 ^ 200 := by decide
      omega) (by decide) (by omega) (by omega) (by omega)
  by_cases h : k < ns.length
  · refine ⟨_, ?_, core ns[k]⟩
    unfold p_l_jar
    simp [h, atI_scr h, q5, q6, q7 ns[k], mod_ok m0]
  · refine ⟨_, ?_, core 0⟩
    unfold p_l_jar
    have := q7 0
    simp at this
    simp [h, q5, q6, this, mod_ok m0]
theorem pick3 (a b c : D) (i : Int) (h0 : 0 ≤ i) (h1 : i < 3) : atI [a, b, c] i = some a ∨ atI [a, b, c] i = some b ∨ atI [a, b, c] i = some c := by
  have : i = 0 ∨ i = 1 ∨ i = 2 := by omega
  rcases this with rfl | rfl | rfl
  · exact .inl rfl
  · exact .inr (.inl rfl)
  · exact .inr (.inr rfl)
theorem pe_number (t : D) (n : Nat) (w B : Int) (ht : TinOk t n) (hn : n + 4 < 2 ^ 40) (hw : 0 < w) (hw2 : w < 2 ^ 200) (hB : w ≤ B) (hB9 : 9 ≤ B) :
    ∃ r t', p_l_number t (.int w) = some (.int r, t') ∧ 0 ≤ r ∧ r < B ∧ TinOk t' (n + 4) := by
  obtain ⟨a, t1, e1, a0, a1, k1⟩ := pe_pour t n 3 ht (by omega) (by omega) (by decide)
  obtain ⟨b, t2, e2, b0, b1, k2⟩ := pe_pour t1 _ 9 k1 (by omega) (by omega) (by decide)
  obtain ⟨c, t3, e3, c0, c1, k3⟩ := pe_pour t2 _ w k2 (by omega) hw hw2
  obtain ⟨i, t4, e4, i0, i1, k4⟩ := pe_pour t3 _ 3 k3 (by omega) (by omega) (by decide)
  have fin : ∀ z : Int, (z = a ∨ z = b ∨ z = c) → 0 ≤ z ∧ z < B := by
    rintro z (rfl | rfl | rfl) <;> omega
  unfold p_l_number
  simp only [e1, v_bind2, e2, e3, e4, q_ix_l]
  rcases pick3 (.int a) (.int b) (.int c) i i0 i1 with h | h | h
  · exact ⟨a, t4, by rw [h]; rfl, (fin a (.inl rfl)).1, (fin a (.inl rfl)).2, k4⟩
  · exact ⟨b, t4, by rw [h]; rfl, (fin b (.inr (.inl rfl))).1, (fin b (.inr (.inl rfl))).2, k4⟩
  · exact ⟨c, t4, by rw [h]; rfl, (fin c (.inr (.inr rfl))).1, (fin c (.inr (.inr rfl))).2, k4⟩
theorem lcP_all {α S : Type} {f : D → S → Option (Option D × S)} {e : α → D} (I : Nat → S → Prop) (G : α → Prop) (M : Nat) (hs : ∀ x s n, n < M → I n s → ∃ a s', f x s = some (some (e a), s') ∧ G a ∧ I (n + 1) s') :
    ∀ (xs : List D) (s : S) (n : Nat), I n s → n + xs.length ≤ M → ∃ (as : List α) (s' : S), lcP f xs s = some (as.map e, s') ∧ as.length = xs.length ∧ (∀ a ∈ as, G a) ∧ I (n + xs.length) s'
  | [], s, n, h, _ => ⟨[], s, rfl, rfl, (fun a ha => by cases ha), h⟩
  | x :: xs, s, n, h, hl => by
    have hl' : n + (xs.length + 1) ≤ M := hl
    obtain ⟨a, s1, e1, g1, i1⟩ := hs x s n (by omega) h
    obtain ⟨as, s2, e2, l2, g2, i2⟩ := lcP_all I G M hs xs s1 (n + 1) i1 (by omega)
    refine ⟨a :: as, s2, ?_, by simp [l2], fun b hb => ?_, ?_⟩
    · show (f x s).bind _ = _
      rw [e1, Option.bind_some]
      show (lcP f xs s1).bind _ = _
      rw [e2]; rfl
    · rcases List.mem_cons.mp hb with rfl | hb
      · exact g1
      · exact g2 b hb
    · have : n + 1 + xs.length = n + (x :: xs).length := by simp; omega
      rw [this] at i2; exact i2
theorem lcT_all {α S : Type} {f : D → S → Option (Option D × S)} {e : α → D} (I : Nat → S → Prop) (G : α → Prop) (M : Nat) (hs : ∀ x s n, n < M → I n s → ∃ a s', f x s = some (some (e a), s') ∧ G a ∧ I (n + 1) s')
    (xs : List D) (s : S) (h : I 0 s) (hl : xs.length ≤ M) (hM : M ≤ 100000) : ∃ (as : List α) (s' : S), lcT f xs s = some (as.map e, s') ∧ as.length = xs.length ∧ (∀ a ∈ as, G a) ∧ I xs.length s' := by
  obtain ⟨as, s', e1, l1, g1, i1⟩ := lcP_all I G M hs xs s 0 h (by omega)
  refine ⟨as, s', ?_, l1, g1, by simpa using i1⟩
  unfold lcT
  rw [e1, Option.bind_some, if_pos (by simp; omega)]
theorem pe_l_saying (t : D) (n : Nat) (w B : Int) (ht : TinOk t n) (hn : n + 9 < 2 ^ 40) (hw : 0 < w) (hw2 : w < 2 ^ 200) (hB : w ≤ B) (hB9 : 9 ≤ B) :
    ∃ s t', p_l_saying t (.int w) = some (sayD s, t') ∧ okB (B + B) s ∧ TinOk t' (n + 9) := by
  obtain ⟨a, t1, e1, a0, a1, k1⟩ := pe_number t n w B ht (by omega) hw hw2 hB hB9
  obtain ⟨b, t2, e2, b0, b1, k2⟩ := pe_number t1 _ w B k1 (by omega) hw hw2 hB hB9
  obtain ⟨i, t3, e3, i0, i1, k3⟩ := pe_pour t2 _ 5 k2 (by omega) (by omega) (by decide)
  obtain ⟨d, ed, hd⟩ := at_mem (ds := [PyData.int (a + b), .int (a + b), .int (a + b), .int (a + b), .none]) (i := i) i0 (by simpa using i1)
  have key : ∃ m : Option Int, d = mostD m ∧ okB (B + B) (a, m) := by
    simp only [List.mem_cons, List.not_mem_nil, or_false] at hd
    rcases hd with rfl | rfl | rfl | rfl | rfl
    · exact ⟨some (a + b), rfl, ⟨a0, by intro m hm; cases hm; show a ≤ a + b; omega⟩, by show a < B + B; omega, by intro m hm; cases hm; omega⟩
    · exact ⟨some (a + b), rfl, ⟨a0, by intro m hm; cases hm; show a ≤ a + b; omega⟩, by show a < B + B; omega, by intro m hm; cases hm; omega⟩
    · exact ⟨some (a + b), rfl, ⟨a0, by intro m hm; cases hm; show a ≤ a + b; omega⟩, by show a < B + B; omega, by intro m hm; cases hm; omega⟩
    · exact ⟨some (a + b), rfl, ⟨a0, by intro m hm; cases hm; show a ≤ a + b; omega⟩, by show a < B + B; omega, by intro m hm; cases hm; omega⟩
    · exact ⟨none, rfl, ⟨a0, by intro m hm; cases hm⟩, by show a < B + B; omega, by intro m hm; cases hm⟩
  obtain ⟨m, rfl, hm⟩ := key
  refine ⟨(a, m), t3, ?_, hm, k3⟩
  unfold p_l_saying
  simp only [e1, v_bind2, e2, v_addV, v_bind1, e3, q_ix_l, ed]
  rfl
theorem pe_l_row (t : D) (n : Nat) (p w B : Int) (ht : TinOk t n) (hn : n + 3000 < 2 ^ 40) (hp : 0 ≤ p) (hp2 : p ≤ 300) (hw : 0 < w) (hw2 : w < 2 ^ 200) (hB : w ≤ B) (hB9 : 9 ≤ B) :
    ∃ r t', p_l_row t (.int p) (.int w) = some (.list (rowD r), t') ∧ (∀ s ∈ r, okB (B + B) s) ∧ (r.length : Int) ≤ p ∧ TinOk t' (n + 2720) := by
  obtain ⟨k, t1, e1, k0, k1, h1⟩ := pe_pour t n (p + 1) ht (by omega) (by omega) (by omega)
  obtain ⟨as, t2, e2, l2, g2, i2⟩ := lcT_all (f := fun x s => p_l_row_c1 (.int w) x s) (e := sayD) (fun m s => TinOk s (n + 1 + 9 * m)) (okB (B + B)) 300 (by
    intro x s m hm hs
    obtain ⟨a, s', e, g, i⟩ := pe_l_saying s _ w B hs (by omega) hw hw2 hB hB9
    refine ⟨a, s', ?_, g, i.mono (by omega)⟩
    unfold p_l_row_c1
    simp only [e, v_bind2]) (rngD 0 k) t1 (by simpa using h1) (by rw [rng_len]; omega) (by omega)
  rw [rng_len] at l2 i2
  have sm : small62 k = true := by simp [small62]; omega
  refine ⟨as, t2, ?_, g2, by omega, i2.mono (by omega)⟩
  unfold p_l_row
  simp only [v_addV, v_bind1, e1, v_bind2, v_rng1P, sm, if_true, e2]
  rfl
def stepD (p : Int × Int) : D := .tuple [.int p.1, .int p.2]
def tabL (t : Tab) : List D := t.map stepD
@[simp] theorem tabL_len (t : Tab) : (tabL t).length = t.length := by simp [tabL]
def wb : List Say → Int → Int
  | [], w => w
  | s :: r, w => wb r (if s.1 < w ∧ (∀ m, s.2 = some m → w ≤ m + 1) then w - 1 else w)
theorem wb_iff : ∀ (r : List Say) (w c : Int), wb r w ≤ c ↔ w ≤ tot r c
  | [], _, _ => Iff.rfl
  | s :: r, w, c => by
    show wb r _ ≤ c ↔ w ≤ tot r c + b2i (trueS s (tot r c))
    rw [wb_iff r]
    obtain ⟨l, m⟩ := s
    cases m with
    | none =>
      have e : (∀ x : Int, (none : Option Int) = some x → w ≤ x + 1) ↔ True := ⟨fun _ => trivial, fun _ x h => by cases h⟩
      simp only [e, and_true]
      by_cases h : l < w
      · rw [if_pos h]
        by_cases h2 : l ≤ tot r c <;> simp [trueS, b2i, h2] <;> omega
      · rw [if_neg h]
        by_cases h2 : l ≤ tot r c <;> simp [trueS, b2i, h2] <;> omega
    | some m =>
      have e : (∀ x : Int, some m = some x → w ≤ x + 1) ↔ w ≤ m + 1 := ⟨fun h => h m rfl, fun h x hx => by cases hx; exact h⟩
      simp only [e]
      by_cases h : l < w ∧ w ≤ m + 1
      · rw [if_pos h]
        by_cases h2 : l ≤ tot r c <;> by_cases h3 : tot r c ≤ m <;> simp [trueS, b2i, h2, h3] <;> omega
      · rw [if_neg h]
        by_cases h2 : l ≤ tot r c <;> by_cases h3 : tot r c ≤ m <;> simp [trueS, b2i, h2, h3] <;> omega
theorem wb_nn : ∀ (r : List Say) (w : Int), (∀ s ∈ r, okSay s) → 0 ≤ w → 0 ≤ wb r w
  | [], _, _, h => h
  | s :: r, w, ho, h => by
    refine wb_nn r _ (fun t ht => ho t (List.mem_cons_of_mem _ ht)) ?_
    have := (ho s List.mem_cons_self).1
    split
    · rename_i hh; have := hh.1; omega
    · exact h
theorem wb_near : ∀ (r : List Say) (w : Int), ∃ k : Nat, k ≤ r.length ∧ wb r w = w - k
  | [], w => ⟨0, Nat.le_refl _, by show w = _; omega⟩
  | s :: r, w => by
    show ∃ k : Nat, k ≤ r.length + 1 ∧ wb r _ = w - k
    split
    · obtain ⟨k, hk, e⟩ := wb_near r (w - 1)
      exact ⟨k + 1, by omega, by rw [e]; omega⟩
    · obtain ⟨k, hk, e⟩ := wb_near r w
      exact ⟨k, by omega, e⟩
theorem wb_turn (s : Say) (w : Int) : p_wish_behind_b1 (sayD s) (.int w) = some (.int (if s.1 < w ∧ (∀ m, s.2 = some m → w ≤ m + 1) then w - 1 else w)) := by
  obtain ⟨l, m⟩ := s
  unfold p_wish_behind_b1
  cases m with
  | none => by_cases h : l < w <;> simp [sayD, h]
  | some m => by_cases h : l < w <;> by_cases h2 : w ≤ m + 1 <;> simp [sayD, h, h2]
theorem pe_wish_behind {d : D} {k : Bool} {r : List Say} (w : Int) (hd : itemsD d = some (k, rowD r)) : p_wish_behind d (.int w) = some (.int (wb r w)) := by
  have key : ∀ (r : List Say) (w : Int), foldP (fun x s => p_wish_behind_b1 x s) (rowD r) (.int w) = some (.int (wb r w)) := by
    intro r
    induction r with
    | nil => intro w; rfl
    | cons s r ih =>
      intro w
      show (p_wish_behind_b1 (sayD s) (.int w)).bind _ = _
      rw [wb_turn, Option.bind_some]
      exact ih _
  unfold p_wish_behind
  rw [hd, v_bind2, key, v_bind1]
/-- the stretch of companies by which s is true in front of r -/
def cw (r : List Say) (s : Say) : Option Say := match s.2 with
  | none => some (wb r s.1, none)
  | some m => if wb r (m + 1) ≤ wb r s.1 then none else some (wb r s.1, some (wb r (m + 1) - 1))
def optD : Option Say → D
  | none => .none
  | some s => sayD s
theorem pe_companies_within {d : D} {k : Bool} {r : List Say} (s : Say) (hd : itemsD d = some (k, rowD r)) : p_companies_within d (sayD s) = some (optD (cw r s)) := by
  obtain ⟨l, m⟩ := s
  cases m with
  | none =>
    unfold p_companies_within
    simp [sayD, pe_wish_behind _ hd, cw, optD, p_stretch_to]
  | some m =>
    unfold p_companies_within
    by_cases h : wb r (m + 1) ≤ wb r l <;> simp [sayD, pe_wish_behind _ hd, cw, optD, p_stretch_to, h]
theorem sliceW_row {d : D} {k : Bool} {ds : List D} (hd : itemsD d = some (k, ds)) (lo hi : Option Int) : ∃ b e, sliceW d lo hi = some (b, e) ∧ itemsD e = some (k, cutD ds lo hi) := by
  cases d with
  | list xs => cases hd; exact ⟨_, _, rfl, rfl⟩
  | tuple xs =>
    cases hd
    by_cases h : HT.sIx ds.length 0 lo = 0 ∧ HT.sIx ds.length ds.length hi = ds.length
    · refine ⟨true, .tuple ds, if_pos h, ?_⟩
      have : cutD ds lo hi = ds := by
        unfold cutD
        rw [h.1, h.2]
        simp
      rw [this]; rfl
    · exact ⟨false, .tuple (cutD ds lo hi), if_neg h, rfl⟩
  | _ => cases hd
def RowsF (f : Int → Int) : Prop := ∀ c, 0 ≤ c → f c ≤ f (c + 1) + 1
theorem RowsF.mono {f : Int → Int} (h : RowsF f) {c d : Int} (hc : 0 ≤ c) (hd : c ≤ d) : c + f c ≤ d + f d := by
  obtain ⟨n, rfl⟩ : ∃ n : Nat, d = c + n := ⟨(d - c).toNat, by omega⟩
  clear hd
  induction n with
  | zero => simp
  | succ n ih =>
    have := h (c + n) (by omega)
    have e : c + ((n + 1 : Nat) : Int) = c + n + 1 := by omega
    rw [e]
    omega
def plc (n : Int) : Int := if n = 0 then 0 else 1
/-- copies of a number -/
def cps (s : Tab) (j : Int) : Int := (lookI s j).getD (plc j)
def wsL : List Say → Int → List Int
  | [], w => [w]
  | s :: r, w => w :: wsL r (wb [s] w)
theorem wsL_last : ∀ (r : List Say) (w : Int), ∃ q, wsL r w = q ++ [wb r w]
  | [], w => ⟨[], rfl⟩
  | s :: r, w => by
    obtain ⟨q, e⟩ := wsL_last r (wb [s] w)
    exact ⟨w :: q, by show w :: wsL r (wb [s] w) = _; rw [e]; rfl⟩
theorem wsL_len : ∀ (r : List Say) (w : Int), (wsL r w).length = r.length + 1
  | [], _ => rfl
  | s :: r, w => by show (wsL r (wb [s] w)).length + 1 = _; rw [wsL_len r]; rfl
theorem pe_handed (s : Say) (w : Int) : p_handed_on (sayD s) (.int w) = some (.int (wb [s] w)) := by
  unfold p_handed_on
  rw [pe_wish_behind (d := .list [sayD s]) (k := false) (r := [s]) w rfl]; rfl
theorem wishes_fold : ∀ (r : List Say) (q : List Int) (w : Int), q.length + r.length ≤ 90000 → foldP (fun x s => p_wishes_b1 x s) (rowD r) (.list (intsD (q ++ [w]))) = some (.list (intsD (q ++ wsL r w)))
  | [], q, w, _ => rfl
  | s :: r, q, w, hl => by
    have hl' : q.length + (r.length + 1) ≤ 90000 := hl
    have hl2 : q.length + 1 < 100000 := by omega
    have e : p_wishes_b1 (sayD s) (.list (intsD (q ++ [w]))) = some (.list (intsD (q ++ [w] ++ [wb [s] w]))) := by
      have la : gIx (.list (intsD (q ++ [w]))) (.int (-1)) = some (.int w) := by
        have : intsD (q ++ [w]) = intsD q ++ [.int w] := by simp [intsD]
        rw [this]
        exact atI_last _ _
      have ap : mutP gAppend (.list (intsD (q ++ [w]))) [.int (wb [s] w)] = some (.list (intsD (q ++ [w] ++ [wb [s] w])), .none) := by
        simp [intsD, hl2]
      unfold p_wishes_b1
      simp only [v_negP, v_bind1, la, pe_handed, ap, v_bind2]
    show (p_wishes_b1 (sayD s) _).bind _ = _
    rw [e, Option.bind_some]
    show foldP (fun x s => p_wishes_b1 x s) (rowD r) _ = _
    rw [wishes_fold r (q ++ [w]) (wb [s] w) (by simp; omega)]
    simp [wsL]
theorem pe_wishes {d : D} {k : Bool} {r : List Say} {w : Int} (hd : itemsD d = some (k, rowD r)) (ho : ∀ s ∈ r, okSay s) (hr : r.length ≤ 80000) (hw : 0 ≤ w) : p_wishes d (.int w) = some (.list (intsD (wsL r w))) := by
  have f := wishes_fold r [] w (by simp; omega)
  have f' : foldP (fun x s => p_wishes_b1 x s) (rowD r) (.list [.int w]) = some (.list (intsD (wsL r w))) := f
  unfold p_wishes
  simp only [pe_need_row hd ho, v_bind1, pe_need_number hw, hd, v_bind2, f']
theorem last_wish (r : List Say) (w : Int) : gIx (.list (intsD (wsL r w))) (.int (-1)) = some (.int (wb r w)) := by
  obtain ⟨q, e⟩ := wsL_last r w
  rw [e]
  have : intsD (q ++ [wb r w]) = intsD q ++ [.int (wb r w)] := by simp [intsD]
  rw [this]
  exact atI_last _ _
theorem wb_up {r : List Say} {w c : Int} (h : wb r w ≤ c) : w ≤ tot r c := (wb_iff r w c).mp h
theorem wb_dn {r : List Say} {w c : Int} (h : c < wb r w) : tot r c < w := by
  rcases Int.lt_or_le (tot r c) w with z | z
  · exact z
  · have := (wb_iff r w c).mpr z; omega
theorem wb_mono (r : List Say) {v w : Int} (h : v ≤ w) : wb r v ≤ wb r w := by
  rw [wb_iff]
  have := wb_up (r := r) (w := w) (Int.le_refl _)
  omega
theorem lay_ints : ∀ bs : List Int, PyData.canLayAll0 (intsD bs) = true
  | [] => by simp [intsD, PyData.canLayAll0]
  | b :: bs => by
    have := lay_ints bs
    show PyData.canLayAll0 (.int b :: intsD bs) = true
    simp [PyData.canLayAll0, PyData.canLay0, this]
theorem dep_ints : ∀ bs : List Int, PyData.depthAll (intsD bs) = 0
  | [] => by simp [intsD, PyData.depthAll]
  | b :: bs => by
    have := dep_ints bs
    show PyData.depthAll (.int b :: intsD bs) = 0
    simp [PyData.depthAll, PyData.depth, this]
theorem shaped_ints (bs : List Int) : SeqAt.shaped (.list (intsD bs)) = true := by
  simp [SeqAt.shaped, PyData.canLay0, PyData.depth, lay_ints, dep_ints]
theorem eqv_ints : ∀ bs : List Int, PyData.eqvAll (intsD bs) (intsD bs) = true
  | [] => by simp [intsD, PyData.eqvAll]
  | b :: bs => by
    have := eqv_ints bs
    show PyData.eqvAll (.int b :: intsD bs) (.int b :: intsD bs) = true
    simp [PyData.eqvAll, PyData.eqv, this]
theorem ne_ints (bs : List Int) : gNe (.list (intsD bs)) (.list (intsD bs)) = some (.bool false) := by
  simp [gNe, shaped_ints, PyData.eqv, eqv_ints]
structure Sm (w dep : Nat) (d : D) : Prop where
  lay : d.canLay0 = true
  ls : d.leavesShort 60 = true
  sh : PyData.showable d = true
  dp : d.depth ≤ dep
  wt : d.weight ≤ w
theorem Sm.mono {w dep w' dep' : Nat} {d : D} (h : Sm w dep d) (hw : w ≤ w') (hd : dep ≤ dep') : Sm w' dep' d := ⟨h.lay, h.ls, h.sh, Nat.le_trans h.dp hd, Nat.le_trans h.wt hw⟩
theorem sm_none : Sm 200 0 .none := ⟨by simp [PyData.canLay0], by simp [PyData.leavesShort], by simp [PyData.showable], by simp [PyData.depth], by simp [PyData.weight]⟩
theorem sm_int {i : Int} (h : i.natAbs < 10 ^ 50) : Sm 200 0 (.int i) := by
  have h2 : i.natAbs < 2 ^ 180 := Nat.lt_trans h (by decide)
  have h3 := log_lt h2 (by decide)
  refine ⟨by simp [PyData.canLay0], ?_, ?_, by simp [PyData.depth], ?_⟩
  · have e := int_text_length_le10 (k := 50) (by decide) h
    simp only [PyData.leavesShort, decide_eq_true_eq]
    show (Str.ofString (toString i)).length ≤ 60
    rw [ofString_length]; omega
  · simp only [PyData.showable, decide_eq_true_eq]; omega
  · simp only [PyData.weight]
    split <;> omega
theorem smAll {w dep : Nat} : ∀ {xs : List D}, (∀ x ∈ xs, Sm w dep x) → PyData.canLayAll0 xs = true ∧ PyData.leavesShortAll 60 xs = true ∧ PyData.showableAll xs = true ∧ PyData.depthAll xs ≤ dep ∧ PyData.weightAll xs ≤ xs.length * (w + 1)
  | [], _ => ⟨by simp [PyData.canLayAll0], by simp [PyData.leavesShortAll], by simp [PyData.showableAll], by simp [PyData.depthAll], by simp [PyData.weightAll]⟩
  | x :: xs, h => by
    obtain ⟨h1, h2, h3, h4, h5⟩ := smAll fun y hy => h y (List.mem_cons_of_mem _ hy)
    obtain ⟨g1, g2, g3, g4, g5⟩ := h x List.mem_cons_self
    refine ⟨by simp [PyData.canLayAll0, h1, g1], by simp [PyData.leavesShortAll, h2, g2], by simp [PyData.showableAll, h3, g3], by simp only [PyData.depthAll]; omega, ?_⟩
    simp only [PyData.weightAll, List.length_cons, Nat.succ_mul]
    omega
theorem sm_list {w dep n : Nat} {xs : List D} (h : ∀ x ∈ xs, Sm w dep x) (hl : xs.length ≤ n) : Sm (n * (w + 1)) (dep + 1) (.list xs) := by
  obtain ⟨h1, h2, h3, h4, h5⟩ := smAll h
  have := Nat.mul_le_mul_right (w + 1) hl
  exact ⟨by simp [PyData.canLay0, h1], by simp [PyData.leavesShort, h2], by simp [PyData.showable, h3], by simp only [PyData.depth]; omega, by simp only [PyData.weight]; omega⟩
theorem sm_tuple {w dep n : Nat} {xs : List D} (h : ∀ x ∈ xs, Sm w dep x) (hl : xs.length ≤ n) : Sm (n * (w + 1)) (dep + 1) (.tuple xs) := by
  obtain ⟨h1, h2, h3, h4, h5⟩ := smAll h
  have := Nat.mul_le_mul_right (w + 1) hl
  exact ⟨by simp [PyData.canLay0, h1], by simp [PyData.leavesShort, h2], by simp [PyData.showable, h3], by simp only [PyData.depth]; omega, by simp only [PyData.weight]; omega⟩
theorem Sm.shaped {w dep : Nat} {d : D} (h : Sm w dep d) (hd : dep ≤ 64) : SeqAt.shaped d = true := by
  have := h.dp
  simp [SeqAt.shaped, h.lay]; omega
theorem Sm.okRepr {w dep : Nat} {d : D} (h : Sm w dep d) (hd : dep ≤ 64) (hw : w ≤ 200000) : okRepr d = true := by
  have h1 := PyData.shown_le 60 (by decide) d h.ls
  have h2 := h.wt
  have h3 := h.dp
  have h4 : (60 + 2) * d.weight ≤ (60 + 2) * 200000 := Nat.mul_le_mul_left _ (Nat.le_trans h2 hw)
  have h5 : d.shown.length ≤ sizeLine := by rw [sizeLine_eq]; omega
  simp [PL.okRepr, h.lay, h.sh, h5]
  omega
theorem Sm.repr {w dep : Nat} {d : D} (h : Sm w dep d) (hd : dep ≤ 64) (hw : w ≤ 200000) : gRepr [d] = some (PyData.str d.shown) := by
  show (if PL.okRepr d = true then some (PyData.str d.shown) else none) = _
  rw [if_pos (h.okRepr hd hw)]
theorem ne_str_self (s : Str) : gNe (.str s) (.str s) = some (.bool false) := by
  show some (PyData.bool (s.cps.toList != s.cps.toList)) = _
  simp
def rngZ (lo : Int) (n : Nat) : List Int := (List.range n).map fun (i : Nat) => lo + (i : Int)
theorem rngZ_D (lo hi : Int) : rngD lo hi = (rngZ lo (hi - lo).toNat).map PyData.int := by
  unfold rngD rngZ
  rw [List.map_map]; rfl
theorem rngZ_add (lo : Int) (a b : Nat) : rngZ lo (a + b) = rngZ lo a ++ rngZ (lo + a) b := by
  unfold rngZ
  rw [List.range_add, List.map_append, List.map_map]
  congr 1
  refine List.map_congr_left fun i _ => ?_
  show lo + ((a + i : Nat) : Int) = lo + a + i
  omega
theorem rngZ_mem {lo : Int} {n : Nat} {x : Int} (h : x ∈ rngZ lo n) : lo ≤ x ∧ x < lo + n := by
  obtain ⟨i, hi, rfl⟩ := List.mem_map.mp h
  have := List.mem_range.mp hi
  omega
theorem rngZ_len (lo : Int) (n : Nat) : (rngZ lo n).length = n := by simp [rngZ]
theorem foldP_app {S : Type} {f : D → S → Option S} : ∀ (xs ys : List D) (s : S), foldP f (xs ++ ys) s = (foldP f xs s).bind (foldP f ys)
  | [], _, _ => rfl
  | x :: xs, ys, s => by
    show (f x s).bind (fun s' => foldP f (xs ++ ys) s') = ((f x s).bind (fun s' => foldP f xs s')).bind _
    cases f x s with
    | none => rfl
    | some s' => exact foldP_app xs ys s'
theorem l_total_turn (s : Say) (c : Int) : p_l_total_b1 (sayD s) (.int c) = some (.int (c + b2i (trueS s c))) := by
  obtain ⟨l, m⟩ := s
  unfold p_l_total_b1
  cases m with
  | none => by_cases h : l ≤ c <;> simp [sayD, h, trueS, b2i]
  | some m => by_cases h : l ≤ c <;> by_cases h2 : c ≤ m <;> simp [sayD, h, h2, trueS, b2i]
theorem pe_l_total (r : List Say) (c : Int) : p_l_total (.list (rowD r)) (.int c) = some (.int (tot r c)) := by
  have key : ∀ (r : List Say) (c : Int), foldP (fun x s => p_l_total_b1 x s) (rowD r).reverse (.int c) = some (.int (tot r c)) := by
    intro r
    induction r with
    | nil => intro c; rfl
    | cons s r ih =>
      intro c
      have e : (rowD (s :: r)).reverse = (rowD r).reverse ++ [sayD s] := by simp [rowD]
      rw [e, foldP_app, ih, Option.bind_some]
      show (p_l_total_b1 (sayD s) (.int (tot r c))).bind _ = _
      rw [l_total_turn]; rfl
  unfold p_l_total
  simp only [q_revs, v_bind1, q_items_l, v_bind2, key]
theorem say_sm2 {s : Say} {B : Int} (h : okB B s) (hB : B ≤ 10000000000000000000000000000000000000000) : Sm 402 1 (sayD s) := by
  obtain ⟨l, m⟩ := s
  obtain ⟨⟨o1, o2⟩, o3, o4⟩ := h
  have b : (10 : Nat) ^ 50 = 100000000000000000000000000000000000000000000000000 := by decide
  have := sm_tuple (w := 200) (dep := 0) (n := 2) (xs := [.int l, mostD m]) (by
    intro x hx
    simp only [List.mem_cons, List.not_mem_nil, or_false] at hx
    rcases hx with rfl | rfl
    · simp only at o1 o3
      exact sm_int (by omega)
    · cases m with
      | none => exact sm_none
      | some m =>
        have h2 := o2 m rfl
        have h4 := o4 m rfl
        simp only at h2 h4 o1
        exact sm_int (by omega)) (by simp)
  exact this
theorem row_sm {r : List Say} {B : Int} (hB : B ≤ 10000000000000000000000000000000000000000) (ho : ∀ s ∈ r, okB B s) (hr : r.length ≤ 450) (hd : D) (mh : hd = .list (rowD r) ∨ hd = .tuple (rowD r)) : ∃ z : Str, gRepr [hd] = some (.str z) := by
  have ss : ∀ x ∈ rowD r, Sm 402 1 x := fun x hx => by
    obtain ⟨s, hs, rfl⟩ := List.mem_map.mp hx
    exact say_sm2 (ho s hs) hB
  rcases mh with rfl | rfl
  · exact ⟨_, (sm_list ss (n := 450) (by simpa using hr)).repr (by omega) (by omega)⟩
  · exact ⟨_, (sm_tuple ss (n := 450) (by simpa using hr)).repr (by omega) (by omega)⟩
theorem ins_row (r : List Say) (i : Int) (s : Say) (hr : r.length ≤ 900) (h0 : 0 ≤ i) (h1 : i ≤ r.length) : mutP gInsert (.list (rowD r)) [.int i, sayD s] = some (.list (rowD (r.take i.toNat ++ [s] ++ r.drop i.toNat)), .none) := by
  rw [v_mutP]
  have : gInsert (rowD r) [.int i, sayD s] = some ((rowD r).take i.toNat ++ [sayD s] ++ (rowD r).drop i.toNat, .none) := if_pos ⟨by simp; omega, h0, by omega⟩
  rw [this]
  simp [rowD]
theorem l_hand_turn (s : Say) (q : List Int) (w : Int) (hl : q.length ≤ 90000) : p_l_handed_on_b1 (sayD s) (.list (intsD (q ++ [w]))) = some (.list (intsD (q ++ [w] ++ [wb [s] w]))) := by
  have la : gIx (.list (intsD (q ++ [w]))) (.int (-1)) = some (.int w) := by
    have : intsD (q ++ [w]) = intsD q ++ [.int w] := by simp [intsD]
    rw [this]
    exact atI_last _ _
  have ap : ∀ z, mutP gAppend (.list (intsD (q ++ [w]))) [.int z] = some (.list (intsD (q ++ [w] ++ [z])), .none) := fun z => by
    have hl2 : q.length + 1 < 100000 := by omega
    simp [intsD, hl2]
  obtain ⟨l, m⟩ := s
  have lt : gLt (.int l) (.int w) = some (.bool (decide (l < w))) := rfl
  have sb : ∀ a b : Int, gSub' (.int a) (.int b) = some (.int (a - b)) := fun _ _ => rfl
  have i1 : ∀ b : Bool, gInt1 [.bool b] = some (.int (if b = true then 1 else 0)) := fun b => by cases b <;> rfl
  unfold p_l_handed_on_b1
  cases m with
  | none =>
    by_cases h : l < w
    · have e : wb [(l, none)] w = w - 1 := by
        show (if l < w ∧ (∀ m : Int, (none : Option Int) = some m → w ≤ m + 1) then w - 1 else w) = _
        rw [if_pos ⟨h, fun m hm => by cases hm⟩]
      simp only [sayD, mostD_none, v_tup2, v_bind2, v_negP, v_bind1, la, lt, decide_eq_true h, asBool, if_true, q_is_n, q_isNone_n, i1, sb, ap, e]
    · have e : wb [(l, none)] w = w - 0 := by
        show (if l < w ∧ (∀ m : Int, (none : Option Int) = some m → w ≤ m + 1) then w - 1 else w) = _
        rw [if_neg (fun z => h z.1)]; omega
      simp only [sayD, mostD_none, v_tup2, v_bind2, v_negP, v_bind1, la, lt, decide_eq_false h, asBool, Bool.false_eq_true, if_false, i1, sb, ap, e]
  | some m =>
    have le : gLe (.int (w - 1)) (.int m) = some (.bool (decide (w - 1 ≤ m))) := rfl
    by_cases h : l < w
    · by_cases h2 : w - 1 ≤ m
      · have e : wb [(l, some m)] w = w - 1 := by
          show (if l < w ∧ (∀ x : Int, some m = some x → w ≤ x + 1) then w - 1 else w) = _
          rw [if_pos ⟨h, fun x hx => by cases hx; omega⟩]
        simp only [sayD, mostD_some, v_tup2, v_bind2, v_negP, v_bind1, la, lt, decide_eq_true h, asBool, if_true, q_is_n, q_isNone_i, Bool.false_eq_true, if_false, sb, le, decide_eq_true h2, i1, ap, e]
      · have e : wb [(l, some m)] w = w - 0 := by
          show (if l < w ∧ (∀ x : Int, some m = some x → w ≤ x + 1) then w - 1 else w) = _
          rw [if_neg (fun z => by have := z.2 m rfl; omega)]; omega
        simp only [sayD, mostD_some, v_tup2, v_bind2, v_negP, v_bind1, la, lt, decide_eq_true h, asBool, if_true, q_is_n, q_isNone_i, Bool.false_eq_true, if_false, sb, le, decide_eq_false h2, i1, ap, e]
    · have e : wb [(l, some m)] w = w - 0 := by
        show (if l < w ∧ (∀ x : Int, some m = some x → w ≤ x + 1) then w - 1 else w) = _
        rw [if_neg (fun z => h z.1)]; omega
      simp only [sayD, mostD_some, v_tup2, v_bind2, v_negP, v_bind1, la, lt, decide_eq_false h, asBool, Bool.false_eq_true, if_false, i1, sb, ap, e]
theorem l_hand_fold : ∀ (r : List Say) (q : List Int) (w : Int), q.length + r.length ≤ 90000 → foldP (fun x s => p_l_handed_on_b1 x s) (rowD r) (.list (intsD (q ++ [w]))) = some (.list (intsD (q ++ wsL r w)))
  | [], q, w, _ => rfl
  | s :: r, q, w, hl => by
    have hl' : q.length + (r.length + 1) ≤ 90000 := hl
    show (p_l_handed_on_b1 (sayD s) _).bind _ = _
    rw [l_hand_turn s q w (by omega), Option.bind_some]
    show foldP (fun x s => p_l_handed_on_b1 x s) (rowD r) _ = _
    rw [l_hand_fold r (q ++ [w]) (wb [s] w) (by simp; omega)]
    simp [wsL]
theorem pe_l_handed (r : List Say) (w : Int) (hl : r.length ≤ 80000) : p_l_handed_on (.list (rowD r)) (.int w) = some (.list (intsD (wsL r w))) := by
  have f : foldP (fun x s => p_l_handed_on_b1 x s) (rowD r) (.list [.int w]) = some (.list (intsD (wsL r w))) := l_hand_fold r [] w (by simp; omega)
  unfold p_l_handed_on
  simp only [q_items_l, v_bind2, f, v_bind1]
theorem pe_l_does (r : List Say) (w : Int) : p_l_does (.list (rowD r)) (.int (wb r w)) (.int w) = some (.bool true) := by
  have u := wb_up (r := r) (w := w) (Int.le_refl _)
  have d := wb_dn (r := r) (w := w) (c := wb r w - 1) (by omega)
  have ge : gGe (.int (tot r (wb r w))) (.int w) = some (.bool (decide (w ≤ tot r (wb r w)))) := rfl
  have lt : gLt (.int (tot r (wb r w - 1))) (.int w) = some (.bool (decide (tot r (wb r w - 1) < w))) := rfl
  have sb : gSub' (.int (wb r w)) (.int 1) = some (.int (wb r w - 1)) := rfl
  unfold p_l_does
  by_cases h : wb r w = 0
  · have : (wb r w == 0) = true := by simp [h]
    simp only [pe_l_total, v_bind1, ge, decide_eq_true u, asBool, if_true, q_eq_ii, this]
  · have : (wb r w == 0) = false := by simp [h]
    simp only [pe_l_total, v_bind1, ge, decide_eq_true u, asBool, if_true, q_eq_ii, this, Bool.false_eq_true, if_false, sb, lt, decide_eq_true d]
theorem fil_all {p : Int → Bool} {l : List Int} (h : ∀ x ∈ l, p x = true) : l.filter p = l := List.filter_eq_self.mpr h
theorem fil_no {p : Int → Bool} {l : List Int} (h : ∀ x ∈ l, p x = false) : l.filter p = [] := by
  rw [List.filter_eq_nil_iff]
  intro x hx
  rw [h x hx]; exact Bool.false_ne_true
theorem filI {f : D → Option (Option D)} {p : Int → Bool} {l : List Int} (hl : l.length ≤ 100000) (h : ∀ x ∈ l, f (.int x) = some (if p x = true then some (.int x) else none)) : filT f (l.map PyData.int) = some ((l.filter p).map PyData.int) := by
  have q := filT_of (f := f) (φ := fun d => match d with
    | .int m => if p m = true then some (.int m) else none
    | _ => none) (xs := l.map PyData.int) (by simpa using hl) fun x hx => by
      obtain ⟨m, hm, rfl⟩ := List.mem_map.mp hx
      exact h m hm
  rw [q, List.filterMap_map]
  refine congrArg some ?_
  show List.filterMap (fun m : Int => if p m = true then some (PyData.int m) else none) l = _
  clear h hl q
  induction l with
  | nil => rfl
  | cons a l ih =>
    rw [List.filterMap_cons, List.filter_cons]
    by_cases hb : p a = true
    · simp only [hb, if_true, List.map_cons, ih]
    · simp only [hb, Bool.false_eq_true, if_false, ih]
theorem btw_c1 (r : List Say) (a x : Int) : p_l_between_c1 (.list (rowD r)) (.int a) (.int x) = some (if decide (wb r a ≤ x) = true then some (.int x) else none) := by
  have e := wb_iff r a x
  have le : gLe (.int a) (.int (tot r x)) = some (.bool (decide (a ≤ tot r x))) := rfl
  unfold p_l_between_c1
  simp only [pe_l_total, v_bind1, le, asBool]
  by_cases h : wb r a ≤ x
  · simp [h, e.mp h]
  · have : ¬ a ≤ tot r x := fun z => h (e.mpr z)
    simp [h, this]
theorem btw_c2 (r : List Say) (b x : Int) : p_l_between_c2 (.list (rowD r)) (.int b) (.int x) = some (if decide (x < wb r (b + 1)) = true then some (.int x) else none) := by
  have e := wb_iff r (b + 1) x
  have le : gLe (.int (tot r x)) (.int b) = some (.bool (decide (tot r x ≤ b))) := rfl
  unfold p_l_between_c2
  simp only [pe_l_total, v_bind1, le, asBool]
  by_cases h : x < wb r (b + 1)
  · have : tot r x ≤ b := by
      rcases Int.lt_or_le b (tot r x) with z | z
      · have := e.mpr (by omega); omega
      · exact z
    simp [h, this]
  · have : ¬ tot r x ≤ b := fun z => by have := e.mp (by omega); omega
    simp [h, this]
theorem rngZ_first {lo : Int} {n : Nat} (h : 0 < n) : gIx (.list (intsD (rngZ lo n))) (.int 0) = some (.int lo) := by
  obtain ⟨m, rfl⟩ : ∃ m, n = m + 1 := ⟨n - 1, by omega⟩
  rw [q_ix_l]
  refine ix_nat (i := 0) ?_
  unfold intsD rngZ
  rw [List.map_map, List.getElem?_map, List.getElem?_range (by omega)]
  show some (PyData.int (lo + ((0 : Nat) : Int))) = _
  simp
theorem rngZ_last {lo : Int} {n : Nat} (h : 0 < n) : gIx (.list (intsD (rngZ lo n))) (.int (-1)) = some (.int (lo + n - 1)) := by
  obtain ⟨m, rfl⟩ : ∃ m, n = m + 1 := ⟨n - 1, by omega⟩
  rw [rngZ_add]
  have : rngZ (lo + (m : Int)) 1 = [lo + m] := by simp [rngZ]
  rw [this]
  have e : intsD (rngZ lo m ++ [lo + (m : Int)]) = intsD (rngZ lo m) ++ [.int (lo + m)] := by simp [intsD]
  rw [e]
  have := atI_last (intsD (rngZ lo m)) (.int (lo + (m : Int)))
  rw [q_ix_l, this]
  refine congrArg (fun z => some (PyData.int z)) ?_
  show lo + (m : Int) = lo + ((m + 1 : Nat) : Int) - 1
  omega
theorem pe_between {r : List Say} {a : Int} {m : Option Int} (ho : ∀ s ∈ r, okSay s) (h0 : 0 ≤ a) (h1 : a ≤ 60) (hm : ∀ b, m = some b → a ≤ b ∧ b ≤ 60) : p_l_between (.list (rowD r)) (.int a) (mostD m) = some (optD (cw r (a, m))) := by
  have w0 := wb_nn r a ho h0
  obtain ⟨k, hk, ek⟩ := wb_near r a
  have sm : small62 61 = true := by decide
  have r61 : rngD 0 61 = (rngZ 0 61).map PyData.int := rngZ_D 0 61
  obtain ⟨wa, hwa⟩ : ∃ wa : Nat, wb r a = (wa : Int) := Int.eq_ofNat_of_zero_le w0
  have wle : wa ≤ 60 := by omega
  have f1 : filT (p_l_between_c1 (.list (rowD r)) (.int a)) (rngD 0 61) = some (intsD (rngZ (wa : Int) (61 - wa))) := by
    rw [r61, filI (p := fun x => decide (wb r a ≤ x)) (by rw [rngZ_len]; omega) fun x _ => btw_c1 r a x]
    have : (61 : Nat) = wa + (61 - wa) := by omega
    conv => lhs; rw [this]
    rw [rngZ_add, List.filter_append, fil_no (l := rngZ 0 wa) (fun x hx => by have := rngZ_mem hx; exact decide_eq_false (by omega)), fil_all (l := rngZ (0 + (wa : Int)) (61 - wa)) (fun x hx => by have := rngZ_mem hx; exact decide_eq_true (by omega)), List.nil_append, Int.zero_add]
    rfl
  have eqn : ∀ l : List Int, gEq (.list (intsD l)) (.list []) = some (.bool l.isEmpty) := fun l => by
    have h1 := shaped_ints l
    have h0 : SeqAt.shaped (.list []) = true := shaped_ints []
    show (if (SeqAt.shaped (.list (intsD l)) && SeqAt.shaped (.list [])) = true then some (PyData.bool (PyData.eqv (.list (intsD l)) (.list []))) else none) = _
    rw [h1, h0]
    cases l <;> simp [intsD, PyData.eqv, PyData.eqvAll]
  cases m with
  | none =>
    have ne : (rngZ (wa : Int) (61 - wa)).isEmpty = false := by
      have := rngZ_len (wa : Int) (61 - wa)
      cases z : rngZ (wa : Int) (61 - wa) with
      | nil => rw [z] at this; simp at this; omega
      | cons _ _ => rfl
    have c : cw r (a, none) = some (wb r a, none) := rfl
    unfold p_l_between
    simp only [v_rng1P, sm, if_true, v_bind1, f1, mostD_none, q_not_n, q_isNone_n, Bool.not_true, asBool, Bool.false_eq_true, if_false, eqn, ne, rngZ_first (lo := (wa : Int)) (n := 61 - wa) (by omega), q_is_n, c, hwa]
    rfl
  | some b =>
    obtain ⟨b1, b2⟩ := hm b rfl
    have w1 := wb_nn r (b + 1) ho (by omega)
    obtain ⟨k2, hk2, ek2⟩ := wb_near r (b + 1)
    have mono := wb_mono r (v := a) (w := b + 1) (by omega)
    obtain ⟨wz, hwz⟩ : ∃ wz : Nat, wb r (b + 1) = (wz : Int) := Int.eq_ofNat_of_zero_le w1
    have f2 : filT (p_l_between_c2 (.list (rowD r)) (.int b)) (intsD (rngZ (wa : Int) (61 - wa))) = some (intsD (rngZ (wa : Int) (wz - wa))) := by
      show filT _ ((rngZ (wa : Int) (61 - wa)).map PyData.int) = _
      rw [filI (p := fun x => decide (x < wb r (b + 1))) (by rw [rngZ_len]; omega) fun x _ => btw_c2 r b x]
      have : (61 - wa : Nat) = (wz - wa) + (61 - wz) := by omega
      rw [this, rngZ_add, List.filter_append, fil_all (l := rngZ (wa : Int) (wz - wa)) (fun x hx => by have := rngZ_mem hx; exact decide_eq_true (by omega)), fil_no (l := rngZ ((wa : Int) + ((wz - wa : Nat) : Int)) (61 - wz)) (fun x hx => by have := rngZ_mem hx; exact decide_eq_false (by omega)), List.append_nil]
      rfl
    have it : itemsD (.list (intsD (rngZ (wa : Int) (61 - wa)))) = some (false, intsD (rngZ (wa : Int) (61 - wa))) := rfl
    by_cases he : wz ≤ wa
    · have c : cw r (a, some b) = none := by
        show (if wb r (b + 1) ≤ wb r a then none else _) = none
        rw [if_pos (by omega)]
      have z : rngZ (wa : Int) (wz - wa) = [] := by rw [show wz - wa = 0 by omega]; rfl
      unfold p_l_between
      simp only [v_rng1P, sm, if_true, v_bind1, f1, mostD_some, q_not_n, q_isNone_i, Bool.not_false, asBool, it, v_bind2, f2, eqn, z, List.isEmpty_nil, c]
      rfl
    · have c : cw r (a, some b) = some (wb r a, some (wb r (b + 1) - 1)) := by
        show (if wb r (b + 1) ≤ wb r a then none else _) = _
        rw [if_neg (by omega)]
      have ne : (rngZ (wa : Int) (wz - wa)).isEmpty = false := by
        have := rngZ_len (wa : Int) (wz - wa)
        cases z : rngZ (wa : Int) (wz - wa) with
        | nil => rw [z] at this; simp at this; omega
        | cons _ _ => rfl
      have la := rngZ_last (lo := (wa : Int)) (n := wz - wa) (by omega)
      rw [show (wa : Int) + ((wz - wa : Nat) : Int) - 1 = (wz : Int) - 1 by omega] at la
      unfold p_l_between
      simp only [v_rng1P, sm, if_true, v_bind1, f1, mostD_some, q_not_n, q_isNone_i, Bool.not_false, asBool, it, v_bind2, f2, eqn, ne, Bool.false_eq_true, if_false, rngZ_first (lo := (wa : Int)) (n := wz - wa) (by omega), q_is_n, v_negP, la, c, hwa, hwz]
      rfl
theorem pe_is_saying_s {a : Int} {m : Option Int} (h : okSay (a, m)) : p_is_saying (.tuple [.int a, mostD m]) = some (.bool true) := by
  have : p_is_row (.list [sayD (a, m)]) = some (.bool true) := pe_is_row (d := .list [sayD (a, m)]) (k := false) (r := [(a, m)]) rfl fun s hs => by
    have : s = (a, m) := by simpa using hs
    subst this; exact h
  unfold p_is_saying
  show bind1 (p_is_row (.list [sayD (a, m)])) _ = _
  rw [this]; rfl
theorem pe_com {d : D} {k : Bool} {r : List Say} {a : Int} (hd : itemsD d = some (k, rowD r)) (ho : ∀ s ∈ r, okSay s) (ha : 0 ≤ a) : p_companies d (.int a) = some (optD (cw r (a, some a))) := by
  have := pe_companies_within (a, some a) hd
  unfold p_companies
  simp only [pe_need_row hd ho, v_bind1, pe_need_number ha]
  show bind1 (p_companies_within d (sayD (a, some a))) _ = _
  rw [this]; rfl
theorem pe_com_between {d : D} {k : Bool} {r : List Say} {a : Int} {m : Option Int} (hd : itemsD d = some (k, rowD r)) (ho : ∀ s ∈ r, okSay s) (ha : okSay (a, m)) : p_companies_between d (.int a) (mostD m) = some (optD (cw r (a, m))) := by
  have := pe_companies_within (a, m) hd
  unfold p_companies_between
  simp only [pe_need_row hd ho, v_bind1, pe_is_saying_s ha, q_tru_b, if_true]
  show bind1 (p_companies_within d (sayD (a, m))) _ = _
  rw [this]; rfl
theorem opt_repr {r : List Say} {a : Int} {m : Option Int} (ho : ∀ s ∈ r, okSay s) (hs : okSay (a, m)) (hb : a < 10 ^ 40 ∧ ∀ b, m = some b → b < 10 ^ 40) : ∃ z : Str, gRepr [optD (cw r (a, m))] = some (.str z) := by
  have b : (10 : Nat) ^ 50 = 100000000000000000000000000000000000000000000000000 := by decide
  have key : ∀ o : Option Say, (∀ s, o = some s → okB 10000000000000000000000000000000000000000 s) → ∃ z : Str, gRepr [optD o] = some (.str z) := fun o h => by
    cases o with
    | none => exact ⟨_, sm_none.repr (by omega) (by omega)⟩
    | some s => exact ⟨_, (say_sm2 (h s rfl) (Int.le_refl _)).repr (by omega) (by omega)⟩
  refine key _ fun s e => ?_
  have a0 : 0 ≤ a := hs.1
  have w0 := wb_nn r a ho a0
  obtain ⟨k, hk, ek⟩ := wb_near r a
  cases m with
  | none =>
    have c : cw r (a, none) = some (wb r a, none) := rfl
    rw [c] at e
    cases e
    exact ⟨⟨w0, fun _ h => by cases h⟩, by show wb r a < _; omega, fun _ h => by cases h⟩
  | some z =>
    have hz := hb.2 z rfl
    obtain ⟨k2, hk2, ek2⟩ := wb_near r (z + 1)
    have c : cw r (a, some z) = if wb r (z + 1) ≤ wb r a then none else some (wb r a, some (wb r (z + 1) - 1)) := rfl
    rw [c] at e
    split at e
    · cases e
    · cases e
      exact ⟨⟨w0, fun y h => by cases h; show wb r a ≤ wb r (z + 1) - 1; omega⟩, by show wb r a < _; omega, fun y h => by cases h; omega⟩
theorem pe_small (t : D) (n : Nat) (r : List Say) (ht : TinOk t n) (hn : n + 20 < 2 ^ 40) (ho : ∀ s ∈ r, okSay s) : ∃ t', p_l_small_right t (.list (rowD r)) = some (.bool true, t') ∧ TinOk t' (n + 6) := by
  obtain ⟨a, t1, e1, a0, a1, k1⟩ := pe_pour t n 40 ht (by omega) (by omega) (by omega)
  obtain ⟨b, t2, e2, b0, b1, k2⟩ := pe_number t1 _ 9 9 k1 (by omega) (by omega) (by omega) (by omega) (by omega)
  obtain ⟨c, t3, e3, c0, c1, k3⟩ := pe_pour t2 _ 3 k2 (by omega) (by omega) (by omega)
  have hd : itemsD (.list (rowD r)) = some (false, rowD r) := rfl
  obtain ⟨m, em, hm⟩ : ∃ m : Option Int, (bind1 (gDiv (.int c) (.int 2)) fun v => gIx (.list [.int (a + b), (.none : D)]) v) = some (mostD m) ∧ ∀ z, m = some z → a ≤ z ∧ z ≤ 60 := by
    have : c = 0 ∨ c = 1 ∨ c = 2 := by omega
    rcases this with rfl | rfl | rfl
    · exact ⟨some (a + b), rfl, fun z hz => by cases hz; omega⟩
    · exact ⟨some (a + b), rfl, fun z hz => by cases hz; omega⟩
    · exact ⟨none, rfl, fun z hz => by cases hz⟩
  obtain ⟨w, ew, em⟩ : ∃ w, gDiv (.int c) (.int 2) = some w ∧ gIx (.list [.int (a + b), (.none : D)]) w = some (mostD m) := by
    cases z : gDiv (.int c) (.int 2) with
    | none => rw [z] at em; cases em
    | some w => rw [z] at em; exact ⟨w, rfl, em⟩
  have ok : okSay (a, m) := ⟨a0, fun z hz => (hm z hz).1⟩
  have p1 := pe_com_between hd ho ok
  have p2 := pe_between (m := m) ho a0 (by omega) hm
  obtain ⟨z1, r1⟩ := opt_repr ho ok ⟨by omega, fun z hz => by have := (hm z hz).2; omega⟩
  have ne1 := ne_str_self z1
  obtain ⟨⟨⟩, e4, -⟩ := forP_by (T := D × D) (f := fun x (_ : Unit) => p_l_small_right_b1 (.list (rowD r)) t3 x) (xs := rngD 0 45) (s := ()) (fun _ _ => True) trivial (by
    rintro pre d ⟨⟩ hx hlen -
    obtain ⟨i, rfl, hi, hi2⟩ := rng_mem hx
    have ok : okSay (i, some i) := ⟨hi, fun z hz => by cases hz; exact Int.le_refl _⟩
    obtain ⟨z, rz⟩ := opt_repr ho ok ⟨by omega, fun z hz => by cases hz; omega⟩
    have ne := ne_str_self z
    have pb := pe_between (m := some i) ho hi (by omega) (fun z hz => by cases hz; omega)
    have pb : p_l_between (.list (rowD r)) (.int i) (.int i) = some (optD (cw r (i, some i))) := pb
    refine ⟨(), ?_, trivial⟩
    unfold p_l_small_right_b1
    simp only [pe_com hd ho hi, v_bind1, rz, pb, ne, asBool, Bool.false_eq_true, if_false])
  have sm : small62 45 = true := by decide
  refine ⟨t3, ?_, k3⟩
  unfold p_l_small_right
  simp only [e1, v_bind2, e2, v_addV, v_bind1, e3, ew, em, p1, r1, p2, ne1, asBool, Bool.false_eq_true, if_false, v_rng1P, sm, if_true, e4, v_ctB0]
theorem pe_ends {r : List Say} {a : Int} {m : Option Int} (ho : ∀ s ∈ r, okSay s) (hl : r.length ≤ 80000) (hs : okSay (a, m)) : p_l_ends_right (.list (rowD r)) (optD (cw r (a, m))) (.int a) (mostD m) = some (.bool true) := by
  have u1 := wb_up (r := r) (w := a) (Int.le_refl _)
  have d1 := wb_dn (r := r) (w := a) (c := wb r a - 1) (by omega)
  have ltt : ∀ x y : Int, gLt (.int x) (.int y) = some (.bool (decide (x < y))) := fun _ _ => rfl
  have ge : ∀ x y : Int, gGe (.int x) (.int y) = some (.bool (decide (y ≤ x))) := fun _ _ => rfl
  have le : ∀ x y : Int, gLe (.int x) (.int y) = some (.bool (decide (x ≤ y))) := fun _ _ => rfl
  have gt : ∀ x y : Int, gGt (.int x) (.int y) = some (.bool (decide (x > y))) := fun x y => by simp
  have sb : ∀ a b : Int, gSub' (.int a) (.int b) = some (.int (a - b)) := fun _ _ => rfl
  have f1 : ∀ l : D, (bind1 (p_l_total (.list (rowD r)) (.int (wb r a))) fun v => bind1 (gLt v (.int a)) fun v2 => bind1 (asBool v2) fun b => if b = true then some true else bind1 (gGt (.int (wb r a)) (.int 0)) fun v3 => bind1 (asBool v3) fun b3 => if b3 = true then bind1 (gSub' (.int (wb r a)) (.int 1)) fun v4 => bind1 (p_l_total (.list (rowD r)) v4) fun v5 => bind1 (gGe v5 (.int a)) fun v6 => bind1 (asBool v6) fun b6 => some b6 else some false) = some false := fun _ => by
    by_cases h : wb r a > 0
    · simp only [pe_l_total, v_bind1, ltt, decide_eq_false (show ¬ tot r (wb r a) < a by omega), asBool, Bool.false_eq_true, if_false, gt, decide_eq_true h, if_true, sb, ge, decide_eq_false (show ¬ a ≤ tot r (wb r a - 1) by omega)]
    · simp only [pe_l_total, v_bind1, ltt, decide_eq_false (show ¬ tot r (wb r a) < a by omega), asBool, Bool.false_eq_true, if_false, gt, decide_eq_false h]
  cases m with
  | none =>
    have c : cw r (a, none) = some (wb r a, none) := rfl
    rw [c]
    unfold p_l_ends_right
    by_cases h : wb r a > 0
    · simp only [optD, sayD, mostD_none, q_is_n, q_isNone_t, v_bind1, asBool, Bool.false_eq_true, if_false, v_tup2, v_bind2, pe_l_total, ltt, decide_eq_false (show ¬ tot r (wb r a) < a by omega), gt, decide_eq_true h, if_true, sb, ge, decide_eq_false (show ¬ a ≤ tot r (wb r a - 1) by omega), q_isNone_n]
    · simp only [optD, sayD, mostD_none, q_is_n, q_isNone_t, v_bind1, asBool, Bool.false_eq_true, if_false, v_tup2, v_bind2, pe_l_total, ltt, decide_eq_false (show ¬ tot r (wb r a) < a by omega), gt, decide_eq_false h, if_true, q_isNone_n]
  | some b =>
    have ab : a ≤ b := hs.2 b rfl
    have c : cw r (a, some b) = if wb r (b + 1) ≤ wb r a then none else some (wb r a, some (wb r (b + 1) - 1)) := rfl
    rw [c]
    by_cases hw : wb r (b + 1) ≤ wb r a
    · have u2 := (wb_iff r (b + 1) (wb r a)).mp hw
      rw [if_pos hw]
      unfold p_l_ends_right
      simp only [optD, q_is_n, q_isNone_n, v_bind1, asBool, if_true, pe_l_handed r a hl, v_negP, last_wish, q_not_n, mostD_some, q_isNone_i, Bool.not_false, pe_l_total, gt, decide_eq_true (show tot r (wb r a) > b by omega)]
    · have u2 := wb_up (r := r) (w := b + 1) (Int.le_refl _)
      have d2 := wb_dn (r := r) (w := b + 1) (c := wb r (b + 1) - 1) (by omega)
      have e9 : wb r (b + 1) - 1 + 1 = wb r (b + 1) := by omega
      rw [if_neg hw]
      unfold p_l_ends_right
      by_cases h : wb r a > 0
      · simp only [optD, sayD, mostD_some, q_is_n, q_isNone_t, v_bind1, asBool, Bool.false_eq_true, if_false, v_tup2, v_bind2, pe_l_total, ltt, decide_eq_false (show ¬ tot r (wb r a) < a by omega), gt, decide_eq_true h, if_true, sb, ge, decide_eq_false (show ¬ a ≤ tot r (wb r a - 1) by omega), q_isNone_i, le, decide_eq_true (show wb r a ≤ wb r (b + 1) - 1 by omega), decide_eq_true (show tot r (wb r (b + 1) - 1) ≤ b by omega), v_addV, e9, decide_eq_true (show tot r (wb r (b + 1)) > b by omega)]
      · simp only [optD, sayD, mostD_some, q_is_n, q_isNone_t, v_bind1, asBool, Bool.false_eq_true, if_false, v_tup2, v_bind2, pe_l_total, ltt, decide_eq_false (show ¬ tot r (wb r a) < a by omega), gt, decide_eq_false h, if_true, q_isNone_i, le, decide_eq_true (show wb r a ≤ wb r (b + 1) - 1 by omega), decide_eq_true (show tot r (wb r (b + 1) - 1) ≤ b by omega), v_addV, e9, decide_eq_true (show tot r (wb r (b + 1)) > b by omega)]
theorem eq_str_same (s : Str) : gEq (.str s) (.str s) = some (.bool true) := by
  show some (PyData.bool (s.cps.toList == s.cps.toList)) = _
  simp
theorem wsL_rng : ∀ (r : List Say) (w : Int), (∀ s ∈ r, okSay s) → 0 ≤ w → ∀ x ∈ wsL r w, 0 ≤ x ∧ x ≤ w
  | [], w, _, h, x, hx => by
    have : x = w := by simpa [wsL] using hx
    omega
  | s :: r, w, ho, h, x, hx => by
    have n1 := wb_nn [s] w (fun t ht => ho t (by simp at ht; simp [ht])) h
    obtain ⟨k, _, ek⟩ := wb_near [s] w
    rcases List.mem_cons.mp hx with rfl | hx
    · omega
    · have := wsL_rng r (wb [s] w) (fun t ht => ho t (List.mem_cons_of_mem _ ht)) n1 x hx
      omega
theorem int_repr {x : Int} (h : x.natAbs < 10 ^ 50) : ∃ z : Str, gRepr [.int x] = some (.str z) := ⟨_, (sm_int h).repr (by omega) (by omega)⟩
theorem ints_repr {l : List Int} (h : ∀ x ∈ l, x.natAbs < 10 ^ 50) (hl : l.length ≤ 400) : ∃ z : Str, gRepr [.list (intsD l)] = some (.str z) :=
  ⟨_, (sm_list (w := 200) (dep := 0) (n := 400) (xs := intsD l) (fun y hy => by
    obtain ⟨x, hx, rfl⟩ := List.mem_map.mp hy
    exact sm_int (h x hx)) (by simpa using hl)).repr (by omega) (by omega)⟩
theorem least_d {d : D} {k : Bool} {r : List Say} {w : Int} (hd : itemsD d = some (k, rowD r)) (i : Nat) (ho : ∀ s ∈ r, okSay s) (hi : i ≤ r.length) (hw : 0 ≤ w) : p_least_from d (.int (i : Int)) (.int w) = some (.int (wb (r.drop i) w)) := by
  obtain ⟨b, e, h1, h2⟩ := sliceW_row hd (some (i : Int)) none
  rw [cut_from (rowD r) i (by simpa using hi), rowD_drop] at h2
  unfold p_least_from
  simp only [pe_need_row hd ho, v_bind1, len_row hd, v_addV, pe_need_place (show (0 : Int) ≤ (i : Int) by omega) (show (i : Int) < (r.length : Int) + 1 by omega), pe_need_number hw, v_atP_i, v_ixP, h1, v_bind2, pe_wish_behind w h2]
theorem right_b1 {d : D} {k : Bool} {r : List Say} {w : Int} (t x : D) (hd : itemsD d = some (k, rowD r)) (ho : ∀ s ∈ r, okSay s) (hr : r.length ≤ 200) (hw : 0 ≤ w) (hw2 : w < 10 ^ 40) :
    p_l_right_b1 d (.int w) (.list (intsD (wsL r w))) (.list (rowD r)) t x = some (.nx ()) := by
  have b : (10 : Nat) ^ 50 = 100000000000000000000000000000000000000000000000000 := by decide
  have wl := wsL_len r w
  obtain ⟨z, rz⟩ := ints_repr (l := wsL r w) (fun x hx => by have := wsL_rng r w ho hw x hx; omega) (by omega)
  have isl : (gIsi ["list"]) (.list (intsD (wsL r w))) = some (.bool true) := by simp
  have ll : (intsD (wsL r w)).length < 100000 := by simp; omega
  unfold p_l_right_b1
  simp only [pe_wishes hd ho (by omega) hw, v_bind1, isl, q_tru_b, if_true, rz, ne_str_self, asBool, Bool.false_eq_true, if_false, v_negP, last_wish, pe_l_does, Bool.not_true, v_mutP, q_append, ll, Option.map_some, v_bind2]
theorem right_b2 {d : D} {k : Bool} {r : List Say} {w : Int} (t : D) (i : Nat) (hd : itemsD d = some (k, rowD r)) (ho : ∀ s ∈ r, okSay s) (hr : r.length ≤ 200) (hi : i ≤ r.length) (hw : 0 ≤ w) (hw2 : w < 10 ^ 40) :
    p_l_right_b2 d (.int w) (.list (rowD r)) t (.int (i : Int)) = some (.nx ()) := by
  have b : (10 : Nat) ^ 50 = 100000000000000000000000000000000000000000000000000 := by decide
  have ho' : ∀ s ∈ r.drop i, okSay s := fun s hs => ho s (List.mem_of_mem_drop hs)
  have w0 := wb_nn (r.drop i) w ho' hw
  obtain ⟨q, _, eq⟩ := wb_near (r.drop i) w
  obtain ⟨z, rz⟩ := int_repr (x := wb (r.drop i) w) (by omega)
  have sl : slW (.list (rowD r)) (some (i : Int)) none = some (.list (rowD (r.drop i))) := by
    rw [v_slW, cut_from (rowD r) i (by simpa using hi), rowD_drop]
  unfold p_l_right_b2
  simp only [least_d hd i ho hi hw, v_bind1, rz, v_ixP, sl, pe_l_handed (r.drop i) w (by simp; omega), v_negP, last_wish, ne_str_self, asBool, Bool.false_eq_true, if_false, pe_l_does, q_tru_b, Bool.not_true]
theorem pe_right (t : D) (n : Nat) (r : List Say) (top : Int) (ht : TinOk t n) (hn : n + 50 < 2 ^ 40) (h0 : 0 < top) (h1 : top ≤ 500000000000000000000000000000) (ho : ∀ s ∈ r, okB 10000000000000000000000000000000000000000 s) (hr : r.length ≤ 200) :
    ∃ t', p_l_right t (.list (rowD r)) (.int top) = some (.bool true, t') ∧ TinOk t' (n + 20) := by
  have hok : ∀ s ∈ r, okSay s := fun s hs => (ho s hs).1
  obtain ⟨i, t1, e1, i0, i1, k1⟩ := pe_pour t n 2 ht (by omega) (by omega) (by omega)
  have gl : gList [.list (rowD r)] = some (.list (rowD r)) := rfl
  have gt : gTuple [.list (rowD r)] = some (.tuple (rowD r)) := rfl
  obtain ⟨d, k, ed, hd, mh⟩ : ∃ (d : D) (k : Bool), atI [PyData.list (rowD r), .tuple (rowD r)] i = some d ∧ itemsD d = some (k, rowD r) ∧ (d = .list (rowD r) ∨ d = .tuple (rowD r)) := by
    have : i = 0 ∨ i = 1 := by omega
    rcases this with rfl | rfl
    · exact ⟨_, _, rfl, rfl, .inl rfl⟩
    · exact ⟨_, _, rfl, rfl, .inr rfl⟩
  obtain ⟨z, rz⟩ := row_sm (Int.le_refl _) ho (by omega) d mh
  obtain ⟨w, t2, e2, w0, w1, k2⟩ := pe_number t1 _ top 500000000000000000000000000000 k1 (by omega) h0 (by omega) h1 (by omega)
  have w2 : w < 10 ^ 40 := by omega
  obtain ⟨⟨⟩, e3, -⟩ := forP_by (T := D × D) (f := fun x (_ : Unit) => p_l_right_b1 d (.int w) (.list (intsD (wsL r w))) (.list (rowD r)) t2 x) (xs := rngD 0 2) (s := ()) (fun _ _ => True) trivial (by
    rintro pre x ⟨⟩ hx hlen -
    exact ⟨(), right_b1 t2 x hd hok hr w0 w2, trivial⟩)
  obtain ⟨p, t3, e4, p0, p1, k3⟩ := pe_pour t2 _ ((r.length : Int) + 1) k2 (by omega) (by omega) (by omega)
  obtain ⟨⟨⟩, e5, -⟩ := forP_enc (T := D × D) (f := fun x (_ : Unit) => p_l_right_b2 d (.int w) (.list (rowD r)) t3 x) (e := PyData.int) (xs := [0, p, (r.length : Int)]) (s := ()) (fun _ _ => True) trivial (by
    rintro pre x post ⟨⟩ hx -
    have hm : x ∈ [0, p, (r.length : Int)] := by rw [hx]; simp
    obtain ⟨q, rfl, hq⟩ : ∃ q : Nat, x = (q : Int) ∧ q ≤ r.length := by
      simp only [List.mem_cons, List.not_mem_nil, or_false] at hm
      rcases hm with rfl | rfl | rfl
      · exact ⟨0, rfl, by omega⟩
      · exact ⟨x.toNat, by omega, by omega⟩
      · exact ⟨_, rfl, Nat.le_refl _⟩
    exact ⟨(), right_b2 t3 q hd hok hr hq w0 w2, trivial⟩)
  have e5 : forP (T := D × D) (fun x (_ : Unit) => p_l_right_b2 d (.int w) (.list (rowD r)) t3 x) [.int 0, .int p, .int (r.length : Int)] () = some (.nx ()) := e5
  have q6 : cPowW 10 29 = true := pow_ok (by omega) (by omega) (by decide)
  have pw : gPow (.int 10) (.int 29) = some (.int 100000000000000000000000000000) := by simp [q6]
  have mw : mulV (.int 5) (.int 100000000000000000000000000000) = some (.int 500000000000000000000000000000) := by
    rw [v_mulV, if_pos (mulW_ok (a := 4) (b := 100) (by decide) (by decide) (by omega) (by omega) (by omega))]
    rfl
  obtain ⟨y, t4, e6, y0, y1, k4⟩ := pe_number t3 _ 500000000000000000000000000000 500000000000000000000000000000 k3 (by omega) (by omega) (by decide) (by omega) (by omega)
  obtain ⟨c, t5, e7, c0, c1, k5⟩ := pe_pour t4 _ 4 k4 (by omega) (by omega) (by omega)
  obtain ⟨m, u, eu, em, hm⟩ : ∃ (m : Option Int) (u : D), gDiv (.int c) (.int 3) = some u ∧ gIx (.list [.int (w + y), (.none : D)]) u = some (mostD m) ∧ ∀ z, m = some z → w ≤ z := by
    have : c = 0 ∨ c = 1 ∨ c = 2 ∨ c = 3 := by omega
    rcases this with rfl | rfl | rfl | rfl
    · exact ⟨some (w + y), _, rfl, rfl, fun z hz => by cases hz; omega⟩
    · exact ⟨some (w + y), _, rfl, rfl, fun z hz => by cases hz; omega⟩
    · exact ⟨some (w + y), _, rfl, rfl, fun z hz => by cases hz; omega⟩
    · exact ⟨none, _, rfl, rfl, fun z hz => by cases hz⟩
  have ok1 : okSay (w, m) := ⟨w0, hm⟩
  have ok2 : okSay (w, some w) := ⟨w0, fun z hz => by cases hz; exact Int.le_refl _⟩
  have p1 := pe_com_between hd hok ok1
  have p2 := pe_ends hok (by omega) ok1
  have p3 := pe_com hd hok w0
  have p4 : p_l_ends_right (.list (rowD r)) (optD (cw r (w, some w))) (.int w) (.int w) = some (.bool true) := pe_ends hok (by omega) ok2
  have es := eq_str_same z
  have sm2 : small62 2 = true := by decide
  refine ⟨t5, ?_, k5.mono (by omega)⟩
  unfold p_l_right
  simp only [gl, gt, v_bind1, e1, v_bind2, q_ix_l, ed, rz, e2, pe_l_handed r w (by omega), v_rng1P, sm2, if_true, e3, v_ctB0, q_len_l, rowD_len, v_addV, e4, q_items_l, e5, pw, mw, e6, e7, eu, em, p1, p2, q_tru_b, p3, p4, asBool, es]
theorem pop0_row {s : Say} {r : List Say} : mutP gPopAt (.list (rowD (s :: r))) [.int 0] = some (.list (rowD r), sayD s) := by
  rw [v_mutP]
  have e5 : ixN (rowD (s :: r)).length 0 = some 0 := by
    unfold ixN
    simp [rowD]
  have e6 : (rowD (s :: r))[0]? = some (sayD s) := rfl
  simp only [gPopAt, e5, e6]
  rfl
theorem changed_turn (t : D) (n : Nat) (r : List Say) (j : Int) (ht : TinOk t n) (hn : n + 100 < 2 ^ 40) (ho : ∀ s ∈ r, okSay s) (hr : r.length ≤ 100) :
    ∃ t' r', p_l_changed_right_b1 (.int j) t (.list (rowD r)) = some (.nx (t', .list (rowD r'))) ∧ (∀ s ∈ r', okSay s) ∧ r'.length ≤ r.length + 1 ∧ TinOk t' (n + 40) := by
  obtain ⟨w, t1, e1, w0, w1, k1⟩ := pe_pour t n 30 ht (by omega) (by omega) (by omega)
  have hd : itemsD (.list (rowD r)) = some (false, rowD r) := rfl
  have le := least_d hd 0 ho (by omega) w0
  have le : p_least_from (.list (rowD r)) (.int 0) (.int w) = some (.int (wb r w)) := le
  obtain ⟨t2, e2, k2⟩ := pe_small t1 _ r k1 (by omega) ho
  obtain ⟨i, t3, e3, i0, i1, k3⟩ := pe_pour t2 _ ((r.length : Int) + 1) k2 (by omega) (by omega) (by omega)
  obtain ⟨s, t4, e4, os, k4⟩ := pe_l_saying t3 _ 9 9 k3 (by omega) (by omega) (by omega) (by omega) (by omega)
  have ins := ins_row r i s (by omega) i0 (by omega)
  have ok' : ∀ u ∈ r.take i.toNat ++ [s] ++ r.drop i.toNat, okSay u := fun u hu => by
    rcases List.mem_append.mp hu with h | h
    · rcases List.mem_append.mp h with h | h
      · exact ho u (List.mem_of_mem_take h)
      · have : u = s := by simpa using h
        subst this; exact os.1
    · exact ho u (List.mem_of_mem_drop h)
  have ne := ne_ints (wsL r w)
  by_cases hj : j = 1
  · obtain ⟨a, q, hq⟩ : ∃ a q, r.take i.toNat ++ [s] ++ r.drop i.toNat = a :: q := by
      cases z : r.take i.toNat ++ [s] ++ r.drop i.toNat with
      | nil => simp at z
      | cons a q => exact ⟨a, q, rfl⟩
    have lq : q.length = r.length := by
      have := congrArg List.length hq
      simp at this
      omega
    have hj' : (j == 1) = true := by simp [hj]
    rw [hq] at ins ok'
    refine ⟨t4, q, ?_, fun u hu => ok' u (List.mem_cons_of_mem _ hu), by omega, k4.mono (by omega)⟩
    unfold p_l_changed_right_b1
    simp only [e1, v_bind2, pe_l_handed r w (by omega), v_bind1, v_negP, last_wish, pe_wishes hd ho (by omega) w0, ne, asBool, Bool.false_eq_true, if_false, le, q_ne_ii, beq_self_eq_true, Bool.not_true, e2, q_tru_b, if_true, q_len_l, rowD_len, v_addV, e3, e4, ins, q_eq_ii, hj', pop0_row]
  · have hj' : (j == 1) = false := by simp [hj]
    refine ⟨t4, r.take i.toNat ++ [s] ++ r.drop i.toNat, ?_, ok', by simp; omega, k4.mono (by omega)⟩
    unfold p_l_changed_right_b1
    simp only [e1, v_bind2, pe_l_handed r w (by omega), v_bind1, v_negP, last_wish, pe_wishes hd ho (by omega) w0, ne, asBool, Bool.false_eq_true, if_false, le, q_ne_ii, beq_self_eq_true, Bool.not_true, e2, q_tru_b, if_true, q_len_l, rowD_len, v_addV, e3, e4, ins, q_eq_ii, hj']
theorem pe_changed (t : D) (n : Nat) (r : List Say) (ht : TinOk t n) (hn : n + 300 < 2 ^ 40) (ho : ∀ s ∈ r, okSay s) (hr : r.length ≤ 90) :
    ∃ t', p_l_changed_right t (.list (rowD r)) = some (.bool true, t') ∧ TinOk t' (n + 120) := by
  obtain ⟨⟨t1, l1⟩, e, r', m, rfl, h', hl', km, hm⟩ := forP_by (T := D × D) (f := fun x z => p_l_changed_right_b1 x z.1 z.2) (xs := rngD 0 3) (s := (t, .list (rowD r)))
    (fun done z => ∃ (r' : List Say) (m : Nat), z.2 = .list (rowD r') ∧ (∀ s ∈ r', okSay s) ∧ r'.length ≤ r.length + done.length ∧ TinOk z.1 m ∧ m ≤ n + 40 * done.length) ⟨r, n, rfl, ho, by simp, ht, by simp⟩ (by
      rintro pre x ⟨z1, z2⟩ hx hlen ⟨r', m, rfl, h', hl', km, hm⟩
      rw [rng_len] at hlen
      obtain ⟨i, rfl, hi, _⟩ := rng_mem hx
      obtain ⟨t', s2, e, h2, l2, k2⟩ := changed_turn z1 m r' i km (by omega) h' (by omega)
      exact ⟨_, e, s2, m + 40, rfl, h2, by simp; omega, k2, by simp; omega⟩)
  rw [rng_len] at hm
  have sm : small62 3 = true := by decide
  have gl : gList [.list (rowD r)] = some (.list (rowD r)) := rfl
  refine ⟨t1, ?_, km.mono (by omega)⟩
  unfold p_l_changed_right
  simp only [gl, v_bind1, v_rng1P, sm, if_true, e, v_ctB2]
theorem law_turn (t : D) (n : Nat) (x : D) (ht : TinOk t n) (hn : n + 5000 < 2 ^ 40) : ∃ t', p_law_b1 x t = some (.nx t') ∧ TinOk t' (n + 3000) := by
  obtain ⟨r, t1, e1, o1, l1, k1⟩ := pe_l_row t n 10 9 9 ht (by omega) (by omega) (by omega) (by omega) (by omega) (by omega) (by omega)
  have ok : ∀ s ∈ r, okSay s := fun s hs => (o1 s hs).1
  obtain ⟨t2, e2, k2⟩ := pe_right t1 _ r 40 k1 (by omega) (by omega) (by omega) (fun s hs => (o1 s hs).mono (by omega)) (by omega)
  obtain ⟨t3, e3, k3⟩ := pe_small t2 _ r k2 (by omega) ok
  obtain ⟨t4, e4, k4⟩ := pe_changed t3 _ r k3 (by omega) ok (by omega)
  refine ⟨t4, ?_, k4.mono (by omega)⟩
  unfold p_law_b1
  simp only [e1, v_bind2, e2, v_bind1, q_tru_b, if_true, e3, e4, Bool.not_true, Bool.false_eq_true, if_false]
theorem law_step (ns : List Int) (k : Nat) (hk : k ≤ 63) : p_law_b2 ns (.int k) = some (.nx ()) := by
  obtain ⟨t, e, h⟩ := pe_jar ns k hk
  obtain ⟨t1, e1, m, km, hm⟩ := forP_by (T := D) (f := fun x s => p_law_b1 x s) (xs := rngD 0 2) (s := t) (fun done s => ∃ m, TinOk s m ∧ m ≤ 3000 * done.length) ⟨0, h, by simp⟩ (by
    rintro pre d s hd hlen ⟨m, km, hm⟩
    rw [rng_len] at hlen
    obtain ⟨t', e, k'⟩ := law_turn s m d km (by omega)
    exact ⟨t', e, _, k', by simp; omega⟩)
  rw [rng_len] at hm
  have q6 : cPowW 10 29 = true := pow_ok (by omega) (by omega) (by decide)
  have pw : gPow (.int 10) (.int 29) = some (.int 100000000000000000000000000000) := by simp [q6]
  have mw : mulV (.int 5) (.int 100000000000000000000000000000) = some (.int 500000000000000000000000000000) := by
    rw [v_mulV, if_pos (mulW_ok (a := 4) (b := 100) (by decide) (by decide) (by omega) (by omega) (by omega))]
    rfl
  have two : ∀ i : Int, 0 ≤ i → i < 2 → ∃ top : Int, atI [PyData.int 70, .int 500000000000000000000000000000] i = some (.int top) ∧ 0 < top ∧ top ≤ 500000000000000000000000000000 := fun i i0 i1 => by
    have : i = 0 ∨ i = 1 := by omega
    rcases this with rfl | rfl
    · exact ⟨70, rfl, by omega, by omega⟩
    · exact ⟨_, rfl, by omega, by omega⟩
  obtain ⟨i, t2, e2, i0, i1, k2⟩ := pe_pour t1 m 2 km (by omega) (by omega) (by omega)
  obtain ⟨top, et, p0, p1⟩ := two i i0 i1
  obtain ⟨r, t3, e3, o3, l3, k3⟩ := pe_l_row t2 _ 60 top 500000000000000000000000000000 k2 (by omega) (by omega) (by omega) p0 (by omega) p1 (by omega)
  obtain ⟨j, t4, e4, j0, j1, k4⟩ := pe_pour t3 _ 2 k3 (by omega) (by omega) (by omega)
  obtain ⟨tp2, et2, q0, q1⟩ := two j j0 j1
  obtain ⟨t5, e5, k5⟩ := pe_right t4 _ r tp2 k4 (by omega) q0 q1 (fun s hs => (o3 s hs).mono (by omega)) (by omega)
  have sm : small62 2 = true := by decide
  unfold p_law_b2
  simp only [e, v_bind1, v_rng1P, sm, if_true, e1, v_ctB1, pw, mw, e2, v_bind2, q_ix_l, et, e3, e4, et2, e5, q_tru_b]
theorem pe_law (ns : List Int) (hl : ns.length ≤ 63) : p_law ns = some (.bool true) := by
  obtain ⟨m, hm, hm1, hm2⟩ : ∃ m : Int, (if 1 < (if (ns.length : Int) < 6 then (ns.length : Int) else 6) then (if (ns.length : Int) < 6 then (ns.length : Int) else 6) else 1) = m ∧ 0 ≤ m ∧ m ≤ 63 := ⟨_, rfl, by split <;> (try split) <;> omega, by split <;> (try split) <;> omega⟩
  have sm : small62 m = true := by simp [small62]; omega
  obtain ⟨⟨⟩, e, -⟩ := forP_by (T := D) (f := fun x _ => p_law_b2 ns x) (xs := rngD 0 m) (s := ()) (fun _ _ => True) trivial (by
    rintro pre d ⟨⟩ hd - -
    obtain ⟨i, rfl, hi, hi2⟩ := rng_mem hd
    obtain ⟨k, rfl⟩ := Int.eq_ofNat_of_zero_le hi
    exact ⟨(), law_step ns k (by omega), trivial⟩)
  unfold p_law
  simp [hm, sm, e]
end Y
namespace Y
open PySem PL L2
theorem law_runs (ns : List Int) (hl : ns.length ≤ 63) : ∃ ρ, m_law (.scr ns :: List.replicate 4 .un) = .ok (.rt (.pl (.val (.bool true)))) ρ :=
  haveI : PL.Kap := ⟨fun _ => 0⟩
  tr_law ns _ (pe_law ns hl)
end Y
open PySem PySem.W PyProof.Rows
set_option maxHeartbeats 0 in
theorem PySem.Challenge.cw_boastrow_k24_wishes_told_holds : PySem.Challenge.rw_boastrow_k24_wishes_told.Holds := by
  w_on; o_law; k_head; (case hw => w_witness2)
  k_fill
  refine PL.walk_ofGK (l := PySem.Challenge.rw_boastrow_k24_wishes_told) (n := 63) (k := 6) (nl := 4) (m := Y.m_law) (x := "_law_script") rfl (by decide) rfl ⟨rfl, by decide, by decide⟩ (fun w h Y => PySem.W.kIn_of Y) ?F Y.law_runs
  case F =>
    intro w mg fa h KX G hmg
    refine' Y.all_mk (kp := PL.kapOf _) KX G hmg ?astretch_to ?lstretch_to ?cstretch_to ?kstretch_to ?awish_behind ?lwish_behind ?cwish_behind ?kwish_behind ?ahanded_on ?lhanded_on ?chanded_on ?khanded_on ?acompanies_within ?lcompanies_within ?ccompanies_within ?kcompanies_within ?ais_number ?lis_number ?cis_number ?kis_number ?ais_row ?lis_row ?cis_row ?kis_row ?ais_saying ?lis_saying ?cis_saying ?kis_saying ?aneed_number ?lneed_number ?cneed_number ?kneed_number ?aneed_row ?lneed_row ?cneed_row ?kneed_row ?aneed_place ?lneed_place ?cneed_place ?kneed_place ?awishes ?lwishes ?cwishes ?kwishes ?acompanies ?lcompanies ?ccompanies ?kcompanies ?acompanies_between ?lcompanies_between ?ccompanies_between ?kcompanies_between ?aleast_from ?lleast_from ?cleast_from ?kleast_from ?al_jar ?ll_jar ?cl_jar ?kl_jar ?al_pour ?ll_pour ?cl_pour ?kl_pour ?al_number ?ll_number ?cl_number ?kl_number ?al_saying ?ll_saying ?cl_saying ?kl_saying ?al_row ?ll_row ?cl_row ?kl_row ?al_total ?ll_total ?cl_total ?kl_total ?al_handed_on ?ll_handed_on ?cl_handed_on ?kl_handed_on ?al_does ?ll_does ?cl_does ?kl_does ?al_between ?ll_between ?cl_between ?kl_between ?al_small_right ?ll_small_right ?cl_small_right ?kl_small_right ?al_ends_right ?ll_ends_right ?cl_ends_right ?kl_ends_right ?al_right ?ll_right ?cl_right ?kl_right ?al_changed_right ?ll_changed_right ?cl_changed_right ?kl_changed_right ?alaw ?llaw ?claw ?klaw ?zbool ?zint ?zisinstance ?zlen ?zlist ?zmax ?zmin ?zrange ?zrepr ?ztuple
    (case astretch_to => k_is); (case lstretch_to => k_is); (case cstretch_to => k_is); (case kstretch_to => k_is); (case awish_behind => k_is); (case lwish_behind => k_is); (case cwish_behind => k_is); (case kwish_behind => k_is); (case ahanded_on => k_is); (case lhanded_on => k_is); (case chanded_on => k_is); (case khanded_on => k_is); (case acompanies_within => k_is); (case lcompanies_within => k_is); (case ccompanies_within => k_is); (case kcompanies_within => k_is); (case ais_number => k_is); (case lis_number => k_is); (case cis_number => k_is); (case kis_number => k_is); (case ais_row => k_is); (case lis_row => k_is); (case cis_row => k_is); (case kis_row => k_is); (case ais_saying => k_is); (case lis_saying => k_is); (case cis_saying => k_is); (case kis_saying => k_is); (case aneed_number => k_is); (case lneed_number => k_is); (case cneed_number => k_is); (case kneed_number => k_is); (case aneed_row => k_is); (case lneed_row => k_is); (case cneed_row => k_is); (case kneed_row => k_is); (case aneed_place => k_is); (case lneed_place => k_is); (case cneed_place => k_is); (case kneed_place => k_is); (case awishes => k_is); (case lwishes => k_is); (case cwishes => k_is); (case kwishes => k_is); (case acompanies => k_is); (case lcompanies => k_is); (case ccompanies => k_is); (case kcompanies => k_is); (case acompanies_between => k_is); (case lcompanies_between => k_is); (case ccompanies_between => k_is); (case kcompanies_between => k_is); (case aleast_from => k_is); (case lleast_from => k_is); (case cleast_from => k_is); (case kleast_from => k_is); (case al_jar => k_is); (case ll_jar => k_is); (case cl_jar => k_is); (case kl_jar => k_is); (case al_pour => k_is); (case ll_pour => k_is); (case cl_pour => k_is); (case kl_pour => k_is); (case al_number => k_is); (case ll_number => k_is); (case cl_number => k_is); (case kl_number => k_is); (case al_saying => k_is); (case ll_saying => k_is); (case cl_saying => k_is); (case kl_saying => k_is); (case al_row => k_is); (case ll_row => k_is); (case cl_row => k_is); (case kl_row => k_is); (case al_total => k_is); (case ll_total => k_is); (case cl_total => k_is); (case kl_total => k_is); (case al_handed_on => k_is); (case ll_handed_on => k_is); (case cl_handed_on => k_is); (case kl_handed_on => k_is); (case al_does => k_is); (case ll_does => k_is); (case cl_does => k_is); (case kl_does => k_is); (case al_between => k_is); (case ll_between => k_is); (case cl_between => k_is); (case kl_between => k_is); (case al_small_right => k_is); (case ll_small_right => k_is); (case cl_small_right => k_is); (case kl_small_right => k_is); (case al_ends_right => k_is); (case ll_ends_right => k_is); (case cl_ends_right => k_is); (case kl_ends_right => k_is); (case al_right => k_is); (case ll_right => k_is); (case cl_right => k_is); (case kl_right => k_is); (case al_changed_right => k_is); (case ll_changed_right => k_is); (case cl_changed_right => k_is); (case kl_changed_right => k_is); (case alaw => k_is); (case llaw => k_is); (case claw => k_is); (case klaw => k_is); (case zbool => k_is); (case zint => k_is); (case zisinstance => k_is); (case zlen => k_is); (case zlist => k_is); (case zmax => k_is); (case zmin => k_is); (case zrange => k_is); (case zrepr => k_is); (case ztuple => k_is)
